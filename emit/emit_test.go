package emit_test

import (
	"math"
	"slices"
	"strconv"
	"strings"
	"testing"

	"barbican/api"
	"barbican/chunk"
	"barbican/dice"
	"barbican/emit"
	"barbican/head"
	"barbican/inflow"
	"barbican/outflow"
)

// The phrases, as the chapter lists them.
const phrases = "101 Switching Protocols, 200 OK, 204 No Content, 301 Moved Permanently, 302 Found, 307 Temporary Redirect, 308 Permanent Redirect, 400 Bad Request, 401 Unauthorized, 403 Forbidden, 404 Not Found, 408 Request Timeout, 413 Content Too Large, 414 URI Too Long, 417 Expectation Failed, 429 Too Many Requests, 431 Request Header Fields Too Large, 500 Internal Server Error, 501 Not Implemented, 502 Bad Gateway, 503 Service Unavailable, 504 Gateway Timeout, 505 HTTP Version Not Supported"

// The names that concern one connection alone, whatever is told, and those that are left out of a head and of a request.
var (
	theSeven     = []string{"Connection", "Keep-Alive", "Proxy-Connection", "TE", "Trailer", "Transfer-Encoding", "Upgrade"}
	ofAll        = []string{"Content-Length", "Via"}
	ofRequests   = []string{"Host", "Expect", "X-Forwarded-For"}
	joinedOfAsks = []string{"X-Forwarded-For", "Via"}
)

// one is a text of one byte.
func one(c int) string {
	return string([]byte{byte(c)})
}

// small writes each large letter as the small one.
func small(s string) string {
	text := []byte(s)
	for i := range text {
		if text[i] >= 65 && text[i] <= 90 {
			text[i] += 32
		}
	}
	return string(text)
}

// cases are ways to write a name: as it is, small, large, mixed in two ways, and with just one letter of the other case.
func cases(name string) []string {
	low, high := small(name), strings.ToUpper(name)
	var odd, even []byte
	ways := []string{name, low, high}
	for i := range len(name) {
		two := low[i:i+1] + high[i:i+1]
		odd, even = append(odd, two[i%2]), append(even, two[1-i%2])
		ways = append(ways, low[:i]+high[i:i+1]+low[i+1:], high[:i]+low[i:i+1]+high[i+1:])
	}
	return append(ways, string(odd), string(even))
}

// near are texts that are nearly a name, and aren't it: none is to count as one.
func near(name string) []string {
	texts := []string{"", name + name, name + "x", "x" + name, name + "-" + name, name + " ", " " + name, name + "\t", "\"" + name + "\"", name + ":", name + "\x00", "\x00" + name, name + "\xff", name + "\r\n", name + "\u00a0", "-" + name, name + "s", name + ","}
	for i := range len(name) {
		texts = append(texts, name[:i]+name[i+1:], name[:i]+" "+name[i:], name[:i]+"_"+name[i+1:], name[:i]+one(int(name[i])^128)+name[i+1:])
		if c := small(name[i : i+1])[0]; c < 97 || c > 122 {
			texts = append(texts, name[:i]+one(int(name[i])^32)+name[i+1:])
		}
	}
	// Letters beyond A to Z that some would take for a k and an s.
	for _, letters := range [][2]string{{"k", "\u212a"}, {"K", "\u212a"}, {"s", "\u017f"}, {"S", "\u017f"}} {
		if other := strings.Replace(name, letters[0], letters[1], 1); other != name {
			texts = append(texts, other)
		}
	}
	return texts
}

// list is a list of fields, by names and values in turn.
func list(texts ...string) []api.Field {
	l := []api.Field{}
	for i := 0; i < len(texts); i += 2 {
		l = append(l, api.Field{Name: texts[i], Value: texts[i+1]})
	}
	return l
}

// lines is a text of lines, and an empty line behind them.
func lines(l ...string) string {
	text := ""
	for _, line := range l {
		text += line + "\r\n"
	}
	return text + "\r\n"
}

// What is to be written, made another way: by lists of names and of lines.

// dropped tells whether a field of this name is not told on, if the names left out are these.
func dropped(l []api.Field, name string, left []string) bool {
	out := slices.Concat(theSeven, left)
	for _, f := range l {
		if small(f.Name) == "connection" {
			for piece := range strings.SplitSeq(f.Value, ",") {
				if piece = strings.Trim(piece, "\t "); piece != "" {
					out = append(out, piece)
				}
			}
		}
	}
	return slices.ContainsFunc(out, func(o string) bool { return small(o) == small(name) })
}

// toldOn is the lines of the fields that are told on.
func toldOn(l []api.Field, left []string) []string {
	var told []string
	for _, f := range l {
		if !dropped(l, f.Name, left) {
			told = append(told, f.Name+": "+f.Value)
		}
	}
	return told
}

// behindAll is the values of all fields of a name with s behind them, put together from the last one on.
func behindAll(l []api.Field, name string, s string) string {
	for i := len(l) - 1; i >= 0; i-- {
		if small(l[i].Name) == small(name) {
			s = l[i].Value + ", " + s
		}
	}
	return s
}

// phraseOf is a status's phrase, found in the chapter's list.
func phraseOf(status int) string {
	for entry := range strings.SplitSeq(phrases, ", ") {
		number, words, _ := strings.Cut(entry, " ")
		if number == strconv.Itoa(status) {
			return words
		}
	}
	return "Status"
}

// requestOf is what Request is to write.
func requestOf(a emit.Ask) string {
	name := a.Host
	if a.Port >= 1 {
		name += ":" + strconv.Itoa(a.Port)
	}
	all := []string{a.Method + " " + a.Target + " HTTP/1.1", "Host: " + name}
	all = append(all, toldOn(a.Fields, slices.Concat(ofAll, ofRequests))...)
	all = append(all, "X-Forwarded-For: "+behindAll(a.Fields, "X-Forwarded-For", a.From), "Via: "+behindAll(a.Fields, "Via", "1.1 barbican"))
	if a.Sized {
		all = append(all, "Content-Length: "+strconv.Itoa(len(a.Body)))
	}
	if a.Upgrade != "" {
		all = append(all, "Connection: upgrade", "Upgrade: "+a.Upgrade)
	}
	return lines(all...) + a.Body
}

// headOf is what Head is to write.
func headOf(r emit.Reply) string {
	reason := r.Reason
	if len(reason) == 0 {
		reason = phraseOf(r.Status)
	}
	all := append([]string{"HTTP/1.1 " + strconv.Itoa(r.Status) + " " + reason}, toldOn(r.Fields, ofAll)...)
	all = append(all, "Via: "+behindAll(r.Fields, "Via", "1.1 barbican"))
	if r.Framing == 2 {
		all = append(all, "Content-Length: "+strconv.Itoa(r.Length))
	}
	if r.Framing == 3 {
		all = append(all, "Transfer-Encoding: chunked")
	}
	if r.Upgrade == "" && !r.Keep {
		all = append(all, "Connection: close")
	}
	if r.Upgrade != "" {
		all = append(all, "Connection: upgrade", "Upgrade: "+r.Upgrade)
	}
	return lines(all...)
}

// localOf is what Local is to write.
func localOf(status int, l []api.Field, body string, keep bool, bodiless bool) string {
	text := headOf(emit.Reply{Status: status, Fields: l, Framing: 2, Length: len(body), Keep: keep})
	if !bodiless {
		text += body
	}
	return text
}

// checkRequest holds Request against what it is to write.
func checkRequest(t *testing.T, a emit.Ask) {
	t.Helper()
	if got, want := emit.Request(a), requestOf(a); got != want {
		t.Fatalf("Request(%#v) is %q, want %q", a, got, want)
	}
}

// checkHead holds Head against what it is to write.
func checkHead(t *testing.T, r emit.Reply) {
	t.Helper()
	if got, want := emit.Head(r), headOf(r); got != want {
		t.Fatalf("Head(%#v) is %q, want %q", r, got, want)
	}
}

// checkLocal holds Local against what it is to write, with keep and bodiless in all ways.
func checkLocal(t *testing.T, status int, l []api.Field, body string) {
	t.Helper()
	for i := range 4 {
		keep, bodiless := i/2 == 1, i%2 == 1
		if got, want := emit.Local(status, l, body, keep, bodiless), localOf(status, l, body, keep, bodiless); got != want {
			t.Fatalf("Local(%d, %q, %q, %t, %t) is %q, want %q", status, l, body, keep, bodiless, got, want)
		}
	}
}

// checkFields holds all calls against what they are to write of these fields.
func checkFields(t *testing.T, l []api.Field) {
	t.Helper()
	checkRequest(t, emit.Ask{Method: "GET", Target: "/a", Host: "h", Fields: l, From: "7"})
	checkRequest(t, emit.Ask{Method: "GET", Target: "/a", Host: "h", Port: 80, Fields: l, Body: "b", Sized: true, From: "7", Upgrade: "p"})
	checkHead(t, emit.Reply{Status: 200, Fields: l, Framing: 3, Keep: true})
	checkHead(t, emit.Reply{Status: 101, Fields: l, Framing: 5, Upgrade: "p"})
	checkLocal(t, 404, l, "no")
}

// want holds what is written against a text that is told.
func want(t *testing.T, got string, text string) {
	t.Helper()
	if got != text {
		t.Errorf("%q is written, want %q", got, text)
	}
}

// wantRequest wants of a request these lines and its body.
func wantRequest(t *testing.T, a emit.Ask, l ...string) {
	t.Helper()
	want(t, emit.Request(a), lines(l...)+a.Body)
	checkRequest(t, a)
}

// wantHead wants of a reply these lines.
func wantHead(t *testing.T, r emit.Reply, l ...string) {
	t.Helper()
	want(t, emit.Head(r), lines(l...))
	checkHead(t, r)
}

// wantOfRequest wants a request with these fields to have these lines behind its Host.
func wantOfRequest(t *testing.T, l []api.Field, told ...string) {
	t.Helper()
	a := emit.Ask{Method: "GET", Target: "/a", Host: "h", Fields: l, From: "7"}
	wantRequest(t, a, append([]string{"GET /a HTTP/1.1", "Host: h"}, told...)...)
}

// wantOfHead wants a head with these fields to have these lines behind its first.
func wantOfHead(t *testing.T, l []api.Field, told ...string) {
	t.Helper()
	wantHead(t, emit.Reply{Status: 200, Fields: l, Keep: true}, append([]string{"HTTP/1.1 200 OK"}, told...)...)
}

// The chapter's examples, and those of others of what is written.
func TestExamples(t *testing.T) {
	want(t, emit.Local(404, nil, "no", false, false), "HTTP/1.1 404 Not Found\r\nVia: 1.1 barbican\r\nContent-Length: 2\r\nConnection: close\r\n\r\nno")
	a := emit.Ask{Method: "GET", Target: "/a", Host: "h", Port: 80, From: "7", Fields: list("Connection", "x", "X", "1", "via", "1.0 p")}
	want(t, emit.Request(a), "GET /a HTTP/1.1\r\nHost: h:80\r\nX-Forwarded-For: 7\r\nVia: 1.0 p, 1.1 barbican\r\n\r\n")
	a = emit.Ask{Method: "GET", Target: "/a", Host: "h", From: "1", Fields: list("Host", "h")}
	want(t, emit.Request(a), "GET /a HTTP/1.1\r\nHost: h\r\nX-Forwarded-For: 1\r\nVia: 1.1 barbican\r\n\r\n")
	r := emit.Reply{Status: 200, Reason: "OK", Fields: list("Content-Length", "2"), Framing: 2, Length: 2, Keep: true}
	want(t, emit.Head(r), "HTTP/1.1 200 OK\r\nVia: 1.1 barbican\r\nContent-Length: 2\r\n\r\n")
	r = emit.Reply{Status: 200, Reason: "OK", Framing: 3, Keep: true}
	want(t, emit.Head(r), "HTTP/1.1 200 OK\r\nVia: 1.1 barbican\r\nTransfer-Encoding: chunked\r\n\r\n")
	want(t, emit.Local(400, nil, "", false, false), "HTTP/1.1 400 Bad Request\r\nVia: 1.1 barbican\r\nContent-Length: 0\r\nConnection: close\r\n\r\n")
	want(t, emit.Local(503, nil, "cannot connect", true, false), "HTTP/1.1 503 Service Unavailable\r\nVia: 1.1 barbican\r\nContent-Length: 14\r\n\r\ncannot connect")
	want(t, emit.Local(504, nil, "too late", true, true), "HTTP/1.1 504 Gateway Timeout\r\nVia: 1.1 barbican\r\nContent-Length: 8\r\n\r\n")
}

// Each part of a request in its place.
func TestRequests(t *testing.T) {
	wantRequest(t, emit.Ask{Method: "GET", Target: "/", Host: "ex.com", From: "1"},
		"GET / HTTP/1.1", "Host: ex.com", "X-Forwarded-For: 1", "Via: 1.1 barbican")
	wantRequest(t, emit.Ask{Method: "OPTIONS", Target: "*", Host: "ex.com", Port: 8080, From: "12"},
		"OPTIONS * HTTP/1.1", "Host: ex.com:8080", "X-Forwarded-For: 12", "Via: 1.1 barbican")
	wantRequest(t, emit.Ask{Method: "CONNECT", Target: "h:443", Host: "h", Port: 443, From: "3"},
		"CONNECT h:443 HTTP/1.1", "Host: h:443", "X-Forwarded-For: 3", "Via: 1.1 barbican")
	wantRequest(t, emit.Ask{Method: "POST", Target: "/p?q=1", Host: "h", Fields: list("Accept", "*/*", "Content-Type", "text/plain"), Body: "a body", Sized: true, From: "256"},
		"POST /p?q=1 HTTP/1.1", "Host: h", "Accept: */*", "Content-Type: text/plain", "X-Forwarded-For: 256", "Via: 1.1 barbican", "Content-Length: 6")
	wantRequest(t, emit.Ask{Method: "GET", Target: "/ws", Host: "h", Fields: list("Upgrade", "WebSocket", "Connection", "Upgrade"), From: "2", Upgrade: "websocket"},
		"GET /ws HTTP/1.1", "Host: h", "X-Forwarded-For: 2", "Via: 1.1 barbican", "Connection: upgrade", "Upgrade: websocket")
	// All of it, in the order that is told, whatever the order of the fields.
	all := list("Z", "1", "Upgrade", "q", "Via", "1.0 a", "Content-Length", "9", "A", "2", "X-Forwarded-For", "5", "Host", "g", "Expect", "100-continue", "z", "3", "Via", "1.1 b", "Connection", "close", "X-Forwarded-For", "6", "m", "4")
	wantRequest(t, emit.Ask{Method: "M", Target: "t", Host: "h", Port: 1, Fields: all, Body: "12345678901", Sized: true, From: "7", Upgrade: "p"},
		"M t HTTP/1.1", "Host: h:1", "Z: 1", "A: 2", "z: 3", "m: 4", "X-Forwarded-For: 5, 6, 7", "Via: 1.0 a, 1.1 b, 1.1 barbican", "Content-Length: 11", "Connection: upgrade", "Upgrade: p")
}

// Each part of a head in its place.
func TestHeads(t *testing.T) {
	wantHead(t, emit.Reply{Status: 200, Reason: "Fine", Fields: list("Server", "s", "Date", "d"), Framing: 2, Length: 12, Keep: true},
		"HTTP/1.1 200 Fine", "Server: s", "Date: d", "Via: 1.1 barbican", "Content-Length: 12")
	wantHead(t, emit.Reply{Status: 200, Framing: 3},
		"HTTP/1.1 200 OK", "Via: 1.1 barbican", "Transfer-Encoding: chunked", "Connection: close")
	wantHead(t, emit.Reply{Status: 204, Framing: 1, Keep: true},
		"HTTP/1.1 204 No Content", "Via: 1.1 barbican")
	wantHead(t, emit.Reply{Status: 200, Framing: 4},
		"HTTP/1.1 200 OK", "Via: 1.1 barbican", "Connection: close")
	wantHead(t, emit.Reply{Status: 101, Framing: 5, Fields: list("Upgrade", "P", "Connection", "upgrade"), Upgrade: "p"},
		"HTTP/1.1 101 Switching Protocols", "Via: 1.1 barbican", "Connection: upgrade", "Upgrade: p")
	// All of it, in the order that is told, whatever the order of the fields.
	all := list("Z", "1", "Upgrade", "q", "Via", "1.0 a", "Content-Length", "9", "A", "2", "Transfer-Encoding", "gzip", "z", "3", "Via", "1.1 b", "Connection", "keep-alive", "m", "4")
	wantHead(t, emit.Reply{Status: 299, Reason: "r", Fields: all, Framing: 2, Length: 7, Upgrade: "p", Keep: true},
		"HTTP/1.1 299 r", "Z: 1", "A: 2", "z: 3", "m: 4", "Via: 1.0 a, 1.1 b, 1.1 barbican", "Content-Length: 7", "Connection: upgrade", "Upgrade: p")
	wantHead(t, emit.Reply{Status: 299, Fields: all, Framing: 3, Length: 7},
		"HTTP/1.1 299 Status", "Z: 1", "A: 2", "z: 3", "m: 4", "Via: 1.0 a, 1.1 b, 1.1 barbican", "Transfer-Encoding: chunked", "Connection: close")
}

// P13.2: a reply is its head, and its body if it is not bodiless.
func TestLocal(t *testing.T) {
	l := list("Location", "/b", "Via", "1.0 p", "content-length", "99", "TE", "x")
	want(t, emit.Local(302, l, "", true, false), lines("HTTP/1.1 302 Found", "Location: /b", "Via: 1.0 p, 1.1 barbican", "Content-Length: 0"))
	want(t, emit.Local(302, l, "", true, true), lines("HTTP/1.1 302 Found", "Location: /b", "Via: 1.0 p, 1.1 barbican", "Content-Length: 0"))
	want(t, emit.Local(302, l, "", false, true), lines("HTTP/1.1 302 Found", "Location: /b", "Via: 1.0 p, 1.1 barbican", "Content-Length: 0", "Connection: close"))
	want(t, emit.Local(302, l, "there", false, true), lines("HTTP/1.1 302 Found", "Location: /b", "Via: 1.0 p, 1.1 barbican", "Content-Length: 5", "Connection: close"))
	want(t, emit.Local(302, l, "there", false, false), lines("HTTP/1.1 302 Found", "Location: /b", "Via: 1.0 p, 1.1 barbican", "Content-Length: 5", "Connection: close")+"there")
	want(t, emit.Local(302, l, "there", true, false), lines("HTTP/1.1 302 Found", "Location: /b", "Via: 1.0 p, 1.1 barbican", "Content-Length: 5")+"there")
	// Bytes are counted, not runes; and the body is told as it is.
	want(t, emit.Local(200, nil, "\u00e9\xff\x00", true, false), lines("HTTP/1.1 200 OK", "Via: 1.1 barbican", "Content-Length: 4")+"\u00e9\xff\x00")
	want(t, emit.Local(200, nil, "\r\n\r\n", true, false), lines("HTTP/1.1 200 OK", "Via: 1.1 barbican", "Content-Length: 4")+"\r\n\r\n")
	// No upgrade, whatever the status and the fields say; and no reason but the phrase.
	want(t, emit.Local(101, list("Upgrade", "p", "Connection", "upgrade"), "b", true, false), lines("HTTP/1.1 101 Switching Protocols", "Via: 1.1 barbican", "Content-Length: 1")+"b")
	want(t, emit.Local(204, nil, "b", true, false), lines("HTTP/1.1 204 No Content", "Via: 1.1 barbican", "Content-Length: 1")+"b")
	want(t, emit.Local(418, nil, "", true, false), lines("HTTP/1.1 418 Status", "Via: 1.1 barbican", "Content-Length: 0"))
	for _, n := range []int{1, 9, 10, 11, 99, 100, 65535, 65536, 1 << 20} {
		checkLocal(t, 200, l, strings.Repeat("b", n))
	}
}

// Each status of the list has its phrase; every other one has "Status".
func TestReasons(t *testing.T) {
	for _, c := range []struct {
		status int
		words  string
	}{
		{101, "Switching Protocols"}, {200, "OK"}, {204, "No Content"}, {301, "Moved Permanently"}, {302, "Found"},
		{307, "Temporary Redirect"}, {308, "Permanent Redirect"}, {400, "Bad Request"}, {401, "Unauthorized"},
		{403, "Forbidden"}, {404, "Not Found"}, {408, "Request Timeout"}, {413, "Content Too Large"}, {414, "URI Too Long"},
		{417, "Expectation Failed"}, {429, "Too Many Requests"}, {431, "Request Header Fields Too Large"},
		{500, "Internal Server Error"}, {501, "Not Implemented"}, {502, "Bad Gateway"}, {503, "Service Unavailable"},
		{504, "Gateway Timeout"}, {505, "HTTP Version Not Supported"},
		{100, "Status"}, {102, "Status"}, {201, "Status"}, {205, "Status"}, {206, "Status"}, {300, "Status"}, {303, "Status"},
		{304, "Status"}, {306, "Status"}, {402, "Status"}, {405, "Status"}, {411, "Status"}, {422, "Status"}, {430, "Status"},
		{432, "Status"}, {499, "Status"}, {506, "Status"}, {511, "Status"}, {599, "Status"}, {600, "Status"},
		{0, "Status"}, {-200, "Status"}, {200 + 1<<32, "Status"}, {200 - 1<<32, "Status"}, {math.MaxInt, "Status"}, {math.MinInt, "Status"},
	} {
		if got := emit.Reason(c.status); got != c.words || phraseOf(c.status) != c.words {
			t.Errorf("Reason(%d) is %q, want %q", c.status, got, c.words)
		}
	}
	known := 0
	for status := -1200; status <= 70000; status++ {
		got := emit.Reason(status)
		if got != phraseOf(status) {
			t.Fatalf("Reason(%d) is %q, want %q", status, got, phraseOf(status))
		}
		if got != "Status" {
			known++
		}
	}
	if known != 23 {
		t.Errorf("%d statuses have a phrase, want 23", known)
	}
}

// Any status is written in its digits, with the phrase or a reason of one's own.
func TestStatuses(t *testing.T) {
	for _, c := range []struct {
		status int
		line   string
	}{
		{0, "HTTP/1.1 0 Status"}, {7, "HTTP/1.1 7 Status"}, {99, "HTTP/1.1 99 Status"}, {100, "HTTP/1.1 100 Status"},
		{999, "HTTP/1.1 999 Status"}, {1000, "HTTP/1.1 1000 Status"}, {-1, "HTTP/1.1 -1 Status"}, {-200, "HTTP/1.1 -200 Status"},
		{math.MaxInt, "HTTP/1.1 9223372036854775807 Status"}, {math.MinInt, "HTTP/1.1 -9223372036854775808 Status"},
		{200, "HTTP/1.1 200 OK"}, {431, "HTTP/1.1 431 Request Header Fields Too Large"}, {505, "HTTP/1.1 505 HTTP Version Not Supported"},
	} {
		wantHead(t, emit.Reply{Status: c.status, Keep: true}, c.line, "Via: 1.1 barbican")
		want(t, emit.Local(c.status, nil, "b", true, false), lines(c.line, "Via: 1.1 barbican", "Content-Length: 1")+"b")
		number := strconv.Itoa(c.status)
		for _, reason := range []string{"r", "Not Found", "Status", " ", "\t", "a  b ", "\xff\x80", "\x00", "a\r\nb: c"} {
			wantHead(t, emit.Reply{Status: c.status, Reason: reason, Keep: true}, "HTTP/1.1 "+number+" "+reason, "Via: 1.1 barbican")
		}
	}
	for status := -20; status <= 1020; status++ {
		checkHead(t, emit.Reply{Status: status, Framing: status % 6, Length: status})
		checkHead(t, emit.Reply{Status: status, Reason: "r", Keep: true})
		checkLocal(t, status, nil, "b")
	}
}

// A port is written if it is above 0.
func TestPorts(t *testing.T) {
	for _, c := range []struct {
		port int
		host string
	}{
		{0, "Host: h"}, {-1, "Host: h"}, {-80, "Host: h"}, {math.MinInt, "Host: h"},
		{1, "Host: h:1"}, {80, "Host: h:80"}, {443, "Host: h:443"}, {65535, "Host: h:65535"}, {65536, "Host: h:65536"},
		{1 << 32, "Host: h:4294967296"}, {math.MaxInt, "Host: h:9223372036854775807"},
	} {
		wantRequest(t, emit.Ask{Method: "GET", Target: "/", Host: "h", Port: c.port, From: "1"},
			"GET / HTTP/1.1", c.host, "X-Forwarded-For: 1", "Via: 1.1 barbican")
	}
	wantRequest(t, emit.Ask{Method: "GET", Target: "/", Port: 8, From: "1"},
		"GET / HTTP/1.1", "Host: :8", "X-Forwarded-For: 1", "Via: 1.1 barbican")
	wantRequest(t, emit.Ask{Method: "GET", Target: "/", Host: "h:9", Port: 8, From: "1"},
		"GET / HTTP/1.1", "Host: h:9:8", "X-Forwarded-For: 1", "Via: 1.1 barbican")
	for port := -70000; port <= 70000; port += 7 {
		checkRequest(t, emit.Ask{Host: "h", Port: port})
	}
}

// A request that is sized tells its length, also of no bytes; a body is written whether or not it is sized.
func TestSized(t *testing.T) {
	first := []string{"PUT /a HTTP/1.1", "Host: h", "X-Forwarded-For: 1", "Via: 1.1 barbican"}
	for _, c := range []struct {
		body, length string
	}{
		{"", "0"}, {"b", "1"}, {"\x00", "1"}, {"123456789", "9"}, {"1234567890", "10"}, {"\u00e9", "2"}, {"\xff\xfe", "2"},
		{"\r\n", "2"}, {"0\r\n\r\n", "5"}, {"GET / HTTP/1.1\r\n\r\n", "18"}, {strings.Repeat("x", 65536), "65536"},
	} {
		a := emit.Ask{Method: "PUT", Target: "/a", Host: "h", Body: c.body, From: "1"}
		wantRequest(t, a, first...)
		a.Sized = true
		wantRequest(t, a, append(slices.Clone(first), "Content-Length: "+c.length)...)
		a.Upgrade = "p"
		wantRequest(t, a, append(slices.Clone(first), "Content-Length: "+c.length, "Connection: upgrade", "Upgrade: p")...)
		a.Sized = false
		wantRequest(t, a, append(slices.Clone(first), "Connection: upgrade", "Upgrade: p")...)
		// What the fields say of a length is not told, sized or not.
		a.Fields = list("Content-Length", "3", "CONTENT-LENGTH", "x", "Transfer-Encoding", "chunked")
		wantRequest(t, a, append(slices.Clone(first), "Connection: upgrade", "Upgrade: p")...)
		a.Sized, a.Upgrade = true, ""
		wantRequest(t, a, append(slices.Clone(first), "Content-Length: "+c.length)...)
	}
}

// Each kind of framing, and numbers that are none, with each way to go on behind the response.
func TestFramings(t *testing.T) {
	kinds := map[int]string{2: "Content-Length: ", 3: "Transfer-Encoding: chunked"}
	for _, kind := range []int{1, 2, 3, 4, 5, 0, -1, -2, -3, 6, 7, 258, 259, 2 + 1<<32, 3 + 1<<32, math.MaxInt, math.MinInt} {
		for _, length := range []int{0, 1, 9, 10, 65536, -1, -65536, math.MaxInt, math.MinInt} {
			var framed []string
			if line, is := kinds[kind]; is {
				framed = append(framed, line)
			}
			if kind == 2 {
				framed[0] += strconv.Itoa(length)
			}
			l := append([]string{"HTTP/1.1 200 OK", "A: b", "Via: 1.1 barbican"}, framed...)
			r := emit.Reply{Status: 200, Fields: list("A", "b"), Framing: kind, Length: length}
			wantHead(t, r, append(slices.Clone(l), "Connection: close")...)
			r.Keep = true
			wantHead(t, r, l...)
			r.Upgrade = "p"
			wantHead(t, r, append(slices.Clone(l), "Connection: upgrade", "Upgrade: p")...)
			r.Keep = false
			wantHead(t, r, append(slices.Clone(l), "Connection: upgrade", "Upgrade: p")...)
		}
	}
}

// What the fields say of a framing or of the connection is not told, whatever the framing.
func TestFramingsOfFields(t *testing.T) {
	l := list("Content-Length", "3", "a", "1", "content-length", "4", "Transfer-Encoding", "gzip, chunked", "Connection", "keep-alive", "Upgrade", "q", "b", "2")
	told := []string{"HTTP/1.1 200 OK", "a: 1", "b: 2", "Via: 1.1 barbican"}
	for kind, more := range [][]string{nil, nil, {"Content-Length: 8"}, {"Transfer-Encoding: chunked"}, nil, nil} {
		r := emit.Reply{Status: 200, Fields: l, Framing: kind, Length: 8, Keep: true}
		wantHead(t, r, slices.Concat(told, more)...)
		r.Keep = false
		wantHead(t, r, slices.Concat(told, more, []string{"Connection: close"})...)
		r.Upgrade = "p"
		wantHead(t, r, slices.Concat(told, more, []string{"Connection: upgrade", "Upgrade: p"})...)
	}
}

// Any text but the empty one is a protocol.
func TestUpgrades(t *testing.T) {
	for _, protocol := range []string{"websocket", "WebSocket", "h2c", " ", "a, b", "close", "\r\n", "\xff", "\x00", strings.Repeat("p", 5000)} {
		wantRequest(t, emit.Ask{Method: "GET", Target: "/", Host: "h", From: "1", Upgrade: protocol},
			"GET / HTTP/1.1", "Host: h", "X-Forwarded-For: 1", "Via: 1.1 barbican", "Connection: upgrade", "Upgrade: "+protocol)
		for _, keep := range []bool{false, true} {
			wantHead(t, emit.Reply{Status: 101, Keep: keep, Upgrade: protocol},
				"HTTP/1.1 101 Switching Protocols", "Via: 1.1 barbican", "Connection: upgrade", "Upgrade: "+protocol)
		}
	}
	// What a field says of it alone isn't told on.
	wantOfRequest(t, list("Upgrade", "p", "Connection", "upgrade"), "X-Forwarded-For: 7", "Via: 1.1 barbican")
	wantOfHead(t, list("Upgrade", "p", "Connection", "upgrade"), "Via: 1.1 barbican")
}

// The names that are left out, in any case, none, one and many of each, of a request and of a head.
func TestNamesLeftOut(t *testing.T) {
	for _, name := range slices.Concat(theSeven, ofAll, ofRequests) {
		of, joined := slices.Contains(ofRequests, name), slices.Contains(joinedOfAsks, name)
		for _, way := range cases(name) {
			ask := []string{"A: 1", "B: 2", "X-Forwarded-For: 7", "Via: 1.1 barbican"}
			reply := []string{"A: 1", "B: 2", "Via: 1.1 barbican"}
			l := list("A", "1", way, "q", "B", "2")
			switch {
			case name == "Via":
				ask[3], reply[2] = "Via: q, 1.1 barbican", "Via: q, 1.1 barbican"
			case joined:
				ask[2] = "X-Forwarded-For: q, 7"
			}
			if of {
				reply = slices.Insert(reply, 1, way+": q")
			}
			wantOfRequest(t, l, ask...)
			wantOfHead(t, l, reply...)
			checkFields(t, list(way, "", name, "r", "A", "1", small(name), "s", way, "t"))
			checkFields(t, list(way, "q", way, "q", way, "q"))
			checkFields(t, list(way, "q"))
		}
	}
}

// Names that are nearly one of these are told on, and neither joined nor taken for it.
func TestNamesToldOn(t *testing.T) {
	for _, name := range slices.Concat(theSeven, ofAll, ofRequests) {
		for _, way := range near(name) {
			l := list("A", "1", way, "q, b", "B", "2")
			wantOfRequest(t, l, "A: 1", way+": q, b", "B: 2", "X-Forwarded-For: 7", "Via: 1.1 barbican")
			wantOfHead(t, l, "A: 1", way+": q, b", "B: 2", "Via: 1.1 barbican")
			checkFields(t, list(way, "q", name, "r", way, "s", small(name), "t"))
		}
	}
}

// A head tells on what just a request leaves out, each field by itself.
func TestHeadOfARequestsFields(t *testing.T) {
	l := list("Host", "g", "expect", "e", "X-Forwarded-For", "1", "HOST", "f", "x-forwarded-for", "2", "Expect", "")
	wantOfHead(t, l, "Host: g", "expect: e", "X-Forwarded-For: 1", "HOST: f", "x-forwarded-for: 2", "Expect: ", "Via: 1.1 barbican")
	wantOfRequest(t, l, "X-Forwarded-For: 1, 2, 7", "Via: 1.1 barbican")
	want(t, emit.Local(417, l[:3], "", true, false), lines("HTTP/1.1 417 Expectation Failed", "Host: g", "expect: e", "X-Forwarded-For: 1", "Via: 1.1 barbican", "Content-Length: 0"))
}

// Fields that a field Connection names concern one connection alone, in any case.
func TestNamedByConnection(t *testing.T) {
	for _, c := range []struct {
		l    []api.Field
		told []string
	}{
		{list("Connection", "x", "X", "1", "Y", "2"), []string{"Y: 2"}},
		{list("X", "1", "Y", "2", "x", "3", "CONNECTION", "X"), []string{"Y: 2"}},
		{list("Connection", "close, X-A ,\tx-b", "x-a", "1", "X-B", "2", "close", "3", "X-C", "4"), []string{"X-C: 4"}},
		{list("Connection", "a", "connection", "b", "A", "1", "B", "2", "C", "3"), []string{"C: 3"}},
		{list("Connection", "a b", "a", "1", "b", "2", "a b", "3"), []string{"a: 1", "b: 2"}},
		{list("Connection", "a;b", "a", "1", "b", "2"), []string{"a: 1", "b: 2"}},
		{list("Connection", "", "", "1", "a", "2"), []string{": 1", "a: 2"}},
		{list("Connection", ", ,", "", "1", " ", "2"), []string{": 1", " : 2"}},
		{list("Connections", "a", "a", "1"), []string{"Connections: a", "a: 1"}},
		{list("Connection", "\u212a", "k", "1", "\u212a", "2"), []string{"k: 1"}},
		{list("Connection", "\xff", "\xff", "1", "\xfe", "2"), []string{"\xfe: 2"}},
		{list("Connection", "keep-alive", "Keep-Alive", "timeout=5", "Accept", "*/*"), []string{"Accept: */*"}},
		{list("TE", "a", "a", "1"), []string{"a: 1"}},
	} {
		wantOfRequest(t, c.l, append(slices.Clone(c.told), "X-Forwarded-For: 7", "Via: 1.1 barbican")...)
		wantOfHead(t, c.l, append(slices.Clone(c.told), "Via: 1.1 barbican")...)
		checkFields(t, c.l)
	}
}

// A field Connection that names what is written anew: that stays written, and joined is of all fields of the name.
func TestConnectionNamesWhatIsWritten(t *testing.T) {
	l := list("Connection", "Host, Via, X-Forwarded-For, Content-Length, Expect, Connection", "host", "g", "via", "1.0 p", "x-forwarded-for", "5", "content-length", "3", "expect", "e", "Via", "1.1 q", "A", "1")
	wantOfRequest(t, l, "A: 1", "X-Forwarded-For: 5, 7", "Via: 1.0 p, 1.1 q, 1.1 barbican")
	wantOfHead(t, l, "A: 1", "Via: 1.0 p, 1.1 q, 1.1 barbican")
	wantRequest(t, emit.Ask{Method: "GET", Target: "/", Host: "h", Port: 8, Fields: l, Body: "b", Sized: true, From: "7", Upgrade: "p"},
		"GET / HTTP/1.1", "Host: h:8", "A: 1", "X-Forwarded-For: 5, 7", "Via: 1.0 p, 1.1 q, 1.1 barbican", "Content-Length: 1", "Connection: upgrade", "Upgrade: p")
	wantHead(t, emit.Reply{Status: 200, Fields: l, Framing: 2, Length: 6},
		"HTTP/1.1 200 OK", "A: 1", "Via: 1.0 p, 1.1 q, 1.1 barbican", "Content-Length: 6", "Connection: close")
	for _, name := range slices.Concat(theSeven, ofAll, ofRequests) {
		for _, way := range cases(name) {
			checkFields(t, list("Connection", way, name, "1", "A", "2", small(name), "3"))
			checkFields(t, list(name, "1", "A", "2", "Connection", "close,"+way+"\t, x", way, "3"))
		}
	}
	// A head tells Host, Expect and X-Forwarded-For on, but not where Connection names them.
	wantOfHead(t, list("Connection", "host", "Host", "g", "Expect", "e"), "Expect: e", "Via: 1.1 barbican")
	wantOfHead(t, list("Expect", "e", "X-Forwarded-For", "1", "connection", "EXPECT, x-forwarded-for"), "Via: 1.1 barbican")
}

// All values of a name are joined, in order, the empty ones too, and none is looked at.
func TestJoined(t *testing.T) {
	for _, c := range []struct {
		values []string
		text   string
	}{
		{nil, ""},
		{[]string{"1"}, "1, "},
		{[]string{""}, ", "},
		{[]string{"1", "2"}, "1, 2, "},
		{[]string{"2", "1", "2"}, "2, 1, 2, "},
		{[]string{"", ""}, ", , "},
		{[]string{"", "1", "", ""}, ", 1, , , "},
		{[]string{"1, 2", "3,4"}, "1, 2, 3,4, "},
		{[]string{","}, ",, "},
		{[]string{" 1 ", "\t"}, " 1 , \t, "},
		{[]string{"1.1 barbican", "1.1 barbican"}, "1.1 barbican, 1.1 barbican, "},
		{[]string{"7", "7"}, "7, 7, "},
		{[]string{"\xff", "\r\n", "\x00"}, "\xff, \r\n, \x00, "},
		{[]string{strings.Repeat("v", 3000), "w"}, strings.Repeat("v", 3000) + ", w, "},
		{slices.Repeat([]string{"v"}, 200), strings.Repeat("v, ", 200)},
	} {
		for i, name := range joinedOfAsks {
			ways := cases(name)
			l := list("A", "1")
			for k, value := range c.values {
				l = append(l, api.Field{Name: ways[k%len(ways)], Value: value}, api.Field{Name: "B", Value: strconv.Itoa(k)})
			}
			var told []string
			for k := range c.values {
				told = append(told, "B: "+strconv.Itoa(k))
			}
			ask := append([]string{"A: 1"}, told...)
			if i == 0 {
				wantOfRequest(t, l, append(ask, "X-Forwarded-For: "+c.text+"7", "Via: 1.1 barbican")...)
				a := emit.Ask{Method: "GET", Target: "/", Host: "h", Fields: l}
				wantRequest(t, a, slices.Concat([]string{"GET / HTTP/1.1", "Host: h"}, ask, []string{"X-Forwarded-For: " + c.text, "Via: 1.1 barbican"})...)
				continue
			}
			wantOfRequest(t, l, append(ask, "X-Forwarded-For: 7", "Via: "+c.text+"1.1 barbican")...)
			wantOfHead(t, l, append(ask, "Via: "+c.text+"1.1 barbican")...)
		}
	}
}

// Nothing is checked: empty texts, and texts that no reader would take.
func TestNothingIsChecked(t *testing.T) {
	wantRequest(t, emit.Ask{}, "  HTTP/1.1", "Host: ", "X-Forwarded-For: ", "Via: 1.1 barbican")
	wantRequest(t, emit.Ask{Fields: []api.Field{}}, "  HTTP/1.1", "Host: ", "X-Forwarded-For: ", "Via: 1.1 barbican")
	wantHead(t, emit.Reply{}, "HTTP/1.1 0 Status", "Via: 1.1 barbican", "Connection: close")
	wantHead(t, emit.Reply{Fields: []api.Field{}}, "HTTP/1.1 0 Status", "Via: 1.1 barbican", "Connection: close")
	want(t, emit.Local(0, nil, "", false, false), lines("HTTP/1.1 0 Status", "Via: 1.1 barbican", "Content-Length: 0", "Connection: close"))
	l := list("", "", "", "v", "n", "", "a b", " c ", "x\r\ny", "z\r\n", "k:", ": v", "\xff\x80", "\x00", "A", strings.Repeat("v", 3000), strings.Repeat("n", 3000), "1")
	told := []string{": ", ": v", "n: ", "a b:  c ", "x\r\ny: z\r\n", "k:: : v", "\xff\x80: \x00", "A: " + strings.Repeat("v", 3000), strings.Repeat("n", 3000) + ": 1"}
	wantOfRequest(t, l, append(slices.Clone(told), "X-Forwarded-For: 7", "Via: 1.1 barbican")...)
	wantOfHead(t, l, append(slices.Clone(told), "Via: 1.1 barbican")...)
	// Fields beyond the limits, and the same field many times.
	many, told := []api.Field{}, []string{}
	for i := range 100 {
		name := "n" + strconv.Itoa(i%50)
		many, told = append(many, api.Field{Name: name, Value: "v"}), append(told, name+": v")
	}
	wantOfRequest(t, many, append(slices.Clone(told), "X-Forwarded-For: 7", "Via: 1.1 barbican")...)
	wantOfHead(t, many, append(slices.Clone(told), "Via: 1.1 barbican")...)
	wantRequest(t, emit.Ask{Method: "a b", Target: "c\r\nd", Host: "e: f\r\n", Port: 1, From: "g\r\nh", Upgrade: "i\nj", Fields: list("Via", "k\r\n", "x-forwarded-for", "\r\n")},
		"a b c\r\nd HTTP/1.1", "Host: e: f\r\n:1", "X-Forwarded-For: \r\n, g\r\nh", "Via: k\r\n, 1.1 barbican", "Connection: upgrade", "Upgrade: i\nj")
}

// Each byte is written as it is, in each text.
func TestEachByte(t *testing.T) {
	for c := range 256 {
		for _, s := range []string{one(c), "a" + one(c), one(c) + "b", "a" + one(c) + "b", one(c) + one(c)} {
			wantRequest(t, emit.Ask{Method: s, Target: s, Host: s, From: s, Upgrade: s, Body: s, Sized: true},
				s+" "+s+" HTTP/1.1", "Host: "+s, "X-Forwarded-For: "+s, "Via: 1.1 barbican", "Content-Length: "+strconv.Itoa(len(s)), "Connection: upgrade", "Upgrade: "+s)
			wantHead(t, emit.Reply{Status: 200, Reason: s, Upgrade: s},
				"HTTP/1.1 200 "+s, "Via: 1.1 barbican", "Connection: upgrade", "Upgrade: "+s)
			want(t, emit.Local(200, nil, s, true, false), lines("HTTP/1.1 200 OK", "Via: 1.1 barbican", "Content-Length: "+strconv.Itoa(len(s)))+s)
			l := list(s, s, "Via", s, "X-Forwarded-For", s)
			wantOfRequest(t, l, s+": "+s, "X-Forwarded-For: "+s+", 7", "Via: "+s+", 1.1 barbican")
			wantOfHead(t, l, s+": "+s, "X-Forwarded-For: "+s, "Via: "+s+", 1.1 barbican")
			checkFields(t, list("Connection", s, s, "1", small(s), "2", strings.ToUpper(s), "3", one(c^32), "4"))
		}
	}
}

// pieces are fields that matter to each other.
func pieces() []api.Field {
	return list("Via", "a", "via", "", "X-Forwarded-For", "1", "x-forwarded-FOR", "", "Host", "g", "Expect", "e", "Content-Length", "3", "Connection", "Via, x-forwarded-for, HOST", "connection", "x, ,expect,Content-Length", "X", "v", "x", "w", "", "u", "Upgrade", "q", "Transfer-Encoding", "chunked")
}

// All lists of up to three fields that matter.
func TestOfAllShortLists(t *testing.T) {
	all := pieces()
	checkFields(t, nil)
	for _, a := range all {
		checkFields(t, []api.Field{a})
		for _, b := range all {
			checkFields(t, []api.Field{a, b})
			for _, c := range all {
				checkFields(t, []api.Field{a, b, c})
			}
		}
	}
}

// All ways in which a request and a reply can have what may be there or not.
func TestOfAllWays(t *testing.T) {
	some := []string{"", "x"}
	for i := range 256 {
		bit := func(k int) int { return i >> k & 1 }
		a := emit.Ask{Method: some[bit(0)], Target: some[bit(1)], Host: some[bit(2)], Port: bit(3), Body: some[bit(4)], Sized: bit(5) == 1, From: some[bit(6)], Upgrade: some[bit(7)]}
		checkRequest(t, a)
		a.Fields = pieces()
		checkRequest(t, a)
		r := emit.Reply{Status: 200 + bit(0), Reason: some[bit(1)], Framing: i >> 2 & 7, Length: 1 - bit(5), Keep: bit(6) == 1, Upgrade: some[bit(7)]}
		checkHead(t, r)
		r.Fields = pieces()
		checkHead(t, r)
	}
}

// drawer draws by chance what is written.
type drawer struct {
	*dice.Dice
}

// pick draws one of these.
func (d drawer) pick(texts ...string) string {
	return texts[d.Below(len(texts))]
}

// text draws a text of any bytes.
func (d drawer) text(most int) string {
	text := make([]byte, d.Below(most+1))
	for i := range text {
		text[i] = byte(d.Next())
	}
	return string(text)
}

// cased draws a name, each letter in any case.
func (d drawer) cased(name string) string {
	low, high := small(name), strings.ToUpper(name)
	text := ""
	for i := range len(name) {
		text += d.pick(low[i:i+1], high[i:i+1])
	}
	return text
}

// name draws a name that matters, or any.
func (d drawer) name() string {
	switch d.Below(4) {
	case 0:
		return d.cased(d.pick(slices.Concat(theSeven, ofAll, ofRequests)...))
	case 1:
		return d.cased(d.pick("Via", "X-Forwarded-For", "Connection", "Host"))
	case 2:
		return d.pick("a", "A", "b", "B", "x-y", "")
	}
	return d.text(3)
}

// fields draws a list of fields.
func (d drawer) fields() []api.Field {
	var l []api.Field
	for range d.Below(9) {
		f := api.Field{Name: d.name(), Value: d.text(4)}
		if small(f.Name) == "connection" {
			for range d.Below(4) {
				f.Value += d.pick(",", ", ", " ,", ",,\t") + d.name()
			}
		}
		l = append(l, f)
	}
	return l
}

// number draws a small number, or one of any size.
func (d drawer) number() int {
	if d.Below(3) == 0 {
		return int(d.Next())
	}
	return d.Below(12) - 3
}

// Requests, heads and replies drawn by chance.
func TestDrawn(t *testing.T) {
	d := drawer{dice.New(13)}
	for range 40000 {
		l := d.fields()
		checkRequest(t, emit.Ask{Method: d.text(4), Target: d.text(4), Host: d.text(4), Port: d.number(), Fields: l, Body: d.text(20), Sized: d.Below(2) == 1, From: d.text(3), Upgrade: d.text(1)})
		checkHead(t, emit.Reply{Status: d.Below(600), Reason: d.text(1), Fields: l, Framing: d.number(), Length: d.number(), Keep: d.Below(2) == 1, Upgrade: d.text(1)})
		checkLocal(t, d.Below(600), l, d.text(20))
	}
}

// What is written of right parts is read as it was meant: one request, framed by its length alone, in its layers' words.
func TestReadBack(t *testing.T) {
	d := drawer{dice.New(14)}
	for range 5000 {
		a := emit.Ask{Method: d.pick("PUT", "POST", "X"), Target: d.pick("/", "/a?b", "/c/d"), Host: d.pick("h", "ex.com"), Port: d.Below(3) * 4000, From: strconv.Itoa(d.Below(99)), Sized: d.Below(2) == 1}
		for range d.Below(6) {
			a.Fields = append(a.Fields, api.Field{Name: d.cased(d.pick("Host", "Expect", "Content-Length", "Transfer-Encoding", "Via", "X-Forwarded-For", "Connection", "Accept")), Value: d.pick("close", "chunked", "5", "100-continue", "a, b", "")})
		}
		if a.Sized {
			a.Body = d.text(30)
		}
		r := inflow.New(100)
		r.Feed(emit.Request(a) + "GET / HTTP/1.1\r\nHost: h\r\n\r\n")
		got, whole, status := r.Next()
		if !whole || status != 0 || got.Head.Method != a.Method || got.Head.Target != a.Target || got.Head.Minor != 1 || got.Host != a.Host || got.Port != a.Port || got.Body != a.Body || got.Sized != a.Sized || !got.Keep || got.Upgrade != "" {
			t.Fatalf("%#v is read as %#v, %t, %d", a, got, whole, status)
		}
		if next, whole, _ := r.Next(); !whole || next.Head.Method != "GET" || r.Len() != 0 {
			t.Fatalf("behind %#v another request is read than the one that came", a)
		}
	}
	a := emit.Ask{Method: "GET", Target: "/", Host: "h", Fields: list("Upgrade", "q", "Connection", "close"), From: "1", Upgrade: "p"}
	r := inflow.New(100)
	r.Feed(emit.Request(a))
	if got, whole, status := r.Next(); !whole || status != 0 || got.Upgrade != "p" {
		t.Errorf("%#v is read as %#v, %t, %d", a, got, whole, status)
	}
}

// A head that is written of right parts, and the body behind it, are read as they were meant.
func TestHeadsReadBack(t *testing.T) {
	d := drawer{dice.New(15)}
	for range 5000 {
		body := d.text(30)
		r := emit.Reply{Status: 200 + d.Below(3), Reason: d.pick("", "Fine", "a b"), Framing: 2 + d.Below(2), Length: len(body), Keep: d.Below(2) == 1}
		for range d.Below(6) {
			r.Fields = append(r.Fields, api.Field{Name: d.cased(d.pick("Host", "Content-Length", "Transfer-Encoding", "Via", "Connection", "Server", "Upgrade")), Value: d.pick("close", "keep-alive", "gzip", "5", "a, b", "")})
		}
		behind := body
		if r.Framing == 3 {
			behind = chunk.Last()
			if body != "" {
				behind = chunk.Encode(body) + behind
			}
		}
		text := emit.Head(r)
		if h, size, e := head.Response(text); e != api.OK || size != len(text) || h.Status != r.Status || h.Minor != 1 {
			t.Fatalf("%q is read as %#v, %d, %d", text, h, size, e)
		}
		wantRead(t, text+behind, body, r.Keep)
	}
	for _, bodiless := range []bool{false, true} {
		method := map[bool]string{false: "GET", true: "HEAD"}[bodiless]
		o := outflow.New(method)
		o.Feed(emit.Local(404, nil, "no route", true, bodiless))
		for range 3 {
			o.Next()
		}
		if !o.Ended() || !o.Reusable() {
			t.Errorf("a reply of the gateway's own to a %s isn't whole", method)
		}
	}
}

// wantRead wants a text to be read as a response with this body, behind which the connection is kept or not.
func wantRead(t *testing.T, text string, body string, keep bool) {
	t.Helper()
	o, got := outflow.New("GET"), ""
	o.Feed(text)
	for !o.Ended() {
		piece, told, e := o.Next()
		if !told || e != api.OK {
			t.Fatalf("%q is read as no response: %d", text, e)
		}
		got += piece.Data
	}
	if got != body || o.Len() != 0 || o.Reusable() != keep {
		t.Fatalf("%q is read with the body %q, %d bytes behind it, kept %t", text, got, o.Len(), o.Reusable())
	}
}

// Long texts and long lists are written.
func TestLongOnes(t *testing.T) {
	const n = 50000
	long := strings.Repeat("b", 1<<22)
	want(t, emit.Request(emit.Ask{Method: "PUT", Target: "/", Host: "h", Body: long, Sized: true, From: "1"}), lines("PUT / HTTP/1.1", "Host: h", "X-Forwarded-For: 1", "Via: 1.1 barbican", "Content-Length: 4194304")+long)
	want(t, emit.Local(200, nil, long, true, false), lines("HTTP/1.1 200 OK", "Via: 1.1 barbican", "Content-Length: 4194304")+long)
	// Each fourth field is told on; Connection names as many as stand beside it.
	var l []api.Field
	names, values := make([]string, n), strings.Repeat("v, ", n)
	var told strings.Builder
	for i := range n {
		names[i] = "N" + strconv.Itoa(i)
		l = append(l, list("n"+strconv.Itoa(i), "x", "Via", "v", "m"+strconv.Itoa(i), "y", "X-Forwarded-For", "v")...)
		told.WriteString("m" + strconv.Itoa(i) + ": y\r\n")
	}
	l = append(l, list("connection", strings.Join(names, ","))...)
	a := emit.Ask{Method: "GET", Target: "/", Host: "h", Fields: l, From: "1"}
	want(t, emit.Request(a), "GET / HTTP/1.1\r\nHost: h\r\n"+told.String()+"X-Forwarded-For: "+values+"1\r\nVia: "+values+"1.1 barbican\r\n\r\n")
	want(t, emit.Head(emit.Reply{Status: 200, Fields: l[len(l)-5:], Framing: 4, Keep: true}), lines("HTTP/1.1 200 OK", "m"+strconv.Itoa(n-1)+": y", "X-Forwarded-For: v", "Via: v, 1.1 barbican"))
}

// P1: what is given stays as it is, its spare room too, in its own memory; and what is answered stays, whatever becomes of that.
func TestWhatIsGivenStays(t *testing.T) {
	spare := pieces()
	for _, l := range [][]api.Field{nil, {}, pieces()[:1], pieces()[6:9], pieces(), list("A", "1"), list("A", "1", "Via", "2", "B", "3", "Connection", "a", "Host", "h")} {
		memory := append(slices.Clone(l), spare...)
		before := slices.Clone(memory)
		given := memory[:len(l)]
		a := emit.Ask{Method: "m", Target: "t", Host: "h", Port: 1, Fields: given, Body: "b", Sized: true, From: "f", Upgrade: "p"}
		r := emit.Reply{Status: 200, Reason: "r", Fields: given, Framing: 2, Length: 3, Keep: true, Upgrade: "p"}
		for range 3 {
			texts := []string{emit.Request(a), emit.Head(r), emit.Local(404, given, "b", false, false), emit.Local(404, given, "b", true, true)}
			wants := []string{requestOf(a), headOf(r), localOf(404, given, "b", false, false), localOf(404, given, "b", true, true)}
			if !slices.Equal(memory, before) {
				t.Fatalf("what was given is %q by now, was %q", memory, before)
			}
			for i := range memory {
				memory[i] = api.Field{Name: "Spoilt", Value: "s"}
			}
			if !slices.Equal(texts, wants) {
				t.Fatalf("%q is written, want %q", texts, wants)
			}
			copy(memory, before)
		}
	}
}

// P1: an answer hangs on what is given alone, not on what was written ahead of it.
func TestAnswersAreTheSameAgain(t *testing.T) {
	a := emit.Ask{Method: "PUT", Target: "/", Host: "h", Fields: pieces(), Body: "b", Sized: true, From: "1"}
	r := emit.Reply{Status: 431, Fields: pieces(), Framing: 3}
	first := []string{emit.Request(a), emit.Head(r), emit.Local(503, nil, "b", true, false), emit.Reason(308)}
	d := drawer{dice.New(16)}
	for range 200 {
		emit.Request(emit.Ask{Method: d.text(9), Fields: d.fields(), Body: d.text(99), Upgrade: d.text(3)})
		emit.Head(emit.Reply{Status: d.Below(600), Fields: d.fields(), Framing: d.Below(6)})
		emit.Local(d.Below(600), d.fields(), d.text(99), true, false)
		emit.Reason(d.Below(600))
		again := []string{emit.Request(a), emit.Head(r), emit.Local(503, nil, "b", true, false), emit.Reason(308)}
		if !slices.Equal(again, first) {
			t.Fatalf("%q is written, %q was", again, first)
		}
	}
}

// The calls can be made by several at a time: they share nothing.
func TestBySeveral(t *testing.T) {
	answers := make([]string, 8)
	done := make(chan int)
	for i := range answers {
		go func() {
			from := strconv.Itoa(i)
			for range 200 {
				answers[i] = emit.Request(emit.Ask{Host: from, Fields: pieces(), From: from}) + emit.Local(400+i, pieces(), from, true, false)
			}
			done <- i
		}()
	}
	for range answers {
		<-done
	}
	for i, answer := range answers {
		from := strconv.Itoa(i)
		want(t, answer, requestOf(emit.Ask{Host: from, Fields: pieces(), From: from})+localOf(400+i, pieces(), from, true, false))
	}
}
