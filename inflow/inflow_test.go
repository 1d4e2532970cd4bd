package inflow_test

import (
	"math"
	"reflect"
	"regexp"
	"slices"
	"strconv"
	"strings"
	"testing"

	"barbican/api"
	"barbican/chunk"
	"barbican/dice"
	"barbican/frame"
	"barbican/head"
	"barbican/inflow"
	"barbican/target"
)

// What is asked of a reader.

// lines puts a head together.
func lines(l ...string) string {
	return strings.Join(l, "\r\n") + "\r\n\r\n"
}

// list is fields, by their names and values in turn.
func list(pairs ...string) []api.Field {
	var l []api.Field
	for i := 0; i < len(pairs); i += 2 {
		l = append(l, api.Field{Name: pairs[i], Value: pairs[i+1]})
	}
	return l
}

// same tells whether two requests are the same, an empty list being a nil one.
func same(a, b inflow.Request) bool {
	sameFields := slices.Equal(a.Head.Fields, b.Head.Fields)
	a.Head.Fields, b.Head.Fields = nil, nil
	return sameFields && reflect.DeepEqual(a, b)
}

// wantRequest asks for the next request.
func wantRequest(t *testing.T, r *inflow.Reader, want inflow.Request) {
	t.Helper()
	if got, whole, status := r.Next(); !whole || status != 0 || !same(got, want) {
		t.Fatalf("Next() = %.300v, %v, %d, not %.300v", got, whole, status, want)
	}
}

// wantNone asks for the next request and wants none, but the status, which is 0 while reading goes on.
func wantNone(t *testing.T, r *inflow.Reader, status int) {
	t.Helper()
	for range 2 {
		if got, whole, e := r.Next(); whole || e != status || !reflect.DeepEqual(got, inflow.Request{}) {
			t.Fatalf("Next() = %.300v, %v, %d, not the status %d", got, whole, e, status)
		}
	}
}

var unbegun = regexp.MustCompile(`^(?:\r\n)*\r?$`)

// wantUnused wants just these bytes not to be used.
func wantUnused(t *testing.T, r *inflow.Reader, rest string) {
	t.Helper()
	if got := r.Len(); got != len(rest) {
		t.Fatalf("Len() = %d, not %d: %.80q", got, len(rest), rest)
	}
	if got := r.Begun(); got == unbegun.MatchString(rest) {
		t.Fatalf("Begun() = %v: %.80q", got, rest)
	}
}

// A reading of a whole text from its beginning, by the chapter's steps: what a reader is to tell of it in any pieces.

// whole is a request and the place behind it.
type whole struct {
	request inflow.Request
	end     int
}

// reading is what a text holds: whole requests, and behind them the status with which reading ends, or 0.
type reading struct {
	requests []whole
	status   int
}

func readAll(s string, most int) reading {
	var all reading
	at := 0
	for {
		request, size, status := readOne(s[at:], most)
		if size == 0 {
			all.status = status
			return all
		}
		at += size
		all.requests = append(all.requests, whole{request, at})
	}
}

// readOne reads the request at the beginning of s; its size is 0 where there is none.
func readOne(s string, most int) (inflow.Request, int, int) {
	h, size, e := head.Request(s)
	if e != api.OK || size == 0 {
		return inflow.Request{}, 0, map[api.Errno]int{0: 0, 80: 400, 70: 400, 82: 414, 83: 431, 81: 505}[e]
	}
	t, e := target.Parse(h.Method, h.Target)
	framing, wrong := frame.Request(h, most)
	host, port, hosted := hosts(h, t)
	switch {
	case e != api.OK || !hosted:
		return inflow.Request{}, 0, 400
	case len(valuesOf(h, "expect")) > 0:
		return inflow.Request{}, 0, 417
	case wrong != api.OK:
		return inflow.Request{}, 0, map[api.Errno]int{90: 400, 91: 501, 101: 413}[wrong]
	case h.Method == "CONNECT" && framing.Kind != frame.None:
		return inflow.Request{}, 0, 400
	}
	request := inflow.Request{Head: h, Target: t, Host: host, Port: port, Sized: framing.Kind != frame.None, Keep: frame.Keep(h), Upgrade: upgrade(h, framing.Kind)}
	behind := s[size:]
	switch framing.Kind {
	case frame.Length:
		if len(behind) < framing.Length {
			return inflow.Request{}, 0, 0
		}
		request.Body = behind[:framing.Length]
		return request, size + framing.Length, 0
	case frame.Chunked:
		body, read, ended, e := chunk.New(most).Feed(behind)
		if !ended {
			return inflow.Request{}, 0, map[api.Errno]int{0: 0, 100: 400, 101: 413}[e]
		}
		request.Body = body
		return request, size + read, 0
	}
	return request, size, 0
}

// valuesOf is the values of a name that is told in small letters.
func valuesOf(h api.Head, name string) []string {
	var values []string
	for _, f := range h.Fields {
		if strings.ToLower(f.Name) == name {
			values = append(values, f.Value)
		}
	}
	return values
}

// hosts is whom a request is for, and whether that can be told.
func hosts(h api.Head, t target.Target) (string, int, bool) {
	values := valuesOf(h, "host")
	if len(values) > 1 || len(values) < 1 && h.Minor > 0 {
		return "", 0, false
	}
	host, port := "", 0
	for _, value := range values {
		var e api.Errno
		if host, port, e = target.Authority(value); e != api.OK {
			return "", 0, false
		}
	}
	if t.Host != "" {
		return t.Host, t.Port, true
	}
	return host, port, true
}

func upgrade(h api.Head, kind int) string {
	words := func(name string) []string {
		text := strings.ToLower(strings.Join(valuesOf(h, name), ","))
		return regexp.MustCompile(`[^\t ,](?:[^,]*[^\t ,])?`).FindAllString(text, -1)
	}
	protocols := words("upgrade")
	if h.Method != "GET" || h.Minor < 1 || kind != frame.None || len(protocols) != 1 || !slices.Contains(words("connection"), "upgrade") {
		return ""
	}
	return protocols[0]
}

// beginnings are the readings of a text's beginnings, by their length.
func beginnings(s string, most int) []reading {
	readings := make([]reading, len(s)+1)
	for i := range readings {
		readings[i] = readAll(s[:i], most)
	}
	return readings
}

// wantPieces feeds a text in pieces that end at the places, and wants what readAll reads: behind every piece if asked, else behind the last one.
func wantPieces(t *testing.T, s string, most int, readings []reading, asked bool, places ...int) {
	t.Helper()
	r := inflow.New(most)
	from, told, used := 0, 0, 0
	for i, to := range append(places, len(s)) {
		r.Feed(s[from:to])
		from = to
		wantUnused(t, r, s[used:to])
		if !asked && i < len(places) {
			continue
		}
		now := readings[to]
		for ; told < len(now.requests); told++ {
			wantRequest(t, r, now.requests[told].request)
			used = now.requests[told].end
			wantUnused(t, r, s[used:to])
		}
		wantNone(t, r, now.status)
		wantUnused(t, r, s[used:to])
	}
	if rest := r.Rest(); rest != s[used:] {
		t.Fatalf("%.80q in pieces to %v: Rest() = %.80q, not %.80q", s, places, rest, s[used:])
	}
	wantUnused(t, r, "")
}

// wantDivided feeds a text at once, byte by byte, with empty pieces between, and in every two pieces.
func wantDivided(t *testing.T, s string, most int) {
	t.Helper()
	readings := beginnings(s, most)
	var bytes, doubled []int
	for i := range len(s) + 1 {
		bytes = append(bytes, i)
		doubled = append(doubled, i, i)
	}
	for _, asked := range []bool{true, false} {
		wantPieces(t, s, most, readings, asked)
		wantPieces(t, s, most, readings, asked, bytes...)
		wantPieces(t, s, most, readings, asked, doubled...)
		for i := range len(s) + 1 {
			wantPieces(t, s, most, readings, asked, i)
		}
	}
}

// wantParted feeds a text as wantDivided does, and in every three pieces, also with empty ones between.
func wantParted(t *testing.T, s string, most int) {
	t.Helper()
	wantDivided(t, s, most)
	readings := beginnings(s, most)
	for i := range len(s) + 1 {
		for j := i; j <= len(s); j++ {
			wantPieces(t, s, most, readings, true, i, j)
			wantPieces(t, s, most, readings, false, i, j)
			wantPieces(t, s, most, readings, true, 0, i, i, j, j, len(s))
		}
	}
}

// wantStatus feeds a text at once and in pieces, and wants nothing but the status, whatever is fed behind it.
func wantStatus(t *testing.T, most int, s string, status int) {
	t.Helper()
	r := inflow.New(most)
	r.Feed(s)
	wantNone(t, r, status)
	wantUnused(t, r, s)
	for _, behind := range []string{"", "\r\n", "\r\n\r\n", "x", lines("GET / HTTP/1.1", "Host: h"), "0\r\n\r\n", "\n"} {
		r.Feed(behind)
		s += behind
		wantNone(t, r, status)
		wantUnused(t, r, s)
	}
	// Also behind another request, and where all comes a byte at a time.
	ahead := lines("GET / HTTP/1.0")
	second := inflow.New(most)
	second.Feed(ahead + s)
	wantRequest(t, second, plain(0, "", 0))
	wantNone(t, second, status)
	wantUnused(t, second, s)
	byBytes := inflow.New(most)
	for i := range len(s) {
		byBytes.Feed(s[i : i+1])
		if _, whole, now := byBytes.Next(); whole || now != 0 && now != status {
			t.Fatalf("%.80q: %v, %d", s[:i+1], whole, now)
		}
	}
	wantNone(t, byBytes, status)
}

// plain is a GET of / with nothing but a host.
func plain(minor int, host string, port int) inflow.Request {
	var fields []api.Field
	if host != "" {
		fields = list("Host", host)
	}
	h := api.Head{Method: "GET", Target: "/", Minor: minor, Fields: fields}
	return inflow.Request{Head: h, Target: target.Target{Form: target.Origin, Path: "/"}, Host: host, Port: port, Keep: minor > 0}
}

// post is a POST to / of the host h with a body, framed by a field.
func post(name string, value string, body string) inflow.Request {
	h := api.Head{Method: "POST", Target: "/", Minor: 1, Fields: list("Host", "h", name, value)}
	return inflow.Request{Head: h, Target: target.Target{Form: target.Origin, Path: "/"}, Host: "h", Body: body, Sized: true, Keep: true}
}

// wantWhole feeds one request at once, byte by byte and in two halves, with bytes behind it, and wants it read up to its end.
func wantWhole(t *testing.T, most int, s string, want inflow.Request) {
	t.Helper()
	for _, behind := range []string{"", "\r", "\r\n", "GET", "\n", s} {
		r := inflow.New(most)
		r.Feed(s + behind)
		wantUnused(t, r, s+behind)
		wantRequest(t, r, want)
		wantUnused(t, r, behind)
	}
	for _, step := range []int{1, 2, len(s)/2 + 1, len(s) - 1} {
		r := inflow.New(most)
		for from := 0; from < len(s); from += step {
			wantNone(t, r, 0)
			r.Feed(s[from:min(from+step, len(s))])
		}
		wantRequest(t, r, want)
		wantUnused(t, r, "")
		wantNone(t, r, 0)
	}
}

// The chapter's examples.

func TestExample(t *testing.T) {
	r := inflow.New(api.MaxBody)
	r.Feed("GET /a HTTP/1.1\r\nHost: h\r\n\r\nPOST /b HTTP/1.1\r\nHost: h\r\nContent-Length: 2\r\n\r\nx")
	wantRequest(t, r, inflow.Request{Head: api.Head{Method: "GET", Target: "/a", Minor: 1, Fields: list("Host", "h")}, Target: target.Target{Form: target.Origin, Path: "/a"}, Host: "h", Keep: true})
	wantNone(t, r, 0)
	if !r.Begun() {
		t.Error("not begun")
	}
	r.Feed("yz")
	wantRequest(t, r, inflow.Request{Head: api.Head{Method: "POST", Target: "/b", Minor: 1, Fields: list("Host", "h", "Content-Length", "2")}, Target: target.Target{Form: target.Origin, Path: "/b"}, Host: "h", Body: "xy", Sized: true, Keep: true})
	if r.Len() != 1 {
		t.Errorf("Len() = %d", r.Len())
	}
	r.Feed("\n")
	wantNone(t, r, 400)
}

// One connection's bytes in every division.

func TestDivisions(t *testing.T) {
	get := lines("GET /a HTTP/1.1", "Host: h")
	for _, s := range []string{
		get, "\r\n\r\n" + get + "\r\n", get + "GET / HTTP/1.0\r\n\r\nx", "\r\r\n", "\r\n\rx", "\r\n\n", "\n", "GET / HTTP/1.1\n",
		"GET / HTTP/1.0\r\n\r\nGET /..\tHTTP/1.0\r\n\r\n", "GET /.. HTTP/1.0\r\n\r\nGET", "GET / HTTP/2.0\r\n\r\n", "GET / HTTP/1.0\r\nA : b\r\n\r\n", "G / HTTP/1.0\r\nExpect:\r\n\r\nG",
		"P / HTTP/1.0\r\nContent-Length: 4\r\n\r\n\r\n\r\nG / HTTP/1.0\r\n\r\n", "P / HTTP/1.0\r\nContent-Length:0\r\n\r\n\r\nG / HTTP/1.0\r\n\r\n", "P / HTTP/1.0\r\nContent-Length: 6\r\n\r\n123456",
		"P / HTTP/1.1\r\nHost:h\r\nTransfer-Encoding:chunked\r\n\r\n2\r\n\r\n\r\n3;x\r\nabc\r\n0\r\nT:\r\n\r\nG / HTTP/1.0\r\n\r\n", "P / HTTP/1.1\r\nHost:h\r\nTransfer-Encoding:chunked\r\n\r\n2\r\nab\r\n4\r\n", "P / HTTP/1.1\r\nHost:h\r\nTransfer-Encoding:chunked\r\n\r\n2\r\nab\nx",
	} {
		wantParted(t, s, 5)
	}
	three := get + lines("POST /b HTTP/1.1", "Host: h", "Content-Length: 5") + "\r\nx\r\n\r\n\r\n" + lines("POST /c HTTP/1.1", "Host: h", "Transfer-Encoding: chunked") + "5\r\n\r\nabc\r\n0\r\nA: b\r\n\r\n" + "\r\n" + lines("GET /d HTTP/1.1", "Host: h", "Connection: upgrade", "Upgrade: X") + "\x00"
	wantDivided(t, three, 5)
	wantDivided(t, three, 4)
	wantDivided(t, strings.Repeat(get, 4)+"\n"+get, 5)
	for _, wrong := range []string{"GET  / HTTP/1.1\r\n", lines("GET / HTTP/1.1"), lines("GET / HTTP/1.1", "Host: h", "Expect: x"), lines("GET / HTTP/1.1", "Host: h", "Content-Length: 6"), lines("GET / HTTP/1.1", "Host: h", "Transfer-Encoding: gzip, chunked")} {
		wantDivided(t, get+wrong+get, 5)
	}
}

// Step 1: heads.

func TestHeads(t *testing.T) {
	for s, status := range map[string]int{
		"\n": 400, "\rx": 400, "\r\r\n": 400, "\r\n\n": 400, " \r\n": 400, "GET / HTTP/1.1\n": 400, "GET / HTTP/1.1\rx": 400, "GET  / HTTP/1.1\r\n": 400, "GET /\r\n": 400, "G,T / HTTP/1.1\r\n": 400, "GET /\x80 HTTP/1.1\r\n": 400, "GET / http/1.1\r\n": 400, "GET / HTTP/1.1 \r\n": 400, "MMMMMMMMMMMMMMMMM / HTTP/1.1\r\n": 400, "\x00\r\n": 400, "HTTP/1.1 200 OK\r\n": 400,
		"GET / HTTP/2.0\r\n": 505, "GET / HTTP/0.9\r\n": 505, "GET /.. HTTP/9.9\r\n": 505,
		strings.Repeat("x", 1101): 414, "GET /" + strings.Repeat("x", 1096): 414, "\r\n\r\nGET /" + strings.Repeat("x", 1096): 414,
	} {
		wantStatus(t, 9, s, status)
	}
	for s, status := range map[string]int{
		"no field\r\n": 400, " A: b\r\n": 400, "A : b\r\n": 400, ": b\r\n": 400, "A: \x00\r\n": 400, "A: b\n": 400, "A: b\r\n\n": 400, "A: b\r\n\rx": 400, "Host: h\r\n C\r\n": 400,
		"A:" + strings.Repeat("x", 511): 431, strings.Repeat("x", 513): 431, "B: c\r\nA:" + strings.Repeat(" ", 511): 431, strings.Repeat("A:\r\n", 33): 431,
	} {
		wantStatus(t, 9, "GET / HTTP/1.0\r\n"+s, status)
		wantStatus(t, 9, "GET / HTTP/1.1\r\n"+s, status)
	}
	longest := "/" + strings.Repeat("x", 1086)
	want := plain(0, "", 0)
	want.Head.Target, want.Target.Path = longest, longest
	wantWhole(t, 0, lines("GET "+longest+" HTTP/1.0"), want)
	wantStatus(t, 0, lines("GET "+longest+"x HTTP/1.0"), 414)
	want = plain(0, "", 0)
	for range 32 {
		want.Head.Fields = append(want.Head.Fields, api.Field{Name: "A", Value: strings.Repeat("x", 510)})
	}
	wantWhole(t, 0, "GET / HTTP/1.0\r\n"+strings.Repeat("A:"+strings.Repeat("x", 510)+"\r\n", 32)+"\r\n", want)
	wantStatus(t, 0, "GET / HTTP/1.0\r\n"+strings.Repeat("A:"+strings.Repeat("x", 510)+"\r\n", 32)+"A:\r\n", 431)
	// Nothing is told of a head that isn't whole, whatever its target and its fields are.
	for _, s := range []string{"GET", "GET x HTTP/1.1\r", "GET x HTTP/1.1\r\n", "GET /.. HTTP/1.1\r\nHost: -\r\nHost: h\r\nExpect: x\r\nContent-Length: x\r\n", "CONNECT / HTTP/1.1\r\nTransfer-Encoding: gzip, chunked\r\n\r", strings.Repeat("x", 1100), "GET / HTTP/1.1\r\n" + strings.Repeat("x", 512)} {
		r := inflow.New(0)
		r.Feed(s)
		wantNone(t, r, 0)
		wantUnused(t, r, s)
	}
}

func TestEmptyLines(t *testing.T) {
	for n := range 5 {
		empty := strings.Repeat("\r\n", n)
		wantWhole(t, 0, empty+lines("GET / HTTP/1.1", "Host: h"), plain(1, "h", 0))
		r := inflow.New(0)
		for i := range len(empty) {
			r.Feed(empty[i : i+1])
			wantUnused(t, r, empty[:i+1])
			wantNone(t, r, 0)
			wantUnused(t, r, empty[:i+1])
			if r.Begun() {
				t.Errorf("begun with %q", empty[:i+1])
			}
		}
		for _, behind := range []string{"\r\r", "\rG", "\r\r\n", "\n", "G", " ", "\x00", "\r\n\r\r"} {
			r := inflow.New(0)
			r.Feed(empty + behind)
			wantUnused(t, r, empty+behind)
			if !r.Begun() {
				t.Errorf("not begun with %q", empty+behind)
			}
		}
		wantStatus(t, 0, empty+"\rG", 400)
		wantStatus(t, 0, empty+"\r\r", 400)
		wantStatus(t, 0, empty+"\n", 400)
		if rest := r.Rest(); rest != empty {
			t.Errorf("Rest() = %q, not %q", rest, empty)
		}
	}
}

// Steps 2 and 3: the target and the host.

func TestTargets(t *testing.T) {
	for _, s := range []string{"GET x", "GET *", "POST *", "options *", "GET h:80", "GET https://h/", "GET http://", "GET http:///a", "GET http://-h/", "GET http://h:0/", "GET http://u@h/", "GET /..", "GET /a/../..", "GET /%zz", "GET /%", "GET /a#b", "GET /?a#b", "GET http://h/..", "GET http://h?#",
		"CONNECT h", "CONNECT /", "CONNECT *", "CONNECT h:0", "CONNECT h:65536", "CONNECT http://h:80/", "CONNECT -:80", "connect h:80"} {
		wantStatus(t, 9, lines(s+" HTTP/1.1", "Host: h"), 400)
		wantStatus(t, 9, lines(s+" HTTP/1.0", "Host: h"), 400)
		wantStatus(t, 9, lines(s+" HTTP/1.0"), 400)
	}
	for s, want := range map[string]target.Target{
		"GET /a/../b?x=1": {Form: target.Origin, Path: "/b", Query: "x=1", HasQuery: true}, "GET /?": {Form: target.Origin, Path: "/", HasQuery: true}, "POST /%7e": {Form: target.Origin, Path: "/~"}, "connect /c": {Form: target.Origin, Path: "/c"}, "OPTIONS /": {Form: target.Origin, Path: "/"},
		"OPTIONS *": {Form: target.Asterisk},
	} {
		method, text, _ := strings.Cut(s, " ")
		for minor := range 10 {
			h := api.Head{Method: method, Target: text, Minor: minor, Fields: list("hOST", "Ex.com:81")}
			request := inflow.Request{Head: h, Target: want, Host: "ex.com", Port: 81, Keep: minor > 0}
			wantWhole(t, 9, lines(s+" HTTP/1."+strconv.Itoa(minor), "hOST: Ex.com:81"), request)
		}
	}
	for s, want := range map[string]target.Target{
		"GET HTTP://Ex:8?q": {Form: target.Absolute, Host: "ex", Port: 8, Path: "/", Query: "q", HasQuery: true}, "PUT http://a.b/./c": {Form: target.Absolute, Host: "a.b", Path: "/c"}, "OPTIONS http://a": {Form: target.Absolute, Host: "a", Path: "/"},
		"CONNECT Ab:443": {Form: target.Remote, Host: "ab", Port: 443},
	} {
		method, text, _ := strings.Cut(s, " ")
		for minor := range 10 {
			h := api.Head{Method: method, Target: text, Minor: minor, Fields: list("Host", "other:99")}
			// The target's host counts, and its port, also where it has none.
			request := inflow.Request{Head: h, Target: want, Host: want.Host, Port: want.Port, Keep: minor > 0}
			wantWhole(t, 9, lines(s+" HTTP/1."+strconv.Itoa(minor), "Host: other:99"), request)
		}
	}
}

// forms are start lines of all four forms without their version, and the host and port that each target names.
var forms = map[string]inflow.Request{
	"GET /":           {Target: target.Target{Form: target.Origin, Path: "/"}},
	"GET http://t:7/": {Target: target.Target{Form: target.Absolute, Host: "t", Port: 7, Path: "/"}, Host: "t", Port: 7},
	"GET http://t":    {Target: target.Target{Form: target.Absolute, Host: "t", Path: "/"}, Host: "t"},
	"CONNECT t:7":     {Target: target.Target{Form: target.Remote, Host: "t", Port: 7}, Host: "t", Port: 7},
	"OPTIONS *":       {Target: target.Target{Form: target.Asterisk}},
}

func TestHosts(t *testing.T) {
	for s, want := range forms {
		method, text, _ := strings.Cut(s, " ")
		for minor := range 10 {
			line := s + " HTTP/1." + strconv.Itoa(minor)
			request := want
			request.Keep = minor > 0
			request.Head = api.Head{Method: method, Target: text, Minor: minor}
			if minor == 0 {
				wantWhole(t, 9, lines(line), request)
			} else {
				wantStatus(t, 9, lines(line), 400)
				wantStatus(t, 9, lines(line, "X-Host: h"), 400)
			}
			for _, host := range []string{"h", "H", "h:81", "A-b.C:65535", "a:1", strings.Repeat("a", 64)} {
				request := request
				request.Head.Fields = list("Host", host)
				if request.Host == "" {
					name, port, _ := strings.Cut(strings.ToLower(host), ":")
					request.Host = name
					request.Port, _ = strconv.Atoi(port)
				}
				wantWhole(t, 9, lines(line, "Host: "+host), request)
				wantStatus(t, 9, lines(line, "Host: "+host, "Host: "+host), 400)
				wantStatus(t, 9, lines(line, "hoSt: "+host, "A: b", "HOST: "+host), 400)
				wantStatus(t, 9, lines(line, "Host: "+host, "Host:"), 400)
			}
			for _, host := range []string{"", "-", "a b", "a,b", "h:", "h:0", "h:65536", "h:x", ":80", "a..b", ".a", "[::1]", "u@h", "h/", "h:1:2", "\xff", strings.Repeat("a", 65)} {
				wantStatus(t, 9, lines(line, "Host: "+host), 400)
				wantStatus(t, 9, lines(line, "A: b", "hosT:"+host), 400)
			}
		}
	}
}

// Step 4.

func TestExpect(t *testing.T) {
	for s := range forms {
		for _, line := range []string{"Expect: 100-continue", "Expect:", "expect: x", "EXPECT: ", "eXpECT: 100-Continue, x", "Expect: \xff"} {
			for _, minor := range []string{"0", "1", "9"} {
				wantStatus(t, 9, lines(s+" HTTP/1."+minor, "Host: h", line), 417)
				wantStatus(t, 9, lines(s+" HTTP/1."+minor, line, "Host: h", line), 417)
			}
			wantStatus(t, 9, lines(s+" HTTP/1.0", line), 417)
		}
	}
	want := plain(1, "h", 0)
	want.Head.Fields = list("Host", "h", "X-Expect", "100-continue", "Expected", "x", "Connection", "Expect")
	wantWhole(t, 9, lines("GET / HTTP/1.1", "Host: h", "X-Expect: 100-continue", "Expected: x", "Connection: Expect"), want)
}

// Step 5: the framing.

func TestFramings(t *testing.T) {
	for line, status := range map[string]int{
		"Content-Length: 5\r\nTransfer-Encoding: chunked": 400, "Transfer-Encoding: chunked\r\nContent-Length: 0": 400, "Transfer-Encoding: gzip, chunked\r\nContent-Length: 5": 400, "Content-Length: x\r\nTransfer-Encoding: chunked": 400,
		"Content-Length: 5, 6": 400, "Content-Length: 5\r\nContent-Length: 6": 400, "Content-Length: +5": 400, "Content-Length: 5,": 400, "Content-Length:": 400, "Content-Length: -1": 400, "Content-Length: 0x5": 400, "Content-Length: 5 5": 400, "Content-Length: 1234567890123456": 400, "Content-Length: 10, 11": 400,
		"Transfer-Encoding: gzip": 400, "Transfer-Encoding:": 400, "Transfer-Encoding: chunked, gzip": 400, "Transfer-Encoding: chunked, chunked": 400, "Transfer-Encoding: identity": 400, "Transfer-Encoding: chunked\r\nTransfer-Encoding: chunked": 400, "Transfer-Encoding: xchunked": 400,
		"Transfer-Encoding: gzip, chunked": 501, "transfer-encoding: gzip\r\nTransfer-Encoding: CHUNKED": 501, "Transfer-Encoding: a, b, chunked": 501,
		"Content-Length: 10": 413, "Content-Length: 10, 10": 413, "content-length: 010": 413, "Content-Length: 999999999999999": 413,
	} {
		for _, start := range []string{"POST / HTTP/1.", "GET http://t/ HTTP/1.", "OPTIONS * HTTP/1.", "CONNECT t:7 HTTP/1."} {
			for _, minor := range []string{"1", "2", "9"} {
				wantStatus(t, 9, lines(start+minor, "Host: h", line), status)
			}
			// HTTP/1.0 knows no coding.
			if strings.Contains(strings.ToLower(line), "transfer-encoding") {
				wantStatus(t, 9, lines(start+"0", line), 400)
			} else {
				wantStatus(t, 9, lines(start+"0", line), status)
			}
		}
	}
	wantStatus(t, 9, lines("POST / HTTP/1.0", "Host: h", "Transfer-Encoding: chunked")+"0\r\n\r\n", 400)
}

// A CONNECT has no body, also none of no bytes.
func TestConnectWithBody(t *testing.T) {
	for line, body := range map[string]string{"Content-Length: 0": "", "Content-Length: 2": "xy", "content-length: 00, 0": "", "Transfer-Encoding: chunked": "0\r\n\r\n", "transfer-Encoding: Chunked": "1\r\nx\r\n0\r\n\r\n"} {
		wantStatus(t, 9, lines("CONNECT t:7 HTTP/1.1", "Host: h", line), 400)
		wantStatus(t, 9, lines("CONNECT t:7 HTTP/1.1", "Host: h", line)+body, 400)
		r := inflow.New(9)
		r.Feed(lines("connect / HTTP/1.1", "Host: h", line) + body)
		if got, whole, status := r.Next(); !whole || status != 0 || !got.Sized {
			t.Errorf("connect with %s: %v, %v, %d", line, got, whole, status)
		}
	}
	wantStatus(t, 9, lines("CONNECT t:7 HTTP/1.0", "Content-Length: 0"), 400)
	// What a CONNECT is followed by isn't its body.
	h := api.Head{Method: "CONNECT", Target: "t:7", Minor: 1, Fields: list("Host", "h")}
	want := inflow.Request{Head: h, Target: target.Target{Form: target.Remote, Host: "t", Port: 7}, Host: "t", Port: 7, Keep: true}
	wantWhole(t, 9, lines("CONNECT t:7 HTTP/1.1", "Host: h"), want)
	r := inflow.New(0)
	r.Feed(lines("CONNECT t:7 HTTP/1.1", "Host: h") + "\r\n\x00\n")
	wantRequest(t, r, want)
	if rest := r.Rest(); rest != "\r\n\x00\n" {
		t.Errorf("Rest() = %q", rest)
	}
}

// Steps 5 and 6: bodies by length.

func TestLengths(t *testing.T) {
	for _, most := range []int{0, 1, 9, 4096, api.MaxBody} {
		for _, length := range []int{0, 1, most - 1, most} {
			if length < 0 || length > most {
				continue
			}
			body := strings.Repeat("\r\n\x00x", length/4+1)[:length]
			digits := strconv.Itoa(length)
			for _, value := range []string{digits, "000" + digits, digits + "," + digits, digits + " ,\t0" + digits} {
				wantWhole(t, most, lines("POST / HTTP/1.1", "Host: h", "Content-Length: "+value)+body, post("Content-Length", value, body))
			}
			want := post("Content-Length", digits, body)
			want.Head.Fields = append(want.Head.Fields, api.Field{Name: "content-length", Value: digits})
			wantWhole(t, most, lines("POST / HTTP/1.1", "Host: h", "Content-Length: "+digits, "content-length: "+digits)+body, want)
		}
		over := strconv.Itoa(most + 1)
		wantStatus(t, most, lines("POST / HTTP/1.1", "Host: h", "Content-Length: "+over), 413)
		wantStatus(t, most, lines("POST / HTTP/1.1", "Host: h", "Content-Length: "+over)+strings.Repeat("x", most+1), 413)
	}
	for _, most := range []int{-1, -2, math.MinInt} {
		wantStatus(t, most, lines("POST / HTTP/1.1", "Host: h", "Content-Length: 0"), 413)
		wantStatus(t, most, lines("POST / HTTP/1.0", "Content-Length: 1")+"x", 413)
		wantStatus(t, most, lines("POST / HTTP/1.1", "Host: h", "Transfer-Encoding: chunked")+"0\r\n", 413)
		// Without a framing there is no body, and nothing that could be too much.
		wantWhole(t, most, lines("GET / HTTP/1.1", "Host: h"), plain(1, "h", 0))
		wantWhole(t, most, lines("GET / HTTP/1.0"), plain(0, "", 0))
	}
	// A length that is never reached, where every length is allowed.
	for _, most := range []int{999999999999999, math.MaxInt} {
		s := lines("POST / HTTP/1.1", "Host: h", "Content-Length: 999999999999999")
		r := inflow.New(most)
		r.Feed(s)
		for range 3 {
			wantNone(t, r, 0)
			r.Feed("xyz")
			s += "xyz"
			wantUnused(t, r, s)
		}
	}
	// Any method may have a body, and a GET with one is no upgrade.
	h := api.Head{Method: "GET", Target: "/", Fields: list("Content-Length", "1")}
	wantWhole(t, 1, lines("GET / HTTP/1.0", "Content-Length: 1")+"\n", inflow.Request{Head: h, Target: target.Target{Form: target.Origin, Path: "/"}, Body: "\n", Sized: true})
}

// Steps 5 and 6: bodies in chunks.

func TestChunks(t *testing.T) {
	start := lines("POST / HTTP/1.1", "Host: h", "Transfer-Encoding: chunked")
	for s, body := range map[string]string{
		"0\r\n\r\n": "", "000;x=\"y\"\r\n\r\n": "", "0\r\nT: v\r\nU:\r\n\r\n": "", "3\r\nabc\r\n0\r\n\r\n": "abc", "1;x\r\na\r\n00002\r\n\r\n\r\n0\r\nContent-Length: 9\r\n\r\n": "a\r\n", "9\r\n0\r\n\r\n0\r\n\r\r\n0\r\n\r\n": "0\r\n\r\n0\r\n\r", "4\r\n\x00\xff\n\r\r\n5\r\n12345\r\n0\r\n\r\n": "\x00\xff\n\r12345", strings.Repeat("1\r\nx\r\n", 9) + "0\r\n" + strings.Repeat("A:\r\n", 32) + "\r\n": "xxxxxxxxx",
	} {
		wantWhole(t, 9, start+s, post("Transfer-Encoding", "chunked", body))
		wantWhole(t, len(body), start+s, post("Transfer-Encoding", "chunked", body))
		if len(body) > 0 {
			wantStatus(t, len(body)-1, start+s, 413)
		}
		wantDivided(t, start+s+"GET / HTTP/1.0\r\n\r\n", 9)
	}
	for _, value := range []string{"Chunked", "CHUNKED", ",chunked", "chunked ,, "} {
		wantWhole(t, 9, lines("POST / HTTP/1.1", "Host: h", "Transfer-Encoding: "+value)+"1\r\nx\r\n0\r\n\r\n", post("Transfer-Encoding", strings.Trim(value, " "), "x"))
	}
	for s, status := range map[string]int{
		"\r\n": 400, "g": 400, "x\r\n": 400, " 1\r\n": 400, "-1\r\n": 400, "000000000": 400, "1 \r\n": 400, "1\n": 400, "1\rx": 400, "1;\x00\r\n": 400, "1;" + strings.Repeat("x", 63): 400, "1\r\nxy": 400, "1\r\nx\n": 400, "1\r\nx\rx": 400, "1\r\nx\r\n\r\n": 400, "0\r\n\n": 400, "0\r\n\rx": 400, "0\r\nT\r\n": 400, "0\r\n T: v\r\n": 400, "0\r\nT : v": 400, "0\r\nT: \x00": 400, "0\r\nT: v\n": 400, "0\r\nT:" + strings.Repeat("x", 511): 400, "0\r\n" + strings.Repeat("A:\r\n", 33): 400, "9\r\n123456789\r\n0\r\n0\r\n": 400,
		"a\r\n": 413, "ffffffff\r\n": 413, "9\r\n123456789\r\n1\r\n": 413, "1;x\r\nx\r\n9\r\n": 413, "9\r\n123456789\r\n1\r\nxy": 413, "a\r\n\n": 413,
	} {
		wantStatus(t, 9, start+s, status)
		wantDivided(t, start+s+"x", 9)
	}
	// The ten behind the nine of a body that may have nine: its size is told with its line.
	r := inflow.New(9)
	r.Feed(start + "9\r\n123456789\r\n1")
	wantNone(t, r, 0)
	r.Feed("\r")
	wantNone(t, r, 0)
	r.Feed("\n")
	wantNone(t, r, 413)
}

// Keep and Upgrade.

func TestKeep(t *testing.T) {
	for _, c := range []struct {
		minor int
		value string
		keep  bool
	}{{1, "x", true}, {1, "close", false}, {1, "Keep-Alive, CLOSE", false}, {1, "keep-alive", true}, {0, "x", false}, {0, "keep-alive", true}, {0, "a, KEEP-alive", true}, {0, "keep-alive, close", false}, {9, "closed", true}, {2, "close", false}} {
		want := plain(c.minor, "h", 0)
		want.Head.Fields = list("Host", "h", "Connection", c.value)
		want.Keep = c.keep
		wantWhole(t, 0, lines("GET / HTTP/1."+strconv.Itoa(c.minor), "Host: h", "Connection: "+c.value), want)
	}
	// What doesn't keep its connection is read all the same, and so is what stands behind it.
	r := inflow.New(0)
	r.Feed("GET / HTTP/1.0\r\n\r\n" + lines("GET / HTTP/1.1", "Host: h"))
	wantRequest(t, r, plain(0, "", 0))
	wantRequest(t, r, plain(1, "h", 0))
}

func TestUpgrade(t *testing.T) {
	for _, c := range []struct {
		start, connection, upgrade, want string
	}{
		{"GET / HTTP/1.1", "upgrade", "websocket", "websocket"}, {"GET / HTTP/1.1", "Upgrade", "WebSocket", "websocket"}, {"GET / HTTP/1.1", "keep-alive, UPGRADE", "h2c", "h2c"}, {"GET / HTTP/1.9", "upgrade,", ", X/1 ,,", "x/1"}, {"GET http://t/ HTTP/1.2", "close, upgrade", "A b", "a b"}, {"GET / HTTP/1.1", "upgrade", "\u00c4Z", "\u00c4z"},
		{"GET / HTTP/1.0", "upgrade", "x", ""}, {"POST / HTTP/1.1", "upgrade", "x", ""}, {"get / HTTP/1.1", "upgrade", "x", ""}, {"HEAD / HTTP/1.1", "upgrade", "x", ""}, {"OPTIONS * HTTP/1.1", "upgrade", "x", ""}, {"CONNECT t:7 HTTP/1.1", "upgrade", "x", ""},
		{"GET / HTTP/1.1", "x", "x", ""}, {"GET / HTTP/1.1", "", "x", ""}, {"GET / HTTP/1.1", "upgrades", "x", ""}, {"GET / HTTP/1.1", "up grade", "x", ""}, {"GET / HTTP/1.1", "upgrade", "", ""}, {"GET / HTTP/1.1", "upgrade", ",", ""}, {"GET / HTTP/1.1", "upgrade", "x, y", ""}, {"GET / HTTP/1.1", "upgrade", "x, x", ""}, {"GET / HTTP/1.1", "upgrade", "x,,X", ""},
	} {
		for _, names := range [][2]string{{"Connection", "Upgrade"}, {"cOnnection", "uPGRADE"}} {
			r := inflow.New(0)
			r.Feed(lines(c.start, "Host: h", names[0]+": "+c.connection, names[1]+": "+c.upgrade))
			got, whole, status := r.Next()
			if !whole || status != 0 || got.Upgrade != c.want || got.Sized {
				t.Errorf("%s, Connection: %s, Upgrade: %s: %q, %v, %d", c.start, c.connection, c.upgrade, got.Upgrade, whole, status)
			}
		}
	}
	ask := func(most int, behind string, l ...string) string {
		t.Helper()
		r := inflow.New(most)
		r.Feed(lines(append([]string{"GET / HTTP/1.1", "Host: h"}, l...)...) + behind)
		got, whole, status := r.Next()
		if !whole || status != 0 {
			t.Errorf("%v: %v, %d", l, whole, status)
		}
		return got.Upgrade
	}
	for want, l := range map[string][]string{
		"a": {"Connection: x", "Upgrade: A", "Connection: upgrade"}, "b": {"Upgrade:", "Connection: upgrade", "Upgrade: b"}, "c": {"Connection: upgrade, upgrade", "Connection: Upgrade", "upgrade:C"},
	} {
		if got := ask(0, "", l...); got != want {
			t.Errorf("%v: %q", l, got)
		}
	}
	for _, l := range [][]string{{"Upgrade: x"}, {"Connection: upgrade"}, {"Connection: upgrade", "Upgrade: x", "Upgrade: y"}, {"Connection: upgrade", "Upgrade: x", "Upgrade: x"}, {"X: upgrade", "Upgrade: x"}} {
		if got := ask(0, "", l...); got != "" {
			t.Errorf("%v: %q", l, got)
		}
	}
	if got := ask(0, "", "Connection: upgrade", "Upgrade: x", "Content-Length: 0"); got != "" {
		t.Errorf("with a body of no bytes: %q", got)
	}
	if got := ask(1, "x", "Connection: upgrade", "Upgrade: x", "Content-Length: 1"); got != "" {
		t.Errorf("with a body: %q", got)
	}
	if got := ask(0, "0\r\n\r\n", "Connection: upgrade", "Upgrade: x", "Transfer-Encoding: chunked"); got != "" {
		t.Errorf("with a body in chunks: %q", got)
	}
	// What one asks doesn't stay for the next.
	r := inflow.New(0)
	r.Feed(lines("GET / HTTP/1.1", "Host: h", "Connection: upgrade", "Upgrade: x") + lines("GET / HTTP/1.1", "Host: h"))
	want := plain(1, "h", 0)
	want.Head.Fields = list("Host", "h", "Connection", "upgrade", "Upgrade", "x")
	want.Upgrade = "x"
	wantRequest(t, r, want)
	wantRequest(t, r, plain(1, "h", 0))
}

// Which of two steps is told: faults of each step, and a request put together of any of them.

// fault is something wrong with a request, and its place in the order of the steps: 6 is what the fifth one asks of a CONNECT, 7 the body.
type fault struct {
	step   int
	start  string
	lines  []string
	behind string
	status int
}

var faults = []fault{
	{step: 1, lines: []string{"no field"}, status: 400}, {step: 1, lines: []string{strings.Repeat("x", 513)}, status: 431}, {step: 1, start: "GET / HTTP/2.0", status: 505}, {step: 1, start: strings.Repeat("x", 1101), status: 414},
	{step: 2, start: "GET /.. HTTP/1.1", status: 400}, {step: 2, start: "GET x HTTP/1.1", status: 400}, {step: 2, start: "GET http://- HTTP/1.1", status: 400}, {step: 2, start: "CONNECT / HTTP/1.1", status: 400},
	{step: 3, lines: []string{"Host: g"}, status: 400},
	{step: 4, lines: []string{"Expect: 100-continue"}, status: 417},
	{step: 5, lines: []string{"Content-Length: x"}, status: 400}, {step: 5, lines: []string{"Transfer-Encoding: gzip, chunked"}, status: 501}, {step: 5, lines: []string{"Content-Length: 10"}, status: 413},
	{step: 6, start: "CONNECT t:7 HTTP/1.1", lines: []string{"Content-Length: 0"}, status: 400},
	{step: 7, lines: []string{"Transfer-Encoding: chunked"}, behind: "x", status: 400}, {step: 7, lines: []string{"Transfer-Encoding: chunked"}, behind: "a\r\n", status: 413},
}

func TestTwoFaults(t *testing.T) {
	for _, a := range faults {
		for _, b := range faults {
			if b.step <= a.step || a.start != "" && b.start != "" || a.step == 5 && b.step == 7 {
				continue
			}
			start := a.start + b.start
			if start == "" {
				start = "POST / HTTP/1.1"
			}
			l := slices.Concat([]string{start, "Host: h"}, b.lines, a.lines)
			status := a.status
			// Together the two framings are wrong in another way: unlike lengths, or a length and a coding.
			if a.step == 5 && b.step == 6 {
				status = 400
			}
			wantStatus(t, 9, lines(l...)+b.behind, status)
			l = slices.Concat([]string{start, "Host: h"}, a.lines, b.lines)
			wantStatus(t, 9, lines(l...)+b.behind, status)
		}
	}
	// Within the framing's step: what it tells itself comes ahead of a CONNECT's.
	wantStatus(t, 9, lines("CONNECT t:7 HTTP/1.1", "Host: h", "Content-Length: 10"), 413)
	wantStatus(t, 9, lines("CONNECT t:7 HTTP/1.1", "Host: h", "Transfer-Encoding: gzip, chunked"), 501)
	// A host that is missing or wrong, ahead of all that follows.
	for _, host := range []string{"X: y", "Host:", "Host: -"} {
		wantStatus(t, 9, lines("GET / HTTP/1.1", "Expect: x", host), 400)
		wantStatus(t, 9, lines("GET / HTTP/1.1", host, "Content-Length: 10"), 400)
		wantStatus(t, 9, lines("GET http://t/ HTTP/1.1", "Transfer-Encoding: gzip, chunked", host), 400)
		wantStatus(t, 9, lines("CONNECT t:7 HTTP/1.1", "Expect: x", host), 400)
	}
	// What is wrong behind a head is told only when all of it is right.
	wantStatus(t, 9, lines("POST /.. HTTP/1.1", "Host: h", "Transfer-Encoding: chunked")+"a\r\n", 400)
	wantStatus(t, 9, lines("POST / HTTP/1.1", "Host: h", "Expect: x", "Transfer-Encoding: chunked")+"x", 417)
}

// What an answer and a reader have of their own.

func TestFieldsAreNewMemory(t *testing.T) {
	one := lines("GET / HTTP/1.1", "Host: h", "A: 1", "B: 2")
	body := lines("POST / HTTP/1.1", "Host: h", "Content-Length: 3")
	for _, cut := range []int{0, 20, len(one), len(one) + 5, len(one) + len(body), len(one) + len(body) + 2} {
		text := one + body + "xyz" + one
		r := inflow.New(9)
		r.Feed(text[:cut])
		var got []inflow.Request
		take := func() {
			for {
				request, whole, status := r.Next()
				if !whole {
					if status != 0 {
						t.Fatalf("the status %d", status)
					}
					return
				}
				// Marked and grown, it changes none of the others.
				kept := request
				kept.Head.Fields = slices.Clone(request.Head.Fields)
				got = append(got, kept)
				spare := request.Head.Fields[:cap(request.Head.Fields)]
				for i := range spare {
					spare[i] = api.Field{Name: "spoilt", Value: "spoilt"}
				}
				for range 50 {
					request.Head.Fields = append(request.Head.Fields, api.Field{Name: "grown", Value: "grown"})
				}
			}
		}
		take()
		r.Feed(text[cut:])
		take()
		first := plain(1, "h", 0)
		first.Head.Fields = list("Host", "h", "A", "1", "B", "2")
		want := []inflow.Request{first, post("Content-Length", "3", "xyz"), first}
		if !slices.EqualFunc(got, want, same) {
			t.Errorf("cut at %d: %v", cut, got)
		}
	}
}

func TestEarlierRequestsStay(t *testing.T) {
	r := inflow.New(99)
	var got []inflow.Request
	for i := range 200 {
		body := strings.Repeat(strconv.Itoa(i), 5)
		r.Feed(lines("POST / HTTP/1.1", "Host: h", "Content-Length: "+strconv.Itoa(len(body))) + body)
		request, _, _ := r.Next()
		got = append(got, request)
	}
	for i, request := range got {
		body := strings.Repeat(strconv.Itoa(i), 5)
		if !same(request, post("Content-Length", strconv.Itoa(len(body)), body)) {
			t.Fatalf("the request %d is %v by now", i, request)
		}
	}
}

func TestTwoReaders(t *testing.T) {
	texts := []string{
		lines("POST /a HTTP/1.1", "Host: a", "Content-Length: 5") + "12345" + lines("GET /b HTTP/1.0"), lines("POST /c HTTP/1.1", "Host: c", "Transfer-Encoding: chunked") + "3\r\nabc\r\n2\r\nde\r\n0\r\nT: v\r\n\r\n", "\r\n\r\nGET /.. HTTP/1.1\r\n\r\nxxx", lines("POST /c HTTP/1.1", "Host: c", "Transfer-Encoding: chunked") + "3\r\nabc\r\n9\r\nde\r\n0\r\n", "GET / HTTP/1.1\r\n",
	}
	for _, a := range texts {
		for _, b := range texts {
			readers := []*inflow.Reader{inflow.New(5), inflow.New(6)}
			readings := [][]reading{beginnings(a, 5), beginnings(b, 6)}
			told, used := []int{0, 0}, []int{0, 0}
			for at := range max(len(a), len(b)) {
				for i, s := range []string{a, b} {
					if at >= len(s) {
						continue
					}
					readers[i].Feed(s[at : at+1])
					now := readings[i][at+1]
					for ; told[i] < len(now.requests); told[i]++ {
						wantRequest(t, readers[i], now.requests[told[i]].request)
						used[i] = now.requests[told[i]].end
					}
					wantNone(t, readers[i], now.status)
					wantUnused(t, readers[i], s[used[i]:at+1])
				}
			}
		}
	}
}

// P11.2 and P11.3.

func TestRest(t *testing.T) {
	texts := []string{
		"", "\r\n\r\n\r", lines("GET / HTTP/1.1", "Host: h") + "\r\n" + lines("GET / HTTP/1.1", "Host: h"), "\r\n" + lines("POST / HTTP/1.1", "Host: h", "Content-Length: 8") + "\r\n345678\r\nGET", lines("POST / HTTP/1.1", "Host: h", "Transfer-Encoding: chunked") + "3;x\r\nabc\r\n2\r\nde\r\n0\r\nT: v\r\n\r\nG", "CONNECT t:7 HTTP/1.0\r\n\r\n\x00\xff\r\n\n",
	}
	later := "\r\n" + lines("POST / HTTP/1.1", "Host: h", "Transfer-Encoding: chunked") + "8\r\n12345678\r\n0\r\n\r\n" + lines("GET / HTTP/1.0") + "x"
	for _, s := range texts {
		for cut := range len(s) + 1 {
			for _, asked := range []bool{true, false} {
				r := inflow.New(8)
				used, status := 0, 0
				for i := range cut {
					r.Feed(s[i : i+1])
					if !asked {
						continue
					}
					now := readAll(s[:i+1], 8)
					for ; used < len(now.requests) && now.requests[used].end == i+1; used++ {
						wantRequest(t, r, now.requests[used].request)
					}
					status = now.status
					wantNone(t, r, status)
				}
				rest := s[:cut]
				if asked && used > 0 {
					rest = s[readAll(s[:cut], 8).requests[used-1].end:cut]
				}
				if got := r.Rest(); got != rest {
					t.Fatalf("%q: Rest() = %q, not %q", s[:cut], got, rest)
				}
				wantUnused(t, r, "")
				wantNone(t, r, status)
				if got := r.Rest(); got != "" {
					t.Fatalf("%q: the rest behind the rest is %q", s[:cut], got)
				}
				if status == 0 {
					wantAsNew(t, r, later)
				}
			}
		}
	}
}

// wantAsNew feeds a text byte by byte to a reader of bodies of 8 bytes, and wants it read as a new one reads it.
func wantAsNew(t *testing.T, r *inflow.Reader, s string) {
	t.Helper()
	fresh := inflow.New(8)
	for i := range len(s) {
		r.Feed(s[i : i+1])
		fresh.Feed(s[i : i+1])
		for whole := true; whole; {
			want, now, wantStatus := fresh.Next()
			got, is, status := r.Next()
			if !same(got, want) || is != now || status != wantStatus {
				t.Fatalf("behind the rest, %q: %v, %v, %d, not %v, %v, %d", s[:i+1], got, is, status, want, now, wantStatus)
			}
			whole = now
		}
		if r.Len() != fresh.Len() || r.Begun() != fresh.Begun() {
			t.Fatalf("behind the rest, %q: Len() = %d, not %d", s[:i+1], r.Len(), fresh.Len())
		}
	}
}

// Reading that has ended stays so, also behind Rest: a status is for good.
func TestRestBehindStatus(t *testing.T) {
	for s, status := range map[string]int{"\n": 400, "GET / HTTP/3.0\r\nx": 505, lines("POST / HTTP/1.0", "Content-Length: 9") + "123456789": 413, lines("POST / HTTP/1.1", "Host: h", "Transfer-Encoding: chunked") + "1\r\nx\r\ny": 400} {
		r := inflow.New(8)
		r.Feed(s)
		if got := r.Rest(); got != s {
			t.Errorf("Rest() = %q, not %q", got, s)
		}
		wantNone(t, r, 0)
		r.Feed("\r\n" + s)
		wantNone(t, r, status)
		wantUnused(t, r, "\r\n"+s)
		r.Feed("\r\n")
		if got := r.Rest(); got != "\r\n"+s+"\r\n" {
			t.Errorf("Rest() = %q", got)
		}
		wantUnused(t, r, "")
		wantNone(t, r, status)
		for _, behind := range []string{"\r", "\n", lines("GET / HTTP/1.0")} {
			r.Feed(behind)
			wantNone(t, r, status)
		}
		wantUnused(t, r, "\r\n"+lines("GET / HTTP/1.0"))
	}
}

func TestLenAndBegun(t *testing.T) {
	r := inflow.New(9)
	unused := ""
	feed := func(s string) {
		r.Feed(s)
		unused += s
		wantUnused(t, r, unused)
		wantNone(t, r, 0)
		wantUnused(t, r, unused)
	}
	wantUnused(t, r, "")
	for _, s := range []string{"", "\r", "\n", "\r\n\r", "\nPOST", " / HTTP/1.1\r\n", "Host: h\r\n", "Content-Length: 4\r\n\r", "\n", "\r\n", "\r"} {
		feed(s)
	}
	r.Feed("\n\r\n\rG")
	wantRequest(t, r, post("Content-Length", "4", "\r\n\r\n"))
	wantUnused(t, r, "\r\n\rG")
	wantNone(t, r, 400)
	wantUnused(t, r, "\r\n\rG")
	if rest := r.Rest(); rest != "\r\n\rG" {
		t.Errorf("Rest() = %q", rest)
	}
	wantUnused(t, r, "")
}

// Requests written one behind the other.

// written writes a request with a body in one of two framings, and tells what is to be read.
func written(d *dice.Dice, body string) (string, inflow.Request) {
	if d.Below(2) == 0 {
		length := strconv.Itoa(len(body))
		return lines("POST / HTTP/1.1", "Host: h", "Content-Length: "+length) + body, post("Content-Length", length, body)
	}
	text := lines("POST / HTTP/1.1", "Host: h", "Transfer-Encoding: chunked")
	for from := 0; from < len(body); {
		to := min(from+1+d.Below(20), len(body))
		text += chunk.Encode(body[from:to])
		from = to
	}
	return text + []string{chunk.Last(), "0;x\r\nA: b\r\nC:\r\n\r\n"}[d.Below(2)], post("Transfer-Encoding", "chunked", body)
}

func TestReadBack(t *testing.T) {
	d := dice.New(11)
	bodies := []string{"", "\r\n", "\r\n\r\n", "0\r\n\r\n", lines("GET / HTTP/1.1", "Host: h"), "GET", "\n", "\x00", "5\r\n"}
	for range 300 {
		var text strings.Builder
		var want []inflow.Request
		for range d.Below(8) + 1 {
			body := bodies[d.Below(len(bodies))]
			for range d.Below(4) {
				body += string([]byte{byte(d.Below(256))}) + bodies[d.Below(len(bodies))]
			}
			s, request := written(d, body)
			text.WriteString(strings.Repeat("\r\n", d.Below(3)*d.Below(2)) + s)
			want = append(want, request)
		}
		wantDrawn(t, d, text.String(), api.MaxBody, want, 0)
	}
}

// wantDrawn feeds a text in pieces drawn by chance, asks now and then, and wants these requests and behind them the status.
func wantDrawn(t *testing.T, d *dice.Dice, s string, most int, want []inflow.Request, status int) {
	t.Helper()
	r := inflow.New(most)
	var got []inflow.Request
	ended := 0
	ask := func() {
		for {
			request, whole, now := r.Next()
			if !whole {
				ended = now
				return
			}
			got = append(got, request)
		}
	}
	for from := 0; from < len(s); {
		to := min(from+d.Below(d.Below(100)+2), len(s))
		r.Feed(s[from:to])
		from = to
		if d.Below(3) == 0 {
			ask()
		}
	}
	ask()
	if ended != status || !slices.EqualFunc(got, want, same) {
		t.Fatalf("%.400q: %.300v, %d, not %.300v, %d", s, got, ended, want, status)
	}
}

// draft is a request as it is put together by chance, what is to be read of it, and the first step that fails with its status.
type draft struct {
	start, behind string
	fields        []api.Field
	want          inflow.Request
	step, status  int
}

// fail keeps the status of the first step that fails.
func (f *draft) fail(step int, status int) {
	if f.step == 0 || step < f.step {
		f.step, f.status = step, status
	}
}

// drawDraft puts a request together, most of its parts right; the body may have 20 bytes.
func drawDraft(d *dice.Dice) *draft {
	f := &draft{}
	seldom := func() bool { return d.Below(16) == 0 }
	minor := []int{0, 1, 1, 1, 2, 9}[d.Below(6)]
	h := api.Head{Minor: minor}
	switch d.Below(5) {
	case 0:
		h.Method, h.Target, f.want.Target = "CONNECT", "T.u:443", target.Target{Form: target.Remote, Host: "t.u", Port: 443}
	case 1:
		h.Method, h.Target, f.want.Target = "OPTIONS", "*", target.Target{Form: target.Asterisk}
	case 2:
		h.Method, h.Target, f.want.Target = "GET", "htTP://T:9/a/./b?c", target.Target{Form: target.Absolute, Host: "t", Port: 9, Path: "/a/b", Query: "c", HasQuery: true}
	default:
		h.Method, h.Target, f.want.Target = []string{"GET", "GET", "PUT"}[d.Below(3)], "/x/..", target.Target{Form: target.Origin, Path: "/"}
	}
	if seldom() {
		h.Method, h.Target = "GET", []string{"*", "/..", "x", "http://:1/", "/?#"}[d.Below(5)]
		f.fail(2, 400)
	}
	f.want.Host, f.want.Port = f.want.Target.Host, f.want.Target.Port
	f.drawHost(d, minor, seldom)
	if seldom() {
		f.fields = append(f.fields, api.Field{Name: []string{"Expect", "eXPECT"}[d.Below(2)], Value: []string{"", "100-continue"}[d.Below(2)]})
		f.fail(4, 417)
	}
	f.drawFraming(d, minor, h.Method == "CONNECT", seldom)
	f.drawConnection(d, minor, h.Method)
	f.start = h.Method + " " + h.Target + " HTTP/1." + strconv.Itoa(minor)
	h.Fields = f.fields
	f.want.Head = h
	return f
}

// drawHost draws the fields Host.
func (f *draft) drawHost(d *dice.Dice, minor int, seldom func() bool) {
	switch {
	case seldom():
		f.fields = append(f.fields, list("Host", []string{"", "-", "a:0"}[d.Below(3)])...)
		f.fail(3, 400)
	case seldom():
		f.fields = append(f.fields, list("Host", "a", "host", "a")...)
		f.fail(3, 400)
	case minor > 0 && seldom():
		f.fail(3, 400)
	case minor == 0 && d.Below(2) == 0:
	default:
		f.fields = append(f.fields, list("HoSt", "F.g:8")...)
		if f.want.Host == "" {
			f.want.Host, f.want.Port = "f.g", 8
		}
	}
}

// drawFraming draws how a body is framed, and the body.
func (f *draft) drawFraming(d *dice.Dice, minor int, connect bool, seldom func() bool) {
	body := strings.Repeat(string([]byte{byte(d.Below(256))}), d.Below(23))
	kind := d.Below(4)
	switch {
	case seldom():
		c := []struct {
			fields []api.Field
			status int
		}{{list("Content-Length", "1, 2"), 400}, {list("Content-Length", "1", "Transfer-Encoding", "chunked"), 400}, {list("Transfer-Encoding", "a, chunked"), 501}, {list("Transfer-Encoding", "chunked, a"), 400}}[d.Below(4)]
		f.fields = append(f.fields, c.fields...)
		if c.status == 501 && minor == 0 {
			c.status = 400
		}
		f.fail(5, c.status)
		return
	case kind == 0:
		f.fields = append(f.fields, list("content-Length", strconv.Itoa(len(body)))...)
		f.behind = body
		if len(body) > 20 {
			f.fail(5, 413)
		}
	case kind == 1:
		f.fields = append(f.fields, list("Transfer-Encoding", "Chunked")...)
		half := len(body) / 2
		f.behind = chunk.Encode(body[:half]) + chunk.Encode(body[half:]) + "0\r\nT: v\r\n\r\n"
		if minor == 0 {
			f.fail(5, 400)
		}
		if len(body) > 20 {
			f.fail(7, 413)
		} else if seldom() {
			f.behind = chunk.Encode(body[:half]) + []string{"\r\n", "x", "0\r\n:\r\n", "1\r\nxy"}[d.Below(4)]
			f.fail(7, 400)
		}
	default:
		return
	}
	f.want.Body, f.want.Sized = body, true
	if connect {
		f.fail(6, 400)
	}
}

// drawConnection draws the fields Connection and Upgrade.
func (f *draft) drawConnection(d *dice.Dice, minor int, method string) {
	connection := []string{"", "close", "keep-alive", "a, Upgrade", "upgrade"}[d.Below(5)]
	protocol := []string{"", "X", "x, y", ",Foo/1"}[d.Below(4)]
	f.fields = append(f.fields, list("Connection", connection, "upgrade", protocol)...)
	f.want.Keep = minor > 0 && connection != "close" || connection == "keep-alive"
	if minor > 0 && method == "GET" && !f.want.Sized && strings.HasSuffix(strings.ToLower(connection), "upgrade") {
		f.want.Upgrade = map[string]string{"X": "x", ",Foo/1": "foo/1"}[protocol]
	}
}

// text writes a draft.
func (f *draft) text() string {
	l := []string{f.start}
	for _, field := range f.fields {
		l = append(l, field.Name+": "+field.Value)
	}
	return lines(l...) + f.behind
}

func TestDrafts(t *testing.T) {
	d := dice.New(110)
	told := map[int]int{}
	for range 4000 {
		s, status := "", 0
		var want []inflow.Request
		for range 6 {
			f := drawDraft(d)
			s += f.text()
			if f.step > 0 {
				status = f.status
				break
			}
			want = append(want, f.want)
		}
		told[status]++
		wantDrawn(t, d, s, 20, want, status)
	}
	for _, status := range []int{0, 400, 413, 417, 501} {
		if told[status] < 20 {
			t.Errorf("the status %d is drawn %d times", status, told[status])
		}
	}
}

// Texts of the bytes that matter, and bytes that are changed by chance.

func TestShortTexts(t *testing.T) {
	pieces := []string{"\r", "\n", "\r\n", "G / HTTP/1.0\r\n", "G", "1", ":", "Content-Length:1\r\n"}
	var try func(s string, left int)
	try = func(s string, left int) {
		readings := beginnings(s, 1)
		var bytes []int
		for i := range len(s) {
			bytes = append(bytes, i)
		}
		wantPieces(t, s, 1, readings, false)
		wantPieces(t, s, 1, readings, true, bytes...)
		for _, piece := range pieces {
			if left > 0 {
				try(s+piece, left-1)
			}
		}
	}
	try("", 4)
	try("G / HTTP/1.0\r\nContent-Length:1\r\n\r\n", 3)
	try(lines("G / HTTP/1.1", "Host:h", "Transfer-Encoding:chunked"), 3)
}

func TestChangedBytes(t *testing.T) {
	d := dice.New(111)
	for range 4000 {
		s := ""
		for range d.Below(3) + 1 {
			s += drawDraft(d).text()
		}
		for range d.Below(3) + 1 {
			at := d.Below(len(s))
			other := []string{"", string([]byte{byte(d.Below(256))}), "\r", "\n", "\r\n", " ", "0", ":"}[d.Below(8)]
			s = s[:at] + other + s[at+d.Below(2):]
		}
		all := readAll(s, 20)
		var want []inflow.Request
		for _, w := range all.requests {
			want = append(want, w.request)
		}
		wantDrawn(t, d, s, 20, want, all.status)
	}
}

// Long connections, which are gone through just once.

func TestManyRequestsAtOnce(t *testing.T) {
	const count = 1 << 17
	r := inflow.New(1)
	r.Feed(strings.Repeat("\r\nG / HTTP/1.0\r\nContent-Length:1\r\n\r\nx", count))
	length := r.Len()
	for i := range count {
		if request, whole, status := r.Next(); !whole || status != 0 || request.Body != "x" {
			t.Fatalf("the request %d: %v, %v, %d", i, request, whole, status)
		}
		if r.Len() != length-(i+1)*(length/count) {
			t.Fatalf("Len() = %d behind the request %d", r.Len(), i)
		}
	}
	wantNone(t, r, 0)
	wantUnused(t, r, "")
}

func TestBytesByThousands(t *testing.T) {
	const count = 1 << 20
	// Empty lines without end.
	r := inflow.New(count)
	for range count {
		r.Feed("\r\n")
		if _, whole, status := r.Next(); whole || status != 0 || r.Begun() {
			t.Fatalf("%v, %d", whole, status)
		}
	}
	if r.Len() != 2*count {
		t.Errorf("Len() = %d", r.Len())
	}
	r.Feed(lines("GET / HTTP/1.1", "Host: h"))
	wantRequest(t, r, plain(1, "h", 0))
	// Bodies, a byte at a time.
	for _, s := range []string{lines("POST / HTTP/1.1", "Host: h", "Content-Length: "+strconv.Itoa(count)), lines("POST / HTTP/1.1", "Host: h", "Transfer-Encoding: chunked") + strconv.FormatInt(count, 16) + "\r\n"} {
		r.Feed(s)
		for range count {
			if _, whole, status := r.Next(); whole || status != 0 || !r.Begun() {
				t.Fatalf("%v, %d", whole, status)
			}
			r.Feed("x")
		}
		if strings.Contains(s, "chunked") {
			r.Feed("\r\n0\r\n\r\n")
		}
		if request, whole, status := r.Next(); !whole || status != 0 || request.Body != strings.Repeat("x", count) {
			t.Fatalf("%d bytes, %v, %d", len(request.Body), whole, status)
		}
	}
	wantUnused(t, r, "")
}

// P1: what is asked meanwhile changes no answer.
func TestAskedAgain(t *testing.T) {
	s := "\r\n" + lines("POST / HTTP/1.1", "Host: h", "Content-Length: 3") + "abc" + lines("GET / HTTP/1.0") + "\n"
	for range 20 {
		r := inflow.New(3)
		for i := range len(s) {
			r.Feed(s[i : i+1])
			for range 3 {
				r.Begun()
				r.Len()
			}
		}
		wantRequest(t, r, post("Content-Length", "3", "abc"))
		r.Begun()
		wantRequest(t, r, plain(0, "", 0))
		r.Len()
		wantNone(t, r, 400)
	}
}
