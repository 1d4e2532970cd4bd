package head_test

import (
	"regexp"
	"slices"
	"strconv"
	"strings"
	"testing"

	"barbican/api"
	"barbican/dice"
	"barbican/head"
)

// The forms of the lines, for texts whose bytes are written as runes.
var (
	startForm  = regexp.MustCompile("^([0-9A-Za-z!#$%&'*+.^_|~`-]{1,16})\\x20([\\x21-\\x7e]+)\\x20HTTP/([0-9])\\.([0-9])$")
	statusForm = regexp.MustCompile(`^HTTP/([0-9])\.([0-9])\x20([1-5][0-9][0-9])(?:\x20([\t\x20-\x7e\x{80}-\x{ff}]*))?$`)
	fieldForm  = regexp.MustCompile("^([0-9A-Za-z!#$%&'*+.^_|~`-]+):[\\t\\x20]*((?:[\\x21-\\x7e\\x{80}-\\x{ff}](?:[\\t\\x20-\\x7e\\x{80}-\\x{ff}]*[\\x21-\\x7e\\x{80}-\\x{ff}])?)?)[\\t\\x20]*$")
)

// one is a text of one byte.
func one(c int) string {
	return string([]byte{byte(c)})
}

// runes writes each byte of s as the rune of its number.
func runes(s string) string {
	text := make([]rune, len(s))
	for i := range len(s) {
		text[i] = rune(s[i])
	}
	return string(text)
}

// bytesOf takes back what runes did.
func bytesOf(s string) string {
	var text []byte
	for _, r := range s {
		text = append(text, byte(r))
	}
	return string(text)
}

// list is a list of fields, by names and values in turn.
func list(texts ...string) []api.Field {
	l := []api.Field{}
	for i := 0; i < len(texts); i += 2 {
		l = append(l, api.Field{Name: texts[i], Value: texts[i+1]})
	}
	return l
}

// many is n right fields, and their lines.
func many(n int) ([]api.Field, string) {
	l, lines := []api.Field{}, ""
	for i := range n {
		l = append(l, api.Field{Name: "N" + strconv.Itoa(i), Value: "v" + strconv.Itoa(i)})
		lines += l[i].Name + ": " + l[i].Value + "\r\n"
	}
	return l, lines
}

// texts are all texts of no more than so many of those pieces.
func texts(pieces []string, most int) []string {
	all := []string{""}
	for from, length := 0, 0; length < most; length++ {
		end := len(all)
		for ; from < end; from++ {
			for _, piece := range pieces {
				all = append(all, all[from]+piece)
			}
		}
	}
	return all
}

// The calls, in another way: byte by byte as they come, with lines judged by patterns.

// machine is told one byte after the other.
type machine struct {
	request bool
	line    []byte
	is13    bool // whether a 13 waits for what comes behind it
	first   bool // whether the first line has been taken
	head    api.Head
	whole   bool
	wrong   api.Errno
}

func (m *machine) take(c byte) {
	switch bound := 512; {
	case m.is13 && c != 10, !m.is13 && c == 10:
		m.wrong = 80
	case m.is13:
		m.is13 = false
		m.judge(runes(string(m.line)))
		m.line = nil
	case c == 13:
		m.is13 = true
	default:
		m.line = append(m.line, c)
		if !m.first {
			bound = 1100
		}
		if len(m.line) > bound && m.first {
			m.wrong = 83
		} else if len(m.line) > bound {
			m.wrong = 82
		}
	}
}

func (m *machine) judge(line string) {
	switch {
	case m.first && line == "":
		m.whole = true
	case m.first && len(m.head.Fields) == 32:
		m.wrong = 83
	case m.first:
		f, e := field(line)
		m.head.Fields, m.wrong = append(m.head.Fields, f), e
	case m.request && line == "":
	case m.request:
		m.first = true
		m.start(startForm.FindStringSubmatch(line))
	default:
		m.first = true
		m.status(statusForm.FindStringSubmatch(line))
	}
}

func (m *machine) start(parts []string) {
	if parts == nil {
		m.wrong = 80
		return
	}
	m.head.Method, m.head.Target = parts[1], parts[2]
	m.version(parts[3], parts[4])
}

func (m *machine) status(parts []string) {
	if parts == nil {
		m.wrong = 80
		return
	}
	m.head.Status, _ = strconv.Atoi(parts[3])
	m.head.Reason = bytesOf(parts[4])
	m.version(parts[1], parts[2])
}

func (m *machine) version(major string, minor string) {
	if major != "1" {
		m.wrong = 81
	}
	m.head.Minor, _ = strconv.Atoi(minor)
}

// field is Field of a line whose bytes are written as runes.
func field(line string) (api.Field, api.Errno) {
	parts := fieldForm.FindStringSubmatch(line)
	if parts == nil {
		return api.Field{}, 70
	}
	return api.Field{Name: parts[1], Value: bytesOf(parts[2])}, 0
}

func reading(data string, request bool) (api.Head, int, api.Errno) {
	m := machine{request: request}
	for i := range len(data) {
		m.take(data[i])
		if m.wrong != 0 {
			return api.Head{}, 0, m.wrong
		}
		if m.whole {
			return m.head, i + 1, 0
		}
	}
	return api.Head{}, 0, 0
}

// What is wanted.

func same(a api.Head, b api.Head) bool {
	return a.Method == b.Method && a.Target == b.Target && a.Status == b.Status && a.Reason == b.Reason && a.Minor == b.Minor && slices.Equal(a.Fields, b.Fields)
}

// short is a text for a message.
func short(data string) string {
	if len(data) > 200 {
		return strconv.Quote(data[:80]) + " .. " + strconv.Quote(data[len(data)-80:]) + ", of " + strconv.Itoa(len(data)) + " bytes"
	}
	return strconv.Quote(data)
}

// wantCall asks one of the two calls, by whether it is of requests.
func wantCall(t *testing.T, request bool, data string, want api.Head, size int, e api.Errno) {
	t.Helper()
	name, call := "Response", head.Response
	if request {
		name, call = "Request", head.Request
	}
	h, n, got := call(data)
	if !same(h, want) || n != size || got != e {
		t.Fatalf("%s(%s) = %#v, %d, %d, want %#v, %d, %d", name, short(data), h, n, got, want, size, e)
	}
}

// wantRequest wants all of data to be a request's head, also with bytes behind it.
func wantRequest(t *testing.T, data string, want api.Head) {
	t.Helper()
	wantCall(t, true, data, want, len(data), 0)
	wantCall(t, true, data+"x", want, len(data), 0)
}

// wantResponse wants all of data to be a response's head, also with bytes behind it.
func wantResponse(t *testing.T, data string, want api.Head) {
	t.Helper()
	wantCall(t, false, data, want, len(data), 0)
	wantCall(t, false, data+"x", want, len(data), 0)
}

func wantNoRequest(t *testing.T, data string, e api.Errno) {
	t.Helper()
	wantCall(t, true, data, api.Head{}, 0, e)
}

func wantNoResponse(t *testing.T, data string, e api.Errno) {
	t.Helper()
	wantCall(t, false, data, api.Head{}, 0, e)
}

func wantField(t *testing.T, line string, name string, value string) {
	t.Helper()
	if f, e := head.Field(line); f.Name != name || f.Value != value || e != 0 {
		t.Fatalf("Field(%s) = %q, %d, want %q, %q", short(line), f, e, name, value)
	}
}

func wantNoField(t *testing.T, line string) {
	t.Helper()
	if f, e := head.Field(line); f != (api.Field{}) || e != 70 {
		t.Fatalf("Field(%s) = %q, %d, want ErrField", short(line), f, e)
	}
}

// check holds the calls against those written in another way.
func check(t *testing.T, data string) {
	t.Helper()
	for _, request := range []bool{true, false} {
		h, n, e := reading(data, request)
		wantCall(t, request, data, h, n, e)
	}
}

func checkField(t *testing.T, line string) {
	t.Helper()
	want, e := field(runes(line))
	if f, got := head.Field(line); f != want || got != e {
		t.Fatalf("Field(%s) = %q, %d, want %q, %d", short(line), f, got, want, e)
	}
}

// checkCut checks all beginnings of data.
func checkCut(t *testing.T, data string) {
	t.Helper()
	for n := range len(data) + 1 {
		check(t, data[:n])
	}
}

// first is the first line of a head that is otherwise right, by whether it is a request's.
func first(request bool) string {
	if request {
		return "GET / HTTP/1.1\r\n"
	}
	return "HTTP/1.1 200 OK\r\n"
}

// firstHead is the head of such a line, with fields.
func firstHead(request bool, l []api.Field) api.Head {
	if request {
		return api.Head{Method: "GET", Target: "/", Minor: 1, Fields: l}
	}
	return api.Head{Status: 200, Reason: "OK", Minor: 1, Fields: l}
}

// wantFields wants those lines behind a first line, and an empty line, to be read as those fields.
func wantFields(t *testing.T, lines string, l []api.Field) {
	t.Helper()
	for _, request := range []bool{true, false} {
		data := first(request) + lines + "\r\n"
		wantCall(t, request, data, firstHead(request, l), len(data), 0)
		wantCall(t, request, data+"\n", firstHead(request, l), len(data), 0)
	}
}

// wantNoFields wants an error, or nothing yet, of a first line and what stands behind it.
func wantNoFields(t *testing.T, behind string, e api.Errno) {
	t.Helper()
	for _, request := range []bool{true, false} {
		wantCall(t, request, first(request)+behind, api.Head{}, 0, e)
	}
}

// The chapter's examples.
func TestExamples(t *testing.T) {
	wantCall(t, true, "\r\nGET /a HTTP/1.1\r\nHost:  h \r\n\r\nrest", api.Head{Method: "GET", Target: "/a", Minor: 1, Fields: list("Host", "h")}, 32, api.OK)
	wantNoRequest(t, "GET /a HTTP/1.1\r\n", api.OK)
	wantNoRequest(t, "GET /a HTTP/1.1\n", api.ErrLine)
	wantNoRequest(t, "GET  /a HTTP/1.1\r\n", api.ErrLine)
	wantNoRequest(t, "GET /a HTTP/2.0\r\n", api.ErrVersion)
	wantNoRequest(t, "GET /a HTTP/1.1\r\n x: y\r\n", api.ErrField)
	wantResponse(t, "HTTP/1.1 204\r\n\r\n", api.Head{Status: 204, Minor: 1})
}

func TestNumbers(t *testing.T) {
	if api.ErrLine != 80 || api.ErrVersion != 81 || api.ErrLong != 82 || api.ErrLarge != 83 || api.ErrField != 70 {
		t.Error("the errors have other numbers")
	}
	if api.MaxLine != 1100 || api.MaxField != 512 || api.MaxFields != 32 {
		t.Error("the limits have other numbers")
	}
}

// Ordinary heads.

func TestRequests(t *testing.T) {
	wantRequest(t, "GET / HTTP/1.1\r\n\r\n", api.Head{Method: "GET", Target: "/", Minor: 1})
	wantRequest(t, "GET / HTTP/1.0\r\n\r\n", api.Head{Method: "GET", Target: "/"})
	wantRequest(t, "POST /a/b?c=d HTTP/1.1\r\nHost: h:80\r\nContent-Length: 3\r\n\r\n", api.Head{Method: "POST", Target: "/a/b?c=d", Minor: 1, Fields: list("Host", "h:80", "Content-Length", "3")})
	wantRequest(t, "CONNECT h:443 HTTP/1.1\r\nHost: h\r\n\r\n", api.Head{Method: "CONNECT", Target: "h:443", Minor: 1, Fields: list("Host", "h")})
	wantRequest(t, "OPTIONS * HTTP/1.1\r\n\r\n", api.Head{Method: "OPTIONS", Target: "*", Minor: 1})
	wantRequest(t, "get HTTP://H/../%zz#! HTTP/1.9\r\nHost:h\r\nhost:g\r\nHOST:\r\n\r\n", api.Head{Method: "get", Target: "HTTP://H/../%zz#!", Minor: 9, Fields: list("Host", "h", "host", "g", "HOST", "")})
	// A target may look like a version, and a method too, as far as it is a token.
	wantRequest(t, "HTTP HTTP/1.1 HTTP/1.1\r\n\r\n", api.Head{Method: "HTTP", Target: "HTTP/1.1", Minor: 1})
	wantRequest(t, "200 HTTP/2.0 HTTP/1.0\r\n\r\n", api.Head{Method: "200", Target: "HTTP/2.0"})
}

func TestResponses(t *testing.T) {
	wantResponse(t, "HTTP/1.1 200 OK\r\n\r\n", api.Head{Status: 200, Reason: "OK", Minor: 1})
	wantResponse(t, "HTTP/1.0 404 Not Found\r\n\r\n", api.Head{Status: 404, Reason: "Not Found"})
	wantResponse(t, "HTTP/1.1 100 \r\n\r\n", api.Head{Status: 100, Minor: 1})
	wantResponse(t, "HTTP/1.1 200 OK\r\nContent-Length: 2\r\nVia: 1.0 a, 1.1 b\r\nvia:c\r\n\r\n", api.Head{Status: 200, Reason: "OK", Minor: 1, Fields: list("Content-Length", "2", "Via", "1.0 a, 1.1 b", "via", "c")})
}

// What is a head for the one call is none for the other.
func TestOfTheOtherKind(t *testing.T) {
	for _, data := range []string{"GET / HTTP/1.1\r\n\r\n", "200 / HTTP/1.1\r\n\r\n", "HTTP HTTP/1.1 HTTP/1.1\r\n\r\n"} {
		wantNoResponse(t, data, api.ErrLine)
	}
	for _, data := range []string{"HTTP/1.1 200 OK\r\n\r\n", "HTTP/1.1 200\r\n\r\n", "HTTP/1.1 200 HTTP/1.1\r\n\r\n"} {
		wantNoRequest(t, data, api.ErrLine)
	}
}

// P8.1 and P8.2: what isn't whole yet.

func TestOfNoByte(t *testing.T) {
	wantNoRequest(t, "", api.OK)
	wantNoResponse(t, "", api.OK)
}

func heads() []string {
	_, full := many(32)
	_, tooMany := many(33)
	return []string{
		"GET /a HTTP/1.1\r\nHost:  h \r\n\r\n", "\r\nGET /a HTTP/1.0\r\nHost: h\r\nX:\r\n\r\n", "\r\n\r\n\r\nPOST / HTTP/1.1\r\n\r\n", "HTTP/1.1 200 OK\r\nA: b\r\n\r\n", "HTTP/1.0 204\r\n\r\n", "HTTP/1.1 404 \r\nA:\tb c\t\r\nD: e\r\n\r\n",
		"GET / HTTP/1.1\r\n" + full + "\r\n", "HTTP/1.1 200\r\n" + full + "\r\n", "GET / HTTP/1.1\r\n" + tooMany + "\r\n", "HTTP/1.1 200\r\n" + tooMany + "\r\n",
		"\n", "\r\n\n", "\r\r\n", "\r\n\r\n\rx", "GET / HTTP/2.0\r\nA: b\r\n\r\n", "GET / HTTP/1.1\r\nA b\r\n\r\n", "HTTP/2.0 200\r\nA: b\r\n\r\n", "HTTP/1.1 2000\r\nA: b\r\n\r\n", "HTTP/1.1 200\r\nA\r\n\r\n",
		"GET / HTTP/1.1\r\nA: b\r\n\r", "GET / HTTP/1.1\r\nA: b\r\n\rx", "GET / HTTP/1.1\r\nA: b\n\r\n", "GET / HTTP/1.1\r\r\n\r\n", "HTTP/1.1 200\r\nA: b\r\n\rx", "HTTP/1.1 200\r\nA: \rb\r\n\r\n", "GET / HTTP/1.1\r\n: b\r\n\r\n", "GET / HTTP/1.1\r\nA : b\r\n\r\n",
	}
}

// A head that is cut off anywhere isn't whole; a wrong one is told as soon as its bytes decide it.
func TestOfHeadsCutOff(t *testing.T) {
	for _, data := range heads() {
		checkCut(t, data)
	}
	for _, data := range []string{"GET /a HTTP/1.1\r\nHost:  h \r\n\r\n", "\r\n\r\nGET /a HTTP/1.0\r\nHost: h\r\nX:\r\n\r\n"} {
		for n := range len(data) {
			wantNoRequest(t, data[:n], api.OK)
		}
	}
	for _, data := range []string{"HTTP/1.1 200 OK\r\nA: b\r\n\r\n", "HTTP/1.0 204\r\n\r\n"} {
		for n := range len(data) {
			wantNoResponse(t, data[:n], api.OK)
		}
	}
}

// What is decided stays so, whatever comes behind.
func TestOfBytesBehind(t *testing.T) {
	for _, data := range heads() {
		for _, request := range []bool{true, false} {
			h, n, e := reading(data, request)
			if n == 0 && e == 0 {
				continue
			}
			for _, behind := range []string{"", "x", "\r", "\n", "\r\n", "\r\n\r\n", "\rx", "\x00", "\xff", "GET / HTTP/1.1\r\n\r\n", " : \r\n", strings.Repeat("x", 2000), strings.Repeat("A: b\r\n", 40)} {
				wantCall(t, request, data+behind, h, n, e)
			}
		}
	}
	for c := range 256 {
		wantCall(t, true, "GET / HTTP/1.1\r\nA: b\r\n\r\n"+one(c), firstHead(true, list("A", "b")), 24, 0)
		wantCall(t, false, "HTTP/1.1 200 OK\r\nA: b\r\n\r\n"+one(c), firstHead(false, list("A", "b")), 25, 0)
	}
}

// A line that can't become right is not told ahead of its end, as far as its ends and its bound allow it.
func TestOfWrongLinesNotWhole(t *testing.T) {
	for _, line := range []string{"x", " ", "\x00", "GET", "GET  /", " GET / HTTP/1.1", "GET / HTTP/2.0", "GET / HTTP/1.1 ", "HTTP/2.0 200", "HTTP/1.1 600", "/ / /", strings.Repeat("M", 17) + " / HTTP/1.1", "\xff\xff", ": x"} {
		wantNoRequest(t, line, api.OK)
		wantNoRequest(t, line+"\r", api.OK)
		wantNoRequest(t, "\r\n"+line, api.OK)
		wantNoResponse(t, line, api.OK)
		wantNoResponse(t, line+"\r", api.OK)
		wantNoFields(t, line, api.OK)
		wantNoFields(t, line+"\r", api.OK)
		wantNoFields(t, "A: b\r\n"+line+"\r", api.OK)
	}
}

// P8.1: empty lines ahead of a request.

func TestOfEmptyLinesAhead(t *testing.T) {
	for _, n := range []int{0, 1, 2, 3, 31, 32, 33, 34, 550, 551, 1100, 1101, 5000, 100000} {
		ahead := strings.Repeat("\r\n", n)
		wantNoRequest(t, ahead, api.OK)
		wantNoRequest(t, ahead+"\r", api.OK)
		wantNoRequest(t, ahead+"\n", api.ErrLine)
		wantNoRequest(t, ahead+"\r\r", api.ErrLine)
		wantNoRequest(t, ahead+"\r\r\n", api.ErrLine)
		wantNoRequest(t, ahead+"\rG", api.ErrLine)
		wantNoRequest(t, ahead+"G", api.OK)
		wantNoRequest(t, ahead+" \r\n", api.ErrLine)
		wantNoRequest(t, ahead+"\t\r\n\r\n", api.ErrLine)
		wantNoRequest(t, ahead+"GET / HTTP/1.1\r\n", api.OK)
		wantNoRequest(t, ahead+"GET / HTTP/1.1\r\n\r", api.OK)
		wantNoRequest(t, ahead+"GET / HTTP/1.1\r\nA: b\r\n", api.OK)
		wantNoRequest(t, ahead+"GET / HTTP/2.1\r\n", api.ErrVersion)
		wantNoRequest(t, ahead+"GET / HTTP/1.1\r\nA\r\n", api.ErrField)
		wantNoRequest(t, ahead+strings.Repeat("x", 1100), api.OK)
		wantNoRequest(t, ahead+strings.Repeat("x", 1101), api.ErrLong)
		wantRequest(t, ahead+"GET / HTTP/1.1\r\n\r\n", firstHead(true, nil))
		wantRequest(t, ahead+"GET / HTTP/1.1\r\nA: b\r\n\r\n", firstHead(true, list("A", "b")))
		data := ahead + "GET / HTTP/1.1\r\n\r\n"
		wantCall(t, true, data+"\r\n\r\n", firstHead(true, nil), len(data), 0)
	}
}

// P8.2: none ahead of a response.
func TestOfEmptyLinesAheadOfAResponse(t *testing.T) {
	wantNoResponse(t, "\r", api.OK)
	wantNoResponse(t, "\r\n", api.ErrLine)
	wantNoResponse(t, "\r\n\r\n", api.ErrLine)
	wantNoResponse(t, "\r\nHTTP/1.1 200 OK\r\n\r\n", api.ErrLine)
	wantNoResponse(t, "\r\n\r\nHTTP/1.1 200 OK\r\n\r\n", api.ErrLine)
	wantNoResponse(t, "\n", api.ErrLine)
	wantNoResponse(t, "\rH", api.ErrLine)
}

// Line ends that are none.

func TestOfWrongLineEnds(t *testing.T) {
	lines := []string{"", "x", "GET / HTTP/1.1", "HTTP/1.1 200 OK", "A: b", "\x00", " "}
	for _, line := range lines {
		for _, end := range []string{"\n", "\r\r", "\r\r\n", "\rx", "\r ", "\r\x00", "\n\r", "\n\r\n", "\rA: b\r\n"} {
			wantNoRequest(t, line+end, api.ErrLine)
			wantNoRequest(t, "\r\n"+line+end, api.ErrLine)
			wantNoResponse(t, line+end, api.ErrLine)
			wantNoFields(t, line+end, api.ErrLine)
			wantNoFields(t, "C: d\r\nE:\r\n"+line+end, api.ErrLine)
			wantNoFields(t, "C: d\r\n"+line+end+line+"\r\n\r\n", api.ErrLine)
		}
		wantNoRequest(t, line+"\r", api.OK)
		wantNoResponse(t, line+"\r", api.OK)
		wantNoFields(t, line+"\r", api.OK)
		wantNoFields(t, "C: d\r\n"+line+"\r", api.OK)
	}
}

// Behind a 13 each byte but the 10 is wrong, and the 10 behind each byte but the 13.
func TestOfLineEndsOfEachByte(t *testing.T) {
	for c := range 256 {
		e := api.ErrLine
		if c == 10 {
			e = api.OK
		}
		wantNoRequest(t, "GET / HTTP/1.1\r"+one(c), e)
		wantNoResponse(t, "HTTP/1.1 200\r"+one(c), e)
		wantNoRequest(t, "\r"+one(c), e)
		wantNoFields(t, "A: b\r"+one(c), e)
		if c == 10 {
			wantFields(t, "", nil)
		} else {
			wantNoFields(t, "\r"+one(c), api.ErrLine)
		}
		if c == 13 {
			continue
		}
		wantNoRequest(t, "GET / HTTP/1.1"+one(c)+"\n", api.ErrLine)
		wantNoResponse(t, "HTTP/1.1 200 "+one(c)+"\n", api.ErrLine)
		wantNoFields(t, "A: b"+one(c)+"\n", api.ErrLine)
		wantNoFields(t, one(c)+"\n", api.ErrLine)
	}
}

// A line's bytes are looked at up to its end ahead of its form, and those behind its end not.
func TestOfLineEndsAheadOfForms(t *testing.T) {
	for _, request := range []bool{true, false} {
		wantCall(t, request, "\x00 \x00\rx", api.Head{}, 0, api.ErrLine)
		wantCall(t, request, first(request)+"no field\n", api.Head{}, 0, api.ErrLine)
		wantCall(t, request, first(request)+"no field\rx\r\n", api.Head{}, 0, api.ErrLine)
		wantCall(t, request, first(request)+"no field\r\n\n", api.Head{}, 0, api.ErrField)
		wantCall(t, request, first(request)+"no field\r\n\rx", api.Head{}, 0, api.ErrField)
		wantCall(t, request, first(request)+"no field\r", api.Head{}, 0, api.OK)
	}
	wantNoRequest(t, "GET / HTTP/2.0\n", api.ErrLine)
	wantNoRequest(t, "GET / HTTP/2.0\rx", api.ErrLine)
	wantNoRequest(t, "GET / HTTP/2.0\r\n\n", api.ErrVersion)
	wantNoRequest(t, "GET / HTTP/2.0\r\n\rx", api.ErrVersion)
	wantNoResponse(t, "HTTP/2.0 200\n", api.ErrLine)
	wantNoResponse(t, "HTTP/2.0 200\r\n\n", api.ErrVersion)
}

// Bounds.

// checkBound tells of n bytes of a line, none of them of its end, what is asked for by what stands behind them.
func checkBound(t *testing.T, n int, bound int, beyond api.Errno, of func(end string, e api.Errno)) {
	t.Helper()
	for _, end := range []string{"", "\r"} {
		e := api.OK
		if n > bound {
			e = beyond
		}
		of(end, e)
	}
	for _, end := range []string{"\n", "\r\r", "\rx", "\r\x00", "\n\r\n", "\r\r\n"} {
		e := api.ErrLine
		if n > bound {
			e = beyond
		}
		of(end, e)
	}
	for _, end := range []string{"x", "x\r", "x\n", "x\r\n", "xx", "x\rx", " ", "\x00", "x\x00\r\n\r\n"} {
		e := api.OK
		switch {
		case n >= bound:
			e = beyond
		case end == "x\n" || end == "x\rx":
			e = api.ErrLine
		case end == "xx" && n+2 > bound:
			e = beyond
		case strings.Contains(end, "\r\n"):
			continue
		}
		of(end, e)
	}
}

func TestOfLongStartLines(t *testing.T) {
	for _, n := range []int{1, 2, 511, 512, 513, 1098, 1099, 1100, 1101, 1102, 2200, 100000} {
		text := strings.Repeat("x", n)
		checkBound(t, n, api.MaxLine, api.ErrLong, func(end string, e api.Errno) {
			wantNoRequest(t, text+end, e)
			wantNoRequest(t, "\r\n\r\n"+text+end, e)
			wantNoResponse(t, text+end, e)
		})
	}
}

// startOf, statusOf and fieldOf are right lines of n bytes, and what is read of them.
func startOf(n int) (string, api.Head) {
	h := api.Head{Method: "GET", Target: strings.Repeat("/", n-13), Minor: 1}
	return "GET " + h.Target + " HTTP/1.1", h
}

func statusOf(n int) (string, api.Head) {
	h := api.Head{Status: 200, Reason: strings.Repeat("r", n-13), Minor: 1}
	return "HTTP/1.1 200 " + h.Reason, h
}

func fieldOf(n int) (string, []api.Field) {
	value := strings.Repeat("v", n-2)
	return "A:" + value, list("A", value)
}

func TestOfRightLinesAtTheBound(t *testing.T) {
	for _, n := range []int{14, 512, 513, 1098, 1099, 1100} {
		start, h := startOf(n)
		wantRequest(t, start+"\r\n\r\n", h)
		wantRequest(t, "\r\n"+start+"\r\n\r\n", h)
		wantNoRequest(t, start, api.OK)
		wantNoRequest(t, start+"\r", api.OK)
		status, h := statusOf(n)
		wantResponse(t, status+"\r\n\r\n", h)
		wantNoResponse(t, status, api.OK)
		wantNoResponse(t, status+"\r", api.OK)
	}
	for _, n := range []int{1101, 1102, 1200, 5000} {
		for _, end := range []string{"", "\r", "\r\n", "\r\n\r\n", "\n", "\rx"} {
			start, _ := startOf(n)
			wantNoRequest(t, start+end, api.ErrLong)
			wantNoRequest(t, "\r\n"+start+end, api.ErrLong)
			status, _ := statusOf(n)
			wantNoResponse(t, status+end, api.ErrLong)
		}
	}
	start, _ := startOf(1100)
	wantNoRequest(t, strings.Replace(start, "1.1", "2.1", 1)+"\r\n", api.ErrVersion)
	wantNoRequest(t, strings.Replace(start, " ", "\t", 1)+"\r\n", api.ErrLine)
	checkCut(t, start+"\r\nA: b\r\n\r\n")
	status, _ := statusOf(1100)
	checkCut(t, status+"\r\nA: b\r\n\r\n")
}

func TestOfFieldsAtTheBound(t *testing.T) {
	for _, n := range []int{2, 3, 510, 511, 512} {
		line, l := fieldOf(n)
		wantFields(t, line+"\r\n", l)
		wantFields(t, "B: c\r\n"+line+"\r\n"+line+"\r\n", append(append(list("B", "c"), l...), l...))
		wantNoFields(t, line, api.OK)
		wantNoFields(t, line+"\r", api.OK)
		wantNoFields(t, line+"\r\n", api.OK)
	}
	for _, n := range []int{513, 514, 1100, 1101, 1102, 5000} {
		line, _ := fieldOf(n)
		for _, end := range []string{"", "\r", "\r\n", "\r\n\r\n", "\n", "\rx"} {
			wantNoFields(t, line+end, api.ErrLarge)
			wantNoFields(t, "B: c\r\n"+line+end, api.ErrLarge)
		}
	}
	// Blanks around the value count, and a line of blanks has a bound too.
	wantFields(t, "A:"+strings.Repeat(" ", 509)+"b\r\n", list("A", "b"))
	wantFields(t, "A:b"+strings.Repeat("\t", 509)+"\r\n", list("A", "b"))
	wantFields(t, "A:"+strings.Repeat(" ", 510)+"\r\n", list("A", ""))
	wantNoFields(t, "A:"+strings.Repeat(" ", 510)+"b\r\n", api.ErrLarge)
	wantNoFields(t, "A:b"+strings.Repeat(" ", 510)+"\r\n", api.ErrLarge)
	wantNoFields(t, "A:"+strings.Repeat(" ", 511), api.ErrLarge)
	wantFields(t, strings.Repeat("n", 511)+":\r\n", list(strings.Repeat("n", 511), ""))
	wantNoFields(t, strings.Repeat("n", 512)+":\r\n", api.ErrLarge)
	wantNoFields(t, strings.Repeat("n", 512)+"\r\n", api.ErrField)
	for n := 505; n < 520; n++ {
		text := strings.Repeat("x", n)
		checkBound(t, n, api.MaxField, api.ErrLarge, func(end string, e api.Errno) {
			wantNoFields(t, text+end, e)
			wantNoFields(t, "B: c\r\n"+text+end, e)
		})
	}
	line, _ := fieldOf(512)
	checkCut(t, first(true)+line+"\r\n"+line+"\r\n\r\n")
	checkCut(t, first(false)+line+"\r\n"+line+"v\r\n\r\n")
}

// A wrong line end ahead of a bound, at it and behind it: what comes first from the left decides.
func TestOfLineEndsAboutBounds(t *testing.T) {
	for _, wrong := range []string{"\n", "\rx", "\r\r", "\r\r\n"} {
		for n := 1090; n < 1110; n++ {
			e := api.ErrLine
			if n > 1100 {
				e = api.ErrLong
			}
			for _, behind := range []string{"", "x", "\r\n", strings.Repeat("x", 1200)} {
				wantNoRequest(t, strings.Repeat("x", n)+wrong+behind, e)
				wantNoResponse(t, strings.Repeat("x", n)+wrong+behind, e)
			}
		}
		for n := 505; n < 520; n++ {
			e := api.ErrLine
			if n > 512 {
				e = api.ErrLarge
			}
			for _, behind := range []string{"", "x", "\r\n", strings.Repeat("x", 1200)} {
				wantNoFields(t, strings.Repeat("x", n)+wrong+behind, e)
				wantNoFields(t, "A: b\r\n"+strings.Repeat("x", n)+wrong+behind, e)
			}
		}
		for at := range 600 {
			e := api.ErrLine
			if at > 512 {
				e = api.ErrLarge
			}
			wantNoFields(t, strings.Repeat("x", at)+wrong+strings.Repeat("x", 600-at), e)
		}
	}
}

// How many fields there are.

func TestOfManyFields(t *testing.T) {
	for n := range 33 {
		l, lines := many(n)
		wantFields(t, lines, l)
		wantNoFields(t, lines, api.OK)
		wantNoFields(t, lines+"\r", api.OK)
		wantNoFields(t, lines+"\rx", api.ErrLine)
		wantNoFields(t, lines+"\n", api.ErrLine)
	}
	for n := 33; n < 100; n++ {
		_, lines := many(n)
		wantNoFields(t, lines, api.ErrLarge)
		wantNoFields(t, lines+"\r\n", api.ErrLarge)
	}
	same := strings.Repeat("a:\r\n", 32)
	wantFields(t, same, slices.Repeat(list("a", ""), 32))
	wantNoFields(t, same+"a:\r\n", api.ErrLarge)
	checkCut(t, first(true)+same+"a:\r\n\r\n")
	checkCut(t, first(false)+same+"\r\n")
	// Long ones: a head has no bound but those of its lines and of their number.
	line, l := fieldOf(512)
	wantFields(t, strings.Repeat(line+"\r\n", 32), slices.Repeat(l, 32))
	wantNoFields(t, strings.Repeat(line+"\r\n", 33), api.ErrLarge)
}

func TestOfOneFieldMore(t *testing.T) {
	_, lines := many(32)
	_, fewer := many(31)
	for _, more := range []string{"A: b", "a:", "no field", " A: b", "A : b", ": b", "\x00", " ", "\t", strings.Repeat("x", 512), "A:" + strings.Repeat("v", 510)} {
		wantNoFields(t, lines+more, api.OK)
		wantNoFields(t, lines+more+"\r", api.OK)
		wantNoFields(t, lines+more+"\r\n", api.ErrLarge)
		wantNoFields(t, lines+more+"\r\n\r\n", api.ErrLarge)
		wantNoFields(t, lines+more+"\r\n\n", api.ErrLarge)
		wantNoFields(t, lines+more+"\n", api.ErrLine)
		wantNoFields(t, lines+more+"\rx", api.ErrLine)
		e := api.OK
		if _, wrong := field(runes(more)); wrong != 0 {
			e = api.ErrField
		}
		wantNoFields(t, fewer+more+"\r\n", e)
	}
	for _, end := range []string{"", "\r", "\r\n", "\n"} {
		wantNoFields(t, lines+strings.Repeat("x", 513)+end, api.ErrLarge)
		wantNoFields(t, lines+"A:"+strings.Repeat("v", 511)+end, api.ErrLarge)
		wantNoFields(t, lines+"A: b\r\n"+strings.Repeat("x", 513)+end, api.ErrLarge)
	}
}

// The start line.

func TestOfMethods(t *testing.T) {
	for _, method := range []string{"G", "get", "GET", "0", "A-B", "!#$%&'*+-.^_|~`", "ABCDEFGHIJKLMNO", "ABCDEFGHIJKLMNOP"} {
		wantRequest(t, method+" / HTTP/1.1\r\n\r\n", api.Head{Method: method, Target: "/", Minor: 1})
	}
	for _, method := range []string{"", " ", "\t", " GET", "GET\t", "\tGET", "G T", "GET ", "G/T", "GET:", "(GET)", "G,T", "G\x00T", "G\x7fT", "\xc3\x84", "G\xffT", "\"GET\"", "ABCDEFGHIJKLMNOPQ", strings.Repeat("M", 100), strings.Repeat("M", 1000)} {
		wantNoRequest(t, method+" / HTTP/1.1\r\n", api.ErrLine)
		wantNoRequest(t, method+" / HTTP/1.1\r\n\r\n", api.ErrLine)
	}
	for n := 1; n < 40; n++ {
		data := strings.Repeat("M", n) + " / HTTP/1.1\r\n\r\n"
		if n > 16 {
			wantNoRequest(t, data, api.ErrLine)
		} else {
			wantRequest(t, data, api.Head{Method: data[:n], Target: "/", Minor: 1})
		}
	}
}

func TestOfTargets(t *testing.T) {
	for _, target := range []string{"/", "*", "x", "!", "~", "h:443", "http://h/", "//", "/a?b#c", "\"<>\\^`{|}", "HTTP/1.1", strings.Repeat("/", 500)} {
		wantRequest(t, "GET "+target+" HTTP/1.1\r\n\r\n", api.Head{Method: "GET", Target: target, Minor: 1})
	}
	for _, target := range []string{"", " ", "\t", "/ ", " /", "/ /", "/\t", "\t/", "/\x00", "/\x1f", "/\x7f", "/\x80", "/\xff", "/\u00e9", "\x7f", "/\x0b/"} {
		wantNoRequest(t, "GET "+target+" HTTP/1.1\r\n", api.ErrLine)
		wantNoRequest(t, "GET "+target+" HTTP/2.1\r\n", api.ErrLine)
		wantNoRequest(t, "GET "+target+" HTTP/1.1\r\n\r\n", api.ErrLine)
	}
}

// Each byte at each place of the first lines.
func TestOfEachByteInFirstLines(t *testing.T) {
	for _, line := range []string{"GET /a HTTP/1.1", "HTTP/1.1 200 OK", "HTTP/1.1 204", "HTTP/1.0 599 ", "G / HTTP/2.3", "HTTP/3.1 100 x y"} {
		for c := range 256 {
			for at := range len(line) {
				check(t, line[:at]+one(c)+line[at+1:]+"\r\n\r\n")
				check(t, line[:at]+one(c)+line[at:]+"\r\n\r\n")
			}
			check(t, line+one(c)+"\r\n\r\n")
		}
		for at := range len(line) {
			check(t, line[:at]+line[at+1:]+"\r\n\r\n")
		}
	}
}

func TestOfMethodsOfEachByte(t *testing.T) {
	token := regexp.MustCompile("^[0-9A-Za-z!#$%&'*+.^_|~`-]$")
	for c := range 256 {
		for _, method := range []string{one(c), "A" + one(c), one(c) + "A", "A" + one(c) + "A"} {
			data := method + " / HTTP/1.1\r\n\r\n"
			if token.MatchString(runes(one(c))) {
				wantRequest(t, data, api.Head{Method: method, Target: "/", Minor: 1})
			} else {
				wantNoRequest(t, data, api.ErrLine)
			}
		}
	}
}

func TestOfTargetsOfEachByte(t *testing.T) {
	for c := range 256 {
		for _, target := range []string{one(c), "/" + one(c), one(c) + "/", "/" + one(c) + "/"} {
			data := "GET " + target + " HTTP/1.1\r\n\r\n"
			if c >= 33 && c <= 126 {
				wantRequest(t, data, api.Head{Method: "GET", Target: target, Minor: 1})
			} else {
				wantNoRequest(t, data, api.ErrLine)
			}
		}
	}
}

// Between the parts stands one blank, a 32.
func TestOfBlanksBetweenParts(t *testing.T) {
	for _, a := range []string{" ", "", "  ", "\t", " \t", "\t "} {
		for _, b := range []string{" ", "", "  ", "\t", " \t", "\t "} {
			if a == " " && b == " " {
				continue
			}
			for _, version := range []string{"HTTP/1.1", "HTTP/2.0"} {
				wantNoRequest(t, "GET"+a+"/"+b+version+"\r\n", api.ErrLine)
				wantNoRequest(t, "GET"+a+"/"+b+version+"\r\n\r\n", api.ErrLine)
			}
		}
		if a == " " {
			continue
		}
		wantNoResponse(t, "HTTP/1.1"+a+"200 OK\r\n", api.ErrLine)
		wantNoResponse(t, "HTTP/2.0"+a+"200 OK\r\n", api.ErrLine)
		wantNoResponse(t, "HTTP/1.1"+a+"200\r\n", api.ErrLine)
	}
	wantNoResponse(t, "HTTP/1.1 200OK\r\n", api.ErrLine)
	wantNoResponse(t, "HTTP/1.1 200\tOK\r\n", api.ErrLine)
	wantNoResponse(t, "HTTP/1.1 200\t\r\n", api.ErrLine)
	for _, blank := range []string{" ", "\t"} {
		wantNoRequest(t, blank+"GET / HTTP/1.1\r\n", api.ErrLine)
		wantNoRequest(t, "GET / HTTP/1.1"+blank+"\r\n", api.ErrLine)
		wantNoResponse(t, blank+"HTTP/1.1 200 OK\r\n", api.ErrLine)
	}
	for _, line := range []string{"GET", "GET ", "GET /", "GET / ", "GET HTTP/1.1", "/ HTTP/1.1", "GET / / HTTP/1.1", "GET / HTTP/1.1 HTTP/1.1", "HTTP/1.1", "HTTP/1.1 ", " ", "  ", "   "} {
		wantNoRequest(t, line+"\r\n", api.ErrLine)
		wantNoResponse(t, line+"\r\n", api.ErrLine)
	}
}

// Versions, in both kinds of lines.

func wantVersion(t *testing.T, version string, minor int, e api.Errno) {
	t.Helper()
	request, response := "GET / "+version+"\r\n\r\n", version+" 200 OK\r\n\r\n"
	bare := version + " 200\r\n\r\n"
	if e != api.OK {
		wantNoRequest(t, request, e)
		wantNoRequest(t, request[:len(request)-2], e)
		wantNoResponse(t, response, e)
		wantNoResponse(t, response[:len(response)-2], e)
		wantNoResponse(t, bare, e)
		return
	}
	wantRequest(t, request, api.Head{Method: "GET", Target: "/", Minor: minor})
	wantResponse(t, response, api.Head{Status: 200, Reason: "OK", Minor: minor})
	wantResponse(t, bare, api.Head{Status: 200, Minor: minor})
}

func TestOfVersions(t *testing.T) {
	for major := range 10 {
		for minor := range 10 {
			e := api.ErrVersion
			if major == 1 {
				e = api.OK
			}
			wantVersion(t, "HTTP/"+strconv.Itoa(major)+"."+strconv.Itoa(minor), minor, e)
		}
	}
	for _, version := range []string{
		"", "HTTP", "HTTP/", "HTTP/1", "HTTP/1.", "HTTP/.1", "HTTP/.", "HTTP/11", "HTTP/1.1.", "HTTP/1.11", "HTTP/11.1", "HTTP/1.01", "HTTP/01.1", "HTTP/1.1.1", "HTTP/2", "HTTP/2.", "HTTP/2.11", "HTTP/20.0",
		"http/1.1", "Http/1.1", "HTTp/1.1", "hTTP/1.1", "http/2.0", "HTTPS/1.1", "HTT/1.1", "TTP/1.1", "XHTTP/1.1", "HTTP//1.1", "HTTP1.1", "HTTP:1.1", "HTTP\\1.1", "HTTP-1.1", "1.1",
		"HTTP/1,1", "HTTP/1:1", "HTTP/1/1", "HTTP/1-1", "HTTP/1..1", "HTTP/+1.1", "HTTP/1.+1", "HTTP/-1.1", "HTTP/1.-1", "HTTP/a.1", "HTTP/1.a", "HTTP/x.y", "HTTP/1.1x", "HTTP/1.1\t", "HTTP/1.1\x00", "HTTP/1.1;", "HTTP/\xb2.1", "HTTP/1.\xb2", "HTTP/1.\u0661", "HTTP/2.a", "HTTP/2.0x",
	} {
		wantVersion(t, version, 0, api.ErrLine)
	}
	for c := range 256 {
		if c == 13 || c >= 48 && c <= 57 {
			continue
		}
		wantVersion(t, "HTTP/"+one(c)+".1", 0, api.ErrLine)
		wantVersion(t, "HTTP/1."+one(c), 0, api.ErrLine)
		if c != '.' {
			wantVersion(t, "HTTP/1"+one(c)+"1", 0, api.ErrLine)
		}
	}
}

// A line that isn't of its form is told so, whatever its version.
func TestOfVersionsInWrongLines(t *testing.T) {
	for _, version := range []string{"HTTP/1.1", "HTTP/0.9", "HTTP/2.0", "HTTP/3.1", "HTTP/9.9"} {
		for _, line := range []string{"GET  / ", "GET ", " / ", "GET /  ", "G,T / ", strings.Repeat("M", 17) + " / ", "GET /\x80 ", "GET /\t", "", " ", "  "} {
			wantNoRequest(t, line+version+"\r\n", api.ErrLine)
		}
		wantNoRequest(t, "GET / "+version+" \r\n", api.ErrLine)
		for _, rest := range []string{"", " ", "  200", " 99", " 099", " 600", " 2000", " 20", " 2x0", " 200\t", " 200 \x00", " 200 a\x7f", "\t200", " 200OK", " OK", " -200", " +20"} {
			wantNoResponse(t, version+rest+"\r\n", api.ErrLine)
		}
	}
}

// The status line.

func TestOfStatuses(t *testing.T) {
	for status := range 1200 {
		digits := strconv.Itoa(status)
		for _, digits := range []string{digits, "0" + digits, "00" + digits, digits + "0"} {
			for _, reason := range []string{"", " ", " OK"} {
				data := "HTTP/1.1 " + digits + reason + "\r\n\r\n"
				number, _ := strconv.Atoi(digits)
				if len(digits) == 3 && number >= 100 && number <= 599 {
					wantResponse(t, data, api.Head{Status: number, Reason: strings.TrimPrefix(reason, " "), Minor: 1})
				} else {
					wantNoResponse(t, data, api.ErrLine)
				}
			}
		}
	}
	for _, digits := range []string{"", "2", "20", "2000", "099", "000", "600", "999", "0200", "00200", "-200", "+200", "2.0", "20x", "x20", "2 0", "\xb2\xb2\xb2", "0x1", "1e2", "99999999999999999999200"} {
		wantNoResponse(t, "HTTP/1.1 "+digits+"\r\n", api.ErrLine)
		wantNoResponse(t, "HTTP/1.1 "+digits+" OK\r\n", api.ErrLine)
	}
	for _, status := range []int{100, 101, 199, 200, 204, 304, 404, 500, 599} {
		wantResponse(t, "HTTP/1.1 "+strconv.Itoa(status)+"\r\n\r\n", api.Head{Status: status, Minor: 1})
	}
}

// A reason stands as it is, with its blanks.
func TestOfReasons(t *testing.T) {
	for _, reason := range []string{"", " ", "  ", "\t", " \t ", "OK", " OK", "OK ", "\tOK\t", "  a  b  ", "Not Found", "\x80\xff", "\u00e9", "~!:", "200", "HTTP/1.1 200 OK", strings.Repeat(" ", 1087), strings.Repeat("r", 1087)} {
		wantResponse(t, "HTTP/1.1 200 "+reason+"\r\n\r\n", api.Head{Status: 200, Reason: reason, Minor: 1})
		wantResponse(t, "HTTP/1.0 599 "+reason+"\r\nA: b\r\n\r\n", api.Head{Status: 599, Reason: reason, Fields: list("A", "b")})
	}
	for c := range 256 {
		for _, reason := range []string{one(c), "a" + one(c), one(c) + "a", "a" + one(c) + "b", " " + one(c) + " ", "\t" + one(c)} {
			data := "HTTP/1.1 200 " + reason + "\r\n\r\n"
			if c == 9 || c >= 32 && c != 127 {
				wantResponse(t, data, api.Head{Status: 200, Reason: reason, Minor: 1})
			} else {
				wantNoResponse(t, data, api.ErrLine)
			}
		}
	}
}

// P8.3: a field's line, alone and in a head.

// wantLine wants a line to be read as a field by Field, and in a head.
func wantLine(t *testing.T, line string, name string, value string) {
	t.Helper()
	wantField(t, line, name, value)
	wantFields(t, line+"\r\n", list(name, value))
	wantFields(t, "B: c\r\n"+line+"\r\nD: e\r\n", list("B", "c", name, value, "D", "e"))
}

// wantNoLine wants a line to be refused by Field, and in a head.
func wantNoLine(t *testing.T, line string) {
	t.Helper()
	wantNoField(t, line)
	if line == "" || strings.ContainsAny(line, "\r\n") {
		return
	}
	wantNoFields(t, line+"\r\n", api.ErrField)
	wantNoFields(t, "B: c\r\n"+line+"\r\nD: e\r\n\r\n", api.ErrField)
}

func TestOfFieldLines(t *testing.T) {
	wantLine(t, "Host: h", "Host", "h")
	wantLine(t, "Host:h", "Host", "h")
	wantLine(t, "host:\th", "host", "h")
	wantLine(t, "A:  \t b \t ", "A", "b")
	wantLine(t, "A:b c\td", "A", "b c\td")
	wantLine(t, "A: b  c ", "A", "b  c")
	wantLine(t, "A:", "A", "")
	wantLine(t, "A: ", "A", "")
	wantLine(t, "A: \t \t", "A", "")
	wantLine(t, "A::", "A", ":")
	wantLine(t, "A: b:c: d", "A", "b:c: d")
	wantLine(t, "A:::b", "A", "::b")
	wantLine(t, "!#$%&'*+-.^_|~`09azAZ: x", "!#$%&'*+-.^_|~`09azAZ", "x")
	wantLine(t, "A: \x80\xff", "A", "\x80\xff")
	wantLine(t, "A: \u00e9", "A", "\u00e9")
	wantLine(t, "A: \"b, c\"", "A", "\"b, c\"")
	wantLine(t, "A:\xa0", "A", "\xa0")
	for _, line := range []string{
		"", " ", "\t", "x", "Host", "Host h", "Host h:", ":", ": h", ":h", "::", " Host: h", "\tHost: h", "Host : h", "Host\t: h", " : h", " :", "A B: c", "A,B: c", "A/B: c", "(A): b", "\"A\": b", "A@B: c", "\x00: b", "A\x00: b", "A\x7f: b", "\xc3\x84: b", "A\xff: b",
		"A: \x00", "A: b\x00c", "A: \x7f", "A: \x1f", "A: \x0b", "A: b\x0c", "A: b\x08 ",
		"A: b\r", "A: b\n", "A: b\r\n", "A: b\r\n c", "\r\nA: b", "A\n: b", "A:\rb", "\r", "\n", "A: \r", "A: b \r\n",
	} {
		wantNoLine(t, line)
	}
}

func TestOfFieldLinesOfEachByte(t *testing.T) {
	for c := range 256 {
		s := one(c)
		for _, line := range []string{
			s + ": v", "a" + s + ": v", s + "b: v", "a" + s + "b: v", "n:" + s, "n: " + s, "n: " + s + " ", "n: a" + s, "n:" + s + "b", "n: a" + s + "b", "n: a" + s + "b\t", "n: a " + s, s, s + s, "n:" + s + s, "n:" + s + " " + s, s + ":" + s,
		} {
			checkField(t, line)
			check(t, "GET / HTTP/1.1\r\n"+line+"\r\n\r\n")
			check(t, "HTTP/1.1 200 OK\r\n"+line+"\r\nx: y\r\n\r\n")
			if want, e := field(runes(line)); e == 0 {
				wantLine(t, line, want.Name, want.Value)
			} else {
				wantNoLine(t, line)
			}
		}
		name := c >= 48 && c <= 57 || c >= 65 && c <= 90 || c >= 97 && c <= 122 || strings.IndexByte("!#$%&'*+-.^_|~`", byte(c)) >= 0
		if name {
			wantLine(t, "a"+s+": v", "a"+s, "v")
		} else if c != ':' {
			wantNoLine(t, "a"+s+": v")
		}
		if c == 9 || c >= 32 && c != 127 {
			wantLine(t, "n: a"+s+"b", "n", "a"+s+"b")
		} else {
			wantNoLine(t, "n: a"+s+"b")
		}
	}
}

// Field looks at no length.
func TestOfLongFieldLines(t *testing.T) {
	for _, n := range []int{510, 511, 512, 513, 514, 1100, 1101, 5000, 1000000} {
		name, value := strings.Repeat("n", n), strings.Repeat("v", n)
		wantField(t, "A:"+value, "A", value)
		wantField(t, name+":", name, "")
		wantField(t, name+": "+value, name, value)
		wantField(t, "A:"+strings.Repeat(" ", n)+"b"+strings.Repeat("\t", n), "A", "b")
		wantNoField(t, name)
		wantNoField(t, name+" :")
		wantNoField(t, "A:"+value+"\x00")
	}
}

// Which of two errors is told.

func TestOfTwoErrors(t *testing.T) {
	long, large := strings.Repeat("x", 1101), strings.Repeat("x", 513)
	for _, behind := range []string{"no field\r\n", large, large + "\r\n", "\n", "\rx", "A: b\n", ""} {
		wantNoRequest(t, "GET / HTTP/2.0\r\n"+behind, api.ErrVersion)
		wantNoRequest(t, "GET /\r\n"+behind, api.ErrLine)
		wantNoRequest(t, long+"\r\n"+behind, api.ErrLong)
		wantNoResponse(t, "HTTP/2.0 200\r\n"+behind, api.ErrVersion)
		wantNoResponse(t, "HTTP/1.1 600\r\n"+behind, api.ErrLine)
		wantNoResponse(t, long+"\r\n"+behind, api.ErrLong)
		wantNoFields(t, "no field\r\n"+behind, api.ErrField)
		wantNoFields(t, "A: b\r\nno field\r\n"+behind, api.ErrField)
		wantNoFields(t, large+"\r\n"+behind, api.ErrLarge)
	}
	// Within a line: its end or bound, then its form, then its version.
	wantNoRequest(t, "GET  / HTTP/2.0\r\n", api.ErrLine)
	wantNoRequest(t, "GET / HTTP/2.0"+strings.Repeat("x", 1101)+"\r\n", api.ErrLong)
	wantNoRequest(t, "GET / HTTP/2.0"+strings.Repeat("x", 1101)+"\n", api.ErrLong)
	wantNoRequest(t, "GET / HTTP/2.0\n"+strings.Repeat("x", 1101), api.ErrLine)
	wantNoResponse(t, "HTTP/2.0 600\r\n", api.ErrLine)
	wantNoResponse(t, "HTTP/2.0 200 "+strings.Repeat("x", 1101)+"\r\n", api.ErrLong)
	wantNoFields(t, "no field"+strings.Repeat("x", 513)+"\r\n", api.ErrLarge)
	wantNoFields(t, "no field"+strings.Repeat("x", 513)+"\n", api.ErrLarge)
	wantNoFields(t, "no field\n"+strings.Repeat("x", 513), api.ErrLine)
	// A wrong field ahead of one too many.
	_, lines := many(31)
	wantNoFields(t, lines+"no field\r\nA: b\r\n", api.ErrField)
	wantNoFields(t, lines+"A: b\r\nno field\r\n", api.ErrLarge)
}

// All calls, against those written in another way.

func TestOfAllShortTexts(t *testing.T) {
	for _, text := range texts([]string{"\r", "\n", "A", ":", " "}, 6) {
		check(t, text)
		check(t, "GET / HTTP/1.1\r\n"+text)
		check(t, "HTTP/1.1 200\r\n"+text)
		checkField(t, text)
	}
	for _, text := range texts([]string{"GET", " ", "/", "HTTP/1.1", "\r\n", "200"}, 6) {
		check(t, text)
		check(t, text+"\r\n\r\n")
	}
	for _, text := range texts([]string{"A", ":", " ", "\t", "\x00", "\xff"}, 6) {
		checkField(t, text)
	}
}

func TestOfEachTwoBytes(t *testing.T) {
	for a := range 256 {
		for b := range 256 {
			s := one(a) + one(b)
			for _, data := range []string{s, "x" + s + "\r\n"} {
				check(t, data)
				check(t, "GET / HTTP/1.0\r\n"+data)
			}
		}
	}
}

// drawHead puts a head together by chance, most of its parts right.
func drawHead(d *dice.Dice) string {
	pick := func(often string, others ...string) string {
		if d.Below(4*len(others)+1) < 3*len(others)+1 {
			return often
		}
		return others[d.Below(len(others))]
	}
	end := func() string {
		return pick("\r\n", "\r\n", "\r\n", "\r\n", "\n", "\r", "\rx", "\r\r\n", "")
	}
	blank := func() string {
		return pick(" ", " ", " ", "", "  ", "\t")
	}
	var text strings.Builder
	for range d.Below(3) {
		text.WriteString(pick("\r\n", "\r\n", "\r", "\n", " \r\n"))
	}
	version := pick("HTTP/1.1", "HTTP/1.0", "HTTP/2.0", "http/1.1", "HTTP/1.", "HTTP/1.12")
	if d.Below(2) == 0 {
		text.WriteString(pick("GET", "POST", "", "G,T", strings.Repeat("M", 15+d.Below(4))) + blank() + pick("/", "*", "", "/\x80", strings.Repeat("/", 1080+d.Below(12))) + blank() + version)
	} else {
		text.Reset()
		text.WriteString(version + blank() + pick("200", "099", "600", "20", "2000", "599", "100") + blank() + pick("OK", "", " a ", "\x00", "\xff", strings.Repeat("r", 1080+d.Below(12))))
	}
	text.WriteString(end())
	if d.Below(4) == 0 {
		text.WriteString(strings.Repeat("F: v\r\n", 28+d.Below(6)))
	}
	for range d.Below(5) {
		text.WriteString(pick("Host", "a", "", " a", "a ", "\xff") + pick(":", ":", "", " :", "::") + blank() + pick("v", "", "a b", "\x00", "\xff", strings.Repeat("v", 500+d.Below(12))) + blank() + end())
	}
	return text.String() + end() + pick("", "rest", "\n", "\r\n")
}

func TestOfManyHeads(t *testing.T) {
	d := dice.New(80)
	told := map[api.Errno]int{}
	for range 60000 {
		data := drawHead(d)
		check(t, data)
		check(t, data[:d.Below(len(data)+1)])
		for _, request := range []bool{true, false} {
			_, n, e := reading(data, request)
			if n > 0 {
				e = -1
			}
			told[e]++
		}
	}
	// All answers are among them, so that none is held against nothing.
	for _, e := range []api.Errno{-1, 0, 70, 80, 81, 82, 83} {
		if told[e] < 20 {
			t.Errorf("the answer %d is drawn %d times", e, told[e])
		}
	}
}

// Long texts are gone through, and what stands behind what decides is not.
func TestOfLongTexts(t *testing.T) {
	x := strings.Repeat("x", 1<<24)
	wantNoRequest(t, x, api.ErrLong)
	wantNoResponse(t, x, api.ErrLong)
	wantNoFields(t, x, api.ErrLarge)
	wantNoRequest(t, strings.Repeat("\r\n", 1<<23), api.OK)
	wantCall(t, true, "GET / HTTP/1.1\r\n\r\n"+x, firstHead(true, nil), 18, 0)
	wantCall(t, true, strings.Repeat("\r\n", 1<<23)+"GET / HTTP/1.1\r\n\r\n"+x, firstHead(true, nil), 1<<24+18, 0)
}

// P1: what is asked meanwhile changes no answer.
func TestAnswersAreTheSameAgain(t *testing.T) {
	for range 20 {
		for _, data := range heads() {
			check(t, data)
			checkField(t, data)
		}
	}
}

// An answer's fields are memory of its own, its spare room too.
func TestAnswersAreNewMemory(t *testing.T) {
	for n := range 33 {
		want, lines := many(n)
		for _, request := range []bool{true, false} {
			call := head.Response
			if request {
				call = head.Request
			}
			data := first(request) + lines + "\r\n"
			a, _, _ := call(data)
			b, _, _ := call(data)
			spare := b.Fields[:cap(b.Fields)]
			for i := range spare {
				spare[i] = api.Field{Name: "spoilt", Value: "spoilt"}
			}
			for range 50 {
				b.Fields = append(b.Fields, api.Field{Name: "grown", Value: "grown"})
			}
			if !same(a, firstHead(request, want)) {
				t.Fatalf("the head of %d fields is %#v by now", n, a)
			}
			wantCall(t, request, data, firstHead(request, want), len(data), 0)
		}
	}
}
