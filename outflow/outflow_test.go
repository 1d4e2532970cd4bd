package outflow_test

import (
	"math"
	"reflect"
	"slices"
	"strconv"
	"strings"
	"testing"

	"barbican/api"
	"barbican/chunk"
	"barbican/dice"
	"barbican/frame"
	"barbican/head"
	"barbican/outflow"
)

// What is asked of a reader.

// lines puts a head together.
func lines(l ...string) string {
	return strings.Join(l, "\r\n") + "\r\n\r\n"
}

// list is fields, by their names and values in turn.
func list(pairs ...string) []api.Field {
	var l []api.Field
	for i := 0; i < len(pairs); i += 2 {
		l = append(l, api.Field{Name: pairs[i], Value: pairs[i+1]})
	}
	return l
}

// same tells whether two pieces are the same, an empty list being a nil one.
func same(a, b outflow.Piece) bool {
	sameFields := slices.Equal(a.Head.Fields, b.Head.Fields)
	a.Head.Fields, b.Head.Fields = nil, nil
	return sameFields && reflect.DeepEqual(a, b)
}

func headPiece(h api.Head) outflow.Piece {
	return outflow.Piece{Kind: outflow.PieceHead, Head: h}
}

func dataPiece(s string) outflow.Piece {
	return outflow.Piece{Kind: outflow.PieceData, Data: s}
}

func endPiece() outflow.Piece {
	return outflow.Piece{Kind: outflow.PieceEnd}
}

// wantPiece asks for the next piece.
func wantPiece(t *testing.T, r *outflow.Reader, want outflow.Piece) {
	t.Helper()
	if got, told, e := r.Next(); !told || e != api.OK || !same(got, want) {
		t.Fatalf("Next() = %.300v, %v, %d, not %.300v", got, told, e, want)
	}
}

// wantNone asks for the next piece and wants none, but the error, or OK.
func wantNone(t *testing.T, r *outflow.Reader, e api.Errno) {
	t.Helper()
	for range 2 {
		if got, told, now := r.Next(); told || now != e || !reflect.DeepEqual(got, outflow.Piece{}) {
			t.Fatalf("Next() = %.300v, %v, %d, not the error %d", got, told, now, e)
		}
	}
}

// A reading of a whole text from its beginning: what a reader is to tell of it in any pieces.

// reading is what a text holds of the response to a request.
type reading struct {
	interim int // where the first head begins that isn't interim
	from    int // where the body begins; 0 while the head isn't whole, or is wrong
	head    api.Head
	kind    int // of the framing
	body    string
	ended   bool
	used    int // where the bytes begin that are left behind all that can be told
	e       api.Errno
}

// read reads a text, behind which the server has ended if it is gone.
func read(method string, s string, gone bool) reading {
	var all reading
	length := all.readHead(method, s)
	behind := s[all.from:]
	switch {
	case all.from == 0:
	case all.kind == frame.Length:
		all.body = behind[:min(len(behind), length)]
		all.used = all.from + len(all.body)
		all.ended = len(all.body) == length
	case all.kind == frame.Chunked:
		var size int
		all.body, size, all.ended, all.e = chunk.New(api.MaxTime).Feed(behind)
		all.used = all.from + size
	case all.kind == frame.Close:
		all.body, all.used, all.ended = behind, len(s), gone
	default:
		all.used, all.ended = all.from, true
	}
	if gone && !all.ended && all.e == api.OK {
		all.e = api.ErrShort
	}
	return all
}

// readHead reads the heads, and answers the framing's length.
func (all *reading) readHead(method string, s string) int {
	for {
		all.used = all.interim
		h, size, e := head.Response(s[all.interim:])
		all.e = e
		if size == 0 {
			return 0
		}
		if h.Status < 200 && h.Status != 101 {
			all.interim += size
			continue
		}
		framing, e := frame.Response(method, h)
		all.e = e
		if e == api.OK {
			all.from, all.head, all.kind = all.interim+size, h, framing.Kind
		}
		return framing.Length
	}
}

// text is a text, with the readings of its beginnings by their lengths.
type text struct {
	method, s  string
	open, gone []*reading
}

func newText(method string, s string) *text {
	return &text{method: method, s: s, open: make([]*reading, len(s)+1), gone: make([]*reading, len(s)+1)}
}

// at is the reading of the first bytes.
func (x *text) at(to int, gone bool) reading {
	readings := x.open
	if gone {
		readings = x.gone
	}
	if readings[to] == nil {
		all := read(x.method, x.s[:to], gone)
		readings[to] = &all
	}
	return *readings[to]
}

// follower feeds a text to a reader, and wants every call to answer what the text's readings tell.
type follower struct {
	*text
	t     *testing.T
	r     *outflow.Reader
	fed   int
	used  int
	told  int // how many bytes of the body
	now   reading
	begun bool // whether the head has been told
	ended bool
	over  bool // whether the server has ended
	e     api.Errno
}

func follow(t *testing.T, x *text) *follower {
	f := &follower{text: x, t: t, r: outflow.New(x.method)}
	f.look()
	return f
}

// look asks all calls but those that change something.
func (f *follower) look() {
	f.t.Helper()
	framed := f.begun && (f.now.kind == frame.None || f.now.kind == frame.Length || f.now.kind == frame.Chunked)
	reusable := f.ended && framed && frame.Keep(f.now.head) && f.fed == f.used && !f.over
	if got := f.r.Len(); got != f.fed-f.used {
		f.t.Fatalf("%s, %.200q: Len() = %d, not %d", f.method, f.s[:f.fed], got, f.fed-f.used)
	}
	if got := f.r.Ended(); got != f.ended {
		f.t.Fatalf("%s, %.200q: Ended() = %v", f.method, f.s[:f.fed], got)
	}
	if got := f.r.Tunnel(); got != (f.begun && f.now.kind == frame.Tunnel) {
		f.t.Fatalf("%s, %.200q: Tunnel() = %v", f.method, f.s[:f.fed], got)
	}
	if got := f.r.Reusable(); got != reusable {
		f.t.Fatalf("%s, %.200q: Reusable() = %v", f.method, f.s[:f.fed], got)
	}
}

// feed feeds the bytes up to a place.
func (f *follower) feed(to int) {
	f.t.Helper()
	f.r.Feed(f.s[f.fed:to])
	f.fed = to
	f.look()
}

// end tells the server's end, behind which nothing comes any more.
func (f *follower) end() {
	f.t.Helper()
	f.r.End()
	f.over = true
	f.look()
	f.r.Feed("x")
	f.r.Feed(f.s)
	f.look()
}

// want asks for a piece, behind which the bytes up to a place are used.
func (f *follower) want(piece outflow.Piece, used int) {
	f.t.Helper()
	wantPiece(f.t, f.r, piece)
	f.used = used
	f.look()
}

// ask asks for all that there is to tell.
func (f *follower) ask() {
	f.t.Helper()
	if f.e != api.OK {
		wantNone(f.t, f.r, f.e)
		f.look()
		return
	}
	now := f.at(f.fed, f.over)
	if !f.begun && now.from > 0 {
		f.now, f.begun = now, true
		f.want(headPiece(now.head), now.from)
	}
	if f.told < len(now.body) {
		piece := now.body[f.told:]
		f.told = len(now.body)
		f.want(dataPiece(piece), now.used)
	}
	if now.ended && !f.ended {
		f.ended = true
		f.want(endPiece(), now.used)
	}
	f.e = now.e
	wantNone(f.t, f.r, f.e)
	// An error uses nothing. Whether interim heads count as used that the same call has passed, the chapter leaves open.
	if f.e == api.OK || f.r.Len() == f.fed-now.interim && f.used < now.interim {
		f.used = max(f.used, now.used)
	}
	f.look()
}

// rest takes the bytes that are not used: it goes on as if they had never come.
func (f *follower) rest() {
	f.t.Helper()
	if got, want := f.r.Rest(), f.s[f.used:f.fed]; got != want {
		f.t.Fatalf("%s, %.200q: Rest() = %q, not %q", f.method, f.s[:f.fed], got, want)
	}
	f.text = newText(f.method, f.s[:f.used]+f.s[f.fed:])
	f.fed = f.used
	f.look()
	if got := f.r.Rest(); got != "" {
		f.t.Fatalf("%s, %.200q: the rest behind the rest is %q", f.method, f.s[:f.fed], got)
	}
}

// wantPieces feeds a text in pieces that end at the places, asks behind every one of them or just behind the last, and then tells the server's end.
func wantPieces(t *testing.T, x *text, asked bool, places ...int) {
	t.Helper()
	f := follow(t, x)
	for _, to := range append(places, len(x.s)) {
		f.feed(to)
		if asked {
			f.ask()
		}
	}
	f.ask()
	f.end()
	f.ask()
	f.rest()
	f.ask()
	// The server's end in the same breath as the last piece.
	f = follow(t, x)
	for _, to := range places {
		f.feed(to)
		if asked {
			f.ask()
		}
	}
	f.feed(len(x.s))
	f.end()
	f.ask()
}

// wantDivided feeds a text at once, byte by byte, with empty pieces between, and in every two pieces.
func wantDivided(t *testing.T, method string, s string) {
	t.Helper()
	x := newText(method, s)
	var bytes, doubled []int
	for i := range len(s) + 1 {
		bytes = append(bytes, i)
		doubled = append(doubled, i, i)
	}
	for _, asked := range []bool{true, false} {
		wantPieces(t, x, asked)
		wantPieces(t, x, asked, bytes...)
		wantPieces(t, x, asked, doubled...)
		for i := range len(s) + 1 {
			wantPieces(t, x, asked, i)
		}
	}
}

// wantParted feeds a text as wantDivided does, and in every three pieces, also with empty ones between.
func wantParted(t *testing.T, method string, s string) {
	t.Helper()
	wantDivided(t, method, s)
	x := newText(method, s)
	for i := range len(s) + 1 {
		for j := i; j <= len(s); j++ {
			wantPieces(t, x, true, i, j)
			wantPieces(t, x, false, i, j)
			wantPieces(t, x, true, 0, i, i, j, j, len(s))
		}
	}
}

// outcome is all that a reader tells.
type outcome struct {
	heads []api.Head
	body  string
	ends  int
	e     api.Errno
}

// drain adds what is told now.
func (o *outcome) drain(t *testing.T, r *outflow.Reader) {
	t.Helper()
	for {
		piece, told, e := r.Next()
		o.e = e
		switch {
		case !told:
			return
		case piece.Kind == outflow.PieceHead && o.body == "" && o.ends == 0:
			o.heads = append(o.heads, piece.Head)
		case piece.Kind == outflow.PieceData && piece.Data != "" && len(o.heads) == 1 && o.ends == 0:
			o.body += piece.Data
		case piece.Kind == outflow.PieceEnd && len(o.heads) == 1:
			o.ends++
		default:
			t.Fatalf("%.300v behind %.300v", piece, *o)
		}
	}
}

// answered is the outcome of a text that is fed at once.
func answered(t *testing.T, method string, s string, gone bool) outcome {
	t.Helper()
	var o outcome
	r := outflow.New(method)
	r.Feed(s)
	if gone {
		r.End()
	}
	o.drain(t, r)
	return o
}

// byBytes is how many bytes of a text are fed at a time: one, but of a long text more.
func byBytes(s string) int {
	return len(s)/4000 + 1
}

// wantTold feeds a response at once, in two halves and byte by byte, and wants this of it, with the bytes behind it left.
func wantTold(t *testing.T, method string, s string, behind string, want outcome) {
	t.Helper()
	for _, step := range []int{len(s) + len(behind) + 1, len(s)/2 + 1, byBytes(s)} {
		var got outcome
		r := outflow.New(method)
		whole := s + behind
		for from := 0; from < len(whole); from += step {
			r.Feed(whole[from:min(from+step, len(whole))])
			got.drain(t, r)
		}
		if !reflect.DeepEqual(got, want) {
			t.Fatalf("%s, %.300q in pieces of %d: %.300v, not %.300v", method, whole, step, got, want)
		}
		if rest := r.Rest(); rest != behind {
			t.Fatalf("%s, %.300q: Rest() = %q, not %q", method, whole, rest, behind)
		}
	}
}

// wantError feeds a text in many ways, and wants the error, whatever is fed behind it.
func wantError(t *testing.T, method string, s string, want api.Errno) {
	t.Helper()
	for _, ahead := range []string{"", lines("HTTP/1.1 100 Continue"), lines("HTTP/1.1 103", "A: b") + lines("HTTP/1.0 199 ", "Connection: close")} {
		for _, gone := range []bool{false, true} {
			if o := answered(t, method, ahead+s, gone); o.e != want || o.ends != 0 {
				t.Fatalf("%s, %.200q, %v: %.200v, not the error %d", method, ahead+s, gone, o, want)
			}
		}
		r := outflow.New(method)
		var o outcome
		for i := range len(ahead + s) {
			r.Feed((ahead + s)[i : i+1])
			o.drain(t, r)
			if o.e != api.OK && o.e != want || o.ends != 0 {
				t.Fatalf("%s, %.200q: %.200v, not the error %d", method, (ahead + s)[:i+1], o, want)
			}
		}
		wantForGood(t, r, want)
	}
}

// wantForGood wants an error in every further call.
func wantForGood(t *testing.T, r *outflow.Reader, want api.Errno) {
	t.Helper()
	wantNone(t, r, want)
	length := r.Len()
	for _, behind := range []string{"", "\r\n", "\n", "x", "\r\n\r\n", "0\r\n\r\n", lines("HTTP/1.1 200 OK", "Content-Length: 0")} {
		r.Feed(behind)
		length += len(behind)
		wantNone(t, r, want)
		if r.Len() != length || r.Ended() || r.Reusable() {
			t.Fatalf("behind the error %d: Len() = %d, not %d, %v, %v", want, r.Len(), length, r.Ended(), r.Reusable())
		}
	}
	r.End()
	wantNone(t, r, want)
	r.Feed("x")
	if rest := r.Rest(); len(rest) != length {
		t.Fatalf("behind the error %d: Rest() = %.200q", want, rest)
	}
	wantNone(t, r, want)
	if r.Len() != 0 || r.Ended() || r.Reusable() {
		t.Fatalf("behind the rest: Len() = %d, %v, %v", r.Len(), r.Ended(), r.Reusable())
	}
}

// step is one thing that is done with a reader: "" asks for the next piece, "END" and "REST" are those calls, all else is fed. It names what is answered, and what the other calls answer behind it.
type step struct {
	do, answer, state string
}

// walk does a reader's steps.
func walk(t *testing.T, method string, steps ...step) {
	t.Helper()
	r := outflow.New(method)
	for i, s := range steps {
		answer := ""
		switch s.do {
		case "":
			answer = next(r)
		case "END":
			r.End()
		case "REST":
			answer = r.Rest()
		default:
			r.Feed(s.do)
		}
		if state := stateOf(r); answer != s.answer || state != s.state {
			t.Fatalf("the step %d, %q: %q, %q, not %q, %q", i, s.do, answer, state, s.answer, s.state)
		}
	}
}

// next is the next piece as a text.
func next(r *outflow.Reader) string {
	piece, told, e := r.Next()
	switch {
	case e != api.OK:
		return "error " + strconv.Itoa(int(e))
	case !told:
		return "nothing"
	case piece.Kind == outflow.PieceHead:
		return "head " + strconv.Itoa(piece.Head.Status)
	case piece.Kind == outflow.PieceData:
		return "data " + piece.Data
	case piece.Kind == outflow.PieceEnd:
		return "the end"
	}
	return "no piece"
}

// stateOf is what the calls answer that change nothing.
func stateOf(r *outflow.Reader) string {
	state := strconv.Itoa(r.Len())
	for _, c := range []struct {
		is   bool
		name string
	}{{r.Ended(), " ended"}, {r.Tunnel(), " tunnel"}, {r.Reusable(), " reusable"}} {
		if c.is {
			state += c.name
		}
	}
	return state
}

// The chapter's examples.

func TestExamples(t *testing.T) {
	h := api.Head{Status: 200, Reason: "OK", Minor: 1, Fields: list("Content-Length", "3")}
	three := lines("HTTP/1.1 200 OK", "Content-Length: 3")
	r := outflow.New("GET")
	r.Feed(lines("HTTP/1.1 100 ") + three + "ab")
	wantPiece(t, r, headPiece(h))
	wantPiece(t, r, dataPiece("ab"))
	wantNone(t, r, api.OK)
	r.Feed("cd")
	wantPiece(t, r, dataPiece("c"))
	wantPiece(t, r, endPiece())
	wantNone(t, r, api.OK)
	if r.Len() != 1 || r.Reusable() {
		t.Errorf("Len() = %d, Reusable() = %v", r.Len(), r.Reusable())
	}
	r = outflow.New("HEAD")
	r.Feed(three)
	wantPiece(t, r, headPiece(h))
	wantPiece(t, r, endPiece())
	r = outflow.New("GET")
	r.Feed(lines("HTTP/1.1 200 OK") + "ab")
	r.End()
	wantPiece(t, r, headPiece(api.Head{Status: 200, Reason: "OK", Minor: 1}))
	wantPiece(t, r, dataPiece("ab"))
	wantPiece(t, r, endPiece())
	r = outflow.New("GET")
	r.End()
	wantNone(t, r, api.ErrShort)
}

// One response's bytes in every division.

func TestDivisions(t *testing.T) {
	chunked := lines("HTTP/1.1 200", "Transfer-Encoding:chunked")
	for _, s := range []string{
		lines("HTTP/1.1 200", "Content-Length:3") + "\r\nx", lines("HTTP/1.1 200", "Content-Length:0") + "x", lines("HTTP/1.0 100") + lines("HTTP/1.1 199 ", "A:") + lines("HTTP/1.1 404", "Content-Length:1") + "\n\n",
		chunked + "2\r\nab\r\n0\r\n\r\nx", chunked + "1;\r\n\r\r\n2\r\n0\r\r\n0\r\nT:\r\n\r\n\r\n", lines("HTTP/1.0 200") + "a\r\n\x00", lines("HTTP/1.1 204", "Content-Length:9") + "x", lines("HTTP/1.9 101", "A:b") + "\n",
		"\r\n" + lines("HTTP/1.1 200"), lines("HTTP/1.1 150") + "HTTP/1.1 200\n", lines("HTTP/2.0 200"), "HTTP/1.1 200\r\nA :\r\n\r\n", lines("HTTP/1.1 200", "Content-Length:1,2") + "x", lines("HTTP/1.1 200", "Transfer-Encoding:a") + "x",
		chunked + "x", chunked + "2\r\nabc\r\n", chunked + "1\r\na\r\n0\r\nT\r\n\r\n",
	} {
		wantParted(t, "GET", s)
	}
	wantParted(t, "HEAD", lines("HTTP/1.1 200", "Content-Length:3")+"abc")
	wantParted(t, "CONNECT", lines("HTTP/1.1 102")+lines("HTTP/1.1 200", "A:b")+"\r\nx")
	wantParted(t, "CONNECT", lines("HTTP/1.1 300", "Content-Length:2")+"abc")
	long := lines("HTTP/1.1 100 Continue") + lines("HTTP/1.1 103 Early Hints", "Link: x", "Connection: close")
	wantDivided(t, "POST", long+lines("HTTP/1.1 200 OK", "Host: h", "Transfer-Encoding: chunked")+"5;x=y\r\n\r\nabc\r\n00a\r\n0123456789\r\n0\r\nA: b\r\nC: \r\n\r\n"+lines("HTTP/1.1 200 OK"))
	wantDivided(t, "GET", long+lines("HTTP/1.1 500 No", "Content-Length: 20")+"\r\n\r\n\r\n\r\n\r\n\r\n\r\n\r\n\r\n\r\n\r\n")
	wantDivided(t, "GET", long+lines("HTTP/1.0 200 OK", "Connection: keep-alive")+lines("HTTP/1.1 200 OK"))
	wantDivided(t, "GET", long+lines("HTTP/1.1 101 Switching", "Upgrade: x")+"\x00\xff\r\n")
}

// The rest taken at every place, behind which the reader goes on with what is fed then.
func TestRestAtEveryPlace(t *testing.T) {
	for s, method := range map[string]string{
		lines("HTTP/1.1 100") + lines("HTTP/1.1 200", "Content-Length:6") + "abcdefgh": "GET", lines("HTTP/1.1 200", "Transfer-Encoding:chunked") + "3;x\r\nabc\r\n2\r\nde\r\n0\r\nT:v\r\n\r\n0": "GET", lines("HTTP/1.0 200") + "abcd": "GET", lines("HTTP/1.1 304") + "ab": "GET", lines("HTTP/1.1 200") + "abc": "CONNECT",
		lines("HTTP/1.1 200", "Content-Length:x") + "a": "GET",
	} {
		x := newText(method, s)
		for at := range len(s) + 1 {
			for _, asked := range []bool{true, false} {
				for _, gone := range []bool{true, false} {
					f := follow(t, x)
					f.feed(at)
					if asked {
						f.ask()
					}
					f.rest()
					for f.fed < len(f.s) {
						f.feed(f.fed + 1)
						if asked {
							f.ask()
						}
					}
					if gone {
						f.end()
					}
					f.ask()
					f.rest()
					f.ask()
				}
			}
		}
	}
}

// Heads.

func TestHeads(t *testing.T) {
	most := []string{"HTTP/1.1 200 " + strings.Repeat("r", 1087)}
	want := api.Head{Status: 200, Reason: strings.Repeat("r", 1087), Minor: 1}
	for range 32 {
		most = append(most, "A:"+strings.Repeat("x", 510))
		want.Fields = append(want.Fields, api.Field{Name: "A", Value: strings.Repeat("x", 510)})
	}
	wantTold(t, "GET", lines(most...), "", outcome{heads: []api.Head{want}})
	for s, want := range map[string]api.Head{
		lines("HTTP/1.1 200"): {Status: 200, Minor: 1}, lines("HTTP/1.0 404 Not  Found "): {Status: 404, Reason: "Not  Found "}, lines("HTTP/1.9 599 \t\xff"): {Status: 599, Reason: "\t\xff", Minor: 9}, lines("HTTP/1.1 500 ", "A:b", "a: \t c\t", "Set-Cookie:"): {Status: 500, Minor: 1, Fields: list("A", "b", "a", "c", "Set-Cookie", "")},
	} {
		wantTold(t, "GET", s, "", outcome{heads: []api.Head{want}})
		// A head is told also behind any interim ones, none of which it has anything of.
		wantTold(t, "GET", lines("HTTP/1.1 100 Continue", "X: y", "Content-Length: 3")+s, "", outcome{heads: []api.Head{want}})
	}
}

// wrongHeads are texts that layer 8 refuses.
var wrongHeads = map[string]api.Errno{
	"\n": api.ErrLine, "\r\n": api.ErrLine, "\r\r": api.ErrLine, "x\r\n": api.ErrLine, " HTTP/1.1 200 OK\r\n": api.ErrLine, "HTTP/1.1 200 OK\n": api.ErrLine, "HTTP/1.1 200 OK\rx": api.ErrLine, "HTTP/1.1 099 \r\n": api.ErrLine, "HTTP/1.1 600 \r\n": api.ErrLine, "HTTP/1.1  200\r\n": api.ErrLine, "HTTP/1.1 20\r\n": api.ErrLine, "HTTP/1.1 2000\r\n": api.ErrLine, "HTTP/1.1 200OK\r\n": api.ErrLine, "HTTP/1.1\r\n": api.ErrLine, "http/1.1 200 OK\r\n": api.ErrLine, "HTTP/1.1 200 \x00\r\n": api.ErrLine, "GET / HTTP/1.1\r\n": api.ErrLine, "HTTP/2.0 200 \x7f\r\n": api.ErrLine,
	"HTTP/1.1 200 OK\r\nA: b\n": api.ErrLine, "HTTP/1.1 200 OK\r\nA: b\r\n\rx": api.ErrLine,
	"HTTP/2.0 200 OK\r\n": api.ErrVersion, "HTTP/0.9 100\r\n": api.ErrVersion, "HTTP/9.9 101 x\r\n": api.ErrVersion,
	strings.Repeat("x", 1101): api.ErrLong, "HTTP/1.1 200 " + strings.Repeat("x", 1088): api.ErrLong, "HTTP/2.0 200 " + strings.Repeat("x", 1088): api.ErrLong,
	"HTTP/1.1 200 OK\r\nA:" + strings.Repeat("x", 511): api.ErrLarge, "HTTP/1.1 200 OK\r\n" + strings.Repeat("A:\r\n", 33): api.ErrLarge, "HTTP/1.1 100\r\n" + strings.Repeat("A:\r\n", 33): api.ErrLarge, "HTTP/1.1 101\r\n" + strings.Repeat("x", 513): api.ErrLarge,
	"HTTP/1.1 200 OK\r\nA\r\n": api.ErrField, "HTTP/1.1 200 OK\r\nA : b\r\n": api.ErrField, "HTTP/1.1 204 OK\r\nA: b\r\n c\r\n": api.ErrField, "HTTP/1.1 200 OK\r\nA: \x00\r\n": api.ErrField, "HTTP/1.1 100\r\n: b\r\n": api.ErrField,
}

func TestWrongHeads(t *testing.T) {
	for s, want := range wrongHeads {
		for _, method := range []string{"GET", "HEAD", "CONNECT", ""} {
			wantError(t, method, s, want)
			wantError(t, method, s+"\r\n\r\n", want)
		}
		// Up to its last byte nothing is wrong; then it is told though more of the line could come.
		for i := range len(s) {
			if e := answered(t, "GET", s[:i], false).e; e != api.OK && wrongHeads[s[:i]] != e {
				t.Errorf("%.200q: the error %d", s[:i], e)
			}
		}
	}
	for _, s := range []string{"", "H", "HTTP/1.1 200 OK", "HTTP/1.1 200 OK\r", "HTTP/2.0 999", "HTTP/1.1 200 OK\r\n", "HTTP/1.1 200 OK\r\nA b", "HTTP/1.1 200 OK\r\nA b\r", "HTTP/1.1 200 OK\r\nContent-Length: x\r\n\r", strings.Repeat("x", 1100), "HTTP/1.1 200 OK\r\n" + strings.Repeat("x", 512)} {
		if o := answered(t, "GET", s, false); !reflect.DeepEqual(o, outcome{}) {
			t.Errorf("%.200q: %v", s, o)
		}
		wantError(t, "GET", s+"\r\r", api.ErrLine)
		wantShort(t, "GET", s)
	}
}

// wantShort wants a text to be right as far as it goes, and too short if the server ends behind it.
func wantShort(t *testing.T, method string, s string) {
	t.Helper()
	if e := answered(t, method, s, false).e; e != api.OK {
		t.Fatalf("%s, %.200q: the error %d", method, s, e)
	}
	for _, asked := range []bool{true, false} {
		var o outcome
		r := outflow.New(method)
		for from := 0; from < len(s); from += byBytes(s) {
			r.Feed(s[from:min(from+byBytes(s), len(s))])
			if asked {
				o.drain(t, r)
			}
		}
		if asked {
			wantNone(t, r, api.OK)
		}
		length := r.Len()
		r.End()
		r.Feed("\r\n\r\nx")
		if r.Len() != length {
			t.Fatalf("%s, %.200q: Len() = %d behind the end, not %d", method, s, r.Len(), length)
		}
		o.drain(t, r)
		if o.e != api.ErrShort || o.ends != 0 {
			t.Fatalf("%s, %.200q: %.200v, not short", method, s, o)
		}
		wantNone(t, r, api.ErrShort)
		r.Feed(lines("HTTP/1.1 200 OK"))
		r.End()
		wantNone(t, r, api.ErrShort)
		r.Rest()
		wantNone(t, r, api.ErrShort)
		if r.Ended() || r.Reusable() {
			t.Fatalf("%s, %.200q: %v, %v", method, s, r.Ended(), r.Reusable())
		}
	}
}

// Interim heads.

// fieldsOfAnyKind are fields that would tell something of a response that isn't interim.
var fieldsOfAnyKind = [][]string{
	nil, {"A: b"}, {"Content-Length: 5"}, {"Content-Length: 0"}, {"Content-Length: x"}, {"Content-Length: 1, 2"}, {"Transfer-Encoding: chunked"}, {"Transfer-Encoding: gzip"}, {"Transfer-Encoding: chunked", "Content-Length: 5"}, {"Connection: close"}, {"Connection: keep-alive", "Upgrade: x"}, slices.Repeat([]string{"X-A: b"}, 32),
}

func TestInterimHeads(t *testing.T) {
	h := api.Head{Status: 200, Reason: "OK", Minor: 1, Fields: list("Content-Length", "2")}
	final := lines("HTTP/1.1 200 OK", "Content-Length: 2")
	for status := 100; status < 200; status++ {
		if status == 101 {
			continue
		}
		for _, l := range fieldsOfAnyKind {
			for _, version := range []string{"HTTP/1.0 ", "HTTP/1.1 ", "HTTP/1.9 "} {
				interim := lines(append([]string{version + strconv.Itoa(status) + " x"}, l...)...)
				for _, ahead := range []string{interim, strings.Repeat(interim, 3), lines("HTTP/1.1 100") + interim} {
					r := outflow.New("GET")
					r.Feed(ahead)
					if r.Len() != len(ahead) {
						t.Fatalf("Len() = %d, not %d", r.Len(), len(ahead))
					}
					wantNone(t, r, api.OK)
					if state := stateOf(r); state != "0" {
						t.Fatalf("behind %.200q: %s", ahead, state)
					}
					r.Feed(ahead + final + "xy")
					wantPiece(t, r, headPiece(h))
					if state := stateOf(r); state != "2" {
						t.Fatalf("behind %.200q and a head: %s", ahead, state)
					}
					wantPiece(t, r, dataPiece("xy"))
					wantPiece(t, r, endPiece())
					if state := stateOf(r); state != "0 ended reusable" {
						t.Fatalf("behind %.200q and a response: %s", ahead, state)
					}
				}
			}
		}
		interim := lines("HTTP/1.1 "+strconv.Itoa(status), "Content-Length: 1")
		// Whatever the method is: a CONNECT is no tunnel yet, and a HEAD not answered.
		for _, method := range []string{"CONNECT", "HEAD", "POST", ""} {
			walk(t, method, step{interim, "", strconv.Itoa(len(interim))}, step{"", "nothing", "0"}, step{interim + "HTTP/1.1 204\r\n", "", strconv.Itoa(len(interim) + 14)}, step{"", "nothing", "14"}, step{"\r\n", "", "16"}, step{"", "head 204", "0"}, step{"", "the end", "0 ended reusable"})
		}
		wantShort(t, "GET", interim)
		wantShort(t, "CONNECT", interim+interim+"HTTP/1.1 200 OK\r\n")
		wantError(t, "GET", interim+"\r\n", api.ErrLine)
	}
}

func TestManyInterimHeads(t *testing.T) {
	const count = 1 << 20
	interim := lines("HTTP/1.1 100")
	r := outflow.New("GET")
	r.Feed(strings.Repeat(interim, count) + lines("HTTP/1.1 204") + "x")
	wantPiece(t, r, headPiece(api.Head{Status: 204, Minor: 1}))
	wantPiece(t, r, endPiece())
	if rest := r.Rest(); rest != "x" {
		t.Errorf("Rest() = %q", rest)
	}
	r = outflow.New("GET")
	for range count / 8 {
		r.Feed(interim[:5])
		wantNone(t, r, api.OK)
		r.Feed(interim[5:])
	}
	wantNone(t, r, api.OK)
	if r.Len() != 0 {
		t.Errorf("Len() = %d", r.Len())
	}
	r.End()
	wantNone(t, r, api.ErrShort)
}

// A 101 isn't interim, whatever the method is: it ends the messages.
func TestSwitchingProtocols(t *testing.T) {
	for _, l := range fieldsOfAnyKind {
		for minor := range 10 {
			for _, method := range []string{"GET", "HEAD", "CONNECT", "POST", "get", ""} {
				s := lines(append([]string{"HTTP/1." + strconv.Itoa(minor) + " 101 Go"}, l...)...)
				walk(t, method, step{lines("HTTP/1.1 102") + s + "\r\nx", "", strconv.Itoa(len(s) + 19)}, step{"", "head 101", "3 tunnel"}, step{"", "the end", "3 ended tunnel"}, step{"", "nothing", "3 ended tunnel"}, step{"yz", "", "5 ended tunnel"}, step{"", "nothing", "5 ended tunnel"}, step{"REST", "\r\nxyz", "0 ended tunnel"}, step{"END", "", "0 ended tunnel"}, step{"", "nothing", "0 ended tunnel"})
				walk(t, method, step{s, "", strconv.Itoa(len(s))}, step{"END", "", strconv.Itoa(len(s))}, step{"", "head 101", "0 tunnel"}, step{"", "the end", "0 ended tunnel"}, step{"", "nothing", "0 ended tunnel"})
			}
		}
	}
}

// Every status, and what follows its head.

func TestStatuses(t *testing.T) {
	for status := 100; status <= 599; status++ {
		for _, method := range []string{"GET", "HEAD", "CONNECT", "POST", "head", "connect", "Head", "HEADS", "", "GET\x00"} {
			if status < 200 && status != 101 {
				continue
			}
			s := lines("HTTP/1.1 "+strconv.Itoa(status), "Content-Length: 2")
			want := outcome{heads: []api.Head{{Status: status, Minor: 1, Fields: list("Content-Length", "2")}}, ends: 1}
			tunnel := status == 101 || method == "CONNECT" && status < 300 && status != 204
			if tunnel || method == "HEAD" || status == 204 || status == 304 {
				wantTold(t, method, s, "xyz", want)
			} else {
				want.body = "xy"
				wantTold(t, method, s+"xy", "z", want)
			}
			r := outflow.New(method)
			r.Feed(s)
			r.Next()
			if r.Tunnel() != tunnel {
				t.Errorf("%s, %d: Tunnel() = %v", method, status, r.Tunnel())
			}
		}
	}
}

// wantNoBody wants a response to end behind its head, whatever follows it.
func wantNoBody(t *testing.T, method string, status string, state string) {
	t.Helper()
	for _, l := range fieldsOfAnyKind {
		for _, minor := range []string{"0", "1", "9"} {
			s := lines(append([]string{"HTTP/1." + minor + " " + status}, l...)...)
			ends := " ended" + state
			if state == "" && minor != "0" && !slices.Contains(l, "Connection: close") || len(l) > 0 && l[0] == "Connection: keep-alive" && state == "" {
				ends += " reusable"
			}
			walk(t, method, step{s, "", strconv.Itoa(len(s))}, step{"", "head " + status, "0" + state}, step{"", "the end", "0" + ends}, step{"", "nothing", "0" + ends}, step{"x", "", "1 ended" + state}, step{"", "nothing", "1 ended" + state}, step{"REST", "x", "0" + ends}, step{"END", "", "0 ended" + state}, step{"", "nothing", "0 ended" + state})
			walk(t, method, step{s + "0\r\n\r\n", "", strconv.Itoa(len(s) + 5)}, step{"END", "", strconv.Itoa(len(s) + 5)}, step{"", "head " + status, "5" + state}, step{"", "the end", "5 ended" + state}, step{"", "nothing", "5 ended" + state}, step{"REST", "0\r\n\r\n", "0 ended" + state})
		}
	}
}

func TestNoBody(t *testing.T) {
	for _, status := range []string{"200", "204", "304", "404", "500", "302"} {
		wantNoBody(t, "HEAD", status, "")
	}
	for _, method := range []string{"GET", "POST", "CONNECT", "OPTIONS", "x", ""} {
		wantNoBody(t, method, "204", "")
		wantNoBody(t, method, "304", "")
	}
}

func TestConnect(t *testing.T) {
	for status := 200; status < 300; status++ {
		if status != 204 {
			wantNoBody(t, "CONNECT", strconv.Itoa(status), " tunnel")
		}
	}
	// Another answer is a response like any other.
	for _, status := range []string{"300", "400", "407", "502", "599"} {
		walk(t, "CONNECT", step{lines("HTTP/1.1 "+status, "Content-Length: 2") + "a", "", "36"}, step{"", "head " + status, "1"}, step{"", "data a", "0"}, step{"bc", "", "2"}, step{"", "data b", "1"}, step{"", "the end", "1 ended"}, step{"REST", "c", "0 ended reusable"})
		wantError(t, "CONNECT", lines("HTTP/1.1 "+status, "Content-Length: x"), api.ErrFraming)
		walk(t, "CONNECT", step{lines("HTTP/1.1 "+status) + "a", "", "17"}, step{"END", "", "17"}, step{"", "head " + status, "1"}, step{"", "data a", "0"}, step{"", "the end", "0 ended"})
	}
	for _, method := range []string{"connect", "Connect", "CONNECTS", "CONNEC", " CONNECT"} {
		walk(t, method, step{lines("HTTP/1.1 200", "Content-Length: 0"), "", "35"}, step{"", "head 200", "0"}, step{"", "the end", "0 ended reusable"})
	}
}

// Bodies by length.

func TestLengths(t *testing.T) {
	for _, length := range []int{0, 1, 2, 3, 16, 255, 4096, 1 << 17} {
		body := strings.Repeat("\r\n\x000", length/4+1)[:length]
		digits := strconv.Itoa(length)
		for _, l := range [][]string{{"Content-Length: " + digits}, {"content-LENGTH:000" + digits}, {"Content-Length: " + digits + ", 0" + digits}, {"Content-Length: " + digits, "A: b", "content-length: " + digits}} {
			s := lines(append([]string{"HTTP/1.1 200 OK"}, l...)...)
			for _, behind := range []string{"", "x", "\r\n", lines("HTTP/1.1 200 OK")} {
				o := answered(t, "GET", s+body+behind, false)
				if len(o.heads) != 1 || o.body != body || o.ends != 1 || o.e != api.OK {
					t.Fatalf("%v: %.200v", l, o)
				}
			}
		}
		// Cut anywhere: each part is told at once, and nothing is told of a part that is empty.
		for cut := range min(length, 20) + 1 {
			s := lines("HTTP/1.1 200 OK", "Content-Length: "+digits)
			r := outflow.New("GET")
			r.Feed(s + body[:cut])
			wantPiece(t, r, headPiece(api.Head{Status: 200, Reason: "OK", Minor: 1, Fields: list("Content-Length", digits)}))
			if r.Len() != cut {
				t.Fatalf("Len() = %d, not %d", r.Len(), cut)
			}
			if cut > 0 {
				wantPiece(t, r, dataPiece(body[:cut]))
			}
			if cut < length {
				wantNone(t, r, api.OK)
				r.Feed("")
				wantNone(t, r, api.OK)
				r.Feed(body[cut:] + "y")
				wantPiece(t, r, dataPiece(body[cut:]))
			} else {
				r.Feed("y")
			}
			wantPiece(t, r, endPiece())
			wantNone(t, r, api.OK)
			if rest := r.Rest(); rest != "y" {
				t.Fatalf("Rest() = %q", rest)
			}
		}
		if length > 0 {
			wantShort(t, "GET", lines("HTTP/1.1 200 OK", "Content-Length: "+digits)+body[:length-1])
			wantShort(t, "GET", lines("HTTP/1.1 200 OK", "Content-Length: "+digits))
		}
	}
	// Above all bounds of requests, and never reached.
	s := lines("HTTP/1.1 200 OK", "Content-Length: 999999999999999")
	wantShort(t, "GET", s+"xyz")
	wantTold(t, "GET", s+"xyz", "", outcome{heads: []api.Head{{Status: 200, Reason: "OK", Minor: 1, Fields: list("Content-Length", "999999999999999")}}, body: "xyz"})
}

func TestWrongFramings(t *testing.T) {
	for l, want := range map[string]api.Errno{
		"Content-Length: x": api.ErrFraming, "Content-Length:": api.ErrFraming, "Content-Length: 5,": api.ErrFraming, "Content-Length: 5, 6": api.ErrFraming, "Content-Length: 5\r\nContent-Length: 6": api.ErrFraming, "Content-Length: -1": api.ErrFraming, "Content-Length: 1234567890123456": api.ErrFraming,
		"Content-Length: 5\r\nTransfer-Encoding: chunked": api.ErrFraming, "Transfer-Encoding: gzip\r\nContent-Length: 5": api.ErrFraming,
		"Transfer-Encoding: gzip": api.ErrCoding, "Transfer-Encoding:": api.ErrCoding, "Transfer-Encoding: gzip, chunked": api.ErrCoding, "Transfer-Encoding: chunked, gzip": api.ErrCoding, "Transfer-Encoding: chunked, chunked": api.ErrCoding, "Transfer-Encoding: chunked\r\ntransfer-encoding: chunked": api.ErrCoding,
	} {
		for _, behind := range []string{"", "x", "\n", "0\r\n\r\n", "5\r\nabcdex"} {
			wantError(t, "GET", lines("HTTP/1.1 200 OK", l)+behind, want)
			wantError(t, "CONNECT", lines("HTTP/1.9 404 ", l)+behind, want)
			// HTTP/1.0 knows no coding.
			wantError(t, "POST", lines("HTTP/1.0 200 OK", l)+behind, api.ErrFraming)
		}
		walk(t, "GET", step{lines("HTTP/1.1 200", l) + "abc", "", strconv.Itoa(len(l) + 21)}, step{"", "error " + strconv.Itoa(int(want)), strconv.Itoa(len(l) + 21)})
		// Without all of its head nothing is wrong yet.
		wantShort(t, "GET", "HTTP/1.1 200 OK\r\n"+l+"\r\n\r")
	}
	wantError(t, "GET", lines("HTTP/1.0 200 OK", "Transfer-Encoding: chunked")+"0\r\n\r\n", api.ErrFraming)
}

// Bodies in chunks.

func TestChunks(t *testing.T) {
	for _, name := range []string{"Transfer-Encoding: chunked", "transfer-encoding:Chunked", "TRANSFER-ENCODING: ,CHUNKED ,"} {
		ahead := lines("HTTP/1.1 200 OK", name)
		for s, body := range map[string]string{
			"0\r\n\r\n": "", "000;x=\"y\"\r\n\r\n": "", "0\r\nT: v\r\nU:\r\n\r\n": "", "1\r\nx\r\n0\r\n\r\n": "x", "3\r\nabc\r\n0\r\n\r\n": "abc", "1;x\r\na\r\n00002\r\n\r\n\r\n0\r\nContent-Length: 9\r\n\r\n": "a\r\n", "9\r\n0\r\n\r\n0\r\n\r\r\n0\r\n\r\n": "0\r\n\r\n0\r\n\r", "4\r\n\x00\xff\n\r\r\n5\r\n12345\r\n0\r\n\r\n": "\x00\xff\n\r12345",
			strings.Repeat("1\r\nx\r\n", 50) + "0\r\n" + strings.Repeat("A:"+strings.Repeat("x", 510)+"\r\n", 32) + "\r\n": strings.Repeat("x", 50), "20000\r\n" + strings.Repeat("y", 1<<17) + "\r\n1\r\nz\r\n0\r\n\r\n": strings.Repeat("y", 1<<17) + "z",
		} {
			value := strings.Trim(strings.SplitN(name, ":", 2)[1], " ")
			h := api.Head{Status: 200, Reason: "OK", Minor: 1, Fields: list(name[:17], value)}
			for _, behind := range []string{"", "0", "\r\n", lines("HTTP/1.1 200 OK")} {
				if len(s) < 1000 || behind == "0" {
					wantTold(t, "GET", ahead+s, behind, outcome{heads: []api.Head{h}, body: body, ends: 1})
				}
			}
			// All that is there of the body is one piece, however many chunks it came in.
			r := outflow.New("GET")
			r.Feed(ahead + s)
			wantPiece(t, r, headPiece(h))
			if r.Len() != len(s) {
				t.Fatalf("Len() = %d, not %d", r.Len(), len(s))
			}
			if body != "" {
				wantPiece(t, r, dataPiece(body))
			}
			wantPiece(t, r, endPiece())
			if state := stateOf(r); state != "0 ended reusable" {
				t.Fatalf("%.200q: %s", s, state)
			}
		}
	}
}

func TestChunksCut(t *testing.T) {
	ahead := lines("HTTP/1.1 200 OK", "Transfer-Encoding: chunked")
	s := "3;x\r\nabc\r\n2\r\nde\r\n0\r\nT: v\r\n\r\n"
	for cut := range len(s) {
		wantShort(t, "GET", ahead+s[:cut])
	}
	// Bytes that are no part of the body bring no piece, and none of them is left.
	walk(t, "GET", step{ahead, "", "47"}, step{"", "head 200", "0"}, step{"", "nothing", "0"}, step{"3;", "", "2"}, step{"", "nothing", "0"}, step{"x\r\n", "", "3"}, step{"", "nothing", "0"}, step{"a", "", "1"}, step{"", "data a", "0"}, step{"bc\r", "", "3"}, step{"", "data bc", "0"}, step{"\n2\r\nde\r\n0\r", "", "10"}, step{"", "data de", "0"}, step{"\nT", "", "2"}, step{"", "nothing", "0"}, step{": v\r\n\r", "", "6"}, step{"", "nothing", "0"}, step{"\n\r\n", "", "3"}, step{"", "the end", "2 ended"}, step{"", "nothing", "2 ended"}, step{"REST", "\r\n", "0 ended reusable"})
	walk(t, "GET", step{ahead, "", "47"}, step{"", "head 200", "0"}, step{"2\r\nab\r\n0\r\n\r\n", "", "12"}, step{"END", "", "12"}, step{"", "data ab", "0"}, step{"", "the end", "0 ended"}, step{"", "nothing", "0 ended"})
	walk(t, "GET", step{ahead, "", "47"}, step{"", "head 200", "0"}, step{"2\r\nab\r\n0\r\n", "", "10"}, step{"END", "", "10"}, step{"", "data ab", "0"}, step{"", "error 121", "0"}, step{"", "error 121", "0"})
}

func TestWrongChunks(t *testing.T) {
	ahead := lines("HTTP/1.1 200 OK", "Transfer-Encoding: chunked")
	for _, s := range []string{
		"\r\n", "g", "x\r\n", " 1\r\n", "-1\r\n", "000000000", "1 \r\n", "1\n", "1\rx", "1;\x00\r\n", "1;" + strings.Repeat("x", 63), "1\r\nxy", "1\r\nx\n", "1\r\nx\rx", "1\r\nx\r\n\r\n", "1\r\nx\r\ng", "0\r\n\n", "0\r\n\rx", "0\r\nT\r\n", "0\r\n T: v\r\n", "0\r\nT : v", "0\r\nT: \x00", "0\r\nT: v\n", "0\r\nT:" + strings.Repeat("x", 511), "0\r\n" + strings.Repeat("A:\r\n", 33), "3\r\nabc\r\n0\r\n0\r\n",
	} {
		wantError(t, "GET", ahead+s, api.ErrChunk)
		wantError(t, "GET", ahead+s+"\r\n\r\n", api.ErrChunk)
		wantError(t, "CONNECT", lines("HTTP/1.1 403", "Transfer-Encoding: chunked")+"2\r\n\r\n\r\n"+s, api.ErrChunk)
		r := outflow.New("GET")
		r.Feed(ahead)
		wantPiece(t, r, headPiece(api.Head{Status: 200, Reason: "OK", Minor: 1, Fields: list("Transfer-Encoding", "chunked")}))
		r.Feed("3\r\nabc\r\n")
		wantPiece(t, r, dataPiece("abc"))
		r.Feed(s)
		wantNone(t, r, api.ErrChunk)
		if r.Len() != len(s) {
			t.Errorf("%.200q: Len() = %d behind the error", s, r.Len())
		}
		wantForGood(t, r, api.ErrChunk)
	}
	// No size is too great, one behind another.
	for _, s := range []string{"ffffffff\r\n", "FFFFFFFF;x\r\nabc", "10001\r\n" + strings.Repeat("x", 65537) + "\r\nffffffff\r\ny", "2\r\nab\r\nfffffffe\r\n"} {
		if o := answered(t, "GET", ahead+s, false); o.e != api.OK || o.ends != 0 {
			t.Errorf("%.200q: %.200v", s, o)
		}
		wantShort(t, "GET", ahead+s)
	}
}

// Bodies up to the connection's end.

func TestUpToTheEnd(t *testing.T) {
	for _, s := range []string{lines("HTTP/1.1 200 OK"), lines("HTTP/1.0 404 ", "Connection: keep-alive", "A: b"), lines("HTTP/1.1 599", "X-Content-Length: 0", "Connection: close")} {
		for _, body := range []string{"", "a", "\r\n", "\r\n0\r\n\r\n", lines("HTTP/1.1 200 OK"), "\x00\xff", strings.Repeat("x", 1<<17)} {
			o := answered(t, "GET", s+body, false)
			if len(o.heads) != 1 || o.body != body || o.ends != 0 || o.e != api.OK {
				t.Fatalf("%.200q: %.200v", s+body, o)
			}
			o = answered(t, "GET", s+body, true)
			if len(o.heads) != 1 || o.body != body || o.ends != 1 || o.e != api.OK {
				t.Fatalf("%.200q and the end: %.200v", s+body, o)
			}
		}
	}
	s := lines("HTTP/1.1 200 OK")
	walk(t, "GET", step{s, "", "19"}, step{"", "head 200", "0"}, step{"", "nothing", "0"}, step{"ab", "", "2"}, step{"", "data ab", "0"}, step{"", "nothing", "0"}, step{"c", "", "1"}, step{"d", "", "2"}, step{"END", "", "2"}, step{"e", "", "2"}, step{"", "data cd", "0"}, step{"", "the end", "0 ended"}, step{"", "nothing", "0 ended"}, step{"f", "", "0 ended"}, step{"END", "", "0 ended"}, step{"REST", "", "0 ended"}, step{"", "nothing", "0 ended"})
	walk(t, "GET", step{s + "ab", "", "21"}, step{"", "head 200", "2"}, step{"END", "", "2"}, step{"REST", "ab", "0"}, step{"", "the end", "0 ended"})
	walk(t, "GET", step{s, "", "19"}, step{"END", "", "19"}, step{"", "head 200", "0"}, step{"", "the end", "0 ended"}, step{"", "nothing", "0 ended"})
}

// The server's end.

func TestServersEnd(t *testing.T) {
	for s, method := range map[string]string{
		lines("HTTP/1.1 100") + lines("HTTP/1.1 200", "Content-Length:3") + "abcd": "GET", lines("HTTP/1.1 200", "Transfer-Encoding:chunked") + "2\r\nab\r\n0\r\nT:\r\n\r\n\r\n": "GET", lines("HTTP/1.1 103", "A:b") + lines("HTTP/1.1 200") + "ab": "GET", lines("HTTP/1.1 304", "Content-Length: 3") + "abc": "GET", lines("HTTP/1.1 102") + lines("HTTP/1.1 200") + "\r\n": "CONNECT", lines("HTTP/1.1 101") + "x": "GET",
	} {
		x := newText(method, s)
		for at := range len(s) + 1 {
			for _, asked := range []bool{true, false} {
				f := follow(t, x)
				f.feed(at)
				if asked {
					f.ask()
				}
				f.end()
				f.ask()
				f.end()
				f.ask()
				f.rest()
				f.ask()
			}
			// Behind each single question.
			for questions := range 5 {
				r := outflow.New(method)
				r.Feed(s[:at])
				var o outcome
				for range questions {
					if piece, told, _ := r.Next(); told && piece.Kind == outflow.PieceHead {
						o.heads = append(o.heads, piece.Head)
					} else if told {
						o.body += piece.Data
						o.ends += piece.Kind / outflow.PieceEnd
					}
				}
				r.End()
				r.Feed(s[at:])
				o.drain(t, r)
				want := answered(t, method, s[:at], true)
				if !reflect.DeepEqual(o, want) {
					t.Fatalf("%s, %q, the end behind %d questions: %v, not %v", method, s[:at], questions, o, want)
				}
			}
		}
	}
	for _, method := range []string{"GET", "HEAD", "CONNECT", ""} {
		walk(t, method, step{"END", "", "0"}, step{"", "error 121", "0"}, step{lines("HTTP/1.1 200"), "", "0"}, step{"", "error 121", "0"}, step{"END", "", "0"}, step{"REST", "", "0"}, step{"", "error 121", "0"})
		walk(t, method, step{"HTTP", "", "4"}, step{"END", "", "4"}, step{"", "error 121", "4"}, step{"", "error 121", "4"}, step{"REST", "HTTP", "0"}, step{"", "error 121", "0"})
	}
}

// Which error is told where two could be: what is wrong comes ahead of what is short, and the head ahead of its framing ahead of the body.
func TestTwoErrors(t *testing.T) {
	for s, want := range map[string]api.Errno{
		"HTTP/1.1 200 OK\n": api.ErrLine, "HTTP/2.0 200 OK\r\n": api.ErrVersion, "HTTP/2.0 200 OK\r\nA\r\n\n": api.ErrVersion, "HTTP/2.0 20 OK\r\n": api.ErrLine, "HTTP/1.1 200 OK\r\nA\r\nB\n": api.ErrField, strings.Repeat("x", 1101) + "\n": api.ErrLong, "HTTP/1.1 200\r\nA" + strings.Repeat("x", 512): api.ErrLarge,
		"HTTP/1.1 200 OK\r\nContent-Length: x\r\nA\r\n\r\n": api.ErrField, "HTTP/2.0 200 OK\r\nTransfer-Encoding: gzip\r\n\r\n": api.ErrVersion, "HTTP/1.1 200 OK\r\nContent-Length: x\r\n\n": api.ErrLine, "HTTP/1.1 200 OK\r\nContent-Length: x\r\n" + strings.Repeat("A:\r\n", 32): api.ErrLarge,
		"HTTP/1.1 200 OK\r\nContent-Length: x\r\nTransfer-Encoding: gzip\r\n\r\n": api.ErrFraming, "HTTP/1.0 200 OK\r\nTransfer-Encoding: gzip\r\n\r\n": api.ErrFraming, "HTTP/1.1 200 OK\r\nTransfer-Encoding: gzip\r\n\r\nx": api.ErrCoding, "HTTP/1.1 200 OK\r\nContent-Length: 1\r\nTransfer-Encoding: chunked\r\n\r\nx": api.ErrFraming,
		"HTTP/1.1 200 OK\r\nTransfer-Encoding: chunked\r\n\r\n1\r\nab": api.ErrChunk, "HTTP/1.1 200 OK\r\nTransfer-Encoding: chunked\r\n\r\n0\r\n\n": api.ErrChunk,
	} {
		// wantError asks these with the server's end ahead of the first question, too.
		wantError(t, "GET", s, want)
		wantError(t, "POST", s+"\n", want)
	}
	// Asked ahead of the server's end or behind it.
	for s, want := range wrongHeads {
		r := outflow.New("GET")
		r.Feed(s)
		r.End()
		wantNone(t, r, want)
		r = outflow.New("GET")
		r.Feed(s)
		wantNone(t, r, want)
		r.End()
		wantNone(t, r, want)
	}
}

// A call that answers an error has used nothing.
func TestErrorsUseNothing(t *testing.T) {
	for s, want := range wrongHeads {
		walk(t, "GET", step{s, "", strconv.Itoa(len(s))}, step{"", "error " + strconv.Itoa(int(want)), strconv.Itoa(len(s))}, step{"REST", s, "0"}, step{"", "error " + strconv.Itoa(int(want)), "0"})
	}
	ahead := lines("HTTP/1.1 200", "Transfer-Encoding: chunked")
	walk(t, "GET", step{ahead + "1\r\nx\r\n2", "", "51"}, step{"", "head 200", "7"}, step{"", "data x", "0"}, step{"\rx\r\n", "", "4"}, step{"", "error 100", "4"}, step{"", "error 100", "4"}, step{"REST", "\rx\r\n", "0"}, step{"", "error 100", "0"})
	walk(t, "GET", step{ahead, "", "44"}, step{"", "head 200", "0"}, step{"1;x\r\n", "", "5"}, step{"END", "", "5"}, step{"", "error 121", "5"}, step{"REST", "1;x\r\n", "0"}, step{"", "error 121", "0"})
	walk(t, "GET", step{lines("HTTP/1.1 200", "Content-Length: 3") + "ab", "", "37"}, step{"END", "", "37"}, step{"", "head 200", "2"}, step{"", "data ab", "0"}, step{"", "error 121", "0"}, step{"", "error 121", "0"})
}

// P12.2 and P12.3, step by step.

func TestSteps(t *testing.T) {
	three := lines("HTTP/1.1 200 OK", "Content-Length: 3")
	// By length: within the head, within the body, with bytes left, and the server's end.
	walk(t, "GET", step{"", "nothing", "0"}, step{three[:10], "", "10"}, step{"", "nothing", "10"}, step{three[10:], "", "38"}, step{"", "head 200", "0"}, step{"", "nothing", "0"}, step{"a", "", "1"}, step{"", "data a", "0"}, step{"", "nothing", "0"}, step{"bcde", "", "4"}, step{"", "data bc", "2"}, step{"", "the end", "2 ended"}, step{"", "nothing", "2 ended"}, step{"REST", "de", "0 ended reusable"}, step{"", "nothing", "0 ended reusable"}, step{"f", "", "1 ended"}, step{"REST", "f", "0 ended reusable"}, step{"END", "", "0 ended"}, step{"", "nothing", "0 ended"}, step{"g", "", "0 ended"})
	// All has been told of a body, but not its end.
	walk(t, "GET", step{three + "abc", "", "41"}, step{"", "head 200", "3"}, step{"", "data abc", "0"}, step{"", "the end", "0 ended reusable"}, step{"END", "", "0 ended"}, step{"", "nothing", "0 ended"}, step{"REST", "", "0 ended"})
	walk(t, "GET", step{three + "abc", "", "41"}, step{"", "head 200", "3"}, step{"", "data abc", "0"}, step{"END", "", "0"}, step{"", "the end", "0 ended"}, step{"", "nothing", "0 ended"})
	// The rest of a head that has begun, and the rest of a body.
	walk(t, "GET", step{lines("HTTP/1.1 100") + "HTTP/1", "", "22"}, step{"REST", lines("HTTP/1.1 100") + "HTTP/1", "0"}, step{"", "nothing", "0"}, step{lines("HTTP/1.1 100") + "HTTP/1", "", "22"}, step{"", "nothing", "6"}, step{"REST", "HTTP/1", "0"}, step{three + "a", "", "39"}, step{"", "head 200", "1"}, step{"REST", "a", "0"}, step{"", "nothing", "0"}, step{"bcde", "", "4"}, step{"", "data bcd", "1"}, step{"", "the end", "1 ended"})
	// No body, and an end with bytes already there.
	walk(t, "GET", step{lines("HTTP/1.1 304") + "x", "", "17"}, step{"", "head 304", "1"}, step{"END", "", "1"}, step{"", "the end", "1 ended"}, step{"REST", "x", "0 ended"})
	walk(t, "GET", step{lines("HTTP/1.1 200", "Content-Length:0"), "", "34"}, step{"", "head 200", "0"}, step{"", "the end", "0 ended reusable"}, step{"", "nothing", "0 ended reusable"}, step{"END", "", "0 ended"})
	// Up to the connection's end nothing can be used again, also while the server hasn't ended.
	walk(t, "GET", step{lines("HTTP/1.1 200"), "", "16"}, step{"", "head 200", "0"}, step{"ab", "", "2"}, step{"REST", "ab", "0"}, step{"c", "", "1"}, step{"", "data c", "0"}, step{"", "nothing", "0"}, step{"END", "", "0"}, step{"", "the end", "0 ended"})
	// A tunnel.
	walk(t, "CONNECT", step{lines("HTTP/1.1 200", "Connection: keep-alive")[:20], "", "20"}, step{"", "nothing", "20"}, step{lines("HTTP/1.1 200", "Connection: keep-alive")[20:], "", "40"}, step{"", "head 200", "0 tunnel"}, step{"", "the end", "0 ended tunnel"}, step{"REST", "", "0 ended tunnel"}, step{"x", "", "1 ended tunnel"}, step{"END", "", "1 ended tunnel"}, step{"", "nothing", "1 ended tunnel"}, step{"REST", "x", "0 ended tunnel"})
}

func TestReusable(t *testing.T) {
	connections := []struct {
		l        []string
		one, old bool // whether the connection is kept with the Minor 1, and with 0
	}{
		{nil, true, false}, {[]string{"Connection: close"}, false, false}, {[]string{"connection:CLOSE"}, false, false}, {[]string{"Connection: keep-alive"}, true, true}, {[]string{"Connection: Keep-Alive"}, true, true}, {[]string{"Connection: a, close ,b"}, false, false}, {[]string{"Connection: keep-alive, close"}, false, false}, {[]string{"Connection: keep-alive", "A: b", "Connection: Close"}, false, false}, {[]string{"Connection: x", "CONNECTION: keep-alive"}, true, true}, {[]string{"Connection: closed"}, true, false}, {[]string{"Connection: not keep-alive"}, true, false}, {[]string{"Keep-Alive: 5"}, true, false}, {[]string{"Proxy-Connection: close"}, true, false}, {[]string{"Connection:"}, true, false},
	}
	for _, c := range connections {
		for minor := range 10 {
			kept := c.one
			if minor == 0 {
				kept = c.old
			}
			version := "HTTP/1." + strconv.Itoa(minor) + " "
			response := func(status string, l ...string) string {
				return lines(slices.Concat([]string{version + status}, c.l, l)...)
			}
			wantReusable(t, "GET", response("200", "Content-Length: 2")+"ab", kept)
			wantReusable(t, "GET", response("500", "Content-Length: 0"), kept)
			wantReusable(t, "GET", response("204"), kept)
			wantReusable(t, "GET", response("304", "Content-Length: 9"), kept)
			wantReusable(t, "HEAD", response("200", "Transfer-Encoding: chunked"), kept)
			if minor > 0 {
				wantReusable(t, "GET", response("200", "Transfer-Encoding: chunked")+"1\r\nx\r\n0\r\nConnection: close\r\n\r\n", kept)
			}
			wantReusable(t, "GET", response("101"), false)
			wantReusable(t, "CONNECT", response("200"), false)
			wantReusable(t, "GET", lines("HTTP/1.1 100", "Connection: close")+response("204"), kept)
			wantReusable(t, "GET", lines("HTTP/1.0 100", "Connection: keep-alive")+response("204"), kept)
			r := outflow.New("GET")
			r.Feed(response("200") + "ab")
			for range 4 {
				r.Next()
				if r.Reusable() {
					t.Fatalf("%v: reusable though framed by the connection's end", c.l)
				}
			}
			r.End()
			r.Next()
			if !r.Ended() || r.Reusable() {
				t.Fatalf("%v: %s behind the connection's end", c.l, stateOf(r))
			}
		}
	}
}

// wantReusable wants a response's connection to be reusable or not, behind its end alone.
func wantReusable(t *testing.T, method string, s string, want bool) {
	t.Helper()
	r := outflow.New(method)
	for i := range len(s) {
		if r.Feed(s[i : i+1]); r.Reusable() {
			t.Fatalf("%s, %q: reusable", method, s[:i+1])
		}
		for range 2 {
			if _, _, e := r.Next(); e != api.OK || r.Ended() && i < len(s)-1 || r.Reusable() && !r.Ended() {
				t.Fatalf("%s, %q: %d, %s", method, s[:i+1], e, stateOf(r))
			}
		}
	}
	r.Next()
	if !r.Ended() || r.Reusable() != want {
		t.Fatalf("%s, %q: %s, not reusable %v", method, s, stateOf(r), want)
	}
	r.Feed("")
	if r.Reusable() != want {
		t.Fatalf("%s, %q: %s behind no bytes", method, s, stateOf(r))
	}
	r.Feed("\r")
	if r.Next(); r.Reusable() || r.Len() != 1 {
		t.Fatalf("%s, %q: reusable with bytes left", method, s)
	}
	r.Rest()
	if r.Reusable() != want {
		t.Fatalf("%s, %q: %s behind the rest", method, s, stateOf(r))
	}
	r.End()
	if r.Reusable() || !r.Ended() {
		t.Fatalf("%s, %q: %s behind the server's end", method, s, stateOf(r))
	}
	// The server's end ahead of the response's.
	r = outflow.New(method)
	r.Feed(s)
	r.End()
	for range 4 {
		r.Next()
	}
	if r.Reusable() || !r.Ended() {
		t.Fatalf("%s, %q: %s with the server's end", method, s, stateOf(r))
	}
}

// What an answer and a reader have of their own.

func TestFieldsAreNewMemory(t *testing.T) {
	want := list("Content-Length", "4", "Connection", "keep-alive", "A", "b")
	s := lines("HTTP/1.1 100", "X: y") + lines("HTTP/1.0 200 OK", "Content-Length: 4", "Connection: keep-alive", "A: b") + "1234"
	for cut := range len(s) + 1 {
		r := outflow.New("GET")
		r.Feed(s[:cut])
		piece, told, _ := r.Next()
		if !told {
			r.Feed(s[cut:])
			piece, _, _ = r.Next()
		}
		if !slices.Equal(piece.Head.Fields, want) {
			t.Fatalf("cut at %d: %v", cut, piece)
		}
		// Marked and grown, the list changes nothing that is read later: not the length, nor what is kept.
		spare := piece.Head.Fields[:cap(piece.Head.Fields)]
		for i := range spare {
			spare[i] = api.Field{Name: "Connection", Value: "close"}
		}
		for range 50 {
			piece.Head.Fields = append(piece.Head.Fields, api.Field{Name: "Content-Length", Value: "9"})
		}
		if told {
			r.Feed(s[cut:])
		}
		o := outcome{heads: []api.Head{piece.Head}}
		o.drain(t, r)
		if o.body != "1234" || o.ends != 1 || o.e != api.OK || !r.Reusable() {
			t.Fatalf("cut at %d: %v, %s", cut, o, stateOf(r))
		}
	}
}

func TestEarlierPiecesStay(t *testing.T) {
	for _, ahead := range []string{lines("HTTP/1.1 200", "Content-Length: 100000"), lines("HTTP/1.1 200", "Transfer-Encoding: chunked") + "fffff\r\n", lines("HTTP/1.1 200")} {
		r := outflow.New("GET")
		r.Feed(ahead)
		r.Next()
		var got []string
		for i := range 500 {
			r.Feed(strconv.Itoa(i))
			r.Feed(".")
			piece, _, _ := r.Next()
			got = append(got, piece.Data)
		}
		for i, data := range got {
			if data != strconv.Itoa(i)+"." {
				t.Fatalf("%q: the piece %d is %q by now", ahead, i, data)
			}
		}
	}
}

func TestTwoReaders(t *testing.T) {
	texts := []*text{
		newText("GET", lines("HTTP/1.1 200", "Content-Length: 5")+"12345x"), newText("POST", lines("HTTP/1.1 200", "Transfer-Encoding: chunked")+"3\r\nabc\r\n2\r\nde\r\n0\r\nT: v\r\n\r\n"), newText("HEAD", lines("HTTP/1.1 100")+lines("HTTP/1.0 200", "Connection: keep-alive")), newText("GET", lines("HTTP/1.0 200")+"abc"), newText("CONNECT", lines("HTTP/1.1 200")+"xyz"), newText("GET", lines("HTTP/1.1 200", "Transfer-Encoding: chunked")+"3\r\nabcd\r\n"), newText("GET", "HTTP/1.1 200\r\nA\r\n\r\n"), newText("GET", lines("HTTP/1.1 200", "Content-Length: x")),
	}
	for _, a := range texts {
		for _, b := range texts {
			one, other := follow(t, a), follow(t, b)
			for at := range max(len(a.s), len(b.s)) {
				for _, f := range []*follower{one, other} {
					if at < len(f.s) {
						f.feed(at + 1)
						f.ask()
					}
				}
			}
			one.end()
			other.look()
			one.ask()
			other.ask()
			one.rest()
			other.look()
			other.end()
			other.ask()
		}
	}
}

// Responses put together by chance.

// drawn is a response as it is put together, and what is to be told of it.
type drawn struct {
	method, text, behind string
	want                 outcome
	toTheEnd             bool // whether just the server's end ends it
	kept, tunnel         bool
}

// draw puts a response together.
func draw(d *dice.Dice) drawn {
	var w drawn
	for range d.Below(3) * d.Below(2) {
		status := []string{"100", "102", "103", "199"}[d.Below(4)]
		w.text += lines(slices.Concat([]string{"HTTP/1." + strconv.Itoa(d.Below(10)) + " " + status}, fieldsOfAnyKind[d.Below(11)])...)
	}
	w.method = []string{"GET", "POST", "HEAD", "CONNECT", "x"}[d.Below(5)]
	minor := []int{0, 1, 1, 2, 9}[d.Below(5)]
	status := []int{101, 200, 200, 201, 204, 299, 300, 304, 404, 500, 599}[d.Below(11)]
	h := api.Head{Status: status, Minor: minor, Reason: []string{"", "OK", " a\tb "}[d.Below(3)]}
	body := ""
	for range d.Below(4) {
		body += []string{"\r\n", "0\r\n\r\n", "\n", "HTTP/1.1 200 OK\r\n", "abc", string([]byte{byte(d.Below(256))})}[d.Below(6)]
	}
	connection := []string{"", "close", "keep-alive", "x, Close", "y, Keep-Alive"}[d.Below(5)]
	w.kept = minor > 0 && (connection == "" || connection[0] != 'c' && connection[0] != 'x') || connection == "keep-alive" || connection == "y, Keep-Alive"
	h.Fields = list("A", "b", "conNection", connection)
	w.tunnel = status == 101 || w.method == "CONNECT" && status < 300 && status != 204
	bare := w.tunnel || status == 204 || status == 304 || w.method == "HEAD"
	kind := d.Below(3)
	written := body
	switch {
	case kind == 0:
		h.Fields = append(h.Fields, list("content-length", strconv.Itoa(len(body)))...)
	case kind == 1 && (minor > 0 || bare):
		h.Fields = append(h.Fields, list("Transfer-Encoding", "Chunked")...)
		half := d.Below(len(body) + 1)
		written = chunk.Encode(body[:half]) + chunk.Encode(body[half:]) + []string{chunk.Last(), "00;x\r\nT: v\r\n\r\n"}[d.Below(2)]
	default:
		w.toTheEnd = !bare
	}
	l := []string{"HTTP/1." + strconv.Itoa(minor) + " " + strconv.Itoa(status) + " " + h.Reason}
	for _, f := range h.Fields {
		l = append(l, f.Name+": "+f.Value)
	}
	w.text += lines(l...)
	w.want = outcome{heads: []api.Head{h}, ends: 1}
	if !bare {
		w.text += written
		w.want.body = body
	}
	if !w.toTheEnd && d.Below(2) == 0 {
		w.behind = []string{"x", "\r\n", lines("HTTP/1.1 200 OK")}[d.Below(3)]
	}
	return w
}

func TestDrawn(t *testing.T) {
	d := dice.New(12)
	for range 20000 {
		w := draw(d)
		s := w.text + w.behind
		r := outflow.New(w.method)
		var got outcome
		for from := 0; from < len(s); {
			to := min(from+d.Below(d.Below(60)+2), len(s))
			r.Feed(s[from:to])
			from = to
			if d.Below(3) == 0 {
				got.drain(t, r)
			}
		}
		gone := w.toTheEnd || d.Below(4) == 0
		if gone {
			r.End()
		}
		got.drain(t, r)
		if !reflect.DeepEqual(got, w.want) {
			t.Fatalf("%s, %.400q: %.300v, not %.300v", w.method, s, got, w.want)
		}
		reusable := w.kept && !w.tunnel && w.behind == "" && !gone
		if !r.Ended() || r.Tunnel() != w.tunnel || r.Reusable() != reusable {
			t.Fatalf("%s, %.400q: %s, not reusable %v", w.method, s, stateOf(r), reusable)
		}
		if rest := r.Rest(); rest != w.behind {
			t.Fatalf("%s, %.400q: Rest() = %q", w.method, s, rest)
		}
		wantNone(t, r, api.OK)
	}
}

// Responses with bytes changed by chance, fed, asked, ended and emptied by chance.
func TestChangedBytes(t *testing.T) {
	d := dice.New(120)
	told := map[api.Errno]int{}
	for range 20000 {
		w := draw(d)
		s := w.text + w.behind
		for range d.Below(4) {
			at := d.Below(len(s))
			other := []string{"", string([]byte{byte(d.Below(256))}), "\r", "\n", "\r\n", " ", "0", ":", ",", "2"}[d.Below(10)]
			s = s[:at] + other + s[at+d.Below(2):]
		}
		f := follow(t, newText(w.method, s))
		for f.fed < len(f.s) {
			f.feed(min(f.fed+d.Below(d.Below(60)+2), len(f.s)))
			if d.Below(3) == 0 {
				f.ask()
			}
			if d.Below(40) == 0 {
				f.rest()
			}
			if d.Below(60) == 0 {
				f.end()
				break
			}
		}
		f.ask()
		if !f.over {
			f.end()
		}
		f.ask()
		told[f.e]++
	}
	for _, e := range []api.Errno{api.OK, api.ErrShort, api.ErrLine, api.ErrVersion, api.ErrField, api.ErrFraming, api.ErrCoding, api.ErrChunk} {
		if told[e] < 10 {
			t.Errorf("the error %d is told %d times", e, told[e])
		}
	}
}

// Texts of the bytes that matter.
func TestShortTexts(t *testing.T) {
	pieces := []string{"\r", "\n", "\r\n", "0", "1", ":", "HTTP/1.1 100\r\n", "HTTP/1.1 200\r\n", "Content-Length:1\r\n"}
	var try func(method string, s string, left int)
	try = func(method string, s string, left int) {
		x := newText(method, s)
		var bytes []int
		for i := range len(s) {
			bytes = append(bytes, i)
		}
		wantPieces(t, x, false)
		wantPieces(t, x, true, bytes...)
		for _, piece := range pieces {
			if left > 0 {
				try(method, s+piece, left-1)
			}
		}
	}
	try("GET", "", 3)
	try("CONNECT", "HTTP/1.1 100\r\n\r\n", 3)
	try("GET", "HTTP/1.1 200\r\n", 3)
	try("GET", lines("HTTP/1.1 200", "Content-Length:1"), 3)
	try("GET", lines("HTTP/1.1 200", "Transfer-Encoding:chunked"), 4)
	try("HEAD", lines("HTTP/1.1 200", "Content-Length:1"), 2)
}

// Long bodies, which are gone through just once.

func TestBytesByThousands(t *testing.T) {
	const count = 1 << 20
	for _, ahead := range []string{lines("HTTP/1.1 200 OK", "Content-Length: "+strconv.Itoa(count)), lines("HTTP/1.1 200 OK", "Transfer-Encoding: chunked") + strconv.FormatInt(count, 16) + "\r\n", lines("HTTP/1.1 200 OK")} {
		for _, asked := range []bool{true, false} {
			r := outflow.New("GET")
			r.Feed(ahead)
			if piece, told, _ := r.Next(); !told || piece.Kind != outflow.PieceHead {
				t.Fatalf("%q: %v", ahead, piece)
			}
			bytes := 0
			for i := range count {
				r.Feed("x")
				if !asked && i < count-1 {
					continue
				}
				piece, told, e := r.Next()
				if !told || e != api.OK || piece.Kind != outflow.PieceData {
					t.Fatalf("%q: %.200v, %v, %d", ahead, piece, told, e)
				}
				bytes += len(piece.Data)
			}
			if bytes != count || r.Len() != 0 {
				t.Errorf("%q: %d bytes, Len() = %d", ahead, bytes, r.Len())
			}
		}
	}
	// Behind the end, behind an error and while chunks' lines come, the bytes are gone through no more than once either.
	for s, method := range map[string]string{lines("HTTP/1.1 200"): "CONNECT", lines("HTTP/1.1 204"): "GET", "HTTP/1.1\r\n": "GET"} {
		r := outflow.New(method)
		r.Feed(s)
		for range 3 {
			r.Next()
		}
		length := r.Len()
		for range count {
			r.Feed("x")
			if piece, told, _ := r.Next(); told {
				t.Fatalf("%q: %v", s, piece)
			}
		}
		if r.Len() != length+count || len(r.Rest()) != length+count || r.Len() != 0 {
			t.Errorf("%q: Len() = %d", s, r.Len())
		}
	}
}

// P1: any bytes, any method, any order of the calls.
func TestAnything(t *testing.T) {
	d := dice.New(121)
	for range 3000 {
		method := []string{"", "GET", "HEAD", "CONNECT", "\x00", strings.Repeat("x", 100)}[d.Below(6)]
		r := outflow.New(method)
		for range 30 {
			switch d.Below(8) {
			case 0:
				r.End()
			case 1:
				r.Rest()
			case 2, 3, 4:
				r.Feed([]string{"", "\x00", "\r\n", "HTTP/1.1 200 OK\r\n", "HTTP/1.1 101\r\n\r\n", "Transfer-Encoding: chunked\r\n", "Content-Length: " + strconv.Itoa(d.Below(math.MaxInt)) + "\r\n", "ffffffff\r\n", "0\r\n", string([]byte{byte(d.Below(256))})}[d.Below(10)])
			default:
				piece, told, e := r.Next()
				if told && (piece.Kind == 0 || e != api.OK) || !told && !reflect.DeepEqual(piece, outflow.Piece{}) {
					t.Fatalf("%v, %v, %d", piece, told, e)
				}
			}
		}
	}
}
