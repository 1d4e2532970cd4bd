package chunk_test

import (
	"math"
	"regexp"
	"strconv"
	"strings"
	"testing"

	"barbican/api"
	"barbican/chunk"
	"barbican/dice"
)

// The forms of lines and of their beginnings, for texts whose bytes are written as runes; a line's bound is counted beside them.
var (
	sizeForm     = regexp.MustCompile(`^([0-9A-Fa-f]{1,8})(?:;[\t\x20-\x7e]*)?$`)
	sizeStart    = regexp.MustCompile(`^(?:[0-9A-Fa-f]{1,8}(?:;[\t\x20-\x7e]*)?)?$`)
	trailerForm  = regexp.MustCompile("^[0-9A-Za-z!#$%&'*+.^_|~`-]+:[\\t\\x20-\\x7e\\x{80}-\\x{ff}]*$")
	trailerStart = regexp.MustCompile("^(?:[0-9A-Za-z!#$%&'*+.^_|~`-]+(?::[\\t\\x20-\\x7e\\x{80}-\\x{ff}]*)?)?$")
)

// one is a text of one byte.
func one(c int) string {
	return string([]byte{byte(c)})
}

// all is a text of all bytes.
func all() string {
	text := ""
	for c := range 256 {
		text += one(c)
	}
	return text
}

// runes writes each byte of s as the rune of its number.
func runes(s string) string {
	text := make([]rune, len(s))
	for i := range len(s) {
		text[i] = rune(s[i])
	}
	return string(text)
}

// reading is what has been read of a text: the body, how many bytes were read, whether all is, and the error.
type reading struct {
	body  string
	read  int
	whole bool
	err   api.Errno
}

// lineOf is the line at the beginning of s, whether it is whole, and whether all its bytes may stand: bytes by their form, as many as the bound says, and 13 10 behind them.
func lineOf(s string, bound int, start *regexp.Regexp) (string, bool, bool) {
	line, _, whole := strings.Cut(s, "\r\n")
	if !whole {
		line = strings.TrimSuffix(s, "\r")
	}
	return line, whole, len(line) <= bound && start.MatchString(runes(line))
}

// readAll reads a text from its beginning, line by line: what a decoder is to have told when all of it has been fed.
func readAll(s string, most int) reading {
	body, at := "", 0
	for {
		line, whole, stands := lineOf(s[at:], api.MaxChunkLn, sizeStart)
		parts := sizeForm.FindStringSubmatch(runes(line))
		switch {
		case !stands || whole && parts == nil:
			return reading{err: api.ErrChunk}
		case !whole:
			return reading{body: body, read: len(s)}
		}
		at += len(line) + 2
		size, _ := strconv.ParseInt(parts[1], 16, 64)
		if len(body)+int(size) > most {
			return reading{err: api.ErrOver}
		}
		if size == 0 {
			return readTrailers(s, at, body)
		}
		end := min(at+int(size), len(s))
		body += s[at:end]
		at = end
		if behind := s[at:min(at+2, len(s))]; !strings.HasPrefix("\r\n", behind) {
			return reading{err: api.ErrChunk}
		}
		if at+2 > len(s) {
			return reading{body: body, read: len(s)}
		}
		at += 2
	}
}

// readTrailers is readAll's reading behind the last chunk's line.
func readTrailers(s string, at int, body string) reading {
	for trailers := 0; ; trailers++ {
		line, whole, stands := lineOf(s[at:], api.MaxField, trailerStart)
		switch {
		case !stands:
			return reading{err: api.ErrChunk}
		case !whole:
			return reading{body: body, read: len(s)}
		case line == "":
			return reading{body: body, read: at + 2, whole: true}
		case !trailerForm.MatchString(runes(line)) || trailers == api.MaxFields:
			return reading{err: api.ErrChunk}
		}
		at += len(line) + 2
	}
}

// told is what the next call is to answer, when ahead had been read and now is.
func told(ahead reading, now reading) reading {
	if ahead.whole {
		return reading{whole: true}
	}
	if now.err != api.OK {
		return reading{err: now.err}
	}
	return reading{body: now.body[len(ahead.body):], read: now.read - ahead.read, whole: now.whole}
}

// feed is what a decoder answers.
func feed(d *chunk.Decoder, s string) reading {
	body, read, whole, e := d.Feed(s)
	return reading{body: body, read: read, whole: whole, err: e}
}

// wantFeed feeds s, and wants the answer.
func wantFeed(t *testing.T, d *chunk.Decoder, s string, want reading) {
	t.Helper()
	if got := feed(d, s); got != want {
		t.Fatalf("Feed(%.80q) = %.80q, %d, %v, %d, not %.80q, %d, %v, %d", s, got.body, got.read, got.whole, got.err, want.body, want.read, want.whole, want.err)
	}
}

// wantError feeds s at once, and wants the error, also of calls behind it.
func wantError(t *testing.T, most int, s string, want api.Errno) {
	t.Helper()
	d := chunk.New(most)
	for _, text := range []string{s, "", "1\r\nx\r\n", "0\r\n\r\n", s, "\r\n"} {
		wantFeed(t, d, text, reading{err: want})
	}
}

// wantBody feeds s at once with bytes behind it, and wants the body and all bytes of s read.
func wantBody(t *testing.T, most int, s string, body string) {
	t.Helper()
	for _, behind := range []string{"", "x", "\r\n", "0\r\n\r\n"} {
		d := chunk.New(most)
		wantFeed(t, d, s+behind, reading{body: body, read: len(s), whole: true})
		if d.Size() != len(body) {
			t.Fatalf("%.80q: Size() = %d, not %d", s, d.Size(), len(body))
		}
	}
}

// wantPieces feeds a text in pieces that end at the places, and wants what readAll reads; the readings are those of the text's beginnings, by their length.
func wantPieces(t *testing.T, s string, most int, readings []reading, places ...int) {
	t.Helper()
	d := chunk.New(most)
	from, failed := 0, api.OK
	for _, to := range append(places, len(s)) {
		want := told(readings[from], readings[to])
		if failed != api.OK {
			want = reading{err: failed}
		}
		if got := feed(d, s[from:to]); got != want {
			t.Fatalf("%.80q in pieces to %v: Feed(%.80q) = %.80q, want %.80q", s, places, s[from:to], text(got), text(want))
		}
		if failed = want.err; failed == api.OK && d.Size() != len(readings[to].body) {
			t.Fatalf("%.80q in pieces to %v: Size() = %d, not %d", s, places, d.Size(), len(readings[to].body))
		}
		from = to
	}
}

// text writes a reading.
func text(r reading) string {
	return strconv.Quote(r.body) + ", " + strconv.Itoa(r.read) + ", " + strconv.FormatBool(r.whole) + ", " + strconv.Itoa(int(r.err))
}

// beginnings are the readings of a text's beginnings, by their length.
func beginnings(s string, most int) []reading {
	readings := make([]reading, len(s)+1)
	for i := range readings {
		readings[i] = readAll(s[:i], most)
	}
	return readings
}

// wantDivided feeds a text at once, byte by byte, byte by byte with empty pieces between, and in every two pieces.
func wantDivided(t *testing.T, s string, most int) {
	t.Helper()
	readings := beginnings(s, most)
	wantPieces(t, s, most, readings)
	var bytes, doubled []int
	for i := range len(s) + 1 {
		bytes = append(bytes, i)
		doubled = append(doubled, i, i)
		wantPieces(t, s, most, readings, i)
	}
	wantPieces(t, s, most, readings, bytes...)
	wantPieces(t, s, most, readings, doubled...)
}

// wantParted feeds a text as wantDivided does, and in every three pieces, and these with empty ones between.
func wantParted(t *testing.T, s string, most int) {
	t.Helper()
	wantDivided(t, s, most)
	readings := beginnings(s, most)
	for i := range len(s) + 1 {
		for j := i; j <= len(s); j++ {
			wantPieces(t, s, most, readings, i, j)
			wantPieces(t, s, most, readings, 0, i, i, j, j, len(s))
		}
	}
}

// trailers are n lines of trailers.
func trailers(n int) string {
	lines := ""
	for i := range n {
		lines += "N" + strconv.Itoa(i) + ": v" + strconv.Itoa(i) + "\r\n"
	}
	return lines
}

func TestNumbers(t *testing.T) {
	if api.ErrChunk != 100 || api.ErrOver != 101 {
		t.Error("the errors have other numbers")
	}
	if api.MaxChunkLn != 64 || api.MaxFields != 32 || api.MaxField != 512 {
		t.Error("the limits are others")
	}
}

func TestExamples(t *testing.T) {
	d := chunk.New(9)
	wantFeed(t, d, "3;x=1\r\nab", reading{body: "ab", read: 9})
	wantFeed(t, d, "c\r\n0\r\nT: v\r\n\r\nrest", reading{body: "c", read: 14, whole: true})
	wantError(t, 9, "3\n", api.ErrChunk)
	wantError(t, 9, "a\r\n", api.ErrOver)
	wantError(t, 9, "3\r\nabcd", api.ErrChunk)
	wantError(t, 9, "\r\n", api.ErrChunk)
	if got := chunk.Encode("abcdefghijkl"); got != "c\r\nabcdefghijkl\r\n" {
		t.Errorf("%q", got)
	}
}

func TestDivisions(t *testing.T) {
	for _, s := range []string{
		"3;x=1\r\nabc\r\n0\r\nT: v\r\n\r\nrest", "0\r\n\r\n", "00;\r\nA:\r\nb: \tc\r\n\r\n\r\n", "1\r\n\r\r\n2;\t ~\r\n\r\n\r\n0002\r\nxy\r\n0;a\r\n\r\nz",
		"5\r\n\r\n0\r\n\r\n0\r\n\r\n", "a\r\n0123456789\r\n", "b\r\n0123456789", "3\r\nabcd\r\n", "3\r\nabc\rx", "3\r\nabc\n0\r\n\r\n", "2\r\nab\r\n\r\n0\r\n\r\n", "1\n", "1\rx\r\n", "1\r\r\n", "\r\n", "g\r\n", "1g\r\n", "1 \r\na\r\n", "1;\n\r\n",
		"0\r\nT\r\n\r\n", "0\r\n: v\r\n\r\n", "0\r\nT : v\r\n\r\n", "0\r\n T: v\r\n\r\n", "0\r\nT: v\n\r\n", "0\r\nT: v\rx\r\n", "0\r\n\rx", "0\r\n\n", "0\r\nT: \x00\r\n\r\n", "6\r\nabcdef\r\n6\r\nabcdef\r\n0\r\n\r\n", "ffffffff\r\n", "123456789\r\n",
	} {
		for _, most := range []int{-1, 0, 1, 5, 10, 11, 100} {
			wantParted(t, s, most)
		}
	}
}

func TestDigits(t *testing.T) {
	for digits := 1; digits <= 8; digits++ {
		noughts := strings.Repeat("0", digits-1)
		wantBody(t, 1, noughts+"1\r\nx\r\n"+noughts+"0\r\n\r\n", "x")
		wantBody(t, 15, noughts+"f\r\n0123456789abcde\r\n0\r\n\r\n", "0123456789abcde")
		wantBody(t, 15, noughts+"F;\r\n0123456789abcde\r\n0\r\n\r\n", "0123456789abcde")
	}
	for _, size := range []string{"", "000000001", "123456789", "000000000", "0000000001;x", "0x1", "-1", "+1", "1.", "1h", " 1", "1 ", "\t1", "1\t", "1 ;x", " ", ";", ";x", "1,1", "1_0", "\x001", "1\x00"} {
		wantError(t, 99, size+"\r\nx\r\n0\r\n\r\n", api.ErrChunk)
	}
	long := strings.Repeat("0123456789", 300)
	for _, size := range []string{"bb8", "BB8", "bB8", "0Bb8", "00000bb8", "00000BB8;bb9"} {
		wantBody(t, 3000, size+"\r\n"+long+"\r\n0\r\n\r\n", long)
	}
	letters := strings.Repeat("x", 0xabcdef)
	for _, size := range []string{"abcdef", "ABCDEF", "aBcDeF", "00AbCdEf"} {
		wantBody(t, 0xabcdef, size+"\r\n"+letters+"\r\n0\r\n\r\n", letters)
	}
}

// Which bytes stand at the places of a size line, and at which byte the error is told.
func TestSizeBytes(t *testing.T) {
	for c := range 256 {
		for _, parts := range [][2]string{{"", "\r\n"}, {"1", "\r\n"}, {"1", ";x\r\n"}, {"0000001", "\r\n"}, {"00000001", "\r\n"}, {"1;", "\r\n"}, {"1;x", "y\r\n"}, {"1\r", ""}, {"1\r", "\n"}, {"1", "\n"}, {"1;", "\n"}, {"1;x\r", "\n"}, {"\r", ""}, {"", ""}} {
			wantDivided(t, parts[0]+one(c)+parts[1]+strings.Repeat("x", 20), 20)
		}
		isDigit := c >= 48 && c <= 57 || c >= 65 && c <= 70 || c >= 97 && c <= 102
		if e := feed(chunk.New(99), one(c)).err; (e == api.OK) != (isDigit || c == 13) {
			t.Errorf("the byte %d at the beginning: %d", c, e)
		}
		if e := feed(chunk.New(99), "1"+one(c)).err; (e == api.OK) != (isDigit || c == 13 || c == 59) {
			t.Errorf("the byte %d behind a digit: %d", c, e)
		}
		if e := feed(chunk.New(99), "00000000"+one(c)).err; (e == api.OK) != (c == 13 || c == 59) {
			t.Errorf("the byte %d behind eight digits: %d", c, e)
		}
		if e := feed(chunk.New(99), "1;"+one(c)).err; (e == api.OK) != (c == 9 || c == 13 || c >= 32 && c <= 126) {
			t.Errorf("the byte %d behind a semicolon: %d", c, e)
		}
	}
}

func TestSizeBound(t *testing.T) {
	for _, begun := range []string{"1;", "00000001;", "1;\t"} {
		for length := api.MaxChunkLn - 2; length <= api.MaxChunkLn+2; length++ {
			line := begun + strings.Repeat("x", length-len(begun))
			whole := line + "\r\na\r\n0\r\n\r\n"
			if length <= api.MaxChunkLn {
				wantBody(t, 1, whole, "a")
				wantFeed(t, chunk.New(1), line, reading{read: length})
				wantFeed(t, chunk.New(1), line+"\r", reading{read: length + 1})
			} else {
				wantError(t, 1, whole, api.ErrChunk)
				wantError(t, 1, line, api.ErrChunk)
			}
			wantDivided(t, whole, 1)
		}
	}
	last := "0;" + strings.Repeat(" ", api.MaxChunkLn-2)
	wantBody(t, 0, last+"\r\n\r\n", "")
	wantError(t, 0, last+" \r\n\r\n", api.ErrChunk)
	// Each line has a bound of its own, whatever stood ahead.
	lines := ""
	for range 20 {
		lines += "1;" + strings.Repeat("x", api.MaxChunkLn-2) + "\r\na\r\n"
	}
	wantBody(t, 20, lines+last+"\r\n\r\n", strings.Repeat("a", 20))
	wantDivided(t, lines+last+"\r\n\r\n", 20)
}

func TestMost(t *testing.T) {
	for _, most := range []int{0, 1, 2, 9, 15, 16, 255, 256} {
		exact := strings.Repeat("x", most)
		wantBody(t, most, chunk.Encode(exact)+chunk.Last(), exact)
		wantBody(t, most, strings.Repeat("1\r\nx\r\n", most)+chunk.Last(), exact)
		wantError(t, most, chunk.Encode(exact+"x")+chunk.Last(), api.ErrOver)
		wantError(t, most, chunk.Encode(exact)+"1\r\n", api.ErrOver)
		wantError(t, most, strings.Repeat("1\r\nx\r\n", most)+"1\r\n", api.ErrOver)
		wantFeed(t, chunk.New(most), chunk.Encode(exact)+"1\r", reading{body: exact, read: len(chunk.Encode(exact)) + 2})
		if most > 0 {
			wantError(t, most, "1\r\nx\r\n"+strconv.FormatInt(int64(most), 16)+"\r\n", api.ErrOver)
		}
	}
	for _, size := range []string{"ffffffff", "FFFFFFFF", "80000000", "7fffffff;x"} {
		number, _ := strconv.ParseInt(size[:8], 16, 64)
		for _, most := range []int{math.MinInt, -1, 0, 1, 65536, int(number) - 1} {
			wantError(t, most, size+"\r\n", api.ErrOver)
		}
		for _, most := range []int{int(number), int(number) + 1, api.MaxTime, math.MaxInt} {
			d := chunk.New(most)
			wantFeed(t, d, size+"\r\nab", reading{body: "ab", read: len(size) + 4})
			wantFeed(t, d, "\r\n0\r\n", reading{body: "\r\n0\r\n", read: 5})
		}
	}
	wantError(t, 0xffffffff, "1\r\nx\r\nffffffff\r\n", api.ErrOver)
	wantFeed(t, chunk.New(0x100000000), "1\r\nx\r\nffffffff\r\n", reading{body: "x", read: 16})
	wantBody(t, math.MaxInt, "1\r\nx\r\n0\r\n\r\n", "x")
	// A body of no bytes has more than a most below 0.
	for _, most := range []int{math.MinInt, -2, -1} {
		wantError(t, most, "0\r\n\r\n", api.ErrOver)
		wantError(t, most, "1\r\nx\r\n", api.ErrOver)
		wantFeed(t, chunk.New(most), "0\r", reading{read: 2})
		wantFeed(t, chunk.New(most), "", reading{})
	}
}

// Which of two reasons is told is told by the order of the bytes.
func TestReasons(t *testing.T) {
	for _, s := range []string{"a;\x00\r\n", "ag\r\n", "a\rx", "a\n", "a \r\n", "fffffffff\r\n", "a;" + strings.Repeat("x", api.MaxChunkLn) + "\r\n", "1\r\nxy\r\na\r\n", "1\r\nx\ra\r\n", "1\r\nx\na\r\n"} {
		wantError(t, 9, s, api.ErrChunk)
		wantDivided(t, s, 9)
	}
	for _, s := range []string{"a\r\n\r\n", "a\r\ng\r\n", "a\r\n\n", "1\r\nx\r\n9\r\nxxxxxxxxxy", "9\r\n123456789\r\n1\r\nxy", "a;" + strings.Repeat("x", api.MaxChunkLn-2) + "\r\n\x00"} {
		wantError(t, 9, s, api.ErrOver)
		wantDivided(t, s, 9)
	}
}

func TestBytes(t *testing.T) {
	for c := range 256 {
		for _, body := range []string{one(c), one(c) + one(c), "a" + one(c), one(c) + "\n", "\r" + one(c), strings.Repeat(one(c), 17)} {
			s := chunk.Encode(body) + chunk.Last()
			wantBody(t, len(body), s, body)
			wantDivided(t, s, len(body))
		}
		// The bytes that stand where the line end behind a chunk is due.
		wantDivided(t, "2\r\nab"+one(c)+"\r\n0\r\n\r\n", 9)
		wantDivided(t, "2\r\nab"+one(c)+"\n0\r\n\r\n", 9)
		wantDivided(t, "2\r\nab\r"+one(c)+"0\r\n\r\n", 9)
		wantDivided(t, "2\r\nab\r\n"+one(c)+"\r\n\r\n", 9)
		if e := feed(chunk.New(9), "2\r\nab"+one(c)).err; (e == api.OK) != (c == 13) {
			t.Errorf("the byte %d behind a chunk: %d", c, e)
		}
		if e := feed(chunk.New(9), "2\r\nab\r"+one(c)).err; (e == api.OK) != (c == 10) {
			t.Errorf("the byte %d behind a chunk and 13: %d", c, e)
		}
	}
	wantBody(t, 256, "100\r\n"+all()+"\r\n0\r\n\r\n", all())
	wantDivided(t, "100\r\n"+all()+"\r\n0\r\n\r\n", 256)
	for _, s := range []string{"2\r\nab\r\r\n", "2\r\nab\n", "2\r\nab0\r\n\r\n", "2\r\nab\r0", "3\r\nab\r\n0\r\n\r\n", "2\r\nabc\r\n", "2\r\nab\r\n\r\n", "2\r\nab\r\n\n"} {
		wantError(t, 9, s, api.ErrChunk)
	}
	// The 10 behind a chunk of three bytes, the 13 being one of them.
	wantFeed(t, chunk.New(9), "3\r\nab\r", reading{body: "ab\r", read: 6})
}

func TestLastChunks(t *testing.T) {
	for _, size := range []string{"0", "00", "0000", "00000000", "0;", "0;a=b", "000;\t ;", "00000000;~"} {
		for _, most := range []int{0, 1, 99} {
			wantBody(t, most, size+"\r\n\r\n", "")
			wantBody(t, most, size+"\r\nT: v\r\n\r\n", "")
			wantDivided(t, size+"\r\n\r\n0", most)
		}
		wantBody(t, 1, "1\r\nx\r\n"+size+"\r\n\r\n", "x")
		wantFeed(t, chunk.New(0), size+"\r\n", reading{read: len(size) + 2})
		wantFeed(t, chunk.New(0), size+"\r\n\r", reading{read: len(size) + 3})
		wantError(t, 0, size+"\r\n\n", api.ErrChunk)
		wantError(t, 0, size+"\r\n\rx", api.ErrChunk)
		// Nothing stands behind the last chunk's line but trailers.
		wantError(t, 9, size+"\r\n1\r\nx\r\n0\r\n\r\n", api.ErrChunk)
		wantError(t, 9, size+"\r\n0\r\n\r\n", api.ErrChunk)
	}
}

func TestTrailers(t *testing.T) {
	for n := range api.MaxFields + 1 {
		wantBody(t, 1, "1\r\nx\r\n0\r\n"+trailers(n)+"\r\n", "x")
		wantBody(t, 0, "0\r\n"+strings.Repeat("A:\r\n", n)+"\r\n", "")
	}
	for n := api.MaxFields + 1; n < api.MaxFields+4; n++ {
		wantError(t, 1, "1\r\nx\r\n0\r\n"+trailers(n)+"\r\n", api.ErrChunk)
		wantError(t, 0, "0\r\n"+strings.Repeat("A:\r\n", n)+"\r\n", api.ErrChunk)
	}
	// A trailer too many is told with the byte that ends it.
	most := "0\r\n" + trailers(api.MaxFields)
	wantFeed(t, chunk.New(0), most+"T: v\r", reading{read: len(most) + 5})
	wantError(t, 0, most+"T: v\r\n", api.ErrChunk)
	wantError(t, 0, most+"T v", api.ErrChunk)
	for _, line := range []string{"T: v", "T:v", "T:", "T: ", "T:\t \t", "T:  v \t", "t: a b", "t:::", "!#$%&'*+-.^_|~`: x", "Content-Length: 5", "Transfer-Encoding: chunked", "0: 0", "f:f", "T: \xff\x80", "T: \"a;b\""} {
		wantBody(t, 0, "0\r\n"+line+"\r\n\r\n", "")
		wantBody(t, 0, "0\r\n"+trailers(30)+line+"\r\n"+line+"\r\n\r\n", "")
		wantDivided(t, "0\r\n"+line+"\r\n"+line+"\r\n\r\n", 0)
	}
	for _, line := range []string{"T", "T ", " ", "\t", ":", ": v", ":v", "T : v", " T: v", "\tT: v", "T\t: v", "T;: v", "(T): v", "T: \x00", "T: \x7f", "T: a\x01b", "T\x00: v", "T\xff: v", "T: v\x1f", "T/x: v", "1", "0;x"} {
		wantError(t, 0, "0\r\n"+line+"\r\n\r\n", api.ErrChunk)
		wantError(t, 0, "0\r\nT: v\r\n"+line+"\r\n\r\n", api.ErrChunk)
		wantDivided(t, "0\r\nA: b\r\n"+line+"\r\n\r\n", 0)
	}
}

// Which bytes stand at the places of a trailer, and at which byte the error is told.
func TestTrailerBytes(t *testing.T) {
	for c := range 256 {
		for _, parts := range [][2]string{{"", "\r\n\r\n"}, {"", ": v\r\n\r\n"}, {"a", "b: v\r\n\r\n"}, {"a", ": v\r\n\r\n"}, {"a", "\r\n\r\n"}, {"a:", "\r\n\r\n"}, {"a: v", "\r\n\r\n"}, {"a: v", "w\r\n\r\n"}, {"a: v\r", "\n\r\n"}, {"a: v\r", "\r\n"}, {"a: v", "\n\r\n"}, {"a: v\r\n", "\r\n\r\n"}, {"a: v\r\n\r", "\n"}, {"a: v\r\n", "\n"}, {"\r", "\n"}, {"\r", ""}} {
			wantDivided(t, "0\r\n"+parts[0]+one(c)+parts[1], 0)
		}
		inName := c >= 48 && c <= 57 || c >= 65 && c <= 90 || c >= 97 && c <= 122 || strings.Contains("!#$%&'*+-.^_|~`", one(c))
		if e := feed(chunk.New(0), "0\r\n"+one(c)).err; (e == api.OK) != (inName || c == 13) {
			t.Errorf("the byte %d at a trailer's beginning: %d", c, e)
		}
		if e := feed(chunk.New(0), "0\r\na"+one(c)).err; (e == api.OK) != (inName || c == 13 || c == 58) {
			t.Errorf("the byte %d in a trailer's name: %d", c, e)
		}
		if e := feed(chunk.New(0), "0\r\na:"+one(c)).err; (e == api.OK) != (c == 9 || c == 13 || c >= 32 && c != 127) {
			t.Errorf("the byte %d in a trailer's value: %d", c, e)
		}
	}
}

func TestTrailerBound(t *testing.T) {
	for _, begun := range []string{"T:", "T: ", "a-long-name: v"} {
		for _, filling := range []string{"x", " ", "\xff", ":", ";"} {
			for length := api.MaxField - 1; length <= api.MaxField+2; length++ {
				line := begun + strings.Repeat(filling, length-len(begun))
				if length <= api.MaxField {
					wantBody(t, 0, "0\r\n"+line+"\r\n\r\n", "")
					wantBody(t, 0, "0\r\n"+strings.Repeat(line+"\r\n", api.MaxFields)+"\r\n", "")
					wantFeed(t, chunk.New(0), "0\r\n"+line+"\r", reading{read: 4 + length})
				} else {
					wantError(t, 0, "0\r\n"+line+"\r\n\r\n", api.ErrChunk)
					wantError(t, 0, "0\r\n"+line, api.ErrChunk)
				}
			}
		}
	}
	name := strings.Repeat("n", api.MaxField)
	wantBody(t, 0, "0\r\n"+name[1:]+":\r\n\r\n", "")
	wantError(t, 0, "0\r\n"+name+":\r\n\r\n", api.ErrChunk)
	wantError(t, 0, "0\r\n"+name+"\r\n\r\n", api.ErrChunk)
	wantFeed(t, chunk.New(0), "0\r\n"+name, reading{read: 3 + api.MaxField})
	wantError(t, 0, "0\r\n"+name+"n", api.ErrChunk)
	wantDivided(t, "0\r\nT: "+name[4:]+"x\r\n\r\n", 0)
	wantDivided(t, "0\r\nT: "+name[3:]+"\r\n\r\n", 0)
}

func TestBehindTheEnd(t *testing.T) {
	for _, s := range []string{"0\r\n\r\n", "1\r\nx\r\n0\r\n\r\n", "0;e\r\nT: v\r\n\r\n"} {
		for _, behind := range []string{"", "\r\n", "0\r\n\r\n", "1\r\ny\r\n0\r\n\r\n", "x", "\n", "g\r\n", "\x00", "fffffffff", s} {
			d := chunk.New(1)
			want := readAll(s, 1)
			wantFeed(t, d, s+behind, want)
			for _, later := range []string{behind, "", "1\r\ny\r\n", "\n", "\x00\xff", strings.Repeat("x", 1000), s} {
				wantFeed(t, d, later, reading{whole: true})
				if d.Size() != len(want.body) {
					t.Fatalf("%q, then %q: Size() = %d", s+behind, later, d.Size())
				}
			}
		}
	}
}

func TestErrorsStay(t *testing.T) {
	for s, want := range map[string]api.Errno{"x": api.ErrChunk, "2\r\nabc": api.ErrChunk, "0\r\nT\r\n": api.ErrChunk, "3\r\n": api.ErrOver, "1\r\na\r\n2\r\n": api.ErrOver} {
		for cut := range len(s) {
			d := chunk.New(2)
			if got := feed(d, s[:cut]); got.err != api.OK {
				t.Fatalf("%q: %d", s[:cut], got.err)
			}
			wantFeed(t, d, s[cut:], reading{err: want})
			for _, later := range []string{"", "0\r\n\r\n", "\r\n", "1\r\na\r\n0\r\n\r\n", "9\r\n", "x", "x", "\r\n\r\n", strings.Repeat("0", 1000)} {
				wantFeed(t, d, later, reading{err: want})
			}
		}
	}
}

func TestTwoDecoders(t *testing.T) {
	texts := []string{"3;x=1\r\nabc\r\n0\r\nT: v\r\n\r\n", "5\r\n12345\r\n1;~\r\n6\r\n00\r\n\r\n", "2\r\nxyz\r\n", "8\r\n", "0\r\nABC:\r\nD: e\r\n\r\n"}
	for i, a := range texts {
		for _, b := range texts[i:] {
			first, second := chunk.New(7), chunk.New(6)
			ofFirst, ofSecond := beginnings(a, 7), beginnings(b, 6)
			for at := range max(len(a), len(b)) {
				if at < len(a) && ofFirst[at].err == api.OK {
					wantFeed(t, first, a[at:at+1], told(ofFirst[at], ofFirst[at+1]))
				}
				if at < len(b) && ofSecond[at].err == api.OK {
					wantFeed(t, second, b[at:at+1], told(ofSecond[at], ofSecond[at+1]))
				}
			}
		}
	}
}

func TestSize(t *testing.T) {
	d := chunk.New(20)
	for _, step := range []struct {
		text string
		size int
	}{{"", 0}, {"5", 0}, {"\r\n", 0}, {"a", 1}, {"bc", 3}, {"", 3}, {"de", 5}, {"\r", 5}, {"\nf;x\r", 5}, {"\n0123", 9}, {"456789abcde\r\n", 20}, {"0\r\n", 20}, {"T: v\r\n\r", 20}, {"\n", 20}, {"", 20}, {"1\r\nx\r\n", 20}} {
		if feed(d, step.text).err != api.OK || d.Size() != step.size {
			t.Fatalf("behind %q: Size() = %d, not %d", step.text, d.Size(), step.size)
		}
		if d.Size() != step.size {
			t.Fatalf("behind %q, asked again: Size() = %d, not %d", step.text, d.Size(), step.size)
		}
	}
	if got := chunk.New(5).Size(); got != 0 {
		t.Errorf("Size() = %d ahead of all", got)
	}
}

func TestShortTexts(t *testing.T) {
	pieces := []string{"0", "1", "a", ";", ":", " ", "\r", "\n", "\r\n"}
	var try func(ahead string, text string, left int)
	try = func(ahead string, text string, left int) {
		s := ahead + text
		readings := beginnings(s, 1)
		wantPieces(t, s, 1, readings)
		var places []int
		for i := range len(s) {
			places = append(places, i+1)
		}
		wantPieces(t, s, 1, readings, places...)
		wantPieces(t, s, 1, readings, len(ahead))
		for _, piece := range pieces {
			if left > 0 {
				try(ahead, text+piece, left-1)
			}
		}
	}
	try("", "", 4)
	for _, ahead := range []string{"1\r\nx", "0\r\n", "0\r\na:", "1;", "00\r\na", "1\r\n\r\r\n"} {
		try(ahead, "", 3)
	}
}

// chance draws a body in chunks, now and then one that isn't right, and bytes behind it.
func chance(d *dice.Dice) string {
	var s strings.Builder
	for range d.Below(6) {
		body := strings.Repeat(one(d.Below(256)), d.Below(40)+1)
		s.WriteString(strings.Repeat("0", d.Below(3)) + strconv.FormatInt(int64(len(body)), 16) + []string{"", ";", "; a=\"b\"", ";\t"}[d.Below(4)] + "\r\n" + body + "\r\n")
	}
	s.WriteString(strings.Repeat("0", d.Below(3)+1) + "\r\n" + trailers(d.Below(4)) + "\r\n" + []string{"", "x", "0\r\n\r\n"}[d.Below(3)])
	text := s.String()
	if d.Below(2) == 0 {
		return text
	}
	at := d.Below(len(text))
	other := []string{"", one(d.Below(256)), "\r", "\n", "\r\n", "0", "f", ";", ":", " "}[d.Below(10)]
	return text[:at] + other + text[at+d.Below(2):]
}

func TestChance(t *testing.T) {
	d := dice.New(10)
	for range 3000 {
		s := chance(d)
		most := []int{0, 20, 60, 100, 1000, api.MaxBody}[d.Below(6)]
		readings := beginnings(s, most)
		wantPieces(t, s, most, readings)
		for range 5 {
			var places []int
			for at := d.Below(9); at <= len(s); at += d.Below(9) + d.Below(9) {
				places = append(places, at)
			}
			wantPieces(t, s, most, readings, places...)
		}
	}
}

func TestEncode(t *testing.T) {
	for length, digits := range map[int]string{1: "1", 9: "9", 10: "a", 15: "f", 16: "10", 17: "11", 171: "ab", 255: "ff", 256: "100", 4095: "fff", 4096: "1000", 43981: "abcd", 65535: "ffff", 65536: "10000", 1 << 20: "100000"} {
		s := strings.Repeat("x", length)
		if got, want := chunk.Encode(s), digits+"\r\n"+s+"\r\n"; got != want {
			t.Errorf("Encode of %d bytes begins %.20q and has %d bytes, not %d", length, got, len(got), len(want))
		}
	}
	if got := chunk.Encode(""); got != "" {
		t.Errorf("Encode of nothing: %q", got)
	}
	if got := chunk.Last(); got != "0\r\n\r\n" {
		t.Errorf("Last() = %q", got)
	}
	for c := range 256 {
		if got, want := chunk.Encode(one(c)), "1\r\n"+one(c)+"\r\n"; got != want {
			t.Errorf("Encode(%q) = %q", one(c), got)
		}
	}
	if got, want := chunk.Encode(all()), "100\r\n"+all()+"\r\n"; got != want {
		t.Errorf("Encode of all bytes: %q", got)
	}
	// What is a chunk already is written as any other text.
	if got, want := chunk.Encode("1\r\nx\r\n"), "6\r\n1\r\nx\r\n\r\n"; got != want {
		t.Errorf("%q", got)
	}
}

func TestReadBack(t *testing.T) {
	for _, length := range []int{0, 1, 2, 15, 16, 17, 255, 256, 257, 4095, 4096, 65535, 65536} {
		body := strings.Repeat(all(), length/256+1)[:length]
		for _, behind := range []string{"", "x", "\r\n", "GET / HTTP/1.1\r\n\r\n", chunk.Last(), chunk.Encode("x")} {
			d := chunk.New(length)
			s := chunk.Encode(body) + chunk.Last()
			wantFeed(t, d, s+behind, reading{body: body, read: len(s), whole: true})
			wantFeed(t, d, behind, reading{whole: true})
		}
	}
	// A text in many chunks, of growing sizes, with empty ones that aren't written.
	text, body := "", ""
	for i := range 200 {
		piece := strings.Repeat(one(i), i)
		text, body = text+chunk.Encode(piece)+chunk.Encode(""), body+piece
	}
	wantBody(t, len(body), text+chunk.Last(), body)
	wantError(t, len(body)-1, text+chunk.Last(), api.ErrOver)
}

func TestLongBodies(t *testing.T) {
	tiny := strings.Repeat("1\r\nx\r\n", 1<<17)
	wantBody(t, 1<<17, tiny+"0\r\n\r\n", strings.Repeat("x", 1<<17))
	d := chunk.New(1 << 24)
	wantFeed(t, d, "1000000\r\n", reading{read: 9})
	piece := strings.Repeat("y", 1<<12)
	for range 1 << 12 {
		wantFeed(t, d, piece, reading{body: piece, read: len(piece)})
	}
	wantFeed(t, d, "\r\n0\r\n\r\nz", reading{read: 7, whole: true})
	if d.Size() != 1<<24 {
		t.Errorf("Size() = %d", d.Size())
	}
}
