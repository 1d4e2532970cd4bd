package frame_test

import (
	"math"
	"regexp"
	"slices"
	"strconv"
	"strings"
	"testing"

	"barbican/api"
	"barbican/dice"
	"barbican/frame"
)

// Texts of lists, for values of one name with commas between them; bytes are written as runes.
var (
	lengthsForm = regexp.MustCompile(`^[\t\x20]*[0-9]{1,15}[\t\x20]*(,[\t\x20]*[0-9]{1,15}[\t\x20]*)*$`)
	alone       = regexp.MustCompile(`^[,\t\x20]*chunked[,\t\x20]*$`)
	closing     = regexp.MustCompile(`(^|,)[\t\x20]*close[\t\x20]*(,|$)`)
	keeping     = regexp.MustCompile(`(^|,)[\t\x20]*keep-alive[\t\x20]*(,|$)`)
	gaps        = regexp.MustCompile(`[\t\x20]*,[,\t\x20]*`)
	digits      = regexp.MustCompile(`[0-9]+`)
)

// one is a text of one byte.
func one(c int) string {
	return string([]byte{byte(c)})
}

// small writes each large letter as the small one.
func small(s string) string {
	text := []byte(s)
	for i := range text {
		if text[i] >= 65 && text[i] <= 90 {
			text[i] += 32
		}
	}
	return string(text)
}

// cases are ways to write a word: small, large, mixed in two ways, and with just one letter of the other case.
func cases(word string) []string {
	low, high := small(word), strings.ToUpper(word)
	var odd, even []byte
	ways := []string{word, low, high}
	for i := range len(word) {
		two := low[i:i+1] + high[i:i+1]
		odd, even = append(odd, two[i%2]), append(even, two[1-i%2])
		ways = append(ways, low[:i]+high[i:i+1]+low[i+1:], high[:i]+low[i:i+1]+high[i+1:])
	}
	return append(ways, string(odd), string(even))
}

// near are texts that are nearly a word, and aren't it: none is to count as one.
func near(word string) []string {
	texts := []string{"", word + word, word + "x", "x" + word, word + "-" + word, word + ";q=1", word + ";", word + " x", "x " + word, word + "\t" + word, "\"" + word + "\"", word + "\x00", "\x00" + word, word + "\xff", word + "\n", word + "\r\n", "\v" + word, word + "\xa0", word + "\u00a0", "-" + word, word + "."}
	for i := range len(word) {
		texts = append(texts, word[:i]+word[i+1:], word[:i]+" "+word[i:], word[:i]+"_"+word[i+1:], word[:i]+one(int(word[i])^128)+word[i+1:])
	}
	// Letters beyond A to Z that some would take for a k and an s.
	for _, letters := range [][2]string{{"k", "\u212a"}, {"K", "\u212a"}, {"s", "\u017f"}, {"S", "\u017f"}} {
		if other := strings.Replace(word, letters[0], letters[1], 1); other != word {
			texts = append(texts, other)
		}
	}
	return slices.DeleteFunc(texts, func(text string) bool { return strings.Trim(text, " \t") == word })
}

// list is a list of fields, by names and values in turn.
func list(texts ...string) []api.Field {
	l := []api.Field{}
	for i := 0; i < len(texts); i += 2 {
		l = append(l, api.Field{Name: texts[i], Value: texts[i+1]})
	}
	return l
}

// asking is a request's head with Minor 1.
func asking(texts ...string) api.Head {
	return api.Head{Method: "POST", Target: "/", Minor: 1, Fields: list(texts...)}
}

// telling is a response's head with Minor 1.
func telling(status int, texts ...string) api.Head {
	return api.Head{Status: status, Reason: "r", Minor: 1, Fields: list(texts...)}
}

// withMinor is a head with another Minor.
func withMinor(h api.Head, minor int) api.Head {
	h.Minor = minor
	return h
}

// behind is a head with more fields behind its own.
func behind(h api.Head, texts ...string) api.Head {
	h.Fields = append(slices.Clone(h.Fields), list(texts...)...)
	return h
}

// The answers.

type answer struct {
	framing frame.Framing
	e       api.Errno
}

var (
	none    = answer{frame.Framing{Kind: 1}, 0}
	chunked = answer{frame.Framing{Kind: 3}, 0}
	toClose = answer{frame.Framing{Kind: 4}, 0}
	tunnel  = answer{frame.Framing{Kind: 5}, 0}
	framing = answer{frame.Framing{}, 90}
	coding  = answer{frame.Framing{}, 91}
	over    = answer{frame.Framing{}, 101}
)

// length is the answer of the kind Length.
func length(n int) answer {
	return answer{frame.Framing{Kind: 2, Length: n}, 0}
}

func request(h api.Head, most int) answer {
	f, e := frame.Request(h, most)
	return answer{f, e}
}

func response(method string, h api.Head) answer {
	f, e := frame.Response(method, h)
	return answer{f, e}
}

// The calls, in another way: by patterns over all values of a name, put together.

// joined are the values of a name in small letters with commas between them, bytes written as runes, and how many there are.
func joined(h api.Head, name string) (string, int) {
	var values []string
	for _, f := range h.Fields {
		if small(f.Name) == small(name) {
			values = append(values, f.Value)
		}
	}
	var text []rune
	for _, c := range []byte(small(strings.Join(values, ","))) {
		text = append(text, rune(c))
	}
	return string(text), len(values)
}

// lengthsOf is the one number of the lengths, and whether they are right.
func lengthsOf(text string) (int, bool) {
	if !lengthsForm.MatchString(text) {
		return 0, false
	}
	var numbers []int
	for _, s := range digits.FindAllString(text, -1) {
		n, _ := strconv.Atoi(s)
		numbers = append(numbers, n)
	}
	return numbers[0], slices.Max(numbers) == slices.Min(numbers)
}

// lastOnly tells whether of two or more elements just the last is chunked.
func lastOnly(text string) bool {
	text = strings.Trim(gaps.ReplaceAllString(text, ",,"), ",\t ")
	return strings.HasSuffix(text, ",,chunked") && strings.Count(","+text+",", ",chunked,") == 1
}

func wantedRequest(h api.Head, most int) answer {
	codings, coded := joined(h, "transfer-encoding")
	lengths, sized := joined(h, "content-length")
	n, right := lengthsOf(lengths)
	switch {
	case coded > 0 && (sized > 0 || h.Minor == 0):
		return framing
	case coded > 0 && alone.MatchString(codings):
		return chunked
	case coded > 0 && lastOnly(codings):
		return coding
	case coded > 0, sized > 0 && !right:
		return framing
	case sized == 0:
		return none
	case n > most:
		return over
	}
	return length(n)
}

func wantedResponse(method string, h api.Head) answer {
	codings, coded := joined(h, "transfer-encoding")
	lengths, sized := joined(h, "content-length")
	n, right := lengthsOf(lengths)
	switch status := h.Status; {
	case status == 101:
		return tunnel
	case status == 204, status == 304, status >= 100 && status < 200:
		return none
	case status > 199 && status < 300 && method == "CONNECT":
		return tunnel
	case method == "HEAD":
		return none
	case coded > 0 && (sized > 0 || h.Minor == 0):
		return framing
	case coded > 0 && alone.MatchString(codings):
		return chunked
	case coded > 0:
		return coding
	case sized == 0:
		return toClose
	case !right:
		return framing
	}
	return length(n)
}

func wantedKeep(h api.Head) bool {
	text, _ := joined(h, "connection")
	return !closing.MatchString(text) && (h.Minor != 0 || keeping.MatchString(text))
}

// What is wanted.

func wantRequest(t *testing.T, h api.Head, most int, want answer) {
	t.Helper()
	if got := request(h, most); got != want {
		t.Fatalf("Request(%#v, %d) = %v, want %v", h, most, got, want)
	}
}

func wantResponse(t *testing.T, method string, h api.Head, want answer) {
	t.Helper()
	if got := response(method, h); got != want {
		t.Fatalf("Response(%q, %#v) = %v, want %v", method, h, got, want)
	}
}

func wantKeep(t *testing.T, h api.Head, want bool) {
	t.Helper()
	if got := frame.Keep(h); got != want {
		t.Fatalf("Keep(%#v) = %v", h, got)
	}
}

// wantBoth wants answers of the head of a request and of a response with those fields, whose other parts leave the fields to decide.
func wantBoth(t *testing.T, l []api.Field, asked answer, told answer) {
	t.Helper()
	for _, minor := range []int{1, 2, 9, 10, -1} {
		wantRequest(t, api.Head{Method: "PUT", Target: "/", Minor: minor, Fields: l}, api.MaxTime*1000, asked)
		for _, status := range []int{200, 299, 404, 599} {
			wantResponse(t, "GET", api.Head{Status: status, Minor: minor, Fields: l}, told)
		}
	}
}

// wantLengths wants an answer of both calls to lengths, with Minor 0 too.
func wantLengths(t *testing.T, l []api.Field, want answer) {
	t.Helper()
	wantBoth(t, l, want, want)
	wantRequest(t, api.Head{Fields: l}, api.MaxTime*1000, want)
	wantResponse(t, "GET", api.Head{Status: 200, Fields: l}, want)
}

var methods = []string{"GET", "HEAD", "CONNECT", "head", "connect", "Head", "Connect", "", "POST", "HEADS", "CONNEC", "CONNECT ", " HEAD", "OPTIONS", "\xff"}

// check holds the calls against those written in another way.
func check(t *testing.T, h api.Head, most int) {
	t.Helper()
	wantRequest(t, h, most, wantedRequest(h, most))
	for _, method := range methods[:5] {
		wantResponse(t, method, h, wantedResponse(method, h))
	}
	wantKeep(t, h, wantedKeep(h))
}

// The chapter's examples.
func TestExamples(t *testing.T) {
	wantRequest(t, asking("Content-Length", "5", "Content-Length", "5"), 9, length(5))
	wantRequest(t, asking("Content-Length", "5, 5"), 9, length(5))
	for _, value := range []string{"5, 6", "+5", "5,"} {
		wantRequest(t, asking("Content-Length", value), 9, framing)
	}
	wantRequest(t, asking("Transfer-Encoding", "chunked", "Content-Length", "5"), 9, framing)
	wantRequest(t, asking("Transfer-Encoding", "gzip, chunked"), 9, coding)
	wantRequest(t, asking("Transfer-Encoding", "chunked, gzip"), 9, framing)
	wantResponse(t, "GET", telling(200), toClose)
	wantResponse(t, "HEAD", telling(200), none)
}

func TestNumbers(t *testing.T) {
	if frame.None != 1 || frame.Length != 2 || frame.Chunked != 3 || frame.Close != 4 || frame.Tunnel != 5 {
		t.Error("the kinds have other numbers")
	}
	if api.ErrFraming != 90 || api.ErrCoding != 91 || api.ErrOver != 101 {
		t.Error("the errors have other numbers")
	}
}

// Ordinary heads.

func TestRequests(t *testing.T) {
	wantRequest(t, asking("Host", "h"), 65536, none)
	wantRequest(t, asking("Host", "h", "Content-Length", "12", "Accept", "*/*"), 65536, length(12))
	wantRequest(t, asking("Host", "h", "Transfer-Encoding", "chunked", "Accept", "*/*"), 65536, chunked)
	wantRequest(t, withMinor(asking("Content-Length", "12"), 0), 65536, length(12))
}

func TestResponses(t *testing.T) {
	wantResponse(t, "GET", telling(200, "Via", "1.1 a"), toClose)
	wantResponse(t, "POST", telling(404, "Via", "1.1 a", "Content-Length", "12"), length(12))
	wantResponse(t, "GET", telling(500, "Transfer-Encoding", "chunked"), chunked)
	wantResponse(t, "GET", withMinor(telling(200, "Content-Length", "0"), 0), length(0))
	wantResponse(t, "CONNECT", telling(200), tunnel)
	wantResponse(t, "CONNECT", telling(407, "Content-Length", "3"), length(3))
	wantResponse(t, "GET", telling(101, "Upgrade", "x"), tunnel)
}

func TestKeeps(t *testing.T) {
	wantKeep(t, asking("Host", "h"), true)
	wantKeep(t, asking("Connection", "close"), false)
	wantKeep(t, telling(200, "Connection", "keep-alive"), true)
	wantKeep(t, withMinor(telling(200), 0), false)
	wantKeep(t, withMinor(telling(200, "Connection", "keep-alive"), 0), true)
	wantKeep(t, withMinor(telling(200, "Connection", "keep-alive, close"), 0), false)
}

// No fields at all, and none that decides.
func TestOfNoFields(t *testing.T) {
	for _, minor := range []int{0, 1, 2, 9, 10, -1, math.MaxInt, math.MinInt} {
		for _, l := range [][]api.Field{nil, {}, list("Host", "h"), list("", ""), list("X", "chunked", "Y", "5", "Z", "close, keep-alive")} {
			for _, most := range []int{math.MinInt, -1, 0, 1, 65536, math.MaxInt} {
				wantRequest(t, api.Head{Minor: minor, Fields: l}, most, none)
				wantRequest(t, api.Head{Method: "CONNECT", Target: "h:1", Minor: minor, Fields: l}, most, none)
			}
			wantResponse(t, "GET", api.Head{Status: 200, Minor: minor, Fields: l}, toClose)
			wantResponse(t, "GET", api.Head{Minor: minor, Fields: l}, toClose)
			wantResponse(t, "HEAD", api.Head{Status: 200, Minor: minor, Fields: l}, none)
			wantResponse(t, "CONNECT", api.Head{Status: 200, Minor: minor, Fields: l}, tunnel)
			wantKeep(t, api.Head{Status: 200, Minor: minor, Fields: l}, minor != 0)
		}
	}
}

// The names, whatever their case.

func TestOfNames(t *testing.T) {
	for _, name := range cases("Transfer-Encoding") {
		wantBoth(t, list("Host", "h", name, "chunked"), chunked, chunked)
		wantBoth(t, list(name, "gzip", "Host", "h"), framing, coding)
	}
	for _, name := range cases("Content-Length") {
		wantBoth(t, list("Host", "h", name, "5"), length(5), length(5))
		wantBoth(t, list(name, "x", "Host", "h"), framing, framing)
		for _, other := range cases("Content-Length") {
			wantBoth(t, list(name, "5", other, "5"), length(5), length(5))
			wantBoth(t, list(name, "5", other, "6"), framing, framing)
		}
		for _, other := range cases("Transfer-Encoding") {
			wantBoth(t, list(name, "5", other, "chunked"), framing, framing)
			wantBoth(t, list(other, "chunked", name, "5"), framing, framing)
		}
	}
	for _, name := range cases("Connection") {
		wantKeep(t, asking("Host", "h", name, "close"), false)
		wantKeep(t, withMinor(asking("Host", "h", name, "keep-alive"), 0), true)
	}
}

// A name that is nearly one of them is none of them.
func TestOfOtherNames(t *testing.T) {
	for _, name := range append(near("Transfer-Encoding"), "TE", "Transfer", "Encoding", "Content-Encoding", "Transfer-Encoding ", " Transfer-Encoding", "Transfer-Encoding:") {
		wantBoth(t, list(name, "chunked"), none, toClose)
		wantBoth(t, list(name, "x", "Content-Length", "5"), length(5), length(5))
		wantRequest(t, api.Head{Fields: list(name, "chunked")}, 9, none)
	}
	for _, name := range append(near("Content-Length"), "Length", "Content", "Content-Type", "Content-Length ", " Content-Length", "Content-Length:") {
		wantBoth(t, list(name, "5"), none, toClose)
		wantBoth(t, list(name, "x", "Content-Length", "5", name, "6"), length(5), length(5))
		wantBoth(t, list(name, "5", "Transfer-Encoding", "chunked"), chunked, chunked)
	}
	for _, name := range append(near("Connection"), "Proxy-Connection", "Keep-Alive", "Close", "Connection ", "\tConnection") {
		wantKeep(t, asking(name, "close"), true)
		wantKeep(t, withMinor(asking(name, "keep-alive"), 0), false)
	}
}

// P9.1 and P9.2: Transfer-Encoding.

func TestOfCodingsWithMinor0(t *testing.T) {
	for _, value := range []string{"chunked", "CHUNKED", "gzip, chunked", "chunked, gzip", "gzip", "", ",", "chunked, chunked"} {
		for _, l := range [][]api.Field{list("Transfer-Encoding", value), list("Transfer-Encoding", value, "Connection", "keep-alive"), list("Transfer-Encoding", value, "Content-Length", "5"), list("transfer-encoding", value, "TRANSFER-ENCODING", value)} {
			wantRequest(t, api.Head{Fields: l}, 9, framing)
			wantResponse(t, "GET", api.Head{Status: 200, Fields: l}, framing)
			// Where no field is asked for its minor isn't either.
			wantResponse(t, "HEAD", api.Head{Status: 200, Fields: l}, none)
			wantResponse(t, "CONNECT", api.Head{Status: 200, Fields: l}, tunnel)
			wantResponse(t, "GET", api.Head{Status: 101, Fields: l}, tunnel)
			wantResponse(t, "GET", api.Head{Status: 204, Fields: l}, none)
		}
	}
	for _, minor := range []int{1, 2, 3, 9, 10, -1, 256, 1 << 32, math.MaxInt, math.MinInt} {
		wantRequest(t, withMinor(asking("Transfer-Encoding", "chunked"), minor), 9, chunked)
		wantResponse(t, "GET", withMinor(telling(200, "Transfer-Encoding", "chunked"), minor), chunked)
	}
}

func TestOfCodingsBesideLengths(t *testing.T) {
	for _, codings := range []string{"chunked", "gzip, chunked", "chunked, gzip", "gzip", "", "identity"} {
		for _, lengths := range []string{"5", "0", "05", "5, 5", "5, 6", "", ",", "x", "-1", "5,", "99999999999999999999"} {
			wantBoth(t, list("Transfer-Encoding", codings, "Content-Length", lengths), framing, framing)
			wantBoth(t, list("Content-Length", lengths, "Transfer-Encoding", codings), framing, framing)
			wantBoth(t, list("Content-Length", lengths, "Transfer-Encoding", codings, "content-length", lengths), framing, framing)
			wantBoth(t, list("A", "b", "Content-Length", lengths, "C", "d", "transfer-encoding", codings, "E", "f"), framing, framing)
		}
	}
}

func TestOfChunkedAlone(t *testing.T) {
	for _, word := range cases("chunked") {
		for _, value := range []string{word, " " + word, word + "\t", ", " + word, word + ",", ",," + word + ",,", " ,\t, " + word + " ,\t,"} {
			wantBoth(t, list("Transfer-Encoding", value), chunked, chunked)
			wantBoth(t, list("Transfer-Encoding", value, "Transfer-Encoding", ""), chunked, chunked)
			wantBoth(t, list("Transfer-Encoding", " , ", "Host", "h", "transfer-encoding", value), chunked, chunked)
		}
	}
}

func TestOfNoCoding(t *testing.T) {
	for _, value := range []string{"", " ", "\t", ",", ",,", " , ,\t"} {
		wantBoth(t, list("Transfer-Encoding", value), framing, coding)
		wantBoth(t, list("Transfer-Encoding", value, "Transfer-Encoding", value), framing, coding)
		wantBoth(t, list("Transfer-Encoding", value, "Content-Length", "5"), framing, framing)
	}
}

// Codings of one field, and of each a field of its own.
func wantCodings(t *testing.T, asked answer, told answer, codings ...string) {
	t.Helper()
	for _, between := range []string{",", ", ", " ,", "\t,\t", ",,", ", ,"} {
		wantBoth(t, list("Transfer-Encoding", strings.Join(codings, between)), asked, told)
		wantBoth(t, list("Transfer-Encoding", between+strings.Join(codings, between)+between), asked, told)
	}
	var split []api.Field
	for _, one := range codings {
		split = append(split, list("Transfer-Encoding", one, "A", "b", "transfer-encoding", "")...)
	}
	wantBoth(t, split, asked, told)
}

func TestOfSeveralCodings(t *testing.T) {
	for _, word := range cases("chunked") {
		wantCodings(t, coding, coding, "gzip", word)
		wantCodings(t, coding, coding, "gzip", "deflate", word)
		wantCodings(t, coding, coding, "a", "a", "b", "identity", word)
		wantCodings(t, coding, coding, "chunked;q=1", word)
		wantCodings(t, framing, coding, word, "gzip")
		wantCodings(t, framing, coding, word, "gzip", "deflate")
		wantCodings(t, framing, coding, "gzip", word, "deflate")
		for _, again := range []string{"chunked", "CHUNKED", "Chunked"} {
			wantCodings(t, framing, coding, word, again)
			wantCodings(t, framing, coding, word, again, word)
			wantCodings(t, framing, coding, "gzip", word, again)
			wantCodings(t, framing, coding, word, "gzip", again)
			wantCodings(t, framing, coding, word, again, "gzip")
			wantCodings(t, framing, coding, "gzip", word, "deflate", again)
		}
	}
	wantCodings(t, framing, coding, "gzip")
	wantCodings(t, framing, coding, "identity")
	wantCodings(t, framing, coding, "gzip", "deflate")
	wantCodings(t, framing, coding, "gzip", "gzip", "gzip")
}

// A coding that is nearly chunked is another one.
func TestOfOtherCodings(t *testing.T) {
	for _, word := range near("chunked") {
		wantBoth(t, list("Transfer-Encoding", word), framing, coding)
		wantBoth(t, list("Transfer-Encoding", "gzip, "+word), framing, coding)
		wantBoth(t, list("Transfer-Encoding", "chunked, gzip, "+word), framing, coding)
		if strings.Trim(word, " \t") != "" {
			wantBoth(t, list("Transfer-Encoding", word+", chunked"), coding, coding)
			wantBoth(t, list("Transfer-Encoding", "chunked, "+word), framing, coding)
		}
	}
	for c := range 256 {
		s := one(c)
		for _, value := range []string{s, "chunked" + s, s + "chunked", "chun" + s + "ked", "chunked" + s + "x", "gzip," + s + "chunked", "gzip" + s + "chunked", "chunked;" + s} {
			check(t, asking("Transfer-Encoding", value), 9)
			check(t, telling(200, "Transfer-Encoding", value), 9)
		}
	}
}

// P9.1 and P9.2: Content-Length.

func TestOfRightLengths(t *testing.T) {
	for value, n := range map[string]int{
		"0": 0, "5": 5, "00": 0, "05": 5, "000000000000005": 5, "000000000000000": 0, "10": 10, "65536": 65536, "65537": 65537, "123456789": 123456789, "999999999999999": 999999999999999, "100000000000000": 100000000000000, "099999999999999": 99999999999999, "2147483648": 1 << 31, "4294967301": 1<<32 + 5,
		" 5": 5, "5 ": 5, "\t5\t": 5, " \t 5\t \t": 5, "5,5": 5, "5, 5": 5, "5 ,5": 5, " 5\t,\t5 ": 5, "5,5,5,5": 5, "5, 05, 005": 5, "0,00,000": 0, "000000000000005,5": 5, "0 , 0": 0,
	} {
		wantLengths(t, list("Content-Length", value), length(n))
		wantLengths(t, list("A", "6", "content-length", value, "B", "x"), length(n))
		wantLengths(t, list("Content-Length", value, "A", "6", "CONTENT-LENGTH", value), length(n))
		wantLengths(t, list("Content-Length", value, "Content-Length", strconv.Itoa(n)), length(n))
		wantLengths(t, list("Content-Length", strconv.Itoa(n), "Content-Length", value), length(n))
	}
	for n := range 1000 {
		s := strconv.Itoa(n)
		wantLengths(t, list("Content-Length", s), length(n))
		wantLengths(t, list("Content-Length", s+", 0"+s, "Content-Length", "00"+s), length(n))
	}
}

func TestOfWrongLengths(t *testing.T) {
	for _, value := range []string{
		"", " ", "\t", ",", ",,", " , ", "5,", ",5", "5,,5", "5, ,5", ", 5, 5", "5, 5,", "5,5, ", "5,\t,5", ",,5", "5,,",
		"+5", "-5", "-0", "+0", "--5", "5-", "5+", "5.", ".5", "5.0", "5e0", "5e1", "0x5", "0b1", "0o5", "5h", "a", "5a", "a5", "f", "F", "five", "5 5", "5\t5", "5;5", "5; x", "\"5\"", "'5'", "(5)", "5_0", "1_000", "1.000", "5/5", "5:5", "=5", "NaN", "Inf", "null", "true",
		"5\x00", "\x005", "5\r", "5\n", "\r\n5", "\v5", "5\f", "5\xa0", "\u00a05", "5\x85", "\xb2", "\xff", "\u0665", "\uff15", "5\u200b",
		"0000000000000005", "0000000000000000", "1000000000000000", "9999999999999999", "1234567890123456", "00000000000000000000000005", "4294967296000000000", "9223372036854775807", "9223372036854775808", "18446744073709551621", "99999999999999999999999999999999",
		"5, 6", "5,6", "6,5", "5, 5, 6", "5, 6, 5", "6, 5, 5", "5, 50", "50, 5", "0, 5", "5, 0", "5, 05, 6", "1, 01, 10", "5, x", "x, 5", "5, -5", "-5, 5", "5, +5", "5, 5 5", "5, 0000000000000005", "5 , 6", "0,1", "1,0", "0,0,1", "999999999999999, 999999999999998",
	} {
		wantLengths(t, list("Content-Length", value), framing)
		wantLengths(t, list("A", "5", "content-LENGTH", value), framing)
		for _, right := range []string{"5", "5, 5", "0"} {
			wantLengths(t, list("Content-Length", value, "Content-Length", right), framing)
			wantLengths(t, list("Content-Length", right, "Content-Length", value), framing)
			wantLengths(t, list("Content-Length", right, "content-length", value, "CONTENT-LENGTH", right), framing)
		}
	}
}

func TestOfLengthsInSeveralFields(t *testing.T) {
	wantLengths(t, list("Content-Length", "5", "Content-Length", "5", "Content-Length", "5"), length(5))
	wantLengths(t, list("Content-Length", "5", "content-length", "05", "CONTENT-LENGTH", " 005\t, 5"), length(5))
	wantLengths(t, list("Content-Length", "0", "Content-Length", "00"), length(0))
	for _, values := range [][3]string{{"5", "5", "6"}, {"5", "6", "5"}, {"6", "5", "5"}, {"5", "", "5"}, {"", "5", "5"}, {"5", "5", ""}, {"0", "0", "1"}, {"1", "0", "0"}, {"5", ",", "5"}, {"5", "5,", "5"}, {"5", "5,6", "5"}, {"5", "x", "5"}} {
		wantLengths(t, list("Content-Length", values[0], "Content-Length", values[1], "Content-Length", values[2]), framing)
	}
	// What one field leaves open the next doesn't go on with.
	wantLengths(t, list("Content-Length", "1", "Content-Length", "2"), framing)
	wantLengths(t, list("Content-Length", "12", "Content-Length", "1", "Content-Length", "2"), framing)
}

func TestOfDigits(t *testing.T) {
	for n := 1; n <= 40; n++ {
		for _, digit := range []string{"0", "1", "5", "9"} {
			s := strings.Repeat(digit, n)
			zero := strings.Repeat("0", n-1) + digit
			if n > 15 {
				wantLengths(t, list("Content-Length", s), framing)
				wantLengths(t, list("Content-Length", zero), framing)
				continue
			}
			number, _ := strconv.Atoi(s)
			last, _ := strconv.Atoi(digit)
			wantLengths(t, list("Content-Length", s), length(number))
			wantLengths(t, list("Content-Length", zero), length(last))
			wantLengths(t, list("Content-Length", zero+","+digit), length(last))
		}
	}
}

func TestOfEachByteInLengths(t *testing.T) {
	for c := range 256 {
		s := one(c)
		for _, value := range []string{s, "5" + s, s + "5", "5" + s + "5", "5," + s, s + ",5", "5," + s + "5", "5" + s + ",5", "5 " + s, s + " 5"} {
			check(t, asking("Content-Length", value), 1<<40)
			check(t, telling(200, "Content-Length", value), 1<<40)
			check(t, withMinor(telling(200, "Content-Length", value), 0), 1<<40)
		}
		if c >= 48 && c <= 57 {
			wantLengths(t, list("Content-Length", "1"+s), length(10+c-48))
		} else if c == 9 || c == 32 {
			wantLengths(t, list("Content-Length", s+"1"+s), length(1))
		} else {
			wantLengths(t, list("Content-Length", "1"+s), framing)
			wantLengths(t, list("Content-Length", s+"1"), framing)
		}
	}
}

// P9.1: the most.

func TestOfTheMost(t *testing.T) {
	for _, most := range []int{0, 1, 2, 9, 10, 100, 65535, 65536, 1 << 31, 1 << 32, 1 << 40, 999999999999998} {
		for _, minor := range []int{0, 1} {
			for _, more := range []int{0, 1} {
				want := length(most)
				if more == 1 {
					want = over
				}
				s := strconv.Itoa(most + more)
				wantRequest(t, withMinor(asking("Content-Length", s), minor), most, want)
				wantRequest(t, withMinor(asking("Content-Length", s+", "+s, "content-length", s), minor), most, want)
				wantRequest(t, withMinor(asking("Content-Length", "999999999999999"), minor), most, over)
			}
			wantRequest(t, withMinor(asking("Content-Length", "0"), minor), most, length(0))
			wantRequest(t, withMinor(asking("Content-Length", "000000000000000"), minor), most, length(0))
		}
	}
	wantRequest(t, asking("Content-Length", "999999999999999"), 999999999999999, length(999999999999999))
	wantRequest(t, asking("Content-Length", "999999999999999"), math.MaxInt, length(999999999999999))
	for _, most := range []int{-1, -2, -5, math.MinInt} {
		for _, value := range []string{"0", "00", "1", "5", "0, 0", "999999999999999"} {
			wantRequest(t, asking("Content-Length", value), most, over)
		}
		for _, value := range []string{"", "-5", "0,", "0, 1", "1000000000000000"} {
			wantRequest(t, asking("Content-Length", value), most, framing)
		}
		wantRequest(t, asking("Transfer-Encoding", "chunked"), most, chunked)
		wantRequest(t, asking("Host", "h"), most, none)
	}
}

// No response is too long, and no body whose length nobody tells.
func TestOfNoMost(t *testing.T) {
	for _, value := range []string{"65536", "65537", "999999999999999"} {
		n, _ := strconv.Atoi(value)
		wantResponse(t, "GET", telling(200, "Content-Length", value), length(n))
	}
	wantRequest(t, asking("Transfer-Encoding", "chunked"), 0, chunked)
	wantRequest(t, asking("Transfer-Encoding", "gzip, chunked"), 0, coding)
}

// P9.1: what a request's own parts but its fields say changes nothing.
func TestOfRequestsMethods(t *testing.T) {
	for _, method := range methods {
		for _, status := range []int{0, 101, 200, 204, 304} {
			h := api.Head{Method: method, Target: "/", Status: status, Minor: 1}
			wantRequest(t, h, 9, none)
			wantRequest(t, behind(h, "Content-Length", "5"), 9, length(5))
			wantRequest(t, behind(h, "Content-Length", "10"), 9, over)
			wantRequest(t, behind(h, "Transfer-Encoding", "chunked"), 9, chunked)
			wantRequest(t, behind(h, "Transfer-Encoding", "gzip"), 9, framing)
		}
	}
}

// P9.2: the status and the method.

// framed are fields that frame, with what they say of a response where they are asked.
func framed() map[answer][][]api.Field {
	return map[answer][][]api.Field{
		toClose:   {nil, list("Host", "h"), list("Connection", "close")},
		length(0): {list("Content-Length", "0")},
		length(5): {list("Content-Length", "5"), list("content-length", "5, 05", "Content-Length", "5")},
		chunked:   {list("Transfer-Encoding", "chunked"), list("transfer-encoding", ", CHUNKED")},
		framing:   {list("Content-Length", "x"), list("Content-Length", "5, 6"), list("Content-Length", "5", "Transfer-Encoding", "chunked")},
		coding:    {list("Transfer-Encoding", "gzip"), list("Transfer-Encoding", "gzip, chunked"), list("Transfer-Encoding", "")},
	}
}

// ofStatus is what a status and a method say, whatever the fields; and whether they say anything.
func ofStatus(method string, status int) (answer, bool) {
	switch {
	case status == 101:
		return tunnel, true
	case status >= 100 && status <= 199, status == 204, status == 304:
		return none, true
	case method == "CONNECT" && status >= 200 && status <= 299:
		return tunnel, true
	case method == "HEAD":
		return none, true
	}
	return answer{}, false
}

func TestOfEachStatus(t *testing.T) {
	statuses := []int{math.MinInt, -304, -204, -200, -199, -150, -101, -100, -99, -1, 1000, 1010, 1100, 2000, 2040, 10100, math.MaxInt}
	// Numbers that are as these when they are cut to fewer bits, themselves or their hundreds.
	for _, status := range []int{100, 101, 150, 199, 200, 204, 250, 299, 304} {
		for _, bits := range []int{8, 16, 32} {
			statuses = append(statuses, status+1<<bits, status+100<<bits, status-1<<bits, status-100<<bits)
		}
	}
	for status := range 700 {
		statuses = append(statuses, status)
	}
	for want, lists := range framed() {
		for _, l := range lists {
			for _, status := range statuses {
				for _, method := range methods {
					told, decided := ofStatus(method, status)
					if !decided {
						told = want
					}
					wantResponse(t, method, api.Head{Status: status, Minor: 1, Fields: l}, told)
				}
			}
		}
	}
}

// Some of these by hand, so that no rule stands between.
func TestOfSomeStatuses(t *testing.T) {
	sized := list("Content-Length", "5")
	for _, method := range methods {
		wantResponse(t, method, telling(101, "Content-Length", "5"), tunnel)
		for _, status := range []int{100, 102, 103, 150, 199, 204, 304} {
			wantResponse(t, method, api.Head{Status: status, Minor: 1, Fields: sized}, none)
			wantResponse(t, method, api.Head{Status: status, Minor: 0, Fields: list("Transfer-Encoding", "gzip")}, none)
		}
		for _, status := range []int{99, 200, 203, 205, 206, 299, 300, 303, 305, 400, 599, 600} {
			want := length(5)
			if method == "HEAD" {
				want = none
			}
			if method == "CONNECT" && status >= 200 && status < 300 {
				want = tunnel
			}
			wantResponse(t, method, api.Head{Status: status, Minor: 1, Fields: sized}, want)
		}
	}
	// The head's own Method is not the request's.
	for _, method := range methods {
		h := telling(200, "Content-Length", "5")
		h.Method = method
		wantResponse(t, "GET", h, length(5))
		wantResponse(t, "HEAD", h, none)
		wantResponse(t, "CONNECT", h, tunnel)
	}
}

// Which of two reasons is told.

func TestOfTwoReasons(t *testing.T) {
	// Of a request: framing by both, ahead of a wrong coding, a wrong length and one above the most.
	wantRequest(t, asking("Transfer-Encoding", "gzip, chunked", "Content-Length", "5"), 9, framing)
	wantRequest(t, asking("Transfer-Encoding", "chunked", "Content-Length", "10"), 9, framing)
	wantRequest(t, asking("Content-Length", "10", "Transfer-Encoding", "gzip, chunked"), 9, framing)
	wantRequest(t, withMinor(asking("Transfer-Encoding", "gzip, chunked"), 0), 9, framing)
	wantRequest(t, withMinor(asking("Transfer-Encoding", "gzip, chunked", "Content-Length", "10"), 0), 9, framing)
	// Lengths that aren't right ahead of those above the most.
	for _, value := range []string{"10, 11", "5, 10", "10, 5", "10,", ",10", "10, x", "1000000000000000"} {
		wantRequest(t, asking("Content-Length", value), 9, framing)
	}
	wantRequest(t, asking("Content-Length", "10", "Content-Length", "11"), 9, framing)
	// Of a response: the status ahead of the method, both ahead of the fields.
	wantResponse(t, "CONNECT", telling(204), none)
	wantResponse(t, "CONNECT", telling(199), none)
	wantResponse(t, "CONNECT", telling(101), tunnel)
	wantResponse(t, "HEAD", telling(101), tunnel)
	for _, l := range framed()[framing] {
		wantResponse(t, "HEAD", api.Head{Status: 200, Fields: l}, none)
		wantResponse(t, "CONNECT", api.Head{Status: 200, Fields: l}, tunnel)
		wantResponse(t, "CONNECT", api.Head{Status: 300, Fields: l, Minor: 1}, framing)
	}
	wantResponse(t, "GET", telling(200, "Transfer-Encoding", "gzip", "Content-Length", "5"), framing)
	wantResponse(t, "GET", telling(200, "Content-Length", "x", "Transfer-Encoding", "gzip"), framing)
	wantResponse(t, "GET", withMinor(telling(200, "Transfer-Encoding", "gzip"), 0), framing)
}

// P9.3: Keep.

// wantKeeps wants answers of heads with fields Connection of these values: with Minor 0, and with others.
func wantKeeps(t *testing.T, atZero bool, otherwise bool, values ...string) {
	t.Helper()
	for _, name := range []string{"Connection", "connection", "CONNECTION", "cOnnEction"} {
		l := list("Host", "h")
		for _, value := range values {
			l = append(l, list(name, value, "A", "close, keep-alive")...)
		}
		for _, minor := range []int{1, 2, 5, 9, 10, -1, 256, 1 << 32, math.MaxInt, math.MinInt} {
			wantKeep(t, api.Head{Method: "GET", Target: "/", Minor: minor, Fields: l}, otherwise)
			wantKeep(t, api.Head{Status: 200, Minor: minor, Fields: l}, otherwise)
		}
		wantKeep(t, api.Head{Method: "GET", Target: "/", Fields: l}, atZero)
		wantKeep(t, api.Head{Status: 200, Fields: l}, atZero)
	}
}

func TestKeepOfConnections(t *testing.T) {
	wantKeeps(t, false, true)
	for _, value := range []string{"", " ", ",", ",,", "x", "upgrade", "x, y", "Keep", "alive", "keep, alive", "TE"} {
		wantKeeps(t, false, true, value)
		wantKeeps(t, false, true, value, value)
	}
	for _, word := range cases("close") {
		for _, value := range []string{word, " " + word + "\t", "," + word, word + ",", "x, " + word, word + ", x", "x," + word + ",y", "x ,\t" + word + " , y", word + "," + word} {
			wantKeeps(t, false, false, value)
			wantKeeps(t, false, false, "x", value)
			wantKeeps(t, false, false, value, "x")
			wantKeeps(t, false, false, "", value, ",")
		}
	}
	for _, word := range cases("keep-alive") {
		for _, value := range []string{word, " " + word + "\t", "," + word, word + ",", "x, " + word, word + ", x", "x," + word + ",y", "x ,\t" + word + " , y", word + "," + word} {
			wantKeeps(t, true, true, value)
			wantKeeps(t, true, true, "x", value)
			wantKeeps(t, true, true, value, "x")
			wantKeeps(t, false, false, value, "CLOSE")
			wantKeeps(t, false, false, "close", value)
		}
	}
}

func TestKeepOfBoth(t *testing.T) {
	for _, closing := range cases("close") {
		for _, keeping := range cases("keep-alive") {
			for _, value := range []string{closing + "," + keeping, keeping + ", " + closing, "x, " + keeping + ",y," + closing + ",z"} {
				wantKeep(t, asking("Connection", value), false)
				wantKeep(t, withMinor(asking("Connection", value), 0), false)
			}
		}
	}
}

// A longer word, or another one, is neither.
func TestKeepOfOtherWords(t *testing.T) {
	for _, word := range append(near("close"), "closed", "disclose", "clos", "lose", "close-", "close=1", "not-close", "keep-alive-close") {
		wantKeeps(t, false, true, word)
		wantKeeps(t, true, true, word+",keep-alive")
		wantKeeps(t, true, true, "keep-alive", word)
	}
	for _, word := range append(near("keep-alive"), "keep-alives", "keepalive", "keep_alive", "keep alive", "keep-alive=5", "not-keep-alive", "keep-aliv", "eep-alive", "keep-alive;timeout=5") {
		wantKeeps(t, false, true, word)
		wantKeeps(t, false, false, word+",close")
	}
	for c := range 256 {
		s := one(c)
		for _, word := range []string{"close", "keep-alive"} {
			for _, value := range []string{word + s, s + word, word[:2] + s + word[2:], "x" + s + word, word + s + "x", "keep-alive" + s + "close", "close" + s + "keep-alive"} {
				check(t, asking("Connection", value), 9)
				check(t, withMinor(telling(200, "Connection", value), 0), 9)
			}
		}
	}
}

// What frames says nothing of the connection, and the other way round.
func TestKeepOfOtherFields(t *testing.T) {
	for _, l := range [][]api.Field{list("Transfer-Encoding", "chunked"), list("Content-Length", "x"), list("Transfer-Encoding", "close", "Content-Length", "keep-alive"), list("Keep-Alive", "close"), list("Proxy-Connection", "close, keep-alive")} {
		for _, status := range []int{0, 101, 200, 204, 500} {
			wantKeep(t, api.Head{Status: status, Minor: 1, Fields: l}, true)
			wantKeep(t, api.Head{Status: status, Minor: 0, Fields: l}, false)
		}
	}
	for _, value := range []string{"close", "keep-alive", "Transfer-Encoding, Content-Length", "chunked"} {
		wantBoth(t, list("Connection", value, "Content-Length", "5"), length(5), length(5))
		wantBoth(t, list("Transfer-Encoding", "chunked", "Connection", value), chunked, chunked)
		wantBoth(t, list("Connection", value), none, toClose)
	}
}

// All calls, against those written in another way.

// lists are all lists of no more than so many of those fields.
func lists(kinds []api.Field, most int) [][]api.Field {
	all := [][]api.Field{{}}
	for from, size := 0, 0; size < most; size++ {
		end := len(all)
		for ; from < end; from++ {
			for _, kind := range kinds {
				all = append(all, append(slices.Clone(all[from]), kind))
			}
		}
	}
	return all
}

func TestOfAllShortLists(t *testing.T) {
	kinds := list("Transfer-Encoding", "chunked", "transfer-encoding", "gzip", "TRANSFER-ENCODING", ",", "Transfer-Encoding", "a, Chunked", "Content-Length", "5", "content-length", "05,5", "CONTENT-LENGTH", "6", "Content-Length", "", "Connection", "close", "connection", "x, Keep-Alive", "Host", "h")
	for _, l := range lists(kinds, 4) {
		for _, minor := range []int{0, 1} {
			check(t, api.Head{Status: 200, Minor: minor, Fields: l}, 5)
		}
		check(t, api.Head{Status: 404, Minor: 1, Fields: l}, 4)
	}
}

func TestOfAllShortValues(t *testing.T) {
	for name, pieces := range map[string][]string{"Transfer-Encoding": {"chunked", "gzip", ",", " ", "CHUNKED"}, "Content-Length": {"5", "0", ",", " ", "6"}, "Connection": {"close", "keep-alive", ",", "\t", "x"}} {
		values := []string{""}
		for from, size := 0, 0; size < 5; size++ {
			end := len(values)
			for ; from < end; from++ {
				for _, piece := range pieces {
					values = append(values, values[from]+piece)
				}
			}
		}
		for _, value := range values {
			check(t, asking(name, value), 50)
			check(t, withMinor(telling(200, name, value), 0), 50)
			check(t, telling(200, name, value, name, pieces[0]), 5)
		}
	}
}

func TestOfManyHeads(t *testing.T) {
	d := dice.New(90)
	pick := func(texts ...string) string { return texts[d.Below(len(texts))] }
	value := func(pieces ...string) string {
		var text strings.Builder
		for range d.Below(4) {
			text.WriteString(pick(pieces...) + pick("", " ", ",", ", ", "\t,"))
		}
		return text.String() + pick(pieces...)
	}
	field := func() api.Field {
		switch d.Below(5) {
		case 0:
			return api.Field{Name: pick(cases("Transfer-Encoding")...), Value: value("chunked", "chunked", "CHUNKED", "gzip", "", "chunked;a", "a b", "\xff")}
		case 1:
			return api.Field{Name: pick("Connection", "connection", "CONNECTION"), Value: value("close", "Close", "keep-alive", "KEEP-ALIVE", "x", "closed", "")}
		case 2:
			return api.Field{Name: pick("Host", "", "TE", "Content-Lengths", "Transfer", "\xff"), Value: value("chunked", "5", "close", "keep-alive")}
		}
		return api.Field{Name: pick(cases("Content-Length")...), Value: value("5", "5", "5", "05", "0000005", "6", "x", "", "1234567890123456")}
	}
	told := map[answer]int{}
	for range 60000 {
		h := api.Head{Status: []int{200, 200, 404, 204, 101, 100 + d.Below(500)}[d.Below(6)], Minor: d.Below(3)}
		for range d.Below(4) {
			h.Fields = append(h.Fields, field())
		}
		most := d.Below(8)
		check(t, h, most)
		told[request(h, most)]++
		told[response(pick("GET", "HEAD", "CONNECT"), h)]++
	}
	// All answers are among them, so that none is held against nothing.
	for _, want := range []answer{none, length(5), chunked, toClose, tunnel, framing, coding, over} {
		if told[want] < 100 {
			t.Errorf("the answer %v is drawn %d times", want, told[want])
		}
	}
}

// Long lists and values are gone through.
func TestOfLongHeads(t *testing.T) {
	const n = 200000
	five := strings.Repeat("5,", n)
	wantRequest(t, asking("Content-Length", five+"5"), 9, length(5))
	wantRequest(t, asking("Content-Length", five+"05"), 9, length(5))
	wantRequest(t, asking("Content-Length", five), 9, framing)
	wantRequest(t, asking("Content-Length", five+"6"), 9, framing)
	wantRequest(t, asking("Content-Length", strings.Repeat("0", n)), 9, framing)
	wantRequest(t, asking("Content-Length", strings.Repeat(" ", n)+"5"+strings.Repeat("\t", n)), 9, length(5))
	wantRequest(t, asking("Transfer-Encoding", strings.Repeat("a,", n)+"chunked"), 9, coding)
	wantRequest(t, asking("Transfer-Encoding", strings.Repeat("a,", n)+"chunked,chunked"), 9, framing)
	wantRequest(t, asking("Transfer-Encoding", strings.Repeat(",", n)+"chunked"+strings.Repeat(" ,", n)), 9, chunked)
	wantResponse(t, "GET", telling(200, "Transfer-Encoding", strings.Repeat("chunked,", n)), coding)
	wantKeep(t, asking("Connection", strings.Repeat("x, ", n)), true)
	wantKeep(t, asking("Connection", strings.Repeat("x, ", n)+"close"), false)
	many := slices.Repeat(list("Content-Length", "5", "A", "b"), n)
	wantRequest(t, api.Head{Minor: 1, Fields: many}, 9, length(5))
	wantResponse(t, "GET", api.Head{Status: 200, Minor: 1, Fields: append(many, api.Field{Name: "content-length", Value: "4"})}, framing)
	wantKeep(t, api.Head{Fields: many}, false)
}

// P1: what is asked meanwhile changes no answer, and what is given stays as it is, its spare room too.
func TestWhatIsGivenStays(t *testing.T) {
	spare := make([]api.Field, 40)
	for i := range spare {
		spare[i] = api.Field{Name: "spare", Value: strconv.Itoa(i)}
	}
	for range 5 {
		for _, lists := range framed() {
			for _, l := range append(lists, list("Connection", "close", "connection", "keep-alive", "Host", "h")) {
				memory := append(slices.Clone(l), spare...)
				before := slices.Clone(memory)
				h := api.Head{Method: "m", Target: "t", Status: 200, Reason: "r", Minor: 1, Fields: memory[:len(l)]}
				check(t, h, 5)
				check(t, withMinor(h, 0), 4)
				if !slices.Equal(memory, before) || h.Method != "m" || h.Target != "t" || h.Status != 200 || h.Reason != "r" || h.Minor != 1 || len(h.Fields) != len(l) {
					t.Fatalf("what was given is %#v by now, was %#v", memory, before)
				}
			}
		}
	}
}
