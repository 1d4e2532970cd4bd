package lex_test

import (
	"bytes"
	"math"
	"math/big"
	"slices"
	"strings"
	"testing"

	"barbican/dice"
	"barbican/lex"
)

const (
	capitals = "ABCDEFGHIJKLMNOPQRSTUVWXYZ"
	smalls   = "abcdefghijklmnopqrstuvwxyz"
	numerals = "0123456789"
	// tokenMarks are those of the chapter, with the byte 96 behind them.
	tokenMarks = "!#$%&'*+-.^_|~\x60"
)

// one is a text of one byte.
func one(c int) string {
	return string([]byte{byte(c)})
}

// among tells whether a byte is one of those.
func among(c byte, those string) bool {
	return slices.Contains([]byte(those), c)
}

func isBlank(c byte) bool {
	return c == 32 || c == 9
}

func isTokenByte(c byte) bool {
	return among(c, capitals+smalls+numerals+tokenMarks)
}

func isValueByte(c byte) bool {
	switch {
	case c == 9:
		return true
	case c < 32:
		return false
	case c <= 126:
		return true
	}
	return c >= 128
}

// trimmed is Trim, a byte at a time.
func trimmed(s string) string {
	for len(s) > 0 && isBlank(s[0]) {
		s = s[1:]
	}
	for len(s) > 0 && isBlank(s[len(s)-1]) {
		s = s[:len(s)-1]
	}
	return s
}

func isValue(s string) bool {
	for _, c := range []byte(s) {
		if !isValueByte(c) {
			return false
		}
	}
	return s == "" || !isBlank(s[0]) && !isBlank(s[len(s)-1])
}

// lowered is Lower by the place of a letter among the capitals.
func lowered(s string) string {
	var text bytes.Buffer
	for _, c := range []byte(s) {
		if i := strings.IndexByte(capitals, c); i >= 0 {
			c = smalls[i]
		}
		text.WriteByte(c)
	}
	return text.String()
}

// elementsOf are the elements, gathered from comma to comma.
func elementsOf(s string) []string {
	var elements []string
	from := 0
	for i := 0; i <= len(s); i++ {
		if i < len(s) && s[i] != ',' {
			continue
		}
		if piece := trimmed(s[from:i]); len(piece) > 0 {
			elements = append(elements, piece)
		}
		from = i + 1
	}
	return elements
}

// numberOf reads a number of 1 to digits digits, of any width.
func numberOf(s string, digits int, base int, most int) (int, bool) {
	digits = min(digits, most)
	right := numerals
	if base == 16 {
		right += "abcdefABCDEF"
	}
	if len(s) < 1 || len(s) > digits {
		return 0, false
	}
	for _, c := range []byte(s) {
		if !among(c, right) {
			return 0, false
		}
	}
	n, ok := new(big.Int).SetString(s, base)
	if !ok || !n.IsInt64() {
		panic("no number: " + s)
	}
	return int(n.Int64()), true
}

// texts are all texts of those bytes, of no more than so many.
func texts(of string, most int) []string {
	all := []string{""}
	for from, length := 0, 0; length < most; length++ {
		end := len(all)
		for ; from < end; from++ {
			for i := range len(of) {
				all = append(all, all[from]+of[i:i+1])
			}
		}
	}
	return all
}

func wantTrue(t *testing.T, what string, s string, got bool, want bool) {
	t.Helper()
	if got != want {
		t.Errorf("%s(%q) = %v, want %v", what, s, got, want)
	}
}

// P4.1: Token.

func TestTokenOfOneByte(t *testing.T) {
	for c := range 256 {
		wantTrue(t, "Token", one(c), lex.Token(one(c)), isTokenByte(byte(c)))
	}
}

func TestTokenByteAtEachPlace(t *testing.T) {
	for c := range 256 {
		for _, s := range []string{one(c) + "ab", "a" + one(c) + "b", "ab" + one(c), one(c) + one(c), one(c) + "a" + one(c)} {
			wantTrue(t, "Token", s, lex.Token(s), isTokenByte(byte(c)))
		}
	}
}

func TestTokenTexts(t *testing.T) {
	right := []string{
		"GET", "get", "X-Forwarded-For", "chunked", "0", "-", ".", "h2c", "M-SEARCH", capitals, smalls, numerals, tokenMarks,
		capitals + smalls + numerals + tokenMarks, strings.Repeat("a", 100000),
	}
	for _, s := range right {
		wantTrue(t, "Token", s, lex.Token(s), true)
	}
	wrong := []string{
		"", " ", "\t", "a b", " a", "a ", "a\t", "a\tb", "a,b", "a:", ":", "a;q=1", "a/b", "\"a\"", "(a)", "<a>", "a@b", "[a]", "a\\b", "{a}", "a=b", "a?",
		"a\r", "a\n", "\r\n", "a\x00", "\x00", "a\x7f", "é", "ab\xff", "\x80", "\u212a", strings.Repeat("a", 100000) + " ",
	}
	for _, s := range wrong {
		wantTrue(t, "Token", s, lex.Token(s), false)
	}
}

// P4.1: Value.

func TestValueOfOneByte(t *testing.T) {
	for c := range 256 {
		want := isValueByte(byte(c)) && !isBlank(byte(c))
		wantTrue(t, "Value", one(c), lex.Value(one(c)), want)
	}
}

func TestValueByteAtEachPlace(t *testing.T) {
	for c := range 256 {
		right := isValueByte(byte(c))
		atEnd := right && !isBlank(byte(c))
		for _, s := range []string{one(c) + "ab", "ab" + one(c), one(c) + one(c), one(c) + "a" + one(c)} {
			wantTrue(t, "Value", s, lex.Value(s), atEnd)
		}
		for _, s := range []string{"a" + one(c) + "b", "a" + one(c) + one(c) + "b"} {
			wantTrue(t, "Value", s, lex.Value(s), right)
		}
	}
}

func TestValueTexts(t *testing.T) {
	right := []string{
		"", "a", "a b", "a\tb", "a \t b", "text/html; q=0.5, */*", "\"quoted\"", "é", "\u212a", "\x80", "\xff\xfe", "\xa0", "a\xa0", "\x85", "~", "!",
		"1234", ",", ", ,", strings.Repeat("a b", 50000),
	}
	for _, s := range right {
		wantTrue(t, "Value", s, lex.Value(s), true)
	}
	wrong := []string{
		" ", "\t", "  ", "\t\t", " \t", " a", "a ", "\ta", "a\t", " a ", "\t a", "a \t", "a b ", " a b", "a\x00b", "\x00", "a\rb", "a\nb", "a\r\n", "\r", "\n",
		"a\x7f", "\x7f", "\x1f", "a\x0bb", "a\x0cb", " \x00", "\x1b[0m",
	}
	for _, s := range wrong {
		wantTrue(t, "Value", s, lex.Value(s), false)
	}
}

func TestValueOfShortTexts(t *testing.T) {
	for _, s := range texts(" \ta\r\n\x80\x7f", 5) {
		wantTrue(t, "Value", s, lex.Value(s), isValue(s))
	}
}

// P4.1: Trim.

func TestTrimTexts(t *testing.T) {
	cases := []struct{ s, want string }{
		{"", ""}, {" ", ""}, {"\t", ""}, {" \t \t", ""}, {strings.Repeat(" ", 999), ""},
		{"a", "a"}, {" a", "a"}, {"\ta", "a"}, {"a ", "a"}, {"a\t", "a"}, {" a\t", "a"}, {" \t a \t ", "a"},
		{"a b", "a b"}, {" a \t b ", "a \t b"}, {"\ta\tb\t", "a\tb"}, {" , ", ","},
		{"\ra\n", "\ra\n"}, {" \ra\n ", "\ra\n"}, {"\na\r\n", "\na\r\n"}, {"\x0ba\x0c", "\x0ba\x0c"}, {"\x00a\x00", "\x00a\x00"},
		{"\xa0a\xa0", "\xa0a\xa0"}, {"\x85a\x85", "\x85a\x85"}, {"\u00a0a\u2003", "\u00a0a\u2003"}, {" \xff ", "\xff"},
	}
	for _, c := range cases {
		if got := lex.Trim(c.s); got != c.want {
			t.Errorf("Trim(%q) = %q, want %q", c.s, got, c.want)
		}
	}
}

func TestTrimOfEachByte(t *testing.T) {
	for c := range 256 {
		for _, s := range []string{one(c), one(c) + "a", "a" + one(c), "a" + one(c) + "a", " " + one(c) + "\t", one(c) + " a " + one(c)} {
			if got, want := lex.Trim(s), trimmed(s); got != want {
				t.Errorf("Trim(%q) = %q, want %q", s, got, want)
			}
		}
	}
}

func TestTrimOfShortTexts(t *testing.T) {
	for _, s := range texts(" \ta\n\xa0", 6) {
		if got, want := lex.Trim(s), trimmed(s); got != want {
			t.Errorf("Trim(%q) = %q, want %q", s, got, want)
		}
	}
}

// P4.1: Lower.

func TestLowerOfEachByte(t *testing.T) {
	for c := range 256 {
		want := one(c)
		if c >= 65 && c <= 90 {
			want = one(c + 32)
		}
		for _, around := range [][2]string{{"", ""}, {"q", ""}, {"", "q"}, {"q", "q"}, {"\xff", "\x80"}} {
			s := around[0] + one(c) + around[1]
			if got := lex.Lower(s); got != around[0]+want+around[1] {
				t.Errorf("Lower(%q) = %q, want %q", s, got, around[0]+want+around[1])
			}
		}
	}
}

func TestLowerTexts(t *testing.T) {
	cases := []struct{ s, want string }{
		{"", ""}, {"a", "a"}, {"A", "a"}, {"Content-Length", "content-length"}, {"@AZ[`az{", "@az[`az{"}, {capitals, smalls}, {smalls, smalls},
		{numerals + tokenMarks, numerals + tokenMarks}, {"A B\tC", "a b\tc"}, {" A ", " a "}, {"\x00A\x00", "\x00a\x00"},
		// Letters beyond A to Z stay, and so do bytes that are no runes.
		{"ÄÉ", "ÄÉ"}, {"\u212a", "\u212a"}, {"\u0130", "\u0130"}, {"Σ", "Σ"}, {"\xc1\xdaA", "\xc1\xdaa"}, {"A\xffB", "a\xffb"}, {"\xc3A", "\xc3a"},
	}
	for _, c := range cases {
		if got := lex.Lower(c.s); got != c.want {
			t.Errorf("Lower(%q) = %q, want %q", c.s, got, c.want)
		}
	}
}

func TestLowerOfManyTexts(t *testing.T) {
	d := dice.New(4)
	for range 2000 {
		s := drawText(d, d.Below(40))
		if got, want := lex.Lower(s), lowered(s); got != want {
			t.Fatalf("Lower(%q) = %q, want %q", s, got, want)
		}
	}
}

// P4.1: Alike.

// wantAlike fails if two texts aren't told as wanted, one way and the other.
func wantAlike(t *testing.T, a string, b string, want bool) {
	t.Helper()
	if got := lex.Alike(a, b); got != want {
		t.Errorf("Alike(%q, %q) = %v, want %v", a, b, got, want)
	}
	if got := lex.Alike(b, a); got != want {
		t.Errorf("Alike(%q, %q) = %v, want %v", b, a, got, want)
	}
}

func TestAlikeOfEachPairOfBytes(t *testing.T) {
	for a := range 256 {
		for b := range 256 {
			low, high := min(a, b), max(a, b)
			want := a == b || low >= 65 && low <= 90 && high == low+32
			wantAlike(t, one(a), one(b), want)
			wantAlike(t, "x"+one(a), "X"+one(b), want)
			wantAlike(t, one(a)+"X", one(b)+"x", want)
		}
	}
}

func TestAlikeTexts(t *testing.T) {
	cases := []struct {
		a, b string
		want bool
	}{
		{"", "", true}, {"a", "a", true}, {"close", "CLOSE", true}, {"Keep-Alive", "keep-alive", true}, {capitals, smalls, true}, {"Aé", "aé", true},
		{"\xff\x00A", "\xff\x00a", true}, {strings.Repeat("aB", 50000), strings.Repeat("Ab", 50000), true},
		// Of different length.
		{"", "a", false}, {"a", "aa", false}, {"host", "hosts", false}, {"a", "a ", false}, {"a", " a", false}, {"a", "a\x00", false}, {"", "\x00", false}, {"", " ", false},
		// Different in one byte alone: the last, the first, the middle one.
		{"host", "hosu", false}, {"Host", "HOSU", false}, {"host", "iost", false}, {"host", "hpst", false}, {"x-a", "x_a", false},
		{strings.Repeat("a", 99999) + "b", strings.Repeat("A", 99999) + "c", false},
		// Bytes 32 apart that are no letters, and letters beyond A to Z.
		{"@", "`", false}, {"[", "{", false}, {"0", "\x10", false}, {"Ä", "ä", false}, {"\xc4", "\xe4", false}, {"k", "\u212a", false}, {"s", "\u017f", false}, {"\xff", "\xfe", false}, {"\xff", "\ufffd", false},
		{"i", "\u0130", false}, {"ß", "ss", false},
	}
	for _, c := range cases {
		wantAlike(t, c.a, c.b, c.want)
	}
}

func TestAlikeOfManyTexts(t *testing.T) {
	d := dice.New(5)
	for range 2000 {
		a := drawText(d, 1+d.Below(12))
		wantAlike(t, a, lowered(a), true)
		b := []byte(lowered(a))
		b[d.Below(len(b))] ^= byte(1 << d.Below(8))
		wantAlike(t, a, string(b), lowered(a) == lowered(string(b)))
		wantAlike(t, a, a[:len(a)-1], false)
	}
}

// drawText draws a text, of letters for the most part.
func drawText(d *dice.Dice, length int) string {
	text := make([]byte, length)
	for i := range text {
		if d.Below(3) == 0 {
			text[i] = byte(d.Below(256))
		} else {
			text[i] = (capitals + smalls)[d.Below(52)]
		}
	}
	return string(text)
}

// P4.2: Elements.

func TestElementsTexts(t *testing.T) {
	cases := []struct {
		s    string
		want []string
	}{
		{"", nil}, {",", nil}, {",,,", nil}, {" ", nil}, {"\t", nil}, {" , ", nil}, {" ,\t, ", nil}, {", \t ,", nil},
		{"a", []string{"a"}}, {" a ", []string{"a"}}, {",a", []string{"a"}}, {"a,", []string{"a"}}, {",a,", []string{"a"}}, {" ,\ta\t, ", []string{"a"}},
		{"a,b", []string{"a", "b"}}, {"a, ,b ,", []string{"a", "b"}}, {"a,,b", []string{"a", "b"}}, {"\ta \t,\t b", []string{"a", "b"}}, {",,a,,,b,,", []string{"a", "b"}},
		// Their order stays, and so do those that stand twice, and their case.
		{"b,a,b,A,c", []string{"b", "a", "b", "A", "c"}}, {"z, y, x", []string{"z", "y", "x"}},
		// Blanks within stay.
		{"a b", []string{"a b"}}, {" a \t b , c  d ", []string{"a \t b", "c  d"}},
		// Only commas part, and only blanks are cut off.
		{"a;q=1, b=\"c,d\"", []string{"a;q=1", "b=\"c", "d\""}}, {"a\r\n,\nb", []string{"a\r\n", "\nb"}}, {"\n", []string{"\n"}}, {"\x00,\xa0", []string{"\x00", "\xa0"}},
		{"é, \xff,\xc3", []string{"é", "\xff", "\xc3"}}, {"a;b", []string{"a;b"}}, {"\x0b,\x0c", []string{"\x0b", "\x0c"}},
		{"gzip, chunked", []string{"gzip", "chunked"}},
	}
	for _, c := range cases {
		if got := lex.Elements(c.s); !slices.Equal(got, c.want) {
			t.Errorf("Elements(%q) = %q, want %q", c.s, got, c.want)
		}
	}
}

func TestElementsOfShortTexts(t *testing.T) {
	for _, s := range texts(", \tab", 6) {
		if got, want := lex.Elements(s), elementsOf(s); !slices.Equal(got, want) {
			t.Fatalf("Elements(%q) = %q, want %q", s, got, want)
		}
	}
}

func TestElementsOfEachByte(t *testing.T) {
	for c := range 256 {
		for _, s := range []string{one(c), "a" + one(c) + "b", one(c) + "," + one(c), " " + one(c) + "a" + one(c) + " "} {
			if got, want := lex.Elements(s), elementsOf(s); !slices.Equal(got, want) {
				t.Errorf("Elements(%q) = %q, want %q", s, got, want)
			}
		}
	}
}

func TestElementsOfALongText(t *testing.T) {
	got := lex.Elements(strings.Repeat(" ,ab\t", 20000))
	if len(got) != 20000 {
		t.Fatalf("there are %d elements, want 20000", len(got))
	}
	for i, element := range got {
		if element != "ab" {
			t.Fatalf("element %d is %q", i, element)
		}
	}
	if got := lex.Elements(strings.Repeat(", ", 100000)); len(got) != 0 {
		t.Errorf("there are %d elements of commas and blanks", len(got))
	}
}

func TestElementsMarkedAndGrown(t *testing.T) {
	for _, s := range []string{"", " , ", "a", "a, b", "a, ,b ,", "a,b,c,d,e", strings.Repeat("x,", 33)} {
		want := elementsOf(s)
		kept := lex.Elements(s)
		for range 3 {
			marked := lex.Elements(s)
			if !slices.Equal(marked, want) {
				t.Fatalf("Elements(%q) = %q, want %q", s, marked, want)
			}
			for i := range marked {
				marked[i] = "marked"
			}
			spare := marked[len(marked):cap(marked)]
			for i := range spare {
				spare[i] = "spare"
			}
			for range 40 {
				marked = append(marked, "grown")
			}
		}
		if !slices.Equal(kept, want) {
			t.Errorf("Elements(%q), answered ahead of others that were marked, is now %q", s, kept)
		}
	}
}

// P4.3: Decimal and Hex.

// wantNumber fails if a number isn't read as wanted.
func wantNumber(t *testing.T, what string, s string, digits int, want int, right bool) {
	t.Helper()
	call := lex.Decimal
	if what == "Hex" {
		call = lex.Hex
	}
	if got, ok := call(s, digits); got != want || ok != right {
		t.Errorf("%s(%q, %d) = %d, %v, want %d, %v", what, s, digits, got, ok, want, right)
	}
}

func TestDecimalNumbers(t *testing.T) {
	cases := []struct {
		s      string
		digits int
		want   int
		right  bool
	}{
		{"0", 1, 0, true}, {"9", 1, 9, true}, {"10", 2, 10, true}, {"42", 5, 42, true}, {"65535", 5, 65535, true}, {"1234567890", 10, 1234567890, true},
		{"007", 3, 7, true}, {"000", 3, 0, true}, {"000000000000000001", 18, 1, true}, {"000000000000000000", 18, 0, true},
		{"", 3, 0, false}, {"", 0, 0, false}, {"", -1, 0, false}, {"0", 0, 0, false}, {"7", 0, 0, false}, {"7", -1, 0, false}, {"7", math.MinInt, 0, false},
		{"1234", 3, 0, false}, {"0007", 3, 0, false}, {"10", 1, 0, false}, {"00", 1, 0, false},
		// A digits above 18 counts as 18.
		{"999999999999999999", 17, 0, false}, {"999999999999999999", 18, 999999999999999999, true}, {"999999999999999999", 19, 999999999999999999, true}, {"999999999999999999", math.MaxInt, 999999999999999999, true},
		{"1000000000000000000", 18, 0, false}, {"1000000000000000000", 19, 0, false}, {"1000000000000000000", 20, 0, false}, {"1000000000000000000", math.MaxInt, 0, false},
		{"0000000000000000000", 19, 0, false}, {"0000000000000000007", 19, 0, false}, {"9223372036854775807", 19, 0, false}, {"9223372036854775808", 19, 0, false},
		{"7", 18, 7, true}, {"7", 19, 7, true}, {"7", math.MaxInt, 7, true},
	}
	for _, c := range cases {
		wantNumber(t, "Decimal", c.s, c.digits, c.want, c.right)
	}
}

func TestHexNumbers(t *testing.T) {
	cases := []struct {
		s      string
		digits int
		want   int
		right  bool
	}{
		{"0", 1, 0, true}, {"9", 1, 9, true}, {"a", 1, 10, true}, {"f", 1, 15, true}, {"A", 1, 10, true}, {"F", 1, 15, true}, {"10", 2, 16, true}, {"fF", 8, 255, true}, {"dEaDbEeF", 8, 0xdeadbeef, true},
		{"1a2b3c4d5e6f", 12, 0x1a2b3c4d5e6f, true}, {"BCDEF", 5, 0xbcdef, true}, {"00a", 3, 10, true}, {"000", 3, 0, true}, {"00000000000000f", 15, 15, true}, {"000000000000000", 15, 0, true},
		{"", 8, 0, false}, {"", 0, 0, false}, {"", -1, 0, false}, {"0", 0, 0, false}, {"f", 0, 0, false}, {"f", -1, 0, false}, {"f", math.MinInt, 0, false},
		{"ffff", 3, 0, false}, {"000f", 3, 0, false}, {"10", 1, 0, false},
		// A digits above 15 counts as 15.
		{"fffffffffffffff", 14, 0, false}, {"fffffffffffffff", 15, 1<<60 - 1, true}, {"FFFFFFFFFFFFFFF", 16, 1<<60 - 1, true}, {"fffffffffffffff", math.MaxInt, 1<<60 - 1, true},
		{"1000000000000000", 15, 0, false}, {"1000000000000000", 16, 0, false}, {"1000000000000000", 17, 0, false}, {"1000000000000000", math.MaxInt, 0, false},
		{"0000000000000000", 16, 0, false}, {"000000000000000f", 16, 0, false}, {"7fffffffffffffff", 16, 0, false}, {"ffffffffffffffff", 16, 0, false},
		{"f", 15, 15, true}, {"f", 16, 15, true}, {"f", math.MaxInt, 15, true},
	}
	for _, c := range cases {
		wantNumber(t, "Hex", c.s, c.digits, c.want, c.right)
	}
}

func TestNumbersOfEachByte(t *testing.T) {
	for c := range 256 {
		for _, s := range []string{one(c), one(c) + "12", "1" + one(c) + "2", "12" + one(c), one(c) + one(c)} {
			for _, digits := range []int{1, 2, 3, 15, 18} {
				want, right := numberOf(s, digits, 10, 18)
				wantNumber(t, "Decimal", s, digits, want, right)
				want, right = numberOf(s, digits, 16, 15)
				wantNumber(t, "Hex", s, digits, want, right)
			}
		}
	}
}

func TestNumbersOfEachLength(t *testing.T) {
	for length := range 23 {
		for _, digit := range []string{"0", "1", "9", "a", "F"} {
			for _, s := range []string{strings.Repeat(digit, length), strings.Repeat("0", length) + digit} {
				for digits := -2; digits <= 22; digits++ {
					want, right := numberOf(s, digits, 10, 18)
					wantNumber(t, "Decimal", s, digits, want, right)
					want, right = numberOf(s, digits, 16, 15)
					wantNumber(t, "Hex", s, digits, want, right)
				}
			}
		}
	}
}

func TestNumbersThatAreNone(t *testing.T) {
	wrong := []string{
		" ", " 1", "1 ", "\t1", "1\t", "1\n", "1\r\n", "+1", "-1", "-0", "1.0", "1_0", "1,0", "0x1", "0X1", "x1", "1h", "#1", "1;a",
		"\x00", "1\x00", "\xff", "\xb1", "１", "٣", "g", "G", "/", ":", "@", "`", "0o7", "NaN", "inf",
	}
	for _, s := range wrong {
		for _, digits := range []int{-1, 0, 1, 3, 15, 16, 18, 19, math.MaxInt} {
			wantNumber(t, "Decimal", s, digits, 0, false)
			wantNumber(t, "Hex", s, digits, 0, false)
		}
	}
	// Of these just the base 16 makes numbers.
	for _, s := range []string{"a", "f", "1a", "a1", "F", "ff", "1e3", "0b1"} {
		wantNumber(t, "Decimal", s, 18, 0, false)
	}
	for _, s := range []string{strings.Repeat("1", 100000), strings.Repeat("0", 100000)} {
		wantNumber(t, "Decimal", s, math.MaxInt, 0, false)
		wantNumber(t, "Hex", s, math.MaxInt, 0, false)
	}
}

func TestManyNumbers(t *testing.T) {
	d := dice.New(6)
	for range 5000 {
		s := make([]byte, d.Below(20))
		for i := range s {
			s[i] = (numerals + "0123456789abcdefABCDEF")[d.Below(32)]
			if d.Below(60) == 0 {
				s[i] = byte(d.Below(256))
			}
		}
		digits := d.Below(22) - 1
		want, right := numberOf(string(s), digits, 16, 15)
		wantNumber(t, "Hex", string(s), digits, want, right)
		for i := range s {
			s[i] = numerals[s[i]%10]
		}
		want, right = numberOf(string(s), digits, 10, 18)
		wantNumber(t, "Decimal", string(s), digits, want, right)
	}
}

// The chapter's examples.

func TestExamples(t *testing.T) {
	wantTrue(t, "Token", "GET", lex.Token("GET"), true)
	wantTrue(t, "Token", "", lex.Token(""), false)
	wantTrue(t, "Token", "a b", lex.Token("a b"), false)
	if got := lex.Trim(" a\t"); got != "a" {
		t.Errorf("Trim = %q", got)
	}
	if got := lex.Elements("a, ,b ,"); !slices.Equal(got, []string{"a", "b"}) {
		t.Errorf("Elements = %q", got)
	}
	wantNumber(t, "Decimal", "007", 3, 7, true)
	wantNumber(t, "Decimal", "1234", 3, 0, false)
	wantNumber(t, "Hex", "fF", 8, 255, true)
	wantNumber(t, "Hex", "", 8, 0, false)
}
