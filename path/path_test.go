package path_test

import (
	"regexp"
	"strconv"
	"strings"
	"testing"

	"barbican/api"
	"barbican/dice"
	"barbican/path"
)

const (
	letters  = "ABCDEFGHIJKLMNOPQRSTUVWXYZabcdefghijklmnopqrstuvwxyz"
	numerals = "0123456789"
	plains   = letters + numerals + "-._~"
	hexes    = numerals + "abcdefABCDEF"
)

var (
	// pathForm is a path as the chapter says: bytes 33 to 126 but # (35), ? (63) and, without digits, % (37).
	pathForm   = regexp.MustCompile(`^/([\x21\x22\x24\x26-\x3e\x40-\x7e]|%[0-9A-Fa-f][0-9A-Fa-f])*$`)
	escapeForm = regexp.MustCompile(`%[0-9A-Fa-f][0-9A-Fa-f]`)
)

// one is a text of one byte.
func one(c int) string {
	return string([]byte{byte(c)})
}

// escape writes a byte as an escape with large digits.
func escape(c int) string {
	digits := strings.ToUpper(strconv.FormatInt(int64(c), 16))
	return "%" + strings.Repeat("0", 2-len(digits)) + digits
}

// meant is the byte that an escape stands for.
func meant(escape string) int {
	n, err := strconv.ParseUint(escape[1:], 16, 8)
	if err != nil {
		panic(err)
	}
	return int(n)
}

// ownForm is an escape's one form.
func ownForm(escaped string) string {
	c := meant(escaped)
	if c < 128 && strings.Contains(plains, one(c)) {
		return one(c)
	}
	return escape(c)
}

// normal is Normal from the last piece to the first: two dots take the next piece ahead of them that no others took.
func normal(s string) (string, api.Errno) {
	if !pathForm.MatchString(s) {
		return "", api.ErrPath
	}
	rest := escapeForm.ReplaceAllStringFunc(s, ownForm)
	whole, taken := "", 0
	for first := true; rest != ""; first = false {
		at := strings.LastIndexByte(rest, '/')
		piece := rest[at+1:]
		rest = rest[:at]
		switch {
		case piece == "..":
			taken++
		case piece == "" || piece == ".":
		case taken > 0:
			taken--
			continue
		default:
			whole = "/" + piece + whole
			continue
		}
		if first {
			whole = "/"
		}
	}
	switch {
	case taken > 0:
		return "", api.ErrPath
	case whole == "":
		whole = "/"
	}
	return whole, api.OK
}

// decoded is Decode, from % to %.
func decoded(s string) (string, bool) {
	parts := strings.Split(s, "%")
	text := []byte(parts[0])
	for _, part := range parts[1:] {
		if !escapeForm.MatchString("%" + part[:min(2, len(part))]) {
			return "", false
		}
		text = append(text, byte(meant("%"+part[:2])))
		text = append(text, part[2:]...)
	}
	return string(text), true
}

// cut is Cut, by the place of the first ?.
func cut(target string) (string, string, bool) {
	for i := range len(target) {
		if target[i] == 63 {
			return target[:i], target[i+1:], true
		}
	}
	return target, "", false
}

// under is Under, by the byte behind the prefix or its last one.
func under(path string, prefix string) bool {
	for i := range len(prefix) {
		if i >= len(path) || path[i] != prefix[i] {
			return false
		}
	}
	switch {
	case len(path) == len(prefix), path[len(prefix)] == '/':
		return true
	case prefix == "":
		return false
	}
	return prefix[len(prefix)-1] == '/'
}

// texts are all texts of those pieces, of no more than so many.
func texts(of []string, most int) []string {
	all := []string{""}
	for from, length := 0, 0; length < most; length++ {
		end := len(all)
		for ; from < end; from++ {
			for _, piece := range of {
				all = append(all, all[from]+piece)
			}
		}
	}
	return all
}

// around are texts with a piece at the beginning, amid, at the end and alone in a path.
func around(piece string) []string {
	return []string{"/" + piece, "/" + piece + "/", "/a" + piece, "/" + piece + "a", "/a" + piece + "b/c", "/a/" + piece + "/b", "/a/" + piece, "/a/b/" + piece + piece + "/"}
}

// drawText draws a text of pieces, and of any bytes now and then.
func drawText(d *dice.Dice, pieces []string, length int) string {
	var text strings.Builder
	for range length {
		if d.Below(40) == 0 {
			text.WriteByte(byte(d.Below(256)))
		} else {
			text.WriteString(pieces[d.Below(len(pieces))])
		}
	}
	return text.String()
}

func wantNormal(t *testing.T, s string, want string) {
	t.Helper()
	if got, e := path.Normal(s); got != want || e != api.OK {
		t.Errorf("Normal(%q) = %q, %d, want %q", s, got, e, want)
	}
}

func wantNoNormal(t *testing.T, s string) {
	t.Helper()
	if got, e := path.Normal(s); got != "" || e != api.ErrPath {
		t.Errorf("Normal(%q) = %q, %d, want ErrPath", s, got, e)
	}
}

// checkNormal holds Normal against the other one, and a normal form against its own normal form.
func checkNormal(t *testing.T, s string) {
	t.Helper()
	want, wrong := normal(s)
	if wrong != api.OK {
		wantNoNormal(t, s)
		return
	}
	wantNormal(t, s, want)
	wantNormal(t, want, want)
}

func wantDecode(t *testing.T, s string, want string) {
	t.Helper()
	if got, ok := path.Decode(s); got != want || !ok {
		t.Errorf("Decode(%q) = %q, %v, want %q", s, got, ok, want)
	}
}

func wantNoDecode(t *testing.T, s string) {
	t.Helper()
	if got, ok := path.Decode(s); got != "" || ok {
		t.Errorf("Decode(%q) = %q, %v, want false", s, got, ok)
	}
}

func checkDecode(t *testing.T, s string) {
	t.Helper()
	if want, ok := decoded(s); ok {
		wantDecode(t, s, want)
	} else {
		wantNoDecode(t, s)
	}
}

func wantCut(t *testing.T, target string, ahead string, behind string, ok bool) {
	t.Helper()
	if a, b, is := path.Cut(target); a != ahead || b != behind || is != ok {
		t.Errorf("Cut(%q) = %q, %q, %v, want %q, %q, %v", target, a, b, is, ahead, behind, ok)
	}
}

func wantUnder(t *testing.T, s string, prefix string, want bool) {
	t.Helper()
	if got := path.Under(s, prefix); got != want {
		t.Errorf("Under(%q, %q) = %v, want %v", s, prefix, got, want)
	}
}

// The chapter's examples.
func TestExamples(t *testing.T) {
	wantNormal(t, "/a/./b/../c%7e%2f", "/a/c~%2F")
	wantNormal(t, "/a/..", "/")
	wantNormal(t, "//x//", "/x/")
	wantNoNormal(t, "/..")
	wantNoNormal(t, "/%2e%2E/a")
	wantNoNormal(t, "a")
	wantNoNormal(t, "/%4")
	wantNoDecode(t, "%41%")
	wantUnder(t, "/a/b", "/a", true)
	wantUnder(t, "/ab", "/a", false)
}

// P5.1: which bytes a path has.

func TestNormalOfNoPath(t *testing.T) {
	wrong := []string{
		"", "a", "a/", "a/b", ".", "..", "./", "../", "*", "%2f", "%2Fa", "%", " ", " /", "?", "?/", "#/", "\\", "\x00", "\x00/a", "http://h/", "h:80", "é/", "~/", "\xef\xbc\x8f",
		"/?", "/a?b", "/a?", "/?/..", "/#", "/a#b", "/a#", "/a/?/b", "/ ", "/a b", "/a ", "/a/ /b", "/\t", "/a\r\n", "/a\n", "/\r", "/\x7f", "/a\x7fb", "/\x80", "/é", "/\xff", "/a\x00", "/\x1f", "/\u2025/", "/. ", "/.. /a", "/a/..\t",
	}
	for _, s := range wrong {
		wantNoNormal(t, s)
		checkNormal(t, s)
	}
}

func TestNormalOfEachByte(t *testing.T) {
	for c := range 256 {
		right := c >= 33 && c <= 126 && c != '?' && c != '#' && c != '%'
		for _, s := range around(one(c)) {
			checkNormal(t, s)
			if _, e := path.Normal(s); (e == api.OK) != right {
				t.Errorf("Normal(%q) tells the error %d", s, e)
			}
		}
		// A path doesn't begin with any byte but one.
		if c != '/' {
			wantNoNormal(t, one(c)+"/a")
			wantNoNormal(t, one(c))
		}
	}
	wantNormal(t, "/!\"$&'()*+,-.:;<=>@[\\]^_`{|}~", "/!\"$&'()*+,-.:;<=>@[\\]^_`{|}~")
	wantNormal(t, "/"+letters+numerals, "/"+letters+numerals)
}

// P5.1: escapes.

func TestNormalOfEachEscape(t *testing.T) {
	for c := range 256 {
		large := escape(c)
		want := large
		if strings.Contains(plains, one(c)) && c < 128 {
			want = one(c)
		}
		mixed := "%" + strings.ToLower(large[1:2]) + large[2:]
		other := large[:2] + strings.ToLower(large[2:])
		for _, s := range []string{large, strings.ToLower(large), mixed, other} {
			if c != '.' {
				wantNormal(t, "/"+s, "/"+want)
			}
			wantNormal(t, "/a"+s, "/a"+want)
			wantNormal(t, "/"+s+"a/b", "/"+want+"a/b")
			wantNormal(t, "/a"+s+s+"b", "/a"+want+want+"b")
			for _, s := range around(s) {
				checkNormal(t, s)
			}
		}
	}
}

func TestNormalOfEachTwoDigits(t *testing.T) {
	for a := range 256 {
		for b := range 256 {
			for _, s := range []string{"/%" + one(a) + one(b), "/x%" + one(a) + one(b) + "y"} {
				right := a < 128 && b < 128 && strings.Contains(hexes, one(a)) && strings.Contains(hexes, one(b))
				if got, e := path.Normal(s); (e == api.OK) != right || !right && (got != "" || e != api.ErrPath) {
					t.Fatalf("Normal(%q) = %q, %d", s, got, e)
				}
			}
		}
	}
}

func TestNormalOfBrokenEscapes(t *testing.T) {
	wrong := []string{
		"/%", "/a%", "/%4", "/a%f", "/%%", "/%%41", "/%4%41", "/%41%", "/%41%4", "/%g0", "/%0g", "/%G0", "/%0G", "/%/0", "/%0/", "/%:0", "/%0:", "/%@0", "/%0@", "/%`0", "/%0`",
		"/% 4", "/%4 ", "/%+4", "/%-1", "/%0x41", "/%x4", "/%4/1", "/%/41", "/%\x004", "/%4\x00", "/%\x804", "/%4\xff", "/%?4", "/%4?", "/%#4", "/%u0041", "/a/%/b", "/a/..%", "/%zz/..", "/%25%",
	}
	for _, s := range wrong {
		wantNoNormal(t, s)
		checkNormal(t, s)
	}
	// What an escape stands for is looked at no more.
	wantNormal(t, "/%25", "/%25")
	wantNormal(t, "/%2541", "/%2541")
	wantNormal(t, "/%25%34%31", "/%2541")
	wantNormal(t, "/%252e%252E", "/%252e%252E")
	wantNormal(t, "/%25%32%65", "/%252e")
}

// P5.1: pieces.

func TestNormalOfPieces(t *testing.T) {
	cases := []struct{ s, want string }{
		{"/", "/"}, {"//", "/"}, {"////", "/"}, {"/a", "/a"}, {"/a/", "/a/"}, {"/a//", "/a/"}, {"//a", "/a"}, {"/a//b", "/a/b"}, {"///a///b///", "/a/b/"},
		{"/.", "/"}, {"/./", "/"}, {"/./.", "/"}, {"/./a", "/a"}, {"/a/.", "/a/"}, {"/a/./", "/a/"}, {"/a/./b", "/a/b"}, {"/././a/././b/./.", "/a/b/"}, {"/.//./", "/"},
		{"/a/..", "/"}, {"/a/../", "/"}, {"/a/../b", "/b"}, {"/a/b/..", "/a/"}, {"/a/b/../", "/a/"}, {"/a/b/../c", "/a/c"}, {"/a/b/../..", "/"}, {"/a/b/../../", "/"}, {"/a/b/../../c", "/c"},
		{"/a/../b/..", "/"}, {"/a/../b/../c/", "/c/"}, {"/a/b/c/../../d/../e", "/a/e"}, {"/a/./..", "/"}, {"/a//..", "/"}, {"/a//../b", "/b"}, {"/a/.//./../b", "/b"}, {"//a/..", "/"},
		{"/%2e", "/"}, {"/%2E/a", "/a"}, {"/a/%2e", "/a/"}, {"/a/%2e%2E", "/"}, {"/a/.%2e", "/"}, {"/a/%2E.", "/"}, {"/a/b/%2e%2e/c", "/a/c"}, {"/a/%2e%2e/", "/"}, {"/a/%2e/b", "/a/b"},
		{"/...", "/..."}, {"/a/...", "/a/..."}, {"/.../", "/.../"}, {"/a/.../b", "/a/.../b"}, {"/%2e%2e%2e", "/..."}, {"/..%2e/..", "/"}, {"/....", "/...."},
		{"/.a", "/.a"}, {"/a.", "/a."}, {"/..a", "/..a"}, {"/a..", "/a.."}, {"/a..b/..", "/"}, {"/.../..", "/"}, {"/..;", "/..;"}, {"/.;/", "/.;/"}, {"/..\\a", "/..\\a"}, {"/\\..\\", "/\\..\\"},
		// An escaped / parts nothing.
		{"/%2f", "/%2F"}, {"/%2F", "/%2F"}, {"/a%2f..", "/a%2F.."}, {"/a/..%2f", "/a/..%2F"}, {"/%2f/..", "/"}, {"/%2f%2f/", "/%2F%2F/"}, {"/..%2f", "/..%2F"}, {"/%2f..", "/%2F.."}, {"/a%2f", "/a%2F"}, {"/%5c", "/%5C"},
		// Escapes of no byte of a path stay.
		{"/%00", "/%00"}, {"/%20/%7f", "/%20/%7F"}, {"/%3f%23", "/%3F%23"}, {"/%ff", "/%FF"}, {"/%c3%a9", "/%C3%A9"}, {"/%2b%21", "/%2B%21"},
		{"/%7E%2d%5f%30%41%7a", "/~-_0Az"}, {"/A/a", "/A/a"}, {"/%41", "/A"}, {"/%61", "/a"},
		{"/index.html", "/index.html"}, {"/a:b@c", "/a:b@c"}, {"/a=b&c", "/a=b&c"},
	}
	for _, c := range cases {
		wantNormal(t, c.s, c.want)
		checkNormal(t, c.s)
	}
}

func TestNormalOfDotsAboveTheRoot(t *testing.T) {
	wrong := []string{
		"/..", "/../", "/../a", "//..", "//../a", "/./..", "/.//..", "/..//", "/../..", "/a/../..", "/a/../../", "/a/../../b", "/a/b/../../..", "/a/b/../../../c/d", "/../a/b/c", "/a/../../b/c",
		"/%2e%2e", "/%2e.", "/.%2E/", "/a/%2e%2e/%2e%2e", "/a/./../..", "/a//../..", "/a/../b/../..", "/a/..//..", "/../..%2f", "/.../../..", "/a/../../a",
	}
	for _, s := range wrong {
		wantNoNormal(t, s)
		checkNormal(t, s)
	}
	// As many as there are pieces, and one more.
	for n := range 20 {
		s := strings.Repeat("/a", n) + strings.Repeat("/..", n)
		wantNormal(t, s+"/", "/")
		wantNormal(t, s+"/b", "/b")
		wantNoNormal(t, s+"/..")
		wantNoNormal(t, s+"/../b/c")
	}
}

func TestNormalOfShortTexts(t *testing.T) {
	for _, s := range texts([]string{"/", ".", "%", "2", "e", "F", "?", "\x80"}, 5) {
		checkNormal(t, s)
		checkNormal(t, "/"+s)
	}
}

func TestNormalOfAllFewPieces(t *testing.T) {
	for _, s := range texts([]string{"/", ".", "..", "%2e", "a", "%2F"}, 6) {
		checkNormal(t, "/"+s)
	}
	for _, s := range texts([]string{"/", "/.", "/..", "/%2E%2e", "/a", "/b%41", "/..."}, 5) {
		checkNormal(t, s)
	}
}

func TestNormalOfManyTexts(t *testing.T) {
	d := dice.New(50)
	pieces := []string{"/", "/", "/a", "/b", "/c", "/d", "/.", "/..", "a", "%2e", "%2F", "%7e", "%e9", "%41", "-", "~", "Z", "0"}
	for range 20000 {
		checkNormal(t, "/"+drawText(d, pieces, d.Below(24)))
	}
}

func TestNormalOfLongTexts(t *testing.T) {
	const many = 50000
	wantNormal(t, strings.Repeat("/", many), "/")
	wantNormal(t, strings.Repeat("/a", many), strings.Repeat("/a", many))
	wantNormal(t, strings.Repeat("/a", many)+strings.Repeat("/..", many), "/")
	wantNoNormal(t, strings.Repeat("/a", many)+strings.Repeat("/..", many+1))
	wantNormal(t, strings.Repeat("/a/%2e%2e", many)+"/%c0", "/%C0")
	wantNormal(t, "/"+strings.Repeat("%41", many), "/"+strings.Repeat("A", many))
	wantNoNormal(t, "/"+strings.Repeat("a", many)+"%")
}

// P5.2: Decode.

func TestDecodeTexts(t *testing.T) {
	cases := []struct{ s, want string }{
		{"", ""}, {"a", "a"}, {"/a/b", "/a/b"}, {"%41", "A"}, {"%41%42", "AB"}, {"a%41b", "aAb"}, {"%2f", "/"}, {"%2F", "/"}, {"%aF%Fa", "\xaf\xfa"}, {"%00", "\x00"}, {"%ff", "\xff"}, {"%7f", "\x7f"},
		// An escape may stand for %: what comes out is looked at no more.
		{"%25", "%"}, {"%2541", "%41"}, {"%25%34%31", "%41"}, {"%252", "%2"}, {"%2525", "%25"}, {"%25zz", "%zz"}, {"a%25", "a%"}, {"%25%32%35", "%25"},
		// No path, and no text of runes.
		{"a b", "a b"}, {"?x#y", "?x#y"}, {" %20 ", "   "}, {"\x00%01\x7f", "\x00\x01\x7f"}, {"é%c3%a9", "éé"}, {"\xff%fe\x80", "\xff\xfe\x80"}, {"a+b", "a+b"}, {"../%2e%2e", "../.."}, {"//", "//"}, {"%c3", "\xc3"},
		{"&%26=%3d", "&&=="}, {"411", "411"}, {"%411", "A1"}, {"%4141", "A41"},
	}
	for _, c := range cases {
		wantDecode(t, c.s, c.want)
		checkDecode(t, c.s)
	}
}

func TestDecodeOfBrokenEscapes(t *testing.T) {
	wrong := []string{
		"%", "%4", "%f", "a%", "a%4", "%41%", "%41%4", "%%", "%%41", "%4%41", "%41%%", "%g0", "%0g", "%G0", "%0G", "%/0", "%0/", "%:0", "%0:", "%@0", "%0@", "%`0", "%0`", "% 4", "%4 ", "%+4", "%-1", "%x41", "%0x",
		"%zz", "/a/%", "/a%/b", "%\x004", "%4\x00", "%\xff4", "%4\xff", "%é", "%u0041", "%\xef\xbc\x91\xef\xbc\x91", "abc%4g%41", "%41%4gabc", "%25%", "%25%2",
	}
	for _, s := range wrong {
		wantNoDecode(t, s)
		checkDecode(t, s)
	}
}

func TestDecodeOfEachByte(t *testing.T) {
	for c := range 256 {
		if c != '%' {
			wantDecode(t, one(c), one(c))
			wantDecode(t, "%41"+one(c)+"%61", "A"+one(c)+"a")
		}
		large := escape(c)
		for _, s := range []string{large, strings.ToLower(large), "%" + strings.ToLower(large[1:2]) + large[2:]} {
			wantDecode(t, s, one(c))
			wantDecode(t, "/x"+s+"yz"+s, "/x"+one(c)+"yz"+one(c))
		}
	}
}

func TestDecodeOfEachTwoDigits(t *testing.T) {
	for a := range 256 {
		for b := range 256 {
			checkDecode(t, "%"+one(a)+one(b))
			checkDecode(t, "x%"+one(a)+one(b)+"41")
		}
	}
}

func TestDecodeOfShortTexts(t *testing.T) {
	for _, s := range texts([]string{"%", "2", "5", "e", "F", "g", "\x80"}, 6) {
		checkDecode(t, s)
	}
}

func TestDecodeOfManyTexts(t *testing.T) {
	d := dice.New(51)
	for range 5000 {
		s := drawText(d, []string{"/", "%41", "%2f", "%25", "%e9", "%0A", "a", "2", "."}, d.Below(40))
		checkDecode(t, s)
	}
	wantDecode(t, strings.Repeat("%25a", 50000), strings.Repeat("%a", 50000))
	wantNoDecode(t, strings.Repeat("%25a", 50000)+"%2")
}

// A normal form stands for the same bytes as the path, where it has no dots and no doubled slashes.
func TestDecodeOfANormalForm(t *testing.T) {
	for c := range 256 {
		s := "/a" + strings.ToLower(escape(c)) + "b"
		form, _ := path.Normal(s)
		wantDecode(t, form, "/a"+one(c)+"b")
	}
}

// P5.3: Cut.

func TestCutTexts(t *testing.T) {
	wantCut(t, "", "", "", false)
	wantCut(t, "/", "/", "", false)
	wantCut(t, "/a/b", "/a/b", "", false)
	wantCut(t, "?", "", "", true)
	wantCut(t, "?a", "", "a", true)
	wantCut(t, "?a=b?", "", "a=b?", true)
	wantCut(t, "/a?", "/a", "", true)
	wantCut(t, "/a?b=c&d", "/a", "b=c&d", true)
	wantCut(t, "/a?b?c", "/a", "b?c", true)
	wantCut(t, "/a??", "/a", "?", true)
	wantCut(t, "??", "", "?", true)
	wantCut(t, "/a?b#c", "/a", "b#c", true)
	// Only ? cuts, and an escaped one doesn't; nothing is undone or told as wrong.
	wantCut(t, "/a%3fb", "/a%3fb", "", false)
	wantCut(t, "/a%3Fb?%3f", "/a%3Fb", "%3f", true)
	wantCut(t, "/a#b&c;d=e", "/a#b&c;d=e", "", false)
	wantCut(t, "a%?%", "a%", "%", true)
	wantCut(t, "\xff?\x00 \x80", "\xff", "\x00 \x80", true)
	wantCut(t, "\u037e\xef\xbc\x9f", "\u037e\xef\xbc\x9f", "", false)
	wantCut(t, " ? ", " ", " ", true)
	wantCut(t, strings.Repeat("a", 50000)+"?"+strings.Repeat("?", 50000), strings.Repeat("a", 50000), strings.Repeat("?", 50000), true)
}

func TestCutOfEachByte(t *testing.T) {
	for c := range 256 {
		if c == '?' {
			continue
		}
		s := one(c)
		wantCut(t, s, s, "", false)
		wantCut(t, s+s, s+s, "", false)
		wantCut(t, s+"?"+s, s, s, true)
	}
}

func TestCutOfShortTexts(t *testing.T) {
	for _, s := range texts([]string{"?", "/", "a", "%3f"}, 7) {
		ahead, behind, ok := cut(s)
		wantCut(t, s, ahead, behind, ok)
	}
}

// P5.4: Under.

func TestUnderTexts(t *testing.T) {
	cases := []struct {
		path, prefix string
		want         bool
	}{
		// Itself.
		{"/", "/", true}, {"/a", "/a", true}, {"/a/", "/a/", true}, {"a", "a", true}, {"/a/b", "/a/b", true},
		// A prefix without a slash at its end.
		{"/a/b", "/a", true}, {"/a/", "/a", true}, {"/a//", "/a", true}, {"/ab", "/a", false}, {"/a.b", "/a", false}, {"/a?b", "/a", false}, {"/a%2fb", "/a", false}, {"/a\\b", "/a", false}, {"/b/a", "/a", false}, {"/a/b/c", "/a/b", true}, {"/a/bc", "/a/b", false},
		{"a/b", "a", true}, {"ab", "a", false}, {"/a0", "/a", false}, {"/a.", "/a", false},
		// With one.
		{"/a/b", "/a/", true}, {"/a/b/c", "/a/", true}, {"/a//", "/a/", true}, {"/a", "/a/", false}, {"/ab", "/a/", false}, {"/a/b", "/a//", false}, {"/a//b", "/a//", true}, {"/ab/", "/a/", false}, {"/b/a/", "/a/", false},
		// The root.
		{"/a", "/", true}, {"/a/b", "/", true}, {"//", "/", true}, {"a", "/", false}, {"a/", "/", false}, {"/..", "/", true},
		// The empty prefix and the empty path.
		{"", "", true}, {"/", "", true}, {"/a", "", true}, {"//", "", true}, {"a", "", false}, {"a/", "", false}, {"*", "", false}, {" /", "", false}, {"%2f", "", false}, {"\x00", "", false}, {"", "/", false}, {"", "a", false}, {"", "/a", false},
		// The prefix is longer, or differs in a byte.
		{"/a", "/a/b", false}, {"/a", "/ab", false}, {"/", "/a", false}, {"/", "//", false}, {"/A/b", "/a", false}, {"/a/B", "/a/b", false}, {"/a/b", "/c", false}, {"/x/b", "/a/b", false},
		// Nothing is undone or resolved.
		{"/a/../b", "/a", true}, {"/b/../a/c", "/a", false}, {"/%61/b", "/a", false}, {"/a/b", "/%61", false}, {"//a/b", "/a", false}, {"/./a/b", "/a", false},
		// Any bytes.
		{"\xff/\x00", "\xff", true}, {"\xff\xfe", "\xff", false}, {"é/a", "é", true}, {"\xc3\xa9", "\xc3", false}, {" / ", " ", true}, {"?/a", "?", true}, {"/a /", "/a", false},
	}
	for _, c := range cases {
		wantUnder(t, c.path, c.prefix, c.want)
		wantUnder(t, c.path, c.prefix, under(c.path, c.prefix))
	}
}

func TestUnderOfEachByte(t *testing.T) {
	for c := range 256 {
		s := one(c)
		wantUnder(t, "/a"+s, "/a", c == '/')
		wantUnder(t, "/a"+s+"b", "/a", c == '/')
		wantUnder(t, "/a"+s+"b", "/a"+s, c == '/')
		wantUnder(t, "/a"+s+"/", "/a"+s, true)
		wantUnder(t, "/a"+s, "/a"+s, true)
		wantUnder(t, s, "", c == '/')
		wantUnder(t, s+"/a", "", c == '/')
		wantUnder(t, s+"/a", s, true)
	}
}

func TestUnderOfShortTexts(t *testing.T) {
	all := texts([]string{"/", "a", "b"}, 5)
	for _, s := range all {
		for _, prefix := range all {
			wantUnder(t, s, prefix, under(s, prefix))
		}
	}
}

// P1: any arguments, asked in any order, answer the same again.
func TestAnswersAreTheSameAgain(t *testing.T) {
	d := dice.New(52)
	for range 2000 {
		s := drawText(d, []string{"/", "/a", "%2e", "..", "?", "%", "\x00", "\xff"}, d.Below(12))
		checkNormal(t, s)
		checkDecode(t, s)
		ahead, behind, ok := cut(s)
		wantCut(t, s, ahead, behind, ok)
		wantUnder(t, s, ahead, under(s, ahead))
		checkDecode(t, s)
		checkNormal(t, s)
	}
}
