package target_test

import (
	"math"
	"regexp"
	"strconv"
	"strings"
	"testing"

	"barbican/api"
	"barbican/dice"
	"barbican/path"
	"barbican/target"
)

var (
	// authorityForm is an authority as the chapter says, but for its host's length, its dots side by side and its port's bounds.
	authorityForm = regexp.MustCompile(`^([0-9A-Za-z]|[0-9A-Za-z][0-9A-Za-z.-]*[0-9A-Za-z])(?::([0-9]{1,5}))?$`)
	absoluteForm  = regexp.MustCompile(`(?s)^[hH][tT][tT][pP]://([^/?]*)(.*)$`)
	queryForm     = regexp.MustCompile(`^[\x21\x22\x24-\x7e]*$`)
)

// one is a text of one byte.
func one(c int) string {
	return string([]byte{byte(c)})
}

// small writes each large letter as the small one.
func small(s string) string {
	text := []byte(s)
	for i := range text {
		if text[i] >= 65 && text[i] <= 90 {
			text[i] += 32
		}
	}
	return string(text)
}

// authority is Authority, by a pattern.
func authority(s string) (string, int, api.Errno) {
	parts := authorityForm.FindStringSubmatch(s)
	if parts == nil || len(parts[1]) > 64 || strings.Count(parts[1], "..") > 0 {
		return "", 0, api.ErrHost
	}
	if parts[2] == "" {
		return small(parts[1]), 0, api.OK
	}
	port, err := strconv.ParseUint(parts[2], 10, 16)
	if err != nil || port == 0 {
		return "", 0, api.ErrHost
	}
	return small(parts[1]), int(port), api.OK
}

// parse is Parse, by patterns.
func parse(method string, s string) (target.Target, api.Errno) {
	if method == "CONNECT" {
		host, port, e := authority(s)
		if e != api.OK || port == 0 {
			return target.Target{}, api.ErrTarget
		}
		return target.Target{Form: 3, Host: host, Port: port}, api.OK
	}
	if s == "*" && method == "OPTIONS" {
		return target.Target{Form: 4}, api.OK
	}
	if s != "" && s[0] == '/' {
		return pathed(target.Target{Form: 1}, s)
	}
	parts := absoluteForm.FindStringSubmatch(s)
	if parts == nil {
		return target.Target{}, api.ErrTarget
	}
	host, port, e := authority(parts[1])
	if e != api.OK {
		return target.Target{}, api.ErrHost
	}
	rest := parts[2]
	if rest == "" || rest[0] == '?' {
		rest = "/" + rest
	}
	return pathed(target.Target{Form: 2, Host: host, Port: port}, rest)
}

// pathed gives a target its path and query, by the place of the first ?.
func pathed(t target.Target, s string) (target.Target, api.Errno) {
	parts := strings.SplitN(s, "?", 2)
	normal, e := path.Normal(parts[0])
	if e != api.OK {
		return target.Target{}, api.ErrPath
	}
	t.Path = normal
	if len(parts) == 2 {
		t.Query, t.HasQuery = parts[1], true
	}
	if !queryForm.MatchString(t.Query) {
		return target.Target{}, api.ErrTarget
	}
	return t, api.OK
}

// texts are all texts of no more than so many of those pieces.
func texts(pieces []string, most int) []string {
	all := []string{""}
	for from, length := 0, 0; length < most; length++ {
		end := len(all)
		for ; from < end; from++ {
			for _, piece := range pieces {
				all = append(all, all[from]+piece)
			}
		}
	}
	return all
}

// drawText puts so many pieces together by chance.
func drawText(d *dice.Dice, pieces []string, n int) string {
	var text strings.Builder
	for range n {
		text.WriteString(pieces[d.Below(len(pieces))])
	}
	return text.String()
}

func wantAuthority(t *testing.T, s string, host string, port int) {
	t.Helper()
	if h, p, e := target.Authority(s); h != host || p != port || e != api.OK {
		t.Errorf("Authority(%q) = %q, %d, %d, want %q, %d", s, h, p, e, host, port)
	}
}

func wantNoAuthority(t *testing.T, s string) {
	t.Helper()
	if h, p, e := target.Authority(s); h != "" || p != 0 || e != 61 {
		t.Errorf("Authority(%q) = %q, %d, %d, want ErrHost", s, h, p, e)
	}
}

// checkAuthority holds Authority against the pattern, and what stands behind CONNECT and http:// too.
func checkAuthority(t *testing.T, s string) {
	t.Helper()
	host, port, e := authority(s)
	if h, p, got := target.Authority(s); h != host || p != port || got != e {
		t.Errorf("Authority(%q) = %q, %d, %d, want %q, %d, %d", s, h, p, got, host, port, e)
	}
	checkParse(t, "CONNECT", s)
	checkParse(t, "GET", "http://"+s)
}

func wantParse(t *testing.T, method string, s string, want target.Target) {
	t.Helper()
	if got, e := target.Parse(method, s); got != want || e != api.OK {
		t.Errorf("Parse(%q, %q) = %#v, %d, want %#v", method, s, got, e, want)
	}
}

func wantNoParse(t *testing.T, method string, s string, want api.Errno) {
	t.Helper()
	if got, e := target.Parse(method, s); got != (target.Target{}) || e != want {
		t.Errorf("Parse(%q, %q) = %#v, %d, want the error %d", method, s, got, e, want)
	}
}

func checkParse(t *testing.T, method string, s string) {
	t.Helper()
	want, e := parse(method, s)
	if got, is := target.Parse(method, s); got != want || is != e {
		t.Errorf("Parse(%q, %q) = %#v, %d, want %#v, %d", method, s, got, is, want, e)
	}
}

func wantOrigin(t *testing.T, of target.Target, want string) {
	t.Helper()
	if got := of.Origin(); got != want {
		t.Errorf("%#v.Origin() = %q, want %q", of, got, want)
	}
}

// wantWritten takes a target in and asks it as it goes to a server.
func wantWritten(t *testing.T, method string, s string, want string) {
	t.Helper()
	got, e := target.Parse(method, s)
	if e != api.OK {
		t.Errorf("Parse(%q, %q) tells the error %d", method, s, e)
	}
	wantOrigin(t, got, want)
}

// The chapter's examples.
func TestExamples(t *testing.T) {
	wantAuthority(t, "Ex.com:80", "ex.com", 80)
	wantNoAuthority(t, "ex.com:0")
	wantNoAuthority(t, "-a")
	wantNoAuthority(t, "a..b")
	wantNoAuthority(t, "")
	wantParse(t, "GET", "/a/../b?x=1", target.Target{Form: 1, Path: "/b", Query: "x=1", HasQuery: true})
	wantParse(t, "GET", "HTTP://Ex:8?q", target.Target{Form: 2, Host: "ex", Port: 8, Path: "/", Query: "q", HasQuery: true})
	wantParse(t, "CONNECT", "h:443", target.Target{Form: 3, Host: "h", Port: 443})
	wantNoParse(t, "CONNECT", "h", api.ErrTarget)
	wantNoParse(t, "GET", "*", api.ErrTarget)
}

func TestForms(t *testing.T) {
	if target.Origin != 1 || target.Absolute != 2 || target.Remote != 3 || target.Asterisk != 4 {
		t.Error("the forms have other numbers")
	}
	if api.ErrTarget != 60 || api.ErrHost != 61 || api.ErrPath != 50 {
		t.Error("the errors have other numbers")
	}
}

// P6.1: which bytes a host has.

func TestAuthorityOfEachByte(t *testing.T) {
	for c := range 256 {
		s := one(c)
		inner := s >= "0" && s <= "9" || s >= "A" && s <= "Z" || s >= "a" && s <= "z"
		amid := inner || s == "-" || s == "."
		for host, right := range map[string]bool{
			s: inner, s + "b": inner, "a" + s: inner, s + s: inner, "a" + s + "b": amid, "a" + s + "b.c-d": amid,
		} {
			if right {
				wantAuthority(t, host, small(host), 0)
				wantAuthority(t, host+":8", small(host), 8)
			} else {
				wantNoAuthority(t, host)
				wantNoAuthority(t, host+":8")
			}
			checkAuthority(t, host)
			checkAuthority(t, host+":8")
		}
	}
}

func TestAuthorityOfEachTwoBytes(t *testing.T) {
	for a := range 256 {
		for b := range 256 {
			s := one(a) + one(b)
			for _, s := range []string{s, "x" + s + "y"} {
				host, port, e := authority(s)
				if h, p, got := target.Authority(s); h != host || p != port || got != e {
					t.Fatalf("Authority(%q) = %q, %d, %d", s, h, p, got)
				}
			}
		}
	}
}

func TestAuthorityOfHosts(t *testing.T) {
	right := []string{
		"a", "z", "0", "9", "h", "localhost", "ex.com", "a.b.c.d", "127.0.0.1", "1", "0.0", "a-b", "a--b", "a---b", "xn--a-b.c", "a-.b", "a.-b", "a.-.b", "a-b.c-d", "0-0", "1.a", "a.1", "a.b-c.d",
	}
	for _, s := range right {
		wantAuthority(t, s, s, 0)
		wantAuthority(t, s+":80", s, 80)
	}
	wrong := []string{
		"", "-", ".", "-a", "a-", ".a", "a.", "-a-", ".a.", "--", "..", "-.", ".-", "a..b", "a...b", "..a", "a..", "a.b..c", "a..b.c", "a-..b", "a..-b", "a.b.", ".a.b", "-a.b", "a.b-", "---", "a--", "--a",
		" ", " a", "a ", "a b", "\ta", "a\t", "a\r\n", "a\n", "\na", "a\x00", "\x00", "a\x7f", "a_b", "a,b", "a/b", "/", "/a", "a/", "a?", "a#", "a%41", "%61", "a@b", "u:p@h", "@a", "a+b", "a;b", "a*b", "*", "*.a", "a!", "a'", "(a)", "a=b", "a&b", "a~b",
		"[::1]", "[a]", "::1", "fe80::1", "\u00e9", "a\u00e9b", "ex\u3002com", "\u212a", "\uff41", "a\xff", "\xffa", "\x80", "http://a", "a\\b", "\"a\"", "<a>", "{a}", "a|b", "a^b", "a`b", "a$b",
	}
	for _, s := range wrong {
		wantNoAuthority(t, s)
		wantNoAuthority(t, s+":80")
		checkAuthority(t, s)
		checkAuthority(t, s+":80")
	}
}

func TestAuthorityHasSmallLetters(t *testing.T) {
	wantAuthority(t, "A", "a", 0)
	wantAuthority(t, "Z", "z", 0)
	wantAuthority(t, "ABCDEFGHIJKLMNOPQRSTUVWXYZ", "abcdefghijklmnopqrstuvwxyz", 0)
	wantAuthority(t, "abcdefghijklmnopqrstuvwxyz0123456789", "abcdefghijklmnopqrstuvwxyz0123456789", 0)
	wantAuthority(t, "EX.Com:8080", "ex.com", 8080)
	wantAuthority(t, "X-Y.Z:1", "x-y.z", 1)
	wantParse(t, "CONNECT", "EX.Com:8080", target.Target{Form: 3, Host: "ex.com", Port: 8080})
	wantParse(t, "GET", "http://EX.Com/A?B", target.Target{Form: 2, Host: "ex.com", Path: "/A", Query: "B", HasQuery: true})
}

func TestAuthorityOfLengths(t *testing.T) {
	for n := 1; n <= 200; n++ {
		dots := strings.Repeat("a.", (n-1)/2) + strings.Repeat("b", n-2*((n-1)/2))
		for _, host := range []string{strings.Repeat("a", n), strings.Repeat("Z", n), strings.Repeat("9", n), dots} {
			if n <= 64 {
				wantAuthority(t, host, small(host), 0)
				wantAuthority(t, host+":1", small(host), 1)
				wantAuthority(t, host+":65535", small(host), 65535)
			} else {
				wantNoAuthority(t, host)
				wantNoAuthority(t, host+":1")
				wantNoAuthority(t, host+":65535")
			}
			checkAuthority(t, host)
			checkAuthority(t, host+":65535")
		}
	}
	// The bound is the limit's.
	wantAuthority(t, strings.Repeat("a", api.MaxHost), strings.Repeat("a", api.MaxHost), 0)
	wantNoAuthority(t, strings.Repeat("a", api.MaxHost+1))
	wantNoAuthority(t, strings.Repeat("a", api.MaxHost)+".")
	wantNoAuthority(t, strings.Repeat("a", api.MaxHost-1)+".")
	wantNoAuthority(t, strings.Repeat("a", 100000)+":80")
	wantNoAuthority(t, strings.Repeat(".", 100000))
}

// P6.1: ports.

func TestAuthorityOfEachPort(t *testing.T) {
	for port := range 70000 {
		s := "h:" + strconv.Itoa(port)
		if port >= 1 && port <= 65535 {
			wantAuthority(t, s, "h", port)
		} else {
			wantNoAuthority(t, s)
		}
	}
}

func TestAuthorityOfPorts(t *testing.T) {
	wantNoAuthority(t, "h:0")
	wantAuthority(t, "h:1", "h", 1)
	wantAuthority(t, "h:65535", "h", 65535)
	wantNoAuthority(t, "h:65536")
	wantAuthority(t, "h:01", "h", 1)
	wantAuthority(t, "h:00001", "h", 1)
	wantAuthority(t, "h:00080", "h", 80)
	wantAuthority(t, "h:09999", "h", 9999)
	wantNoAuthority(t, "h:000001")
	wantNoAuthority(t, "h:000080")
	wantNoAuthority(t, "h:065535")
	wantNoAuthority(t, "h:00")
	wantNoAuthority(t, "h:00000")
	wantNoAuthority(t, "h:000000")
	wantNoAuthority(t, "h:99999")
	wantNoAuthority(t, "h:100000")
	// Numbers that would be right ones, were they cut to fewer bits.
	wantNoAuthority(t, "h:65616")
	wantNoAuthority(t, "h:4294967376")
	wantNoAuthority(t, "h:18446744073709551696")
	wantNoAuthority(t, "h:"+strings.Repeat("0", 100000)+"1")
	wantNoAuthority(t, "h:"+strings.Repeat("9", 100000))
	wrong := []string{":", ":80", "::", "h:", "h::", "h::80", "h:80:", "h:80:80", "h:8:0", ":h:80", "80:h", "h:a", "h:8a", "h:a8", "h:-1", "h:+1", "h:+80", "h:1.0", "h:.1", "h: 80", "h:80 ", "h :80", "h:8 0", "h:0x50", "h:80/", "h:80?", "h:80#", "h:/80", "h:1_0", "h:80\r\n", "h:80\x00", "h:\x00", "h:\u0661", "h:\xff", "h:\uff11", "h:1e3", "h:ff", "-h:80", "h-:80", ".:80", "h.:80", "h..:80"}
	for _, s := range wrong {
		wantNoAuthority(t, s)
		checkAuthority(t, s)
	}
	for c := range 256 {
		checkAuthority(t, "h:"+one(c))
		checkAuthority(t, "h:1"+one(c))
		checkAuthority(t, "h:"+one(c)+"1")
		checkAuthority(t, "h"+one(c)+"80")
	}
}

func TestAuthorityOfShortTexts(t *testing.T) {
	for _, s := range texts([]string{"a", "B", "0", "6", "-", ".", ":", "/"}, 5) {
		host, port, e := authority(s)
		if h, p, got := target.Authority(s); h != host || p != port || got != e {
			t.Fatalf("Authority(%q) = %q, %d, %d", s, h, p, got)
		}
	}
}

// P6.2: CONNECT.

func TestParseOfConnect(t *testing.T) {
	wantParse(t, "CONNECT", "h:1", target.Target{Form: 3, Host: "h", Port: 1})
	wantParse(t, "CONNECT", "Ex.COM:65535", target.Target{Form: 3, Host: "ex.com", Port: 65535})
	wantParse(t, "CONNECT", "10.0.0.1:00443", target.Target{Form: 3, Host: "10.0.0.1", Port: 443})
	wantParse(t, "CONNECT", strings.Repeat("h", 64)+":443", target.Target{Form: 3, Host: strings.Repeat("h", 64), Port: 443})
	wrong := []string{
		"", "h", "ex.com", "h:", "h:0", "h:65536", "h:000443", ":443", ":", "-h:443", "h..h:443", "h:443/", "h:443/a", "h:443?", "h:443?a", "h:443#", "h/a:443", "/", "/a", "/h:443", "/..", "*", "*:443", "h:443*",
		"http://h:443", "http://h:443/", "HTTP://h", "http://", "https://h:443", "//h:443", " h:443", "h:443 ", "h: 443", "u@h:443", "[::1]:443", "h:443:443", "h:4a3", strings.Repeat("h", 65) + ":443", "\xff:443",
	}
	for _, s := range wrong {
		wantNoParse(t, "CONNECT", s, api.ErrTarget)
		checkParse(t, "CONNECT", s)
	}
}

// A method is told as it is written: in another case it is another.
func TestParseOfOtherMethods(t *testing.T) {
	for _, method := range []string{"connect", "Connect", "CONNECt", "CONNECT ", " CONNECT", "CONNECTS", "CONNEC", "GET", "POST", "OPTIONS", "", "*", "\x00", "\xff"} {
		wantNoParse(t, method, "h:443", api.ErrTarget)
		wantNoParse(t, method, "h", api.ErrTarget)
		wantParse(t, method, "/a", target.Target{Form: 1, Path: "/a"})
		wantParse(t, method, "http://h:443", target.Target{Form: 2, Host: "h", Port: 443, Path: "/"})
	}
}

// P6.2: *.

func TestParseOfAsterisk(t *testing.T) {
	wantParse(t, "OPTIONS", "*", target.Target{Form: 4})
	for _, method := range []string{"GET", "HEAD", "POST", "CONNECT", "options", "Options", "OPTIONs", "OPTIONS ", " OPTIONS", "OPTION", "OPTIONSS", "", "*", "\x00"} {
		wantNoParse(t, method, "*", api.ErrTarget)
	}
	for _, s := range []string{"**", "* ", " *", "*?", "*?a", "*/", "*a", "a*", "\x2a\x00", "%2a"} {
		wantNoParse(t, "OPTIONS", s, api.ErrTarget)
	}
	wantParse(t, "OPTIONS", "/*", target.Target{Form: 1, Path: "/*"})
	wantParse(t, "OPTIONS", "/", target.Target{Form: 1, Path: "/"})
	wantParse(t, "OPTIONS", "http://h", target.Target{Form: 2, Host: "h", Path: "/"})
	wantNoParse(t, "OPTIONS", "http://*", api.ErrHost)
}

// P6.2: the form Origin.

func TestParseOfOrigin(t *testing.T) {
	cases := []struct {
		s    string
		want target.Target
	}{
		{"/", target.Target{Path: "/"}}, {"//", target.Target{Path: "/"}}, {"/a", target.Target{Path: "/a"}}, {"/a/", target.Target{Path: "/a/"}}, {"/a/./b/../c%7e%2f", target.Target{Path: "/a/c~%2F"}}, {"/a/..", target.Target{Path: "/"}},
		{"/?", target.Target{Path: "/", HasQuery: true}}, {"/a?", target.Target{Path: "/a", HasQuery: true}}, {"//?", target.Target{Path: "/", HasQuery: true}},
		{"/a?b", target.Target{Path: "/a", Query: "b", HasQuery: true}}, {"/a?b=c&d=e", target.Target{Path: "/a", Query: "b=c&d=e", HasQuery: true}},
		{"/a??", target.Target{Path: "/a", Query: "?", HasQuery: true}}, {"/a?b?c", target.Target{Path: "/a", Query: "b?c", HasQuery: true}}, {"/???", target.Target{Path: "/", Query: "??", HasQuery: true}},
		// A query's escapes, slashes and dots stay as they are.
		{"/a?%7e%2f%zz%", target.Target{Path: "/a", Query: "%7e%2f%zz%", HasQuery: true}}, {"/a?/../b//.", target.Target{Path: "/a", Query: "/../b//.", HasQuery: true}}, {"/a/%2e%2e?A", target.Target{Path: "/", Query: "A", HasQuery: true}},
		{"/a%3fb", target.Target{Path: "/a%3Fb"}}, {"/a%3Fb?c", target.Target{Path: "/a%3Fb", Query: "c", HasQuery: true}},
		// What looks like a host is none here.
		{"//h:80/a", target.Target{Path: "/h:80/a"}}, {"/http://h/", target.Target{Path: "/http:/h/"}}, {"/h:443", target.Target{Path: "/h:443"}}, {"/A", target.Target{Path: "/A"}}, {"/*", target.Target{Path: "/*"}}, {"/a?http://h", target.Target{Path: "/a", Query: "http://h", HasQuery: true}},
	}
	for _, c := range cases {
		c.want.Form = 1
		wantParse(t, "GET", c.s, c.want)
		checkParse(t, "GET", c.s)
	}
}

func TestParseOfNoPath(t *testing.T) {
	for _, s := range []string{"/..", "/../", "/a/../..", "/%2e%2E/a", "/%4", "/%", "/%zz", "/a b", "/a#b", "/#", "/a ", "/ ", "/\x00", "/\x7f", "/\x80", "/a\xff", "/a\r\n", "/\t", "/\u00e9", "//..", "/.//.."} {
		for _, query := range []string{"", "?", "?a", "?a?b", "?..", "? ", "?#", "?\x7f", "?\x80", "?a\x00", "?\r\n"} {
			wantNoParse(t, "GET", s+query, api.ErrPath)
			wantNoParse(t, "OPTIONS", "http://h:8"+s+query, api.ErrPath)
			wantNoParse(t, "CONNECT", s+query, api.ErrTarget)
		}
	}
}

// P6.2: queries.

func TestParseOfEachByteOfAQuery(t *testing.T) {
	for c := range 256 {
		right := c >= 33 && c <= 126 && c != 35
		for _, query := range []string{one(c), one(c) + "b", "a" + one(c), "a" + one(c) + "b", one(c) + one(c), "a?" + one(c)} {
			if right {
				wantParse(t, "GET", "/p?"+query, target.Target{Form: 1, Path: "/p", Query: query, HasQuery: true})
				wantParse(t, "GET", "http://h?"+query, target.Target{Form: 2, Host: "h", Path: "/", Query: query, HasQuery: true})
				wantParse(t, "GET", "http://h:1/p?"+query, target.Target{Form: 2, Host: "h", Port: 1, Path: "/p", Query: query, HasQuery: true})
			} else {
				wantNoParse(t, "GET", "/p?"+query, api.ErrTarget)
				wantNoParse(t, "GET", "http://h?"+query, api.ErrTarget)
				wantNoParse(t, "GET", "http://h:1/p?"+query, api.ErrTarget)
			}
		}
		checkParse(t, "GET", "/"+one(c))
		checkParse(t, "GET", "/a"+one(c)+"b")
	}
	for _, query := range []string{" ", "#", "\x7f", "\x80", "\u00e9", "a#b", "a b", "\r\n", "\t", "\x00", "\x1f", "\xff"} {
		wantNoParse(t, "GET", "/?"+query, api.ErrTarget)
		wantNoParse(t, "GET", "/..?"+query, api.ErrPath)
	}
	long := strings.Repeat("?~!", 30000)
	wantParse(t, "GET", "/?"+long, target.Target{Form: 1, Path: "/", Query: long, HasQuery: true})
	wantNoParse(t, "GET", "/?"+long+"#", api.ErrTarget)
}

// P6.2: the form Absolute.

func TestParseOfAbsolute(t *testing.T) {
	cases := []struct {
		s    string
		want target.Target
	}{
		{"h", target.Target{Host: "h", Path: "/"}}, {"h/", target.Target{Host: "h", Path: "/"}}, {"h//", target.Target{Host: "h", Path: "/"}}, {"H:80", target.Target{Host: "h", Port: 80, Path: "/"}}, {"h:00080/", target.Target{Host: "h", Port: 80, Path: "/"}},
		{"h?", target.Target{Host: "h", Path: "/", HasQuery: true}}, {"h/?", target.Target{Host: "h", Path: "/", HasQuery: true}}, {"h:8?", target.Target{Host: "h", Port: 8, Path: "/", HasQuery: true}},
		{"h?q", target.Target{Host: "h", Path: "/", Query: "q", HasQuery: true}}, {"h?/a", target.Target{Host: "h", Path: "/", Query: "/a", HasQuery: true}}, {"h?a?b/..", target.Target{Host: "h", Path: "/", Query: "a?b/..", HasQuery: true}}, {"h??", target.Target{Host: "h", Path: "/", Query: "?", HasQuery: true}},
		{"h/a", target.Target{Host: "h", Path: "/a"}}, {"h/a/../b/", target.Target{Host: "h", Path: "/b/"}}, {"h:1/%7e?%7e", target.Target{Host: "h", Port: 1, Path: "/~", Query: "%7e", HasQuery: true}}, {"h/A?B", target.Target{Host: "h", Path: "/A", Query: "B", HasQuery: true}},
		{"h/a:b@c", target.Target{Host: "h", Path: "/a:b@c"}}, {"h/http://g/", target.Target{Host: "h", Path: "/http:/g/"}}, {"a-b.C:65535/?:0", target.Target{Host: "a-b.c", Port: 65535, Path: "/", Query: ":0", HasQuery: true}}, {"http/", target.Target{Host: "http", Path: "/"}},
	}
	for _, c := range cases {
		c.want.Form = 2
		for _, scheme := range []string{"http://", "HTTP://", "Http://", "hTtP://"} {
			wantParse(t, "GET", scheme+c.s, c.want)
			checkParse(t, "GET", scheme+c.s)
		}
	}
}

func TestParseOfNoHost(t *testing.T) {
	wrong := []string{
		"", ":", ":80", "-h", "h-", ".h", "h.", "h..h", "h:", "h:0", "h:65536", "h:000080", "h:80:80", "u@h", "u:p@h:80", "[::1]", "[::1]:80", "h#", "h#a", "h h", " h", "h ", "h\\", "\\h", "h%41", "*", "h*", "\xff", "h\x00", "\u00e9", "h_h", "h,h", "http:", strings.Repeat("h", 65), "h&", "h;",
	}
	for _, s := range wrong {
		for _, rest := range []string{"", "/", "/a", "?", "?a", "/a?b", "/..", "?#", "/ ? "} {
			for _, scheme := range []string{"http://", "HTTP://"} {
				wantNoParse(t, "GET", scheme+s+rest, api.ErrHost)
				checkParse(t, "GET", scheme+s+rest)
			}
		}
	}
	// The host ends at the first of both bytes, whichever it is.
	wantNoParse(t, "GET", "http://?/h", api.ErrHost)
	wantNoParse(t, "GET", "http:///h?", api.ErrHost)
	wantNoParse(t, "GET", "http:////h", api.ErrHost)
	wantNoParse(t, "GET", "http://http://h", api.ErrHost)
}

func TestParseOfOtherTexts(t *testing.T) {
	wrong := []string{
		"", " ", "a", "a/b", "h:80", "ex.com", "h:80/a", "?", "?a", "#", "%2f", "..", ".", "./a", "../a", "\\", "\\a", " /", "\t/", "\x00/", "\xff/", "\u2215a", "*a",
		"h", "ht", "http", "http:", "http:/", "http:/h", "http:h", "http//h", "ttp://h", "http:\\\\h", "http//:h", "https://h", "HTTPS://h", "https://h:443/a", "ftp://h/", "ws://h", "httpx://h", "xhttp://h", " http://h", "http ://h", "http: //h", "http;//h", "://h", "hhttp://h", "http:/\x00/h", "HTTP:/ /h", "file:///a", "mailto:a@b", "\u210bttp://h", "http:\x0f\x0fh", "http\x1a//h",
	}
	for _, s := range wrong {
		for _, method := range []string{"GET", "OPTIONS", "CONNECT"} {
			if method != "CONNECT" || s != "h:80" {
				wantNoParse(t, method, s, api.ErrTarget)
			}
			checkParse(t, method, s)
		}
	}
}

// Each byte of http:// is that byte, but for the case of its letters.
func TestParseOfEachByteOfTheScheme(t *testing.T) {
	const scheme = "http://"
	for at := range len(scheme) {
		for c := range 256 {
			s := scheme[:at] + one(c) + scheme[at+1:] + "h"
			switch {
			case small(one(c)) == scheme[at:at+1]:
				wantParse(t, "GET", s, target.Target{Form: 2, Host: "h", Path: "/"})
			case at > 0 || c != '/':
				wantNoParse(t, "GET", s, api.ErrTarget)
			}
			checkParse(t, "GET", s)
		}
	}
}

func TestParseOfShortTexts(t *testing.T) {
	for _, s := range texts([]string{"/", "?", "..", "a", "*", "http://", ":", "8"}, 4) {
		for _, method := range []string{"GET", "OPTIONS", "CONNECT"} {
			checkParse(t, method, s)
			checkParse(t, method, "HTTP://"+s)
			checkParse(t, method, "http://h"+s)
		}
	}
}

func TestParseOfManyTexts(t *testing.T) {
	d := dice.New(60)
	methods := []string{"GET", "OPTIONS", "CONNECT", "connect"}
	beginnings := []string{"", "/", "http://", "HTTP://h", "http://h:8", "h:8"}
	pieces := []string{"/", "/", "/..", "/a", "/b", "?", "a", "B", ".", "-", ":", "8", "%2e", "%2F", "#", " ", "\x80", "~", "q=1"}
	for range 30000 {
		s := beginnings[d.Below(len(beginnings))] + drawText(d, pieces, d.Below(9))
		checkParse(t, methods[d.Below(len(methods))], s)
		checkParse(t, "GET", s)
	}
}

// P6.3.

func TestOriginOfForms(t *testing.T) {
	wantWritten(t, "GET", "/", "/")
	wantWritten(t, "GET", "/a/../b/?x=1", "/b/?x=1")
	wantWritten(t, "GET", "/a", "/a")
	wantWritten(t, "GET", "/a?", "/a?")
	wantWritten(t, "GET", "/a?b?c", "/a?b?c")
	wantWritten(t, "GET", "/%7e%2f?%7e%2f", "/~%2F?%7e%2f")
	wantWritten(t, "GET", "http://H:8", "/")
	wantWritten(t, "GET", "http://h?", "/?")
	wantWritten(t, "GET", "http://h?q", "/?q")
	wantWritten(t, "GET", "http://h/a", "/a")
	wantWritten(t, "GET", "http://h:80/a/./b?", "/a/b?")
	wantWritten(t, "GET", "http://h:80/a?b=c", "/a?b=c")
	wantWritten(t, "OPTIONS", "*", "*")
	wantWritten(t, "OPTIONS", "/*", "/*")
	wantWritten(t, "CONNECT", "h:443", "")
}

// A target that was put together tells just what its form and its mark of a query say.
func TestOriginOfAnyTarget(t *testing.T) {
	for _, form := range []int{1, 2} {
		wantOrigin(t, target.Target{Form: form, Host: "h", Port: 8, Path: "/a", Query: "b", HasQuery: true}, "/a?b")
		wantOrigin(t, target.Target{Form: form, Host: "h", Port: 8, Path: "/a", HasQuery: true}, "/a?")
		wantOrigin(t, target.Target{Form: form, Host: "h", Port: 8, Path: "/a", Query: "b"}, "/a")
		wantOrigin(t, target.Target{Form: form, Path: "/a"}, "/a")
		wantOrigin(t, target.Target{Form: form}, "")
		wantOrigin(t, target.Target{Form: form, HasQuery: true}, "?")
		wantOrigin(t, target.Target{Form: form, Path: " \xff", Query: "#\x00", HasQuery: true}, " \xff?#\x00")
	}
	full := target.Target{Host: "h", Port: 8, Path: "/a", Query: "b", HasQuery: true}
	full.Form = 4
	wantOrigin(t, full, "*")
	for _, form := range []int{3, 0, -1, 5, 6, math.MinInt, math.MaxInt} {
		full.Form = form
		wantOrigin(t, full, "")
		wantOrigin(t, target.Target{Form: form}, "")
	}
}

// What goes to a server is read there as the same path and query.
func TestOriginIsReadAgain(t *testing.T) {
	d := dice.New(61)
	pieces := []string{"/", "/..", "/a", "/b", "?", "a", ".", "%2e", "%2F", "%25", "%c3", "~", "q=1"}
	for range 10000 {
		s := []string{"/", "http://h:8/", "http://h?"}[d.Below(3)] + drawText(d, pieces, d.Below(12))
		first, e := target.Parse("GET", s)
		if e != api.OK {
			continue
		}
		wantParse(t, "GET", first.Origin(), target.Target{Form: 1, Path: first.Path, Query: first.Query, HasQuery: first.HasQuery})
	}
}

// P1: any arguments, asked in any order, answer the same again.
func TestAnswersAreTheSameAgain(t *testing.T) {
	d := dice.New(62)
	for range 2000 {
		s := drawText(d, []string{"http://", "/", "h", ":8", "?", "%", "*", "\x00", "\xff", "-", "."}, d.Below(8))
		method := drawText(d, []string{"CONNECT", "OPTIONS", "GET", "\xff"}, d.Below(2))
		checkParse(t, method, s)
		checkAuthority(t, s)
		checkParse(t, method, s)
		checkAuthority(t, s)
	}
}
