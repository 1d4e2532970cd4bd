package config_test

import (
	"strings"
	"testing"

	"barbican/config"
	"barbican/dice"
)

// wantWord wants that word for a text, and the text back.
func wantWord(t *testing.T, s string, w string) {
	t.Helper()
	if got := config.Word(s); got != w {
		t.Errorf("Word(%q) is %q, want %q", s, got, w)
	}
	wantUnword(t, w, s, true)
	checkWord(t, s)
}

// wantUnword wants that text of a word, or none.
func wantUnword(t *testing.T, w string, s string, right bool) {
	t.Helper()
	if got, ok := config.Unword(w); got != s || ok != right {
		t.Errorf("Unword(%q) is %q, %t, want %q, %t", w, got, ok, s, right)
	}
	checkUnword(t, w)
}

// checkWord holds the word for a text against what it is to be, and what that word says against the text.
func checkWord(t *testing.T, s string) {
	t.Helper()
	w := config.Word(s)
	if w != wordOf(s) {
		t.Fatalf("Word(%q) is %q, want %q", s, w, wordOf(s))
	}
	if got, ok := config.Unword(w); got != s || !ok {
		t.Fatalf("Unword(%q) is %q, %t, want %q, true", w, got, ok, s)
	}
}

// checkUnword holds what a word says against what it is to say; and where it is one, the word for that against it.
func checkUnword(t *testing.T, w string) {
	t.Helper()
	got, ok := config.Unword(w)
	if s, right := unwordOf(w); got != s || ok != right {
		t.Fatalf("Unword(%q) is %q, %t, want %q, %t", w, got, ok, s, right)
	}
	if ok && config.Word(got) != w {
		t.Fatalf("Word(%q) is %q, want %q", got, config.Word(got), w)
	}
}

// shorts are all texts of those bytes, of no more than so many.
func shorts(of string, most int) []string {
	all := []string{""}
	for from, length := 0, 0; length < most; length++ {
		end := len(all)
		for ; from < end; from++ {
			for i := range len(of) {
				all = append(all, all[from]+of[i:i+1])
			}
		}
	}
	return all
}

// P14.4: the words for texts.
func TestWords(t *testing.T) {
	for _, c := range [][2]string{
		{"a b", "a%20b"}, {"", "-"}, {"-", "%2D"}, {"--", "--"}, {"-a", "-a"}, {"a-", "a-"}, {"- ", "-%20"}, {" -", "%20-"}, {"%", "%25"}, {"%2D", "%252D"}, {"%20", "%2520"}, {"%%", "%25%25"},
		{" ", "%20"}, {"  ", "%20%20"}, {"\t", "%09"}, {"\n", "%0A"}, {"\r\n", "%0D%0A"}, {"\x00", "%00"}, {"\x1f", "%1F"}, {"\x7f", "%7F"}, {"\x80", "%80"}, {"\xff", "%FF"}, {"é", "%C3%A9"},
		{"!", "!"}, {"~", "~"}, {"\"", "\""}, {"#", "#"}, {"$", "$"}, {"&", "&"}, {"+", "+"}, {"/", "/"}, {"?", "?"}, {"=", "="}, {"0", "0"}, {"\\", "\\"}, {"*", "*"}, {"a:80", "a:80"}, {"/a%2F", "/a%252F"},
		{"GET / HTTP/1.1\r\nHost: h\r\n\r\n", "GET%20/%20HTTP/1.1%0D%0AHost:%20h%0D%0A%0D%0A"},
	} {
		wantWord(t, c[0], c[1])
	}
	for _, n := range []int{1, 2, 256, 257, 1 << 20} {
		wantWord(t, long(n), long(n))
		wantWord(t, strings.Repeat("-", n+1), strings.Repeat("-", n+1))
		wantWord(t, strings.Repeat(" ", n), strings.Repeat("%20", n))
		wantWord(t, strings.Repeat("\xff", n), strings.Repeat("%FF", n))
	}
}

// The word for each byte, and for each two bytes.
func TestWordsOfEachByte(t *testing.T) {
	const hex = "0123456789ABCDEF"
	for c := range 256 {
		w := "%" + hex[c/16:c/16+1] + hex[c%16:c%16+1]
		if c >= 33 && c <= 126 && c != '%' {
			w = one(c)
			wantUnword(t, "a"+w+"b", "a"+w+"b", true)
		} else {
			wantUnword(t, one(c), "", false)
			wantUnword(t, "a"+one(c), "", false)
			wantUnword(t, one(c)+"a", "", false)
			wantUnword(t, "a"+one(c)+"b", "", false)
		}
		wantWord(t, "a"+one(c)+"b", "a"+w+"b")
		wantWord(t, one(c)+"b", w+"b")
		wantWord(t, "a"+one(c), "a"+w)
		wantWord(t, "-"+one(c), "-"+w)
		if c == '-' {
			w = "%2D"
		}
		wantWord(t, one(c), w)
		for d := range 256 {
			checkWord(t, one(c)+one(d))
			checkUnword(t, one(c)+one(d))
			checkUnword(t, "%"+one(c)+one(d))
			checkUnword(t, "a%"+one(c)+one(d)+"-")
		}
	}
}

// Texts that are no words.
func TestNoWords(t *testing.T) {
	for _, w := range []string{
		"", "%61", "%41", "%30", "%7E", "%21", "%2F", "%3A", "%5F", "%2E", "%2d", "%2DA", "a%2D", "%2D%2D", "-%2D", "%2D-", "%0a", "%0d", "%ff", "%fF", "%Ff", "%C3%a9", "%7f", "%2e",
		"%", "%2", "%0", "%F", "a%", "a%2", "%%", "%%20", "%2%20", "%20%", "%20%2", "%25%", "%-", "%-1", "%+1", "%GG", "%0G", "%G0", "% 0", "%0 ", "%\x00\x00", "%0\n", "%u0020", "%x20", "%#20",
		" ", "a b", " a", "a ", "a\tb", "\n", "a\n", "\x00", "\x7f", "a\x7f", "\x80", "\xff", "é", "a%20 b", "\u212a", "％20",
	} {
		wantUnword(t, w, "", false)
	}
	wantUnword(t, long(1<<20)+" ", "", false)
	wantUnword(t, strings.Repeat("%20", 1<<18)+"%", "", false)
	wantUnword(t, strings.Repeat("%20", 1<<18)+"%61", "", false)
}

// All short texts of bytes that matter, as texts and as words.
func TestShortWords(t *testing.T) {
	for _, s := range shorts("-%2Dd05 a\xff", 5) {
		checkWord(t, s)
		checkUnword(t, s)
	}
	for _, s := range shorts("%2D-", 8) {
		checkWord(t, s)
		checkUnword(t, s)
	}
}

// Texts and words drawn by chance.
func TestManyWords(t *testing.T) {
	d := dice.New(14)
	rights := 0
	for range 30000 {
		s := make([]byte, d.Below(12))
		for i := range s {
			s[i] = byte(d.Below(256))
			if d.Below(2) == 0 {
				s[i] = "%%%02257CDFd- a"[d.Below(15)]
			}
		}
		checkWord(t, string(s))
		checkUnword(t, string(s))
		// A word with one byte changed, one more, and one less.
		w := []byte(config.Word(string(s)))
		i := d.Below(len(w))
		checkUnword(t, string(w[:i])+string(w[i+1:]))
		checkUnword(t, string(w[:i])+"%"+string(w[i:]))
		w[i] = "%0127aADF- \x00\xff"[d.Below(13)]
		checkUnword(t, string(w))
		if _, ok := config.Unword(string(w)); ok {
			rights++
		}
	}
	if rights < 5000 || rights > 25000 {
		t.Errorf("%d of the changed words are right: they tell too little", rights)
	}
}
