package config

import (
	"strings"

	"barbican/path"
)

const hexDigits = "0123456789ABCDEF"

// emptyWord stands for the empty text, so the text that looks like it is written as dashWord.
const (
	emptyWord = "-"
	dashWord  = "%2D"
)

// Word writes a text as a word.
func Word(s string) string {
	switch s {
	case "":
		return emptyWord
	case emptyWord:
		return dashWord
	}
	var w strings.Builder
	for i := range len(s) {
		if c := s[i]; c > ' ' && c < 127 && c != '%' {
			w.WriteByte(c)
		} else {
			w.Write([]byte{'%', hexDigits[c>>4], hexDigits[c&15]})
		}
	}
	return w.String()
}

// Unword reads a word.
func Unword(w string) (string, bool) {
	if w == emptyWord {
		return "", true
	}
	s, ok := path.Decode(w)
	// Escapes can be written in ways that Word doesn't write, and bytes as they are that it does escape.
	if !ok || Word(s) != w {
		return "", false
	}
	return s, true
}
