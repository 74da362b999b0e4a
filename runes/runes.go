// Package runes is layer 1: see shared/doc/01-runes.md.
package runes

import (
	"cmp"
	"strings"
	"unicode/utf8"

	"corncrib/api"
)

// Valid tells whether a text is code points alone.
func Valid(s string) bool { return utf8.ValidString(s) }

// Count is how many pieces a text has.
func Count(s string) int {
	n := 0
	for range s {
		n++
	}
	return n
}

// Points are a text's code points.
func Points(s string) []rune {
	l := make([]rune, 0, Count(s))
	for _, c := range s {
		l = append(l, c)
	}
	return l
}

// Text is code points as a text.
func Text(l []rune) string {
	var b strings.Builder
	for _, c := range l {
		b.WriteRune(c)
	}
	return b.String()
}

// Cmp compares two texts by their code points.
func Cmp(a, b string) int {
	at := 0
	for _, x := range a {
		if at == len(b) {
			return 1
		}
		y, size := utf8.DecodeRuneInString(b[at:])
		if x != y {
			return cmp.Compare(x, y)
		}
		at += size
	}
	if at < len(b) {
		return -1
	}
	return 0
}

// Cut is the first pieces of a text.
func Cut(s string, n int) string {
	if n < 1 {
		return ""
	}
	for at := range s {
		if n == 0 {
			return s[:at]
		}
		n--
	}
	return s
}

// Name tells what is wrong with a file's name.
func Name(s string) api.Errno {
	if s == "" || s[0] == '.' || s[0] == '-' {
		return api.ErrName
	}
	for _, c := range s {
		if !inName(c) {
			return api.ErrName
		}
	}
	if Count(s) > api.MaxName {
		return api.ErrNameLong
	}
	return api.OK
}

func inName(c rune) bool {
	switch {
	case '0' <= c && c <= '9', 'A' <= c && c <= 'Z', 'a' <= c && c <= 'z':
		return true
	case c == '.', c == '-', c == '_':
		return true
	}
	// A byte that is no code point's comes as U+FFFD, so that none gets into a name by this.
	return c >= 161 && c != utf8.RuneError
}
