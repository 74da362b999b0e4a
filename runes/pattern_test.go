package runes_test

import (
	"strings"
	"testing"

	"corncrib/api"
	"corncrib/runes"
)

const fine = -1 // the place of the fault of a pattern that has none

func TestPattern(t *testing.T) {
	for _, x := range []struct {
		pattern string
		want    int
	}{
		{"", fine}, {"a", fine}, {"*", fine}, {"**", fine}, {"?", fine}, {"]", fine}, {"-", fine}, {"^", fine}, {"a]b", fine},
		{"\\", 0}, {"x\\", 1}, {"é\\", 2}, {"\\\\", fine}, {"\\\\\\", 2}, {"\\[", fine}, {"[a]\\", 3}, {"\\é", fine}, {"\\\xff", fine}, {"\xff\xff\\", 2},
		{"[", 0}, {"a[", 1}, {"é[", 2}, {"\xff[", 1}, {"[a", 0}, {"[]", 0}, {"[]]", 0}, {"[^", 0}, {"[^]", 0}, {"[^]]", 0}, {"[^^]", fine}, {"[a^]", fine},
		{"[-]", fine}, {"[a-]", fine}, {"[-a]", fine}, {"[^-]", fine}, {"[^-a]", fine}, {"[--]", fine}, {"[---]", fine}, {"[a-", 0}, {"[a-b", 0}, {"[-", 0},
		{"[b-a]", 0}, {"[a-a]", fine}, {"[a-b-a]", fine}, {"[a-bc-a]", 0}, {"[^b-a]", 0}, {"x[a]y[b-a]", 5}, {"[z--]", 0}, {"[+--]", fine}, {"[---a]", fine},
		{"[a\\]", 0}, {"[a\\", 0}, {"[\\", 0}, {"[a-\\", 0}, {"[a-\\]", 0}, {"[a-\\]]", 0}, {"[A-\\]]", fine}, {"[\\]-a]", fine}, {"[\\]]", fine}, {"[\\a-b]", fine}, {"[\\b-\\a]", 0}, {"[a\\-b]", fine},
		{"[[]", fine}, {"[[-]]", fine}, {"[[-a]", fine}, {"[a-[]", 0}, {"[A-[]", fine}, {"[*?]", fine}, {"[é-€]", fine}, {"[€-é]", 0}, {"[a-\xff]", fine}, {"[\xff-\ufffd]", fine}, {"[\xff-a]", 0},
		{"[a]\\x[", 5}, {"*[]\\", 1}, {"\\[]\\", 3}, {"[b-a]\\", 0}, {"[b-a", 0},
	} {
		e, at := runes.Pattern(x.pattern)
		if x.want == fine && (e != api.OK || at != 0) || x.want != fine && (e != api.ErrPattern || at != x.want) {
			t.Errorf("Pattern(%q): %d, %d; should be at %d", x.pattern, e, at, x.want)
		}
	}
}

func TestMatch(t *testing.T) {
	for _, x := range []struct {
		pattern string
		yes, no []string
	}{
		{"", []string{""}, []string{"a"}},
		{"*.[a-c?]", []string{"x.b", "x.?", ".a", "..c"}, []string{"x.d", "x.", "b", "x.bb"}},
		{"[^a]?", []string{"é€", "\xff\xff", "ba"}, []string{"aé", "é", "éab"}},
		{"\\*", []string{"*"}, []string{"a", "\\*", ""}},
		{"**", []string{"", "a", "ab", "\xff"}, nil},
		{"*a", []string{"a", "aa", "ba"}, []string{"", "ab"}},
		{"a*", []string{"a", "aa", "ab"}, []string{"", "ba"}},
		{"*a*", []string{"a", "bab"}, []string{"", "b"}},
		{"*ab*ab", []string{"abab", "aabab", "ababab"}, []string{"ab", "aba", "ababa"}},
		{"?*?", []string{"ab", "abc"}, []string{"", "a"}},
		{"?", []string{"a", "é", "\xff", "\U0010ffff", "\x00"}, []string{"", "ab", "\xe2\x82"}},
		{"a?c", []string{"abc", "a€c", "a\x80c"}, []string{"ac", "abbc"}},
		{"]", []string{"]"}, []string{"["}},
		{"[-a]", []string{"-", "a"}, []string{"b", ""}},
		{"[a-]", []string{"-", "a"}, []string{"b"}},
		{"[a-c]", []string{"a", "b", "c"}, []string{"`", "d", "-", "abc"}},
		{"[a-c-e]", []string{"a", "b", "c", "-", "e"}, []string{"d"}},
		{"[a\\-c]", []string{"a", "-", "c"}, []string{"b", "\\"}},
		{"[\\a-\\c]", []string{"a", "b", "c"}, []string{"\\", "-"}},
		{"[A-\\]]", []string{"A", "Z", "[", "\\", "]"}, []string{"^", "-", "A]"}},
		{"[\\]]", []string{"]"}, []string{"\\", "\\]"}},
		{"[\\^]", []string{"^"}, []string{"\\", "a"}},
		{"[^^]", []string{"a"}, []string{"^", ""}},
		{"[^-a]", []string{"b", "^"}, []string{"-", "a"}},
		{"[a^]", []string{"a", "^"}, []string{"b"}},
		{"[[-]]", []string{"[]", "-]"}, []string{"[", "]", "a]"}},
		{"[[-a]", []string{"[", "]", "^", "a"}, []string{"-", "b"}},
		{"[---]", []string{"-"}, []string{"a"}},
		{"[*?]", []string{"*", "?"}, []string{"a", ""}},
		{"[é-€]", []string{"é", "€", "ê"}, []string{"a", "₭"}},
		{"\xff", []string{"\xff", "\xfe", "\ufffd"}, []string{"a", "\xe2\x82"}},
		{"\ufffd", []string{"\x80", "\ufffd"}, []string{"\ufffc"}},
		{"\\\ufffd", []string{"\x80", "\ufffd"}, []string{"\\"}},
		{"[^\xff]", []string{"a"}, []string{"\xfe", "\ufffd"}},
		{"x\\", nil, []string{"x", "x\\", ""}},
		{"[", nil, []string{"[", ""}},
		{"*[b-a]", nil, []string{"a", "b", "", "[b-a]"}},
	} {
		for _, s := range x.yes {
			if !runes.Match(x.pattern, s) {
				t.Errorf("Match(%q, %q): false", x.pattern, s)
			}
		}
		for _, s := range x.no {
			if runes.Match(x.pattern, s) {
				t.Errorf("Match(%q, %q): true", x.pattern, s)
			}
		}
	}
}

// asked is whether a code point is in a class.
type asked func(c byte) bool

// classOf reads, by the words of the document, a class of ASCII ahead of which its [ was: what it asks, and what stands behind; false, if it is none.
func classOf(p string) (asked, string, bool) {
	p, not := strings.CutPrefix(p, "^")
	var l [][2]byte
	for {
		if p == "" {
			return nil, "", false
		}
		if p[0] == ']' {
			in := func(c byte) bool {
				for _, x := range l {
					if x[0] <= c && c <= x[1] {
						return !not
					}
				}
				return not
			}
			return in, p[1:], len(l) > 0
		}
		if p == "\\" {
			return nil, "", false
		}
		p = strings.TrimPrefix(p, "\\")
		x := [2]byte{p[0], p[0]}
		p = p[1:]
		if len(p) > 1 && p[0] == '-' && p[1] != ']' {
			if p[1:] == "\\" {
				return nil, "", false
			}
			p = strings.TrimPrefix(p[1:], "\\")
			x[1] = p[0]
			p = p[1:]
		}
		if x[1] < x[0] {
			return nil, "", false
		}
		l = append(l, x)
	}
}

// faultOf is the place of the fault of a pattern of ASCII, or fine.
func faultOf(p string) int {
	for at := 0; at < len(p); at++ {
		switch p[at] {
		case '\\':
			if at == len(p)-1 {
				return at
			}
			at++
		case '[':
			_, rest, ok := classOf(p[at+1:])
			if !ok {
				return at
			}
			at = len(p) - len(rest) - 1
		}
	}
	return fine
}

// fits tries all ways for a text of ASCII to be what a pattern without faults says.
func fits(p, s string) bool {
	switch {
	case p == "":
		return s == ""
	case p[0] == '*':
		return fits(p[1:], s) || s != "" && fits(p, s[1:])
	case s == "":
		return false
	case p[0] == '?':
		return fits(p[1:], s[1:])
	case p[0] == '\\':
		return p[1] == s[0] && fits(p[2:], s[1:])
	case p[0] == '[':
		in, rest, _ := classOf(p[1:])
		return in(s[0]) && fits(rest, s[1:])
	}
	return p[0] == s[0] && fits(p[1:], s[1:])
}

func checkPattern(t *testing.T, p string, all []string) {
	t.Helper()
	want := faultOf(p)
	e, at := runes.Pattern(p)
	if want == fine && (e != api.OK || at != 0) || want != fine && (e != api.ErrPattern || at != want) {
		t.Fatalf("Pattern(%q): %d, %d; should be at %d", p, e, at, want)
	}
	for _, s := range all {
		if is := want == fine && fits(p, s); runes.Match(p, s) != is {
			t.Fatalf("Match(%q, %q): %v", p, s, !is)
		}
	}
}

func TestAllShortPatterns(t *testing.T) {
	var all []string
	texts([]byte("a\\]-"), 2, func(s string) { all = append(all, s) })
	texts([]byte("*?[]^-\\ab"), 5, func(p string) { checkPattern(t, p, all) })
}

func TestAllShortClasses(t *testing.T) {
	all := []string{"", "a", "b", "c", "-", "]", "^", "\\", "[", "a]", "b]", "-]"}
	texts([]byte("]^-\\ac"), 6, func(p string) { checkPattern(t, "["+p, all) })
}

func TestAllShortStars(t *testing.T) {
	var all []string
	texts([]byte("ab"), 6, func(s string) { all = append(all, s) })
	texts([]byte("*?ab"), 6, func(p string) { checkPattern(t, p, all) })
}

func TestManyStarsEnd(t *testing.T) {
	p, s := strings.Repeat("*a", 1000), strings.Repeat("a", 2000)
	if !runes.Match(p, s) || runes.Match(p+"b", s) || runes.Match(p+"*b", s) || !runes.Match(p+"*b*", s+"b") {
		t.Error("patterns of many stars")
	}
}

func TestNamesMatchThemselves(t *testing.T) {
	for c := rune(0); c < 0x3000; c++ {
		name := "a" + string(c)
		if runes.Name(name) == api.OK && !runes.Match(name, name) {
			t.Errorf("%q is a name that its pattern does not match", name)
		}
	}
	for _, sign := range []string{"*", "?", "\\", "[", "]", "^"} {
		if runes.Name("a"+sign) != api.ErrName {
			t.Errorf("a name has the sign %s", sign)
		}
	}
}
