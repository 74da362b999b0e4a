package runes_test

import (
	"slices"
	"strings"
	"testing"

	"corncrib/api"
	"corncrib/runes"
)

// edges are bytes at which what begins, goes on, or ends a code point's bytes changes.
var edges = []byte{0x00, 0x41, 0x7f, 0x80, 0x8f, 0x90, 0x9f, 0xa0, 0xbd, 0xbf, 0xc0, 0xc1, 0xc2, 0xdf, 0xe0, 0xe1, 0xed, 0xef, 0xf0, 0xf1, 0xf4, 0xf5, 0xff}

// limits are code points at which the number of bytes changes, or around those that are none.
var limits = []rune{0, 0x7f, 0x80, 0x7ff, 0x800, 0xd7ff, 0xe000, 0xfffc, 0xfffd, 0xfffe, 0xffff, 0x10000, 0x10ffff}

// encoded is a code point's bytes, reckoned by hand; nothing, if it is none.
func encoded(c int) string {
	tail := func(shift int) byte { return byte(0x80 | c>>shift&0x3f) }
	switch {
	case c < 0 || c > 0x10ffff || c >= 0xd800 && c <= 0xdfff:
		return ""
	case c < 0x80:
		return string([]byte{byte(c)})
	case c < 0x800:
		return string([]byte{byte(0xc0 | c>>6), tail(0)})
	case c < 0x10000:
		return string([]byte{byte(0xe0 | c>>12), tail(6), tail(0)})
	}
	return string([]byte{byte(0xf0 | c>>18), tail(12), tail(6), tail(0)})
}

// decoded is what some bytes would say, if they were a code point's.
func decoded(s string) int {
	c := int(s[0])
	if len(s) > 1 {
		c = int(s[0]) & (0xff >> (len(s) + 1))
	}
	for _, x := range []byte(s[1:]) {
		c = c<<6 | int(x)&0x3f
	}
	return c
}

// pieces are the lengths and code points of a text's pieces, by the words of the document.
func pieces(s string) (sizes []int, points []rune, valid bool) {
	valid = true
	for at := 0; at < len(s); {
		size, point := 0, rune(0xfffd)
		for n := 1; n <= 4 && at+n <= len(s); n++ {
			if c := decoded(s[at : at+n]); encoded(c) == s[at:at+n] {
				size, point = n, rune(c)
			}
		}
		if size == 0 {
			size, valid = 1, false
		}
		sizes, points = append(sizes, size), append(points, point)
		at += size
	}
	return sizes, points, valid
}

// texts goes through all texts of at most so many of the bytes.
func texts(bytes []byte, most int, do func(string)) {
	var from func(string)
	from = func(s string) {
		do(s)
		if len(s) == most {
			return
		}
		for _, x := range bytes {
			from(s + string([]byte{x}))
		}
	}
	from("")
}

func TestPiecesOfAllEdges(t *testing.T) {
	texts(edges, 4, func(s string) {
		sizes, points, valid := pieces(s)
		if runes.Valid(s) != valid || runes.Count(s) != len(sizes) || !slices.Equal(runes.Points(s), points) {
			t.Fatalf("% x: Valid %v, Count %d, Points %v; should be %v, %d, %v", s, runes.Valid(s), runes.Count(s), runes.Points(s), valid, len(sizes), points)
		}
		if valid && runes.Text(points) != s {
			t.Fatalf("% x: Text of Points is % x", s, runes.Text(points))
		}
		end := 0
		for n, size := range sizes {
			if runes.Cut(s, n) != s[:end] {
				t.Fatalf("% x: Cut to %d is % x", s, n, runes.Cut(s, n))
			}
			end += size
		}
	})
}

func TestPiecesOfOneText(t *testing.T) {
	for _, x := range []struct {
		text   string
		valid  bool
		points []rune
	}{
		{"", true, nil},
		{"aé€", true, []rune{'a', 0xe9, 0x20ac}},
		{"a\xe2\x82", false, []rune{'a', 0xfffd, 0xfffd}},
		{"\xef\xbf\xbd", true, []rune{0xfffd}},
		{"\xef\xbf", false, []rune{0xfffd, 0xfffd}},
		{"\xed\xa0\x80", false, []rune{0xfffd, 0xfffd, 0xfffd}},
		{"\xed\x9f\xbf\xee\x80\x80", true, []rune{0xd7ff, 0xe000}},
		{"\xf4\x8f\xbf\xbf", true, []rune{0x10ffff}},
		{"\xf4\x90\x80\x80", false, []rune{0xfffd, 0xfffd, 0xfffd, 0xfffd}},
		{"\xc0\x80", false, []rune{0xfffd, 0xfffd}},
		{"\xe2\x82a", false, []rune{0xfffd, 0xfffd, 'a'}},
		{"\x00\x00", true, []rune{0, 0}},
	} {
		if runes.Valid(x.text) != x.valid || runes.Count(x.text) != len(x.points) || !slices.Equal(runes.Points(x.text), x.points) {
			t.Errorf("% x: Valid %v, Count %d, Points %v", x.text, runes.Valid(x.text), runes.Count(x.text), runes.Points(x.text))
		}
	}
}

func TestText(t *testing.T) {
	if s := runes.Text(nil); s != "" {
		t.Errorf("of none: %q", s)
	}
	for _, c := range limits {
		if s := runes.Text([]rune{'x', c, 'y'}); s != "x"+encoded(int(c))+"y" {
			t.Errorf("of %x: % x", c, s)
		}
	}
	for _, c := range []rune{-1, -1 << 31, 0xd800, 0xdbff, 0xdc00, 0xdfff, 0x110000, 1<<31 - 1} {
		if s := runes.Text([]rune{c, 'a'}); s != "\xef\xbf\xbda" {
			t.Errorf("of %d, which is no code point: % x", c, s)
		}
	}
	if l := runes.Points(runes.Text(limits)); !slices.Equal(l, limits) {
		t.Errorf("Points of Text: %v", l)
	}
}

func TestTextAndPointsShareNothing(t *testing.T) {
	l := []rune{'a', 'b'}
	s := runes.Text(l)
	l[0] = 'z'
	first := runes.Points(s)
	first[1] = 'z'
	if s != "ab" || !slices.Equal(runes.Points(s), []rune{'a', 'b'}) {
		t.Error("what was handed in or out changed an answer")
	}
}

func TestCut(t *testing.T) {
	const least, most = -1 << 63, 1<<63 - 1
	for _, x := range []struct {
		text string
		n    int
		want string
	}{
		{"", 0, ""}, {"", 1, ""}, {"", most, ""},
		{"aé€x", least, ""}, {"aé€x", -1, ""}, {"aé€x", 0, ""}, {"aé€x", 1, "a"}, {"aé€x", 2, "aé"}, {"aé€x", 3, "aé€"},
		{"aé€x", 4, "aé€x"}, {"aé€x", 5, "aé€x"}, {"aé€x", most, "aé€x"},
		{"\xe2\x82\xff", 1, "\xe2"}, {"\xe2\x82\xff", 2, "\xe2\x82"}, {"\xe2\x82\xff", 3, "\xe2\x82\xff"},
		{"\xef\xbf\xbda", 1, "\xef\xbf\xbd"},
	} {
		if s := runes.Cut(x.text, x.n); s != x.want {
			t.Errorf("Cut(%q, %d): %q", x.text, x.n, s)
		}
	}
}

func TestCmp(t *testing.T) {
	for _, x := range []struct {
		a, b string
		want int
	}{
		{"", "", 0}, {"", "\x00", -1}, {"a", "ab", -1}, {"ab", "abc", -1}, {"ab", "b", -1}, {"b", "ab", 1}, {"Z", "é", -1}, {"aé", "aé", 0},
		{"\xff", "\xef\xbf\xbd", 0}, {"\xff", "\xfe", 0}, {"\xff\xffa", "\xef\xbf\xbd\x80b", -1},
		{"\xff", "z", 1}, {"\xff", "\U00010000", -1}, {"\xff", "\ufffe", -1}, {"\xff", "\ufffc", 1},
		{"\U00010000", "\uffff", 1}, {"\ufffd", "\U0010ffff", -1}, {"\xe2\x82", "\xe2\x82\xac", 1}, {"\xe2\x82", "\ufffd", 1},
	} {
		if c := runes.Cmp(x.a, x.b); c != x.want {
			t.Errorf("Cmp(%q, %q): %d", x.a, x.b, c)
		}
		if c := runes.Cmp(x.b, x.a); c != -x.want {
			t.Errorf("Cmp(%q, %q): %d", x.b, x.a, c)
		}
	}
}

func TestCmpGoesByPoints(t *testing.T) {
	var all []string
	texts([]byte{'a', 'b', 0x80, 0xc3, 0xa9, 0xff}, 3, func(s string) { all = append(all, s) })
	all = append(all, "\ufffd", "\ufffda", "a\ufffd", "\uffff", "\U00010000", "\U0010ffff")
	for _, a := range all {
		for _, b := range all {
			_, x, _ := pieces(a)
			_, y, _ := pieces(b)
			if c := runes.Cmp(a, b); c != slices.Compare(x, y) {
				t.Fatalf("Cmp(%q, %q): %d", a, b, c)
			}
		}
	}
}

func TestName(t *testing.T) {
	at := func(n int, s string) string { return strings.Repeat(s, n) }
	for _, x := range []struct {
		name string
		want api.Errno
	}{
		{"log.1", api.OK}, {"größe", api.OK}, {"a-b_c.d", api.OK}, {"_", api.OK}, {"0", api.OK}, {"a.", api.OK}, {"a-", api.OK}, {"_.", api.OK},
		{"¡", api.OK}, {"\U0010ffff", api.OK}, {"\ufffc\ufffe", api.OK}, {"\ud7ff\ue000", api.OK},
		{"", api.ErrName}, {".", api.ErrName}, {"-", api.ErrName}, {".x", api.ErrName}, {"-x", api.ErrName}, {"a b", api.ErrName},
		{"a\u00a0", api.ErrName}, {"\u0080", api.ErrName}, {"\x7f", api.ErrName}, {"a\x00", api.ErrName}, {"a\ufffd", api.ErrName},
		{"a\xff", api.ErrName}, {"\xe2\x82", api.ErrName}, {"a\xed\xa0\x80", api.ErrName}, {"\xf4\x90\x80\x80", api.ErrName},
		{at(32, "a"), api.OK}, {at(33, "a"), api.ErrNameLong}, {at(32, "é"), api.OK}, {at(33, "é"), api.ErrNameLong},
		{at(32, "\U0010ffff"), api.OK}, {at(9999, "_"), api.ErrNameLong},
		{at(33, "a") + "/", api.ErrName}, {"." + at(33, "a"), api.ErrName}, {at(33, "a") + "\xff", api.ErrName},
	} {
		if e := runes.Name(x.name); e != x.want {
			t.Errorf("Name(%q): %d", x.name, e)
		}
	}
}

func TestNameOfEachPoint(t *testing.T) {
	for c := rune(0); c <= 0x10ffff; c++ {
		ascii := c >= '0' && c <= '9' || c >= 'A' && c <= 'Z' || c >= 'a' && c <= 'z' || c == '.' || c == '-' || c == '_'
		want := api.OK
		if !ascii && (c < 161 || c == 0xfffd || c >= 0xd800 && c <= 0xdfff) {
			want = api.ErrName
		}
		if e := runes.Name("a" + string(c)); e != want {
			t.Fatalf("Name of a and the code point %x: %d", c, e)
		}
	}
}
