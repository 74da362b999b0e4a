package frame_test

import (
	"fmt"
	"math"
	"slices"
	"strings"
	"testing"

	"corncrib/api"
	"corncrib/frame"
)

// four are a number's bytes by the words of the document: the lowest first.
func four(n int) string {
	return string([]byte{byte(n % 256), byte(n / 256 % 256), byte(n / 65536 % 256), byte(n / 16777216 % 256)})
}

func numberOf(b string) int {
	return int(b[0]) + 256*int(b[1]) + 65536*int(b[2]) + 16777216*int(b[3])
}

// framed is bytes behind a number, that may be told wrongly, and the Sum of both.
func framed(n int, b string) string { return four(n) + four(int(sumOf(four(n)+b))) + b }

func frameOf(b string) string { return framed(len(b), b) }

func joined(l []string) string {
	s := ""
	for _, b := range l {
		s += frameOf(b)
	}
	return s
}

// read is what Unframe tells.
type read struct {
	b   string
	at  int
	err api.Errno
}

func (x read) String() string { return fmt.Sprintf("%q, %d, %d", show(x.b), x.at, x.err) }

func unframe(b string, at int) read {
	x, next, err := frame.Unframe(b, at)
	return read{x, next, err}
}

// unframed is what it should tell, by the words of the document.
func unframed(b string, at int) read {
	if at < 0 || at > len(b) {
		return read{"", at, api.ErrArg}
	}
	left := b[at:]
	if len(left) < 8 {
		return read{"", at, api.ErrFrameShort}
	}
	n := numberOf(left)
	switch {
	case n > 65536:
		return read{"", at, api.ErrFrameLong}
	case n > len(left)-8:
		return read{"", at, api.ErrFrameShort}
	case int(sumOf(left[:4]+left[8:8+n])) != numberOf(left[4:8]):
		return read{"", at, api.ErrFrameSum}
	}
	return read{left[8 : 8+n], at + 8 + n, api.OK}
}

// show is a text as it is told in a fault: not all of a long one.
func show(b string) string {
	if len(b) > 40 {
		return b[:40] + ".."
	}
	return b
}

func checkUnframe(t *testing.T, b string, at int) {
	t.Helper()
	if is, want := unframe(b, at), unframed(b, at); is != want {
		t.Fatalf("Unframe of %d bytes (% x) at %d: %v; should be %v", len(b), show(b), at, is, want)
	}
}

// checkScan holds Scan against what Unframe should tell, one by one.
func checkScan(t *testing.T, b string) {
	t.Helper()
	var want []string
	end := 0
	for x := unframed(b, 0); x.err == api.OK; x = unframed(b, end) {
		want, end = append(want, x.b), x.at
	}
	if l, at := frame.Scan(b); !slices.Equal(l, want) || at != end {
		t.Fatalf("Scan of %d bytes (% x): %d frames, %d; should be %d, %d", len(b), show(b), len(l), at, len(want), end)
	}
}

// lists are some of what may be joined.
func lists() [][]string {
	return [][]string{
		nil, {""}, {"", ""}, {"a"}, {"a", "b"}, {"a", "", "b"}, {"", "", "", "abc"}, {"abc", "de", "f", ""}, {"\x00", "\xff\xff", "\x00\x00\x00\x00\x00\x00\x00\x00"},
		{frameOf(""), frameOf("a"), "x" + joined([]string{"a", ""})}, // frames within frames
		{strings.Repeat("\x00", 300), strings.Repeat("é", 130), blocks(257)[4]},
	}
}

func TestFrame(t *testing.T) {
	for b, want := range map[string]string{
		"":          "\x00\x00\x00\x00\xc7\x4b\x67\x48",
		"a":         "\x01\x00\x00\x00" + four(int(sumOf("\x01\x00\x00\x00a"))) + "a",
		"123456789": "\x09\x00\x00\x00" + four(int(sumOf("\x09\x00\x00\x00123456789"))) + "123456789",
	} {
		if is, err := frame.Frame(b); is != want || err != api.OK {
			t.Errorf("Frame(%q): % x, %d", b, is, err)
		}
	}
	for _, n := range []int{0, 1, 2, 7, 8, 9, 255, 256, 257, 65534, 65535, 65536} {
		for _, b := range blocks(n) {
			if is, err := frame.Frame(b); is != frameOf(b) || err != api.OK {
				t.Errorf("Frame of %d bytes (% x): % x, %d", n, show(b), show(is), err)
			}
		}
	}
}

func TestFrameTooLong(t *testing.T) {
	for _, n := range []int{65537, 65538, 1 << 17, 1 << 24} {
		b := strings.Repeat("a", n)
		if is, err := frame.Frame(b); is != "" || err != api.ErrFrameLong {
			t.Errorf("Frame of %d bytes: %d bytes, %d", n, len(is), err)
		}
	}
}

func TestUnframeExamples(t *testing.T) {
	empty := "\x00\x00\x00\x00\xc7\x4b\x67\x48"
	for _, x := range []struct {
		b    string
		at   int
		want read
	}{
		{empty, 0, read{"", 8, api.OK}},
		{empty[:7] + "\x49", 0, read{"", 0, api.ErrFrameSum}},
		{empty[:7], 0, read{"", 0, api.ErrFrameShort}},
		{empty, 9, read{"", 9, api.ErrArg}},
		{empty, 8, read{"", 8, api.ErrFrameShort}},
		{empty, 1, read{"", 1, api.ErrFrameShort}},
		{empty, -1, read{"", -1, api.ErrArg}},
		{empty, math.MinInt, read{"", math.MinInt, api.ErrArg}},
		{empty, math.MaxInt, read{"", math.MaxInt, api.ErrArg}},
		{empty, math.MaxInt - 7, read{"", math.MaxInt - 7, api.ErrArg}},
		{"", 0, read{"", 0, api.ErrFrameShort}},
		{"", 1, read{"", 1, api.ErrArg}},
		{"", -1, read{"", -1, api.ErrArg}},
		{"xyz" + frameOf("ab") + "rest", 3, read{"ab", 13, api.OK}},
		{"xyz" + frameOf("ab") + "rest", 13, read{"", 13, api.ErrFrameShort}},
		{frameOf("ab") + frameOf(""), 10, read{"", 18, api.OK}},
	} {
		if is := unframe(x.b, x.at); is != x.want {
			t.Errorf("Unframe(% x, %d): %v; should be %v", x.b, x.at, is, x.want)
		}
	}
}

func TestUnframeAtEachPlace(t *testing.T) {
	for _, l := range lists() {
		b := joined(l)
		for at := -9; at <= len(b)+9; at++ {
			checkUnframe(t, b, at)
		}
		for end := range len(b) {
			for _, at := range []int{0, 1, end - 8, end - 7, end - 1, end, end + 1} {
				checkUnframe(t, b[:end], at)
			}
		}
	}
}

func TestUnframeLongAndShort(t *testing.T) {
	most := strings.Repeat("\xac", 65536)
	for _, x := range []struct {
		b   string
		err api.Errno
	}{
		{frameOf(most), api.OK}, {frameOf(most) + "a", api.OK}, {frameOf(most)[:65543], api.ErrFrameShort}, {frameOf(most)[:8], api.ErrFrameShort}, {frameOf(most)[:7], api.ErrFrameShort},
		{framed(65537, most+"a"), api.ErrFrameLong}, {framed(65537, most), api.ErrFrameLong}, {framed(65537, ""), api.ErrFrameLong}, {four(65537) + "xyz", api.ErrFrameShort}, {four(65537) + "wxyz", api.ErrFrameLong},
		{framed(1<<24, most), api.ErrFrameLong}, {framed(1<<31, ""), api.ErrFrameLong}, {framed(1<<31-1, "a"), api.ErrFrameLong}, {framed(1<<32-1, "a"), api.ErrFrameLong}, {framed(1<<32-8, most), api.ErrFrameLong},
		{framed(65536, ""), api.ErrFrameShort}, {framed(65536, most[1:]), api.ErrFrameShort}, {framed(1, ""), api.ErrFrameShort}, {framed(3, "ab"), api.ErrFrameShort}, {four(1) + "wxyz", api.ErrFrameShort},
		{framed(1, "ab"), api.ErrFrameSum}, {framed(0, "a"), api.ErrFrameSum}, {four(2) + four(int(sumOf("ab"))) + "ab", api.ErrFrameSum}, {four(0) + four(0), api.ErrFrameSum}, {framed(65535, most), api.ErrFrameSum},
	} {
		for _, ahead := range []string{"", "x", frameOf("a")} {
			b, at := ahead+x.b, len(ahead)
			if is := unframe(b, at); is.err != x.err {
				t.Errorf("Unframe of %d bytes (% x) at %d: %d; should be %d", len(b), show(b), at, is.err, x.err)
			}
			checkUnframe(t, b, at)
		}
		checkScan(t, x.b)
	}
}

func TestEachNumberAhead(t *testing.T) {
	b := strings.Repeat("a", 300)
	for shift := range 32 {
		for _, n := range []int{1<<shift - 1, 1 << shift, 1<<shift + 1} {
			checkUnframe(t, framed(n, b), 0)
			checkUnframe(t, framed(n, b[:min(n, 300)]), 0)
			checkUnframe(t, four(n)+four(0)+b, 0)
		}
	}
}

// TestEachByteTurned checks that a frame isn't read any more when a byte behind the first four is another one.
func TestEachByteTurned(t *testing.T) {
	for _, b := range append([]string{"", "a", "\x00", "\xff", frameOf("a"), "123456789"}, blocks(40)...) {
		s, err := frame.Frame(b)
		if err != api.OK {
			t.Fatal(err)
		}
		for place := range s {
			for other := range 256 {
				turned := []byte(s)
				if turned[place] == byte(other) {
					continue
				}
				turned[place] = byte(other)
				if x := unframe(string(turned), 0); place >= 4 && x != (read{"", 0, api.ErrFrameSum}) {
					t.Fatalf("Unframe of % x: %v", turned, x)
				}
				checkUnframe(t, string(turned)+"behind", 0)
			}
		}
	}
}

// TestLongFramesTurned does so with each byte, but one other one only.
func TestLongFramesTurned(t *testing.T) {
	s := []byte(frameOf(blocks(3000)[4]))
	for place := 4; place < len(s); place++ {
		for _, flip := range []byte{1, 128, 255} {
			s[place] ^= flip
			if x := unframe(string(s), 0); x != (read{"", 0, api.ErrFrameSum}) {
				t.Fatalf("the byte %d: %v", place, x.err)
			}
			s[place] ^= flip
		}
	}
	for _, place := range []int{4, 7, 8, 30000, 65543} {
		s := []byte(frameOf(strings.Repeat("\x00", 65536)))
		s[place] ^= 64
		if x := unframe(string(s), 0); x != (read{"", 0, api.ErrFrameSum}) {
			t.Errorf("the byte %d of the longest: %v", place, x.err)
		}
	}
}

func TestScanExamples(t *testing.T) {
	two := joined([]string{"", ""})
	for _, x := range []struct {
		b    string
		want []string
		at   int
	}{
		{"", nil, 0}, {"a", nil, 0}, {two + "x", []string{"", ""}, 16}, {two, []string{"", ""}, 16}, {two[:15], []string{""}, 8}, {two[:8], []string{""}, 8}, {two[:7], nil, 0},
		{"x" + two, nil, 0}, {frameOf("ab") + "x" + two, []string{"ab"}, 10}, // whole frames behind what is none are not read
		{frameOf("ab") + four(65537) + two, []string{"ab"}, 10},
	} {
		if l, at := frame.Scan(x.b); !slices.Equal(l, x.want) || at != x.at {
			t.Errorf("Scan(% x): %q, %d", x.b, l, at)
		}
	}
}

func TestScanOfJoin(t *testing.T) {
	most := blocks(65536)[5]
	for _, l := range append(lists(), []string{most}, []string{"", most, most, "a"}) {
		b, err := frame.Join(l)
		if err != api.OK || b != joined(l) {
			t.Fatalf("Join of %d: %d bytes, %d", len(l), len(b), err)
		}
		if is, at := frame.Scan(b); !slices.Equal(is, l) || at != len(b) {
			t.Errorf("Scan of Join of %d: %d frames, %d of %d bytes", len(l), len(is), at, len(b))
		}
	}
}

// TestScanOfJoinCut checks that of what is cut anywhere the first frames that are whole are read.
func TestScanOfJoinCut(t *testing.T) {
	for _, l := range lists() {
		b, _ := frame.Join(l)
		whole, end := 0, 0 // of the frames that end at the cut, or ahead of it
		for cut := 0; cut <= len(b); cut++ {
			for whole < len(l) && end+8+len(l[whole]) <= cut {
				end += 8 + len(l[whole])
				whole++
			}
			if is, at := frame.Scan(b[:cut]); !slices.Equal(is, l[:whole]) || at != end {
				t.Fatalf("of %d frames, cut to %d bytes: %d, %d; should be %d, %d", len(l), cut, len(is), at, whole, end)
			}
		}
	}
}

func TestScanOfWhatWasTurned(t *testing.T) {
	b := joined([]string{"abc", "", "de"})
	for place := range b {
		for other := range 256 {
			turned := []byte(b)
			turned[place] = byte(other)
			checkScan(t, string(turned))
		}
	}
}

func TestScanOfMany(t *testing.T) {
	l := slices.Repeat([]string{"", "a", "bc"}, 20000)
	b, err := frame.Join(l)
	if is, at := frame.Scan(b); err != api.OK || !slices.Equal(is, l) || at != len(b) {
		t.Errorf("%d frames of %d, %d of %d bytes, %d", len(is), len(l), at, len(b), err)
	}
}

func TestJoin(t *testing.T) {
	for _, x := range []struct {
		l    []string
		want string
	}{
		{nil, ""}, {[]string{}, ""}, {[]string{""}, frameOf("")}, {[]string{"", ""}, frameOf("") + frameOf("")}, {[]string{"a", "", "bc"}, frameOf("a") + frameOf("") + frameOf("bc")},
	} {
		if is, err := frame.Join(x.l); is != x.want || err != api.OK {
			t.Errorf("Join(%q): % x, %d", x.l, is, err)
		}
	}
}

func TestJoinTooLong(t *testing.T) {
	most := strings.Repeat("a", 65536)
	long := most + "a"
	for _, l := range [][]string{{long}, {long, "a"}, {"a", long}, {"", long, ""}, {most, long}, {long, long}} {
		if is, err := frame.Join(l); is != "" || err != api.ErrFrameLong {
			t.Errorf("Join of %d: %d bytes, %d", len(l), len(is), err)
		}
	}
	if is, err := frame.Join([]string{most, most}); is != frameOf(most)+frameOf(most) || err != api.OK {
		t.Errorf("two of the longest: %d bytes, %d", len(is), err)
	}
}

func TestNothingIsShared(t *testing.T) {
	l := []string{"a", "", "bc"}
	b, _ := frame.Join(l)
	if !slices.Equal(l, []string{"a", "", "bc"}) {
		t.Error("Join changed its list")
	}
	l[0] = "x"
	is, _ := frame.Scan(b)
	is[0], is[2] = "y", "z"
	is = append(is[:1], "w")
	again, at := frame.Scan(b)
	if !slices.Equal(again, []string{"a", "", "bc"}) || at != len(b) || len(is) != 2 {
		t.Errorf("Scan again: %q, %d", again, at)
	}
}
