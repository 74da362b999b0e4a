package frame_test

import (
	"hash/crc32"
	"slices"
	"strings"
	"testing"

	"corncrib/frame"
)

// sumOf is the Sum by the words of the document: bit by bit, in numbers too great to lose anything.
func sumOf(b string) uint32 {
	c := uint64(4294967295)
	for i := range len(b) {
		c ^= uint64(b[i])
		for range 8 {
			odd := c%2 == 1
			c /= 2
			if odd {
				c ^= 2197175160
			}
		}
	}
	return uint32(c ^ 4294967295)
}

// blocks are texts of some kinds, of so many bytes.
func blocks(n int) []string {
	up := make([]byte, n)
	for i := range up {
		up[i] = byte(i + i/256)
	}
	down := slices.Clone(up)
	slices.Reverse(down)
	return []string{strings.Repeat("\x00", n), strings.Repeat("\xff", n), strings.Repeat("\x80", n), strings.Repeat("é€", n)[:n], string(up), string(down)}
}

func checkSum(t *testing.T, b string) {
	t.Helper()
	if is, want := frame.Sum(b), sumOf(b); is != want {
		t.Fatalf("Sum of %d bytes (% x ..): %d; should be %d", len(b), b[:min(len(b), 16)], is, want)
	}
}

func TestSumExamples(t *testing.T) {
	for b, want := range map[string]uint32{
		"":                              0,
		"123456789":                     3808858755,
		"\x00\x00\x00\x00":              0x48674bc7,
		strings.Repeat("\x00", 32):      0x8a9136aa,
		strings.Repeat("\xff", 32):      0x62a8ab43,
		blocks(32)[4]:                   0x46dd794e,
		blocks(32)[5]:                   0x113fdb5c,
		"a":                             0xc1d04330,
		"\x80":                          sumOf("\x80"),
		strings.Repeat("\x00", 1<<20+1): sumOf(strings.Repeat("\x00", 1<<20+1)),
	} {
		if is := frame.Sum(b); is != want {
			t.Errorf("of %d bytes: %d; should be %d", len(b), is, want)
		}
	}
}

func TestSumOfEachByteAndPair(t *testing.T) {
	for i := range 256 {
		checkSum(t, string([]byte{byte(i)}))
		for k := range 256 {
			checkSum(t, string([]byte{byte(i), byte(k)}))
		}
	}
}

func TestSumOfEachLength(t *testing.T) {
	for n := range 300 {
		for _, b := range blocks(n) {
			checkSum(t, b)
		}
	}
	for _, n := range []int{65535, 65536, 65537, 200000} {
		for _, b := range blocks(n) {
			checkSum(t, b)
			if is, want := frame.Sum(b), crc32.Checksum([]byte(b), crc32.MakeTable(crc32.Castagnoli)); is != want {
				t.Errorf("CRC-32C of %d bytes: %d; should be %d", n, is, want)
			}
		}
	}
}

func TestSumKnowsNothingOfOthers(t *testing.T) {
	for range 3 {
		if frame.Sum("123456789") != 3808858755 || frame.Sum("") != 0 {
			t.Error("another Sum the next time")
		}
	}
}
