package wire_test

import (
	"math"
	"math/big"
	"strings"
	"testing"

	"corncrib/wire"
)

// edgeNumbers are those around which the number of bytes changes, for numbers and for integers, and some between.
func edgeNumbers() []uint64 {
	l := []uint64{0, 1, 2, 300, 1 << 20, 123456789, math.MaxInt64, math.MaxUint64}
	for shift := range 64 {
		n := uint64(1) << shift
		l = append(l, n-1, n, n+1)
	}
	return l
}

func edgeIntegers() []int64 {
	l := []int64{math.MinInt64, math.MaxInt64}
	for _, n := range edgeNumbers() {
		l = append(l, int64(n), -int64(n))
	}
	return l
}

// written is a number's bytes, by the words of the document: by dividing, so that nothing goes round.
func written(n *big.Int) string {
	var out []byte
	n = new(big.Int).Set(n)
	for {
		rest := new(big.Int)
		n.DivMod(n, big.NewInt(128), rest)
		if n.Sign() == 0 {
			return string(append(out, byte(rest.Int64())))
		}
		out = append(out, byte(rest.Int64())+128)
	}
}

func writtenNumber(n uint64) string { return written(new(big.Int).SetUint64(n)) }

func writtenInteger(n int64) string {
	x := new(big.Int).Mul(big.NewInt(n), big.NewInt(2))
	if n < 0 {
		x.Neg(x).Sub(x, big.NewInt(1))
	}
	return written(x)
}

func same(t *testing.T, what, is, want string) {
	t.Helper()
	if is != want {
		t.Errorf("%s: % x; should be % x", what, is, want)
	}
}

func TestSize(t *testing.T) {
	for n := 1; n < 10; n++ {
		least, end := uint64(1)<<(7*(n-1)), uint64(1)<<(7*n)
		if n == 1 {
			least = 0
		}
		if wire.Size(least) != n || wire.Size(end-1) != n || wire.Size(end) != n+1 {
			t.Errorf("of numbers of %d bytes: %d, %d; of the next one: %d", n, wire.Size(least), wire.Size(end-1), wire.Size(end))
		}
	}
	if wire.Size(math.MaxUint64) != 10 {
		t.Errorf("of the greatest: %d", wire.Size(math.MaxUint64))
	}
	for _, n := range edgeNumbers() {
		if wire.Size(n) != len(writtenNumber(n)) {
			t.Errorf("of %d: %d", n, wire.Size(n))
		}
	}
}

func TestPutExamples(t *testing.T) {
	same(t, "300, 0", wire.Put("", 300, 0), "\xac\x02\x00")
	same(t, "the greatest", wire.Put("", math.MaxUint64), "\xff\xff\xff\xff\xff\xff\xff\xff\xff\x01")
	same(t, "127, 128, 16383, 16384", wire.Put("", 127, 128, 16383, 16384), "\x7f\x80\x01\xff\x7f\x80\x80\x01")
	same(t, "integers", wire.PutInt("", -1, 1), "\x01\x02")
	same(t, "integers around a byte's", wire.PutInt("", 63, -64, 64, -65), "\x7e\x7f\x80\x01\x81\x01")
	same(t, "the least integer", wire.PutInt("", math.MinInt64), "\xff\xff\xff\xff\xff\xff\xff\xff\xff\x01")
	same(t, "the greatest integer", wire.PutInt("", math.MaxInt64), "\xfe\xff\xff\xff\xff\xff\xff\xff\xff\x01")
	same(t, "a text", wire.PutText("", "ab"), "\x02ab")
	same(t, "texts", wire.PutText("", "", "é", "\xff\x00"), "\x00\x02\xc3\xa9\x02\xff\x00")
	same(t, "a list", wire.PutInts("", []int{3, -2}), "\x02\x06\x03")
	same(t, "a list without integers", wire.PutInts("", nil), "\x00")
}

func TestPutEachEdge(t *testing.T) {
	for _, n := range edgeNumbers() {
		same(t, "a number", wire.Put("", n), writtenNumber(n))
	}
	for _, n := range edgeIntegers() {
		same(t, "an integer", wire.PutInt("", n), writtenInteger(n))
		same(t, "an integer of a list", wire.PutInts("", []int{int(n)}), "\x01"+writtenInteger(n))
	}
	for _, n := range []int{0, 1, 127, 128, 16383, 16384, 70000} {
		s := strings.Repeat("x", n)
		same(t, "a text", wire.PutText("", s), writtenNumber(uint64(n))+s)
		want := writtenNumber(uint64(n)) + strings.Repeat("\x01", n)
		l := make([]int, n)
		for i := range l {
			l[i] = -1
		}
		same(t, "a list", wire.PutInts("", l), want)
	}
}

func TestPutGoesBehind(t *testing.T) {
	for _, b := range []string{"", "a", "\x80", "\xff\x00", strings.Repeat("\xac", 999)} {
		same(t, "no numbers", wire.Put(b), b)
		same(t, "no integers", wire.PutInt(b), b)
		same(t, "no texts", wire.PutText(b), b)
		same(t, "an empty list", wire.PutInts(b, []int{}), b+"\x00")
		same(t, "numbers", wire.Put(b, 1, 300, 2), b+"\x01\xac\x02\x02")
		same(t, "integers", wire.PutInt(b, 1, -300, 2), b+"\x02\xd7\x04\x04")
		same(t, "texts", wire.PutText(b, "a", "", "bc"), b+"\x01a\x00\x02bc")
		same(t, "a list", wire.PutInts(b, []int{1, -300, 2}), b+"\x03\x02\xd7\x04\x04")
	}
}

func TestPutTakesOneByOne(t *testing.T) {
	var numbers, integers string
	for _, n := range edgeNumbers() {
		numbers = wire.Put(numbers, n)
		integers = wire.PutInt(integers, int64(n))
	}
	var l []int64
	for _, n := range edgeNumbers() {
		l = append(l, int64(n))
	}
	same(t, "numbers at once", wire.Put("", edgeNumbers()...), numbers)
	same(t, "integers at once", wire.PutInt("", l...), integers)
}

func TestPutChangesNothing(t *testing.T) {
	numbers, integers, texts, list := []uint64{300, 0}, []int64{-1, 1}, []string{"ab", ""}, []int{3, -2}
	b := wire.PutInts(wire.PutText(wire.PutInt(wire.Put("", numbers...), integers...), texts...), list)
	if numbers[0] != 300 || numbers[1] != 0 || integers[0] != -1 || integers[1] != 1 || texts[0] != "ab" || texts[1] != "" || list[0] != 3 || list[1] != -2 {
		t.Error("what was handed in is not what it was")
	}
	numbers[0], integers[0], texts[0], list[0] = 7, 7, "7", 7
	same(t, "what was put", b, "\xac\x02\x00\x01\x02\x02ab\x00\x02\x06\x03")
}
