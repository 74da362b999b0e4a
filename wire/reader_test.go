package wire_test

import (
	"fmt"
	"math"
	"math/big"
	"slices"
	"strings"
	"testing"

	"corncrib/api"
	"corncrib/wire"
)

// told is what a call of a Reader told, and how the Reader stood then.
type told struct {
	value string
	at    int
	err   api.Errno
}

// call is one of those that take something: by the Reader, and by the words of the document (read), of the bytes that are left.
type call struct {
	name string
	do   func(r *wire.Reader) string
	read func(b string) told
	none string // what it tells with an error
}

func ask(r *wire.Reader, c call) told { return told{c.do(r), r.At(), r.Err()} }

func text[T any](x T) string {
	switch l := any(x).(type) {
	case []int:
		return fmt.Sprint(slices.Clip(append([]int{}, l...))) // nil or empty is the same
	case string:
		return fmt.Sprintf("%q", l)
	}
	return fmt.Sprint(x)
}

// numberOf reads a number by the words of the document.
func numberOf(b string) (*big.Int, int, api.Errno) {
	next, end := b[:min(len(b), 10)], -1
	for i := range len(next) {
		if next[i] < 128 {
			end = i
			break
		}
	}
	if end < 0 && len(b) < 10 {
		return nil, 0, api.ErrWireShort
	}
	if end < 0 || end > 0 && next[end] == 0 || end == 9 && next[end] != 1 {
		return nil, 0, api.ErrWireLong
	}
	n := new(big.Int)
	for i := end; i >= 0; i-- {
		n.Mul(n, big.NewInt(128)).Add(n, big.NewInt(int64(next[i]%128)))
	}
	return n, end + 1, api.OK
}

func integerOf(b string) (*big.Int, int, api.Errno) {
	n, size, err := numberOf(b)
	if err != api.OK {
		return nil, 0, err
	}
	odd := n.Bit(0) == 1
	if odd {
		n.Add(n, big.NewInt(1)).Neg(n)
	}
	return n.Div(n, big.NewInt(2)), size, api.OK
}

func callNumber() call {
	return call{"Number", func(r *wire.Reader) string { return text(r.Number()) }, func(b string) told {
		n, size, err := numberOf(b)
		if err != api.OK {
			return told{"0", 0, err}
		}
		return told{n.String(), size, api.OK}
	}, "0"}
}

func callInt() call {
	return call{"Int", func(r *wire.Reader) string { return text(r.Int()) }, func(b string) told {
		n, size, err := integerOf(b)
		if err != api.OK {
			return told{"0", 0, err}
		}
		return told{n.String(), size, api.OK}
	}, "0"}
}

func callBelow(n int) call {
	return call{fmt.Sprintf("Below(%d)", n), func(r *wire.Reader) string { return text(r.Below(n)) }, func(b string) told {
		x, size, err := numberOf(b)
		if err == api.OK && x.Cmp(big.NewInt(int64(n))) >= 0 {
			err = api.ErrWireMuch
		}
		if err != api.OK {
			return told{"0", 0, err}
		}
		return told{x.String(), size, api.OK}
	}, "0"}
}

func callText(most int) call {
	return call{fmt.Sprintf("Text(%d)", most), func(r *wire.Reader) string { return text(r.Text(most)) }, func(b string) told {
		n, size, err := numberOf(b)
		switch {
		case err != api.OK:
		case n.Cmp(big.NewInt(int64(most))) > 0:
			err = api.ErrWireMuch
		case n.Cmp(big.NewInt(int64(len(b)-size))) > 0:
			err = api.ErrWireShort
		default:
			end := size + int(n.Int64())
			return told{text(b[size:end]), end, api.OK}
		}
		return told{`""`, 0, err}
	}, `""`}
}

func callInts(most int) call {
	return call{fmt.Sprintf("Ints(%d)", most), func(r *wire.Reader) string { return text(r.Ints(most)) }, func(b string) told {
		n, at, err := numberOf(b)
		if err == api.OK && n.Cmp(big.NewInt(int64(most))) > 0 {
			err = api.ErrWireMuch
		}
		var l []string
		for i := int64(0); err == api.OK && n.Cmp(big.NewInt(i)) > 0; i++ {
			x, size, fault := integerOf(b[at:])
			if err = fault; err == api.OK {
				l, at = append(l, x.String()), at+size
			}
		}
		if err != api.OK {
			return told{"[]", 0, err}
		}
		return told{"[" + strings.Join(l, " ") + "]", at, api.OK}
	}, "[]"}
}

// calls are all that take something, with limits that are great, small, and none.
func calls() []call {
	l := []call{callNumber(), callInt()}
	for _, n := range []int{math.MinInt, -1, 0, 1, 2, 3, 129, math.MaxInt} {
		l = append(l, callBelow(n), callText(n), callInts(n))
	}
	return l
}

// check asks a call of some bytes, and what comes behind it.
func check(t *testing.T, c call, b string) {
	t.Helper()
	r := wire.Read(b)
	if r.At() != 0 || r.Err() != api.OK {
		t.Fatalf("% x: At %d, Err %d at first", b, r.At(), r.Err())
	}
	is, want := ask(r, c), c.read(b)
	if is != want {
		t.Fatalf("%s of % x: %v; should be %v", c.name, b, is, want)
	}
	end := want.err
	if end == api.OK && want.at < len(b) {
		end = api.ErrWireRest
	}
	if r.End() != end || r.Err() != want.err || r.At() != want.at {
		t.Fatalf("%s of % x: End %d, then Err %d, At %d", c.name, b, r.End(), r.Err(), r.At())
	}
}

// texts goes through all texts of at most so many of the bytes.
func texts(bytes string, most int, do func(string)) {
	var from func(string)
	from = func(s string) {
		do(s)
		for i := 0; i < len(bytes) && len(s) < most; i++ {
			from(s + bytes[i:i+1])
		}
	}
	from("")
}

func TestAllShortBytes(t *testing.T) {
	for _, c := range calls() {
		texts("\x00\x01\x02\x03\x7f\x80\x81\xff", 4, func(b string) { check(t, c, b) })
	}
}

func TestBytesAroundTheTenth(t *testing.T) {
	for _, c := range calls() {
		for _, first := range []string{"", "\x01", "\x02\x01"} { // a text's, or a list's, number ahead
			for n := 6; n <= 11; n++ {
				for _, group := range []string{"\x80", "\xff", "\xac"} {
					texts("\x00\x01\x02\x7f\x80\x81\xff", 3, func(b string) { check(t, c, first+strings.Repeat(group, n)+b) })
				}
			}
		}
	}
}

func TestNumberExamples(t *testing.T) {
	nine := strings.Repeat("\xff", 9)
	for _, x := range []struct {
		b    string
		n    uint64
		size int
		err  api.Errno
	}{
		{"\xac\x02", 300, 2, api.OK}, {"\x00", 0, 1, api.OK}, {"\x7f\x80", 127, 1, api.OK}, {"\x80\x01", 128, 2, api.OK},
		{"", 0, 0, api.ErrWireShort}, {"\xac", 0, 0, api.ErrWireShort}, {"\x80", 0, 0, api.ErrWireShort}, {nine, 0, 0, api.ErrWireShort},
		{"\x80\x00", 0, 0, api.ErrWireLong}, {"\xff\x00", 0, 0, api.ErrWireLong}, {"\xac\x82\x00\x01", 0, 0, api.ErrWireLong},
		{nine + "\x01", math.MaxUint64, 10, api.OK}, {strings.Repeat("\x80", 9) + "\x01", 1 << 63, 10, api.OK}, {nine[1:] + "\x7f", 1<<63 - 1, 9, api.OK},
		{nine + "\x00", 0, 0, api.ErrWireLong}, {nine + "\x02", 0, 0, api.ErrWireLong}, {nine + "\x7f", 0, 0, api.ErrWireLong},
		{nine + "\xff", 0, 0, api.ErrWireLong}, {nine + "\x81\x01", 0, 0, api.ErrWireLong}, {nine + nine, 0, 0, api.ErrWireLong},
	} {
		r := wire.Read(x.b)
		if n := r.Number(); n != x.n || r.At() != x.size || r.Err() != x.err {
			t.Errorf("Number of % x: %d, At %d, Err %d", x.b, n, r.At(), r.Err())
		}
	}
}

func TestMuchAndShort(t *testing.T) {
	for _, x := range []struct {
		b   string
		c   call
		err api.Errno
	}{
		{"\x03", callBelow(3), api.ErrWireMuch}, {"\x02", callBelow(3), api.OK}, {"\x00", callBelow(0), api.ErrWireMuch}, {"\x00", callBelow(-1), api.ErrWireMuch}, {"\x00", callBelow(1), api.OK},
		{"\x00", callBelow(math.MinInt), api.ErrWireMuch}, {"", callBelow(math.MinInt), api.ErrWireShort}, {"\x80\x00", callBelow(-1), api.ErrWireLong},
		{wire.Put("", math.MaxInt64), callBelow(math.MaxInt), api.ErrWireMuch}, {wire.Put("", math.MaxInt64-1), callBelow(math.MaxInt), api.OK},
		{wire.Put("", 1<<63), callBelow(math.MaxInt), api.ErrWireMuch}, {wire.Put("", math.MaxUint64), callBelow(math.MaxInt), api.ErrWireMuch},
		{"\x02ab", callText(1), api.ErrWireMuch}, {"\x02ab", callText(2), api.OK}, {"\x00", callText(0), api.OK}, {"\x00", callText(-1), api.ErrWireMuch}, {"", callText(-1), api.ErrWireShort},
		{"\x05a", callText(5), api.ErrWireShort}, {"\x05a", callText(4), api.ErrWireMuch}, {"\x01", callText(1), api.ErrWireShort}, {"\x80\x00", callText(0), api.ErrWireLong},
		{wire.Put("", math.MaxInt64) + "a", callText(math.MaxInt), api.ErrWireShort}, {wire.Put("", 1<<63), callText(math.MaxInt), api.ErrWireMuch},
		{wire.Put("", math.MaxUint64) + "a", callText(math.MaxInt), api.ErrWireMuch}, {wire.Put("", math.MaxUint64), callText(-1), api.ErrWireMuch},
		{"\x02\x06\x03", callInts(1), api.ErrWireMuch}, {"\x02\x06\x03", callInts(2), api.OK}, {"\x00", callInts(0), api.OK}, {"\x00", callInts(-1), api.ErrWireMuch}, {"", callInts(-1), api.ErrWireShort},
		{"\x02\x06", callInts(2), api.ErrWireShort}, {"\x02\x06", callInts(1), api.ErrWireMuch}, {"\x02\x80\x00", callInts(2), api.ErrWireLong}, {"\x02\x06\x80\x00", callInts(2), api.ErrWireLong}, {"\x80\x00", callInts(0), api.ErrWireLong},
		{wire.Put("", math.MaxInt64) + "\x06\x03", callInts(math.MaxInt), api.ErrWireShort}, {wire.Put("", math.MaxInt64) + "\x06\x80\x00", callInts(math.MaxInt), api.ErrWireLong},
		{wire.Put("", 1<<63) + "\x06", callInts(math.MaxInt), api.ErrWireMuch}, {wire.Put("", math.MaxUint64) + "\x06", callInts(math.MaxInt), api.ErrWireMuch},
	} {
		r := wire.Read(x.b)
		if is := ask(r, x.c); is.err != x.err || x.err != api.OK && (is.at != 0 || is.value != x.c.none) {
			t.Errorf("%s of % x: %v; should be %d", x.c.name, x.b, is, x.err)
		}
	}
}

func TestAnErrorStays(t *testing.T) {
	faults := []struct {
		c   call
		b   string
		err api.Errno
	}{
		{callNumber(), "\x80", api.ErrWireShort}, {callNumber(), "\x80\x00\x01\x01", api.ErrWireLong}, {callInt(), "\x80\x00\x01\x01", api.ErrWireLong},
		{callBelow(1), "\x01\x01", api.ErrWireMuch}, {callText(0), "\x01a", api.ErrWireMuch}, {callText(9), "\x03ab", api.ErrWireShort},
		{callInts(0), "\x01\x01", api.ErrWireMuch}, {callInts(9), "\x02\x01\x80\x00\x01", api.ErrWireLong}, {callInts(9), "\x02\x01", api.ErrWireShort},
	}
	for _, f := range faults {
		for _, ahead := range []string{"", "\x05"} {
			r := wire.Read(ahead + f.b)
			if ahead != "" && r.Number() != 5 {
				t.Fatal("the number ahead")
			}
			ask(r, f.c)
			for _, c := range calls() {
				if is := ask(r, c); is != (told{c.none, len(ahead), f.err}) || r.End() != f.err {
					t.Errorf("%s behind %s of % x: %v, End %d", c.name, f.c.name, f.b, is, r.End())
				}
			}
		}
	}
}

func TestEndIsNotKept(t *testing.T) {
	r := wire.Read("\x01\x02")
	if r.End() != api.ErrWireRest || r.Err() != api.OK || r.At() != 0 {
		t.Error("at the beginning")
	}
	if r.Number() != 1 || r.End() != api.ErrWireRest || r.Err() != api.OK || r.At() != 1 {
		t.Error("behind the first number")
	}
	if r.Number() != 2 || r.End() != api.OK || r.Err() != api.OK || r.At() != 2 {
		t.Error("at the end")
	}
	if r.Number() != 0 || r.End() != api.ErrWireShort || r.Err() != api.ErrWireShort || r.At() != 2 {
		t.Error("behind the end")
	}
	if wire.Read("").End() != api.OK {
		t.Error("of no bytes")
	}
}

func TestWhatIsPutIsRead(t *testing.T) {
	for _, behind := range []string{"", "\x00", "\x01", "\x80", "\xff\xff", strings.Repeat("\xff", 12)} {
		for _, n := range edgeNumbers() {
			r := wire.Read(wire.Put("", n) + behind)
			if x := r.Number(); x != n || r.Err() != api.OK || r.At() != wire.Size(n) {
				t.Errorf("number %d ahead of % x: %d", n, behind, x)
			}
		}
		for _, n := range edgeIntegers() {
			r := wire.Read(wire.PutInt("", n) + behind)
			if x := r.Int(); x != n || r.Err() != api.OK || r.At() != len(wire.PutInt("", n)) {
				t.Errorf("integer %d ahead of % x: %d", n, behind, x)
			}
		}
		for _, n := range []int{0, 1, 2, 127, 128, 16384} {
			s := strings.Repeat("\x80\x00a", n)[:n]
			r := wire.Read(wire.PutText("", s) + behind)
			if x := r.Text(n); x != s || r.Err() != api.OK || r.At() != wire.Size(uint64(n))+n {
				t.Errorf("text of %d bytes ahead of % x: %d bytes", n, behind, len(x))
			}
		}
	}
}

func TestListsAreRead(t *testing.T) {
	all := []int{math.MinInt, math.MaxInt, 0, -1, 1}
	for _, n := range edgeIntegers() {
		all = append(all, int(n))
	}
	for n := range all {
		b := wire.PutInts("", all[:n])
		r := wire.Read(b + "\x80\x00")
		if l := r.Ints(n); !slices.Equal(l, all[:n]) || r.Err() != api.OK || r.At() != len(b) {
			t.Errorf("list of %d: %v", n, l)
		}
	}
}

func TestOneBehindTheOther(t *testing.T) {
	b := wire.PutText(wire.PutInts(wire.PutText(wire.PutInt(wire.Put("", 300, 7), -5), "ab", ""), []int{3, -2}), "z")
	r := wire.Read(b)
	if r.Number() != 300 || r.Below(8) != 7 || r.Int() != -5 || r.Text(2) != "ab" || r.Text(0) != "" || !slices.Equal(r.Ints(2), []int{3, -2}) || r.At() != len(b)-2 || r.Text(9) != "z" || r.End() != api.OK || r.At() != len(b) {
		t.Errorf("At %d, Err %d", r.At(), r.Err())
	}
}

// TestWhatIsReadIsTheOnlyForm puts again what was read of all short bytes.
func TestWhatIsReadIsTheOnlyForm(t *testing.T) {
	texts("\x00\x01\x02\x03\x7f\x80\x81\xff", 5, func(b string) {
		for what, again := range map[string]func(r *wire.Reader) string{
			"number":  func(r *wire.Reader) string { return wire.Put("", r.Number()) },
			"integer": func(r *wire.Reader) string { return wire.PutInt("", r.Int()) },
			"below":   func(r *wire.Reader) string { return wire.Put("", uint64(r.Below(300))) },
			"text":    func(r *wire.Reader) string { return wire.PutText("", r.Text(9)) },
			"list":    func(r *wire.Reader) string { return wire.PutInts("", r.Ints(9)) },
		} {
			r := wire.Read(b)
			if s := again(r); r.Err() == api.OK && s != b[:r.At()] {
				t.Fatalf("%s of % x, put again: % x", what, b, s)
			}
		}
	})
}

func TestAnswersShareNothing(t *testing.T) {
	b := wire.PutInts(wire.PutInts("", []int{1, 2}), []int{3, 4})
	r, other := wire.Read(b), wire.Read(b)
	first := r.Ints(9)
	first[0], first[1] = 9, 9
	second := append(r.Ints(9), 5)
	if !slices.Equal(other.Ints(9), []int{1, 2}) || !slices.Equal(other.Ints(9), []int{3, 4}) || !slices.Equal(second, []int{3, 4, 5}) {
		t.Error("lists share")
	}
	failed, fine := wire.Read(b), wire.Read(b)
	failed.Below(0)
	if fine.Err() != api.OK || fine.At() != 0 || fine.Number() != 2 || failed.At() != 0 {
		t.Error("Readers of the same bytes share")
	}
}

func TestReadersThatNobodyMade(t *testing.T) {
	var zero wire.Reader
	if zero.At() != 0 || zero.Err() != api.OK || zero.End() != api.OK || zero.Number() != 0 || zero.Err() != api.ErrWireShort {
		t.Error("the zero value is not a Reader of no bytes")
	}
	var none *wire.Reader
	for _, c := range calls() {
		if s := c.do(none); s != c.none {
			t.Errorf("%s of no Reader: %s", c.name, s)
		}
	}
	if none.At() != 0 || none.Err() != api.OK || none.End() != api.OK {
		t.Error("At, Err, End of no Reader")
	}
}
