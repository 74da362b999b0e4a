package wire

import (
	"strings"

	"corncrib/api"
)

// Reader reads bytes.
type Reader struct {
	bytes string
	at    int
	err   api.Errno
}

// Read is a reader at the beginning.
func Read(b string) *Reader { return &Reader{bytes: b} }

// Number takes a number.
func (r *Reader) Number() uint64 { return take(r, readNumber) }

// Int takes an integer.
func (r *Reader) Int() int64 { return take(r, readInteger) }

// Below takes a number below another one.
func (r *Reader) Below(n int) int {
	// Of an n below 0, n - 1 might go round.
	most := max(n, 0) - 1
	return take(r, func(b string) (int, int, api.Errno) { return readUpTo(b, most) })
}

// Text takes a text of so many bytes at most.
func (r *Reader) Text(most int) string {
	return take(r, func(b string) (string, int, api.Errno) { return readText(b, most) })
}

// Ints takes a list of so many at most.
func (r *Reader) Ints(most int) []int {
	return take(r, func(b string) ([]int, int, api.Errno) { return readIntegers(b, most) })
}

// At is how many bytes were taken.
func (r *Reader) At() int {
	if r == nil {
		return 0
	}
	return r.at
}

// Err is what went wrong first.
func (r *Reader) Err() api.Errno {
	if r == nil {
		return api.OK
	}
	return r.err
}

// End is what went wrong, bytes that are left, too.
func (r *Reader) End() api.Errno {
	if r == nil {
		return api.OK
	}
	if r.err == api.OK && r.at < len(r.bytes) {
		return api.ErrWireRest
	}
	return r.err
}

// take goes behind what is read of the bytes that are left, of whatever kind that is. What is read is read as a whole ahead of that, so that an error leaves the place as it was.
func take[T any](r *Reader, read func(b string) (T, int, api.Errno)) T {
	var none T
	if r == nil || r.err != api.OK {
		return none
	}
	x, size, err := read(r.bytes[r.at:])
	if err != api.OK {
		r.err = err
		return none
	}
	r.at += size
	return x
}

// The following read what stands at the beginning of b: it, and how many bytes it takes.

func readNumber(b string) (uint64, int, api.Errno) {
	n := uint64(0)
	for i := range min(len(b), longest) {
		n |= uint64(b[i]&(more-1)) << (group * i)
		if b[i] >= more {
			continue
		}
		if i > 0 && b[i] == 0 || i == longest-1 && b[i] != 1 {
			return 0, 0, api.ErrWireLong
		}
		return n, i + 1, api.OK
	}
	if len(b) < longest {
		return 0, 0, api.ErrWireShort
	}
	return 0, 0, api.ErrWireLong
}

func readInteger(b string) (int64, int, api.Errno) {
	n, size, err := readNumber(b)
	return unfold(n), size, err
}

func readUpTo(b string, most int) (int, int, api.Errno) {
	n, size, err := readNumber(b)
	if err != api.OK {
		return 0, 0, err
	}
	if most < 0 || n > uint64(most) {
		return 0, 0, api.ErrWireMuch
	}
	return int(n), size, api.OK
}

func readText(b string, most int) (string, int, api.Errno) {
	n, size, err := readUpTo(b, most)
	if err != api.OK {
		return "", 0, err
	}
	if n > len(b)-size {
		return "", 0, api.ErrWireShort
	}
	// A copy, so that a short text does not keep all the bytes around it.
	return strings.Clone(b[size : size+n]), size + n, api.OK
}

// readIntegers makes no room ahead, since how many there are may be told wrongly.
func readIntegers(b string, most int) ([]int, int, api.Errno) {
	n, at, err := readUpTo(b, most)
	if err != api.OK {
		return nil, 0, err
	}
	var l []int
	for range n {
		x, size, err := readInteger(b[at:])
		if err != api.OK {
			return nil, 0, err
		}
		l = append(l, int(x))
		at += size
	}
	return l, at, api.OK
}
