package wal_test

import (
	"fmt"
	"hash/crc32"
	"math/rand"
	"slices"
	"strings"
	"testing"

	"corncrib/api"
	"corncrib/disk"
	"corncrib/wal"
)

// frameOf is a frame by the words of the document.
func frameOf(b string) string {
	size := []byte{byte(len(b)), byte(len(b) >> 8), byte(len(b) >> 16), byte(len(b) >> 24)}
	sum := crc32.Checksum(append(slices.Clone(size), b...), crc32.MakeTable(crc32.Castagnoli))
	return string(size) + string([]byte{byte(sum), byte(sum >> 8), byte(sum >> 16), byte(sum >> 24)}) + b
}

func framesOf(l ...string) string {
	b := ""
	for _, record := range l {
		b += frameOf(record)
	}
	return b
}

// scanOf reads frame behind frame: one is whole if it is what frameOf makes of what it holds.
func scanOf(b string) ([]string, int) {
	var l []string
	at := 0
	for len(b)-at >= 8 {
		n := int(b[at]) | int(b[at+1])<<8 | int(b[at+2])<<16 | int(b[at+3])<<24
		if n > 65536 || n > len(b)-at-8 || frameOf(b[at+8:at+8+n]) != b[at:at+8+n] {
			break
		}
		l = append(l, b[at+8:at+8+n])
		at += 8 + n
	}
	return l, at
}

// plain is a journal by the words of the document. Each change of its disk is a call of the disk's own.
type plain struct {
	d       *disk.Disk
	name    string
	records []string
}

func openPlain(d *disk.Disk, name string) (*plain, api.Errno) {
	b, err := d.Read(name)
	if err == api.ErrDiskDown {
		return nil, err
	}
	l, end := scanOf(b)
	if end != len(b) && d.Cut(name, end) != api.OK {
		return nil, api.ErrDiskDown
	}
	return &plain{d, name, l}, api.OK
}

func (p *plain) known() []string {
	if p == nil {
		return nil
	}
	return p.records
}

func isLong(record string) bool { return len(record) > 65536 }

func (p *plain) append(l ...string) api.Errno {
	switch {
	case len(l) == 0:
		return api.OK
	case slices.ContainsFunc(l, isLong):
		return api.ErrFrameLong
	case p == nil:
		return api.ErrDiskDown
	}
	if err := p.d.Append(p.name, framesOf(l...)); err != api.OK {
		return err
	}
	if err := p.d.Sync(p.name); err != api.OK {
		return err
	}
	p.records = slices.Concat(p.records, l)
	return api.OK
}

func (p *plain) rewrite(l ...string) api.Errno {
	switch {
	case slices.ContainsFunc(l, isLong):
		return api.ErrFrameLong
	case p == nil:
		return api.ErrDiskDown
	}
	if err := p.d.Replace(p.name, framesOf(l...)); err != api.OK {
		return err
	}
	p.records = slices.Clone(l)
	return api.OK
}

// call is one of a journal, or of the disk beside it.
type call struct {
	what string
	who  int // which of the two journals
	l    []string
	n    int
}

func (c call) String() string {
	l := ""
	for _, record := range c.l {
		l += fmt.Sprintf(" %.20q", record)
	}
	return fmt.Sprintf("%s %d%s %d", c.what, c.who, l, c.n)
}

// names are the files of the two journals of a script.
type names [2]string

// both are two journals on one disk, and what they should be.
type both struct {
	t      *testing.T
	names  names
	d, e   *disk.Disk // the journals' disk, the model's
	w      [2]*wal.Wal
	p      [2]*plain
	script []call
}

func newBoth(t *testing.T, room int, n names) *both {
	return &both{t: t, names: n, d: disk.New(room), e: disk.New(room)}
}

// beside does on a disk what is not a journal's call.
func beside(d *disk.Disk, name string, c call) api.Errno {
	switch c.what {
	case "break":
		d.Break(c.n)
	case "crash":
		d.Crash([]int{c.n, c.n})
	case "wipe":
		d.Wipe()
	case "remove":
		return d.Remove(name)
	case "bytes":
		return d.Append(name, c.l[0])
	case "turn":
		b, err := d.Read(name)
		if err != api.OK || c.n >= len(b) {
			return err
		}
		return d.Replace(name, b[:c.n]+string(b[c.n]^1)+b[c.n+1:])
	}
	return api.OK
}

// one does the call on one side each, and tells what both answer.
func (x *both) one(c call) (is, want api.Errno) {
	i := c.who
	switch c.what {
	case "open":
		x.w[i], is = wal.Open(x.d, x.names[i])
		x.p[i], want = openPlain(x.e, x.names[i])
		if (x.w[i] == nil) != (x.p[i] == nil) {
			x.t.Fatalf("%v: a journal: %t", x.script, x.w[i] != nil)
		}
		return is, want
	case "append":
		return x.w[i].Append(c.l...), x.p[i].append(c.l...)
	case "rewrite":
		return x.w[i].Rewrite(c.l...), x.p[i].rewrite(c.l...)
	}
	return beside(x.d, x.names[i], c), beside(x.e, x.names[i], c)
}

// do does a call on both sides, and holds them against each other.
func (x *both) do(c call) {
	x.script = append(x.script, c)
	if is, want := x.one(c); is != want {
		x.t.Fatalf("%v: the last one %d; should be %d", x.script, is, want)
	}
	for i := range 2 {
		if is, want := x.w[i].Records(), x.p[i].known(); !slices.Equal(is, want) {
			x.t.Fatalf("%v: records of %d: %q; should be %q", x.script, i, is, want)
		}
	}
	if is, want := x.d.Kept(), x.e.Kept(); !slices.Equal(is, want) || x.d.Down() != x.e.Down() {
		x.t.Fatalf("%v: the disk: %+v, %t; should be %+v, %t", x.script, is, x.d.Down(), want, x.e.Down())
	}
}

func (x *both) all(l ...call) {
	for _, c := range l {
		x.do(c)
	}
}

// calls are what scripts are made of, on disks with room for 40 bytes.
func calls() []call {
	long := strings.Repeat("l", 65537)
	return []call{
		{what: "open"}, {what: "open", who: 1},
		{what: "append"}, {what: "append", l: []string{"x"}}, {what: "append", l: []string{"", "yz"}}, {what: "append", l: []string{"w"}, who: 1},
		{what: "append", l: []string{"a", long}}, {what: "append", l: []string{strings.Repeat("f", 20)}}, {what: "append", l: []string{strings.Repeat("g", 33)}},
		{what: "rewrite"}, {what: "rewrite", l: []string{"r"}}, {what: "rewrite", l: []string{"", "s"}, who: 1}, {what: "rewrite", l: []string{long, "b"}}, {what: "rewrite", l: []string{strings.Repeat("h", 16), strings.Repeat("i", 8)}}, {what: "rewrite", l: []string{strings.Repeat("j", 33)}},
		{what: "break"}, {what: "break", n: 1}, {what: "break", n: 2},
		{what: "crash"}, {what: "crash", n: 3}, {what: "crash", n: 9}, {what: "crash", n: 100},
		{what: "wipe"}, {what: "remove"}, {what: "bytes", l: []string{"\x00"}}, {what: "bytes", l: []string{frameOf("o")}}, {what: "turn", n: 8}, {what: "turn", n: 1},
	}
}

// TestScripts plays all short scripts, behind some beginnings.
func TestScripts(t *testing.T) {
	for b, beginning := range [][]call{
		nil,
		{{what: "open"}, {what: "open", who: 1}},
		{{what: "open"}, {what: "append", l: []string{"1", "2"}}, {what: "open", who: 1}},
		{{what: "bytes", l: []string{frameOf("3") + frameOf("") + "\x01"}}, {what: "break", n: 1}},
		{{what: "open"}, {what: "append", l: []string{"4"}}, {what: "break", n: 1}, {what: "append", l: []string{"5", "6"}}},
	} {
		t.Run(fmt.Sprint(b), func(t *testing.T) {
			t.Parallel()
			for _, first := range calls() {
				for _, second := range calls() {
					for _, third := range calls() {
						x := newBoth(t, 40, names{"a", "a"})
						x.all(beginning...)
						x.all(first, second, third, call{what: "crash", n: 5}, call{what: "open"})
					}
				}
			}
		})
	}
}

// TestLongScripts plays long ones, by a fixed beginning of chance, over one file and over two.
func TestLongScripts(t *testing.T) {
	for seed := range int64(1500) {
		r := rand.New(rand.NewSource(seed))
		n := names{"a", "a"}
		if seed%3 == 0 {
			n = names{"b", "a"}
		}
		x := newBoth(t, 30+r.Intn(60), n)
		l := calls()
		for range 60 {
			c := l[r.Intn(len(l))]
			c.who = r.Intn(2)
			if c.what == "break" || c.what == "crash" || c.what == "turn" {
				c.n = r.Intn(30)
			}
			x.do(c)
			if x.d.Down() && r.Intn(2) == 0 {
				x.all(call{what: "crash", n: r.Intn(30)}, call{what: "open", who: r.Intn(2)})
			}
		}
	}
}
