package disk_test

import (
	"fmt"
	"slices"
	"sort"
	"testing"

	"corncrib/api"
	"corncrib/disk"
)

// plain is a disk by the words of the document: a list of files, gone through from its beginning for whatever is asked.
type plain struct {
	room   int
	files  []plainFile
	down   bool
	waits  bool
	behind int
}

type plainFile struct {
	name, bytes string
	synced      int
	sure        bool
}

func (p *plain) at(name string) int {
	for i, f := range p.files {
		if f.name == name {
			return i
		}
	}
	return -1
}

func (p *plain) used() int {
	n := 0
	for _, f := range p.files {
		n += len(f.bytes)
	}
	return n
}

// file is that file; a new one, if it is not there.
func (p *plain) file(name string) *plainFile {
	if p.at(name) < 0 {
		p.files = append(p.files, plainFile{name: name})
		sort.Slice(p.files, func(i, j int) bool { return p.files[i].name < p.files[j].name })
	}
	return &p.files[p.at(name)]
}

func (p *plain) drop(name string) {
	i := p.at(name)
	p.files = append(slices.Clone(p.files[:i]), p.files[i+1:]...)
}

// call is one of a disk, by its name; one number or text is enough for each.
type call struct {
	what string
	name string
	b    string
	n    int
	keep []int
}

func (c call) String() string {
	return fmt.Sprintf("%s %q %q %d %d", c.what, c.name, c.b, c.n, c.keep)
}

func (c call) isChange() bool {
	return slices.Contains([]string{"Append", "Sync", "Cut", "Replace", "Remove"}, c.what)
}

// against is what a change errs by, ahead of the disk's breaking.
func (p *plain) against(c call) api.Errno {
	there, old := p.at(c.name) >= 0, 0
	if there {
		old = len(p.file(c.name).bytes)
	}
	switch {
	case p.down:
		return api.ErrDiskDown
	case !there && (c.what == "Sync" || c.what == "Cut" || c.what == "Remove"):
		return api.ErrDiskNone
	case c.what == "Cut" && (c.n < 0 || c.n > old):
		return api.ErrArg
	case c.what == "Append" && p.used()+len(c.b) > p.room, c.what == "Replace" && p.used()-old+len(c.b) > p.room:
		return api.ErrDiskFull
	}
	return api.OK
}

func (p *plain) change(c call) api.Errno {
	if err := p.against(c); err != api.OK {
		return err
	}
	if p.waits && p.behind == 0 {
		p.waits, p.down = false, true
		if c.what == "Append" {
			p.file(c.name).bytes += c.b
		}
		return api.ErrDiskDown
	}
	if p.waits {
		p.behind--
	}
	if c.what == "Remove" {
		p.drop(c.name)
		return api.OK
	}
	f := p.file(c.name)
	switch c.what {
	case "Append":
		f.bytes += c.b
		return api.OK
	case "Sync":
		f.synced = len(f.bytes)
	case "Cut":
		f.bytes = f.bytes[:c.n]
		f.synced = min(f.synced, c.n)
	case "Replace":
		f.bytes, f.synced = c.b, len(c.b)
	}
	f.sure = true
	return api.OK
}

func (p *plain) crash(keep []int) {
	var left []plainFile
	for i, f := range p.files {
		n := f.synced
		for more := 0; i < len(keep) && more < keep[i] && n < len(f.bytes); more++ {
			n++
		}
		if n > 0 || f.sure {
			left = append(left, plainFile{f.name, f.bytes[:n], n, true})
		}
	}
	p.files, p.down, p.waits = left, false, false
}

// do is what the call answers, and what it does.
func (p *plain) do(c call) api.Errno {
	switch c.what {
	case "Break":
		p.waits, p.behind = true, max(c.n, 0)
	case "Crash":
		p.crash(c.keep)
	case "Wipe":
		p.files = nil
	default:
		return p.change(c)
	}
	return api.OK
}

// doOf does the call on a disk.
func doOf(d *disk.Disk, c call) api.Errno {
	switch c.what {
	case "Append":
		return d.Append(c.name, c.b)
	case "Sync":
		return d.Sync(c.name)
	case "Cut":
		return d.Cut(c.name, c.n)
	case "Replace":
		return d.Replace(c.name, c.b)
	case "Remove":
		return d.Remove(c.name)
	case "Break":
		d.Break(c.n)
	case "Crash":
		d.Crash(c.keep)
	case "Wipe":
		d.Wipe()
	}
	return api.OK
}

// same tells in what a disk is other than the model; "" if in nothing.
func (p *plain) same(d *disk.Disk) string {
	var names []string
	var kept []api.Kept
	for _, f := range p.files {
		names = append(names, f.name)
		kept = append(kept, api.Kept{Name: f.name, Bytes: f.bytes, Synced: f.synced})
	}
	if is := d.Down(); is != p.down {
		return fmt.Sprint("Down ", is)
	}
	if is := d.Used(); is != p.used() || is > max(p.room, 0) {
		return fmt.Sprintf("Used %d; should be %d", is, p.used())
	}
	if is := d.Names(); !slices.Equal(is, names) {
		return fmt.Sprintf("Names %q; should be %q", is, names)
	}
	if is := d.Kept(); !slices.Equal(is, kept) {
		return fmt.Sprintf("Kept %+v; should be %+v", is, kept)
	}
	for _, name := range append(names, "", "a", "ab", "none") {
		want, err := "", api.ErrDiskNone
		if p.down {
			err = api.ErrDiskDown
		} else if i := p.at(name); i >= 0 {
			want, err = p.files[i].bytes, api.OK
		}
		if is, e := d.Read(name); is != want || e != err {
			return fmt.Sprintf("Read(%q): %q, %d; should be %q, %d", name, is, e, want, err)
		}
	}
	return ""
}

// both is a disk, and what it should be.
type both struct {
	t    *testing.T
	d    *disk.Disk
	p    *plain
	done []call
}

func newBoth(t *testing.T, room int) *both {
	return &both{t: t, d: disk.New(room), p: &plain{room: max(room, 0)}}
}

// do does a call on both, and holds them against each other.
func (x *both) do(c call) api.Errno {
	x.t.Helper()
	x.done = append(x.done, c)
	is, want := doOf(x.d, c), x.p.do(c)
	if is != want {
		x.t.Fatalf("%v: the last one %d; should be %d", x.done, is, want)
	}
	if s := x.p.same(x.d); s != "" {
		x.t.Fatalf("%v: %s", x.done, s)
	}
	return is
}

// all does so with many.
func (x *both) all(l ...call) *both {
	x.t.Helper()
	for _, c := range l {
		x.do(c)
	}
	return x
}

func add(name, b string) call     { return call{what: "Append", name: name, b: b} }
func sync(name string) call       { return call{what: "Sync", name: name} }
func cut(name string, n int) call { return call{what: "Cut", name: name, n: n} }
func replace(name, b string) call { return call{what: "Replace", name: name, b: b} }
func remove(name string) call     { return call{what: "Remove", name: name} }
func breaks(n int) call           { return call{what: "Break", n: n} }
func crash(keep ...int) call      { return call{what: "Crash", keep: keep} }
func wipe() call                  { return call{what: "Wipe"} }
