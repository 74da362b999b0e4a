package wal_test

import (
	"fmt"
	"math/rand"
	"slices"
	"strings"
	"testing"
	"unsafe"

	"corncrib/api"
	"corncrib/disk"
	"corncrib/wal"
)

const (
	ok   = api.OK
	full = api.ErrDiskFull
	down = api.ErrDiskDown
	long = api.ErrFrameLong
)

// open is the journal in the file of that name, whose records are these.
func open(t *testing.T, d *disk.Disk, name string, records ...string) *wal.Wal {
	t.Helper()
	w, err := wal.Open(d, name)
	if w == nil || err != ok {
		t.Fatalf("Open(%q): %v, %d", name, w, err)
	}
	knows(t, w, records...)
	return w
}

func knows(t *testing.T, w *wal.Wal, records ...string) {
	t.Helper()
	if is := w.Records(); !slices.Equal(is, records) {
		t.Fatalf("Records: %.100q; should be %.100q", is, records)
	}
}

func errs(t *testing.T, what string, is, want api.Errno) {
	t.Helper()
	if is != want {
		t.Fatalf("%s: %d; should be %d", what, is, want)
	}
}

// has checks a disk's files.
func has(t *testing.T, d *disk.Disk, l ...api.Kept) {
	t.Helper()
	if is := d.Kept(); !slices.Equal(is, l) {
		t.Fatalf("Kept: %+v; should be %+v", is, l)
	}
}

// sure is a file all of whose bytes are synced.
func sure(name, b string) api.Kept { return api.Kept{Name: name, Bytes: b, Synced: len(b)} }

// holds is a disk with room for so many bytes, and the file a with these.
func holds(t *testing.T, room int, b string) *disk.Disk {
	t.Helper()
	d := disk.New(room)
	errs(t, "Replace", d.Replace("a", b), ok)
	return d
}

// isDown is a disk with that file that is down.
func isDown(t *testing.T, b string) *disk.Disk {
	t.Helper()
	d := holds(t, 1000, b)
	d.Break(0)
	errs(t, "Remove", d.Remove("a"), down)
	return d
}

func TestExamples(t *testing.T) {
	for _, x := range []struct {
		keep int
		l    []string
	}{{3, []string{"a", "b"}}, {9, []string{"a", "b", "c"}}} {
		d := disk.New(100)
		w := open(t, d, "j")
		errs(t, "Append", w.Append("a", "b"), ok)
		has(t, d, sure("j", framesOf("a", "b")))
		d.Break(1)
		errs(t, "Append", w.Append("c"), down)
		knows(t, w, "a", "b")
		d.Crash([]int{x.keep})
		w = open(t, d, "j", x.l...)
		has(t, d, sure("j", framesOf(x.l...)))
		if x.keep == 3 && d.Used() != 18 {
			t.Errorf("%d bytes", d.Used())
		}
	}
}

func TestOpenOfNoFile(t *testing.T) {
	for _, name := range []string{"", "a", "\x00", "\xff", "/x/../y", strings.Repeat("n", 1000)} {
		d := disk.New(100)
		d.Break(0) // nothing is changed, so that it does not come
		w := open(t, d, name)
		open(t, d, name)
		has(t, d)
		d.Crash(nil)
		errs(t, "Append", w.Append("x"), ok)
		has(t, d, sure(name, frameOf("x")))
		open(t, d, name, "x")
	}
}

func TestOpenOfAFileWithoutBytes(t *testing.T) {
	d := disk.New(100)
	errs(t, "Append", d.Append("a", ""), ok)
	d.Break(0)
	open(t, d, "a")
	has(t, d, sure("a", ""))
	d.Crash(nil) // it was not made sure by Open
	has(t, d)
	d = holds(t, 100, "")
	w := open(t, d, "a")
	has(t, d, sure("a", ""))
	errs(t, "Append", w.Append("x"), ok)
	open(t, d, "a", "x")
}

// TestOpenOfAFileThatIsWhole checks that nothing is changed, also if not all of it was synced.
func TestOpenOfAFileThatIsWhole(t *testing.T) {
	d := holds(t, 100, frameOf("x"))
	errs(t, "Append", d.Append("a", framesOf("", "yz")), ok)
	d.Break(0)
	open(t, d, "a", "x", "", "yz")
	has(t, d, api.Kept{Name: "a", Bytes: framesOf("x", "", "yz"), Synced: 9})
	if d.Down() {
		t.Error("Open changed a file that is whole")
	}
}

func TestOpenOfAFileCutAtEachPlace(t *testing.T) {
	records := []string{"abc", "", "d", "", "", strings.Repeat("e", 300), "f"}
	b := framesOf(records...)
	for n := range len(b) + 1 {
		whole, end := 0, 0
		for whole < len(records) && end+8+len(records[whole]) <= n {
			end += 8 + len(records[whole])
			whole++
		}
		d := holds(t, 1000, b[:n])
		w := open(t, d, "a", records[:whole]...)
		has(t, d, sure("a", b[:end]))
		errs(t, "Append", w.Append("new"), ok)
		has(t, d, sure("a", b[:end]+frameOf("new")))
		open(t, d, "a", append(slices.Clone(records[:whole]), "new")...)
	}
}

func TestOpenOfAFrameThatIsHarmed(t *testing.T) {
	records := []string{"ab", "", "c"}
	b := framesOf(records...)
	for place := range b {
		for _, mask := range []byte{1, 2, 4, 8, 16, 32, 64, 128, 255} {
			turned := []byte(b)
			turned[place] ^= mask
			whole := 0 // of the frames ahead of the one that is harmed; what is behind it is lost, whole or not
			if place >= 10 {
				whole = 1
			}
			if place >= 18 {
				whole = 2
			}
			d := holds(t, 1000, string(turned))
			open(t, d, "a", records[:whole]...)
			has(t, d, sure("a", framesOf(records[:whole]...)))
		}
	}
}

func TestOpenWithBytesBehindTheFrames(t *testing.T) {
	for _, behind := range []string{"\x00", "\xff", "x", strings.Repeat("\x00", 7), strings.Repeat("\x00", 8), strings.Repeat("\xff", 100), frameOf("c")[:8], "\x01\x00\x01\x00" + strings.Repeat("n", 100), "?" + frameOf("c")} {
		for _, records := range [][]string{nil, {""}, {"a", "b"}} {
			d := holds(t, 1000, framesOf(records...))
			errs(t, "Append", d.Append("a", behind), ok)
			errs(t, "Append", d.Append("b", behind), ok)
			open(t, d, "a", records...)
			has(t, d, sure("a", framesOf(records...)), api.Kept{Name: "b", Bytes: behind}) // no other file is cut
			open(t, d, "a", records...)
		}
	}
}

// TestOpenCutsOnce checks that the cut is one change: a Break behind one comes at the next.
func TestOpenCutsOnce(t *testing.T) {
	d := holds(t, 100, frameOf("x")+"?")
	d.Break(1)
	w := open(t, d, "a", "x")
	errs(t, "Append", w.Append("y"), down)
	has(t, d, api.Kept{Name: "a", Bytes: framesOf("x", "y"), Synced: 9})
}

func TestOpenOnADiskThatIsDown(t *testing.T) {
	for _, b := range []string{"", frameOf("x"), frameOf("x") + "?"} {
		d := isDown(t, b)
		for _, name := range []string{"a", "none", ""} {
			if w, err := wal.Open(d, name); w != nil || err != down {
				t.Errorf("Open(%q): %v, %d", name, w, err)
			}
		}
		has(t, d, sure("a", b))
	}
}

func TestOpenOnADiskThatBreaks(t *testing.T) {
	d := holds(t, 100, frameOf("x")+"?")
	d.Break(0)
	for range 2 {
		if w, err := wal.Open(d, "a"); w != nil || err != down {
			t.Errorf("Open: %v, %d", w, err)
		}
		has(t, d, sure("a", frameOf("x")+"?"))
		if !d.Down() {
			t.Error("not down")
		}
	}
	d.Crash(nil)
	open(t, d, "a", "x")
	has(t, d, sure("a", frameOf("x")))
}

func TestAppendOfNone(t *testing.T) {
	d := disk.New(0)
	w := open(t, d, "a")
	d.Break(0)
	errs(t, "no records", w.Append(), ok)
	errs(t, "no records", w.Append([]string{}...), ok)
	knows(t, w)
	has(t, d)
	if d.Down() {
		t.Error("no records were a change")
	}
	d = holds(t, 9, frameOf("x"))
	w = open(t, d, "a", "x")
	errs(t, "bytes that are not synced", d.Append("a", ""), ok)
	errs(t, "no records", w.Append(), ok)
	d.Break(0)
	errs(t, "Rewrite", w.Rewrite(), down)
	errs(t, "no records on a disk that is down", w.Append(), ok)
	knows(t, w, "x")
	has(t, d, sure("a", frameOf("x")))
}

func TestAppend(t *testing.T) {
	most := strings.Repeat("m", 65536)
	d := disk.New(1 << 20)
	w := open(t, d, "a")
	var all []string
	for _, l := range [][]string{{"a"}, {""}, {"b", "c", "d"}, {"", "", ""}, {"\x00\xff"}, {frameOf("x")}, {most}, {"e", most, "f"}, slices.Repeat([]string{"g"}, 1000)} {
		d.Break(2) // one disk.Append of all, and one Sync
		errs(t, "Append", w.Append(l...), ok)
		if d.Down() {
			t.Fatal("down")
		}
		all = append(all, l...)
		knows(t, w, all...)
		has(t, d, sure("a", framesOf(all...)))
		open(t, d, "a", all...)
	}
	errs(t, "the change behind these two", d.Append("b", ""), down)
}

func TestAppendTooLong(t *testing.T) {
	over := strings.Repeat("o", 65537)
	for _, l := range [][]string{{over}, {over, "a"}, {"a", over}, {"a", over, "b"}, {over, over}, {"", over + over}} {
		for _, room := range []int{9, 1 << 20} {
			d := holds(t, room, frameOf("x"))
			w := open(t, d, "a", "x")
			d.Break(0)
			errs(t, "Append", w.Append(l...), long)
			errs(t, "Rewrite", w.Rewrite(l...), long)
			knows(t, w, "x")
			has(t, d, sure("a", frameOf("x")))
			if d.Down() {
				t.Error("it was a change")
			}
		}
	}
}

func TestRoom(t *testing.T) {
	for room := range 60 {
		d := holds(t, room+20, framesOf("abcd", ""))
		w := open(t, d, "a", "abcd", "")
		l := []string{"x", "", "yz"} // 27 bytes
		if room < 27 {
			errs(t, fmt.Sprint("Append with room for ", room), w.Append(l...), full)
			knows(t, w, "abcd", "")
			has(t, d, sure("a", framesOf("abcd", "")))
			if room >= 9 { // what there is room for goes on
				errs(t, "Append", w.Append("x"), ok)
				has(t, d, sure("a", framesOf("abcd", "", "x")))
			}
			continue
		}
		errs(t, fmt.Sprint("Append with room for ", room), w.Append(l...), ok)
		open(t, d, "a", "abcd", "", "x", "", "yz")
	}
}

func TestRoomIsThatOfAllFiles(t *testing.T) {
	d := disk.New(30)
	errs(t, "Append", d.Append("other", "123"), ok)
	w := open(t, d, "a")
	errs(t, "Append", w.Append("1", "2", "34"), full)
	has(t, d, api.Kept{Name: "other", Bytes: "123"}) // no file is made
	errs(t, "Append", w.Append("1", "2", "3"), ok)
	errs(t, "Append", w.Append(""), full)
	errs(t, "Rewrite", w.Rewrite("1", "2", "34"), full)
	errs(t, "Rewrite", w.Rewrite("3", "2", "1"), ok)
	open(t, d, "a", "3", "2", "1")
	has(t, d, sure("a", framesOf("3", "2", "1")), api.Kept{Name: "other", Bytes: "123"})
}

// TestAppendThatBreaks checks what the next Open finds, whatever the crash keeps, if the disk breaks at the append or at the sync.
func TestAppendThatBreaks(t *testing.T) {
	known, l := []string{"abc", ""}, []string{"d", "", "ef"}
	for _, n := range []int{0, 1} {
		for keep := -1; keep <= 30; keep++ {
			d := holds(t, 100, framesOf(known...))
			w := open(t, d, "a", known...)
			d.Break(n)
			errs(t, "Append", w.Append(l...), down)
			knows(t, w, known...)
			has(t, d, api.Kept{Name: "a", Bytes: framesOf("abc", "", "d", "", "ef"), Synced: 19})
			errs(t, "Append", w.Append("z"), down)
			errs(t, "Rewrite", w.Rewrite("z"), down)
			d.Crash([]int{keep})
			more := 0
			for more < len(l) && keep >= len(framesOf(l[:more+1]...)) {
				more++
			}
			back := slices.Concat(known, l[:more])
			open(t, d, "a", back...)
			has(t, d, sure("a", framesOf(back...)))
		}
	}
}

// TestFirstAppendThatBreaks checks the same of a file that was never sure.
func TestFirstAppendThatBreaks(t *testing.T) {
	for keep := range 10 {
		d := disk.New(100)
		w := open(t, d, "a")
		d.Break(0)
		errs(t, "Append", w.Append("x"), down)
		d.Crash([]int{keep})
		switch {
		case keep == 0:
			open(t, d, "a")
			has(t, d)
		case keep < 9:
			open(t, d, "a")
			has(t, d, sure("a", ""))
		default:
			open(t, d, "a", "x")
		}
	}
}

func TestRewrite(t *testing.T) {
	for _, l := range [][]string{nil, {}, {""}, {"b"}, {"a", "b"}, {"c", "b", "a"}, {"a", "b", "c", "", "d"}, {strings.Repeat("m", 65536)}} {
		d := holds(t, 1<<20, framesOf("a", "b", "c"))
		w := open(t, d, "a", "a", "b", "c")
		d.Break(1) // one change
		errs(t, "Rewrite", w.Rewrite(l...), ok)
		knows(t, w, l...)
		has(t, d, sure("a", framesOf(l...)))
		d.Crash(nil)
		has(t, d, sure("a", framesOf(l...)))
		open(t, d, "a", l...)
		errs(t, "Append", w.Append("e"), ok)
		open(t, d, "a", append(slices.Clone(l), "e")...)
		knows(t, w, append(slices.Clone(l), "e")...)
	}
}

func TestRewriteOfNoFile(t *testing.T) {
	d := disk.New(9)
	w := open(t, d, "a")
	errs(t, "Rewrite", w.Rewrite(), ok)
	d.Crash(nil)
	has(t, d, sure("a", ""))
	w = open(t, d, "b")
	errs(t, "Rewrite", w.Rewrite("x"), ok)
	has(t, d, sure("a", ""), sure("b", frameOf("x")))
}

func TestRewriteThatErrs(t *testing.T) {
	known := []string{"a", "", "bc"}
	was := sure("a", framesOf(known...))
	d := holds(t, 29, was.Bytes)
	w := open(t, d, "a", known...)
	for _, l := range [][]string{{strings.Repeat("x", 23)}, {"", "", "", ""}, {"a", "", "bcdef"}} {
		errs(t, "Rewrite", w.Rewrite(l...), full)
		knows(t, w, known...)
		has(t, d, was)
	}
	for _, l := range [][]string{nil, {"x"}, {"a", "", "bc"}} {
		d.Break(0)
		errs(t, "Rewrite that breaks", w.Rewrite(l...), down)
		knows(t, w, known...)
		has(t, d, was)
		errs(t, "Rewrite on a disk that is down", w.Rewrite(l...), down)
		knows(t, w, known...)
		has(t, d, was)
		d.Crash([]int{100})
		open(t, d, "a", known...)
		has(t, d, was)
	}
	errs(t, "Rewrite of just as much as there is room for", w.Rewrite(strings.Repeat("x", 21)), ok)
	open(t, d, "a", strings.Repeat("x", 21))
}

// TestOrderOfErrors has of each call several errors that apply.
func TestOrderOfErrors(t *testing.T) {
	over, much := strings.Repeat("o", 65537), strings.Repeat("m", 2000)
	d := holds(t, 1000, "")
	w := open(t, d, "a")
	errs(t, "too long, and too much", w.Append(over, much), long)
	errs(t, "too long, and too much", w.Rewrite(much, over), long)
	d.Break(0)
	errs(t, "too much, and a Break", w.Append(much), full)
	errs(t, "too much, and a Break", w.Rewrite(much), full)
	errs(t, "a Break", w.Append("x"), down)
	errs(t, "too long, too much, and down", w.Append(much, over), long)
	errs(t, "too long, too much, and down", w.Rewrite(over, much), long)
	errs(t, "too much, and down", w.Append(much), down)
	errs(t, "too much, and down", w.Rewrite(much), down)
	knows(t, w)
}

// TestTwoJournalsOverOneFile checks that neither hears of the other, and that both write to what stands there.
func TestTwoJournalsOverOneFile(t *testing.T) {
	d := disk.New(1000)
	one, two := open(t, d, "a"), open(t, d, "a")
	errs(t, "Append", one.Append("1"), ok)
	knows(t, two)
	errs(t, "Append", two.Append("2"), ok)
	errs(t, "Append", one.Append("3"), ok)
	knows(t, one, "1", "3")
	knows(t, two, "2")
	three := open(t, d, "a", "1", "2", "3")
	errs(t, "Rewrite", two.Rewrite("4", "5"), ok)
	knows(t, one, "1", "3")
	knows(t, two, "4", "5")
	knows(t, three, "1", "2", "3")
	errs(t, "Append", one.Append("6"), ok)
	knows(t, one, "1", "3", "6")
	open(t, d, "a", "4", "5", "6")
	errs(t, "Rewrite", three.Rewrite(), ok)
	open(t, d, "a")
	knows(t, two, "4", "5")
	errs(t, "Remove", d.Remove("a"), ok)
	knows(t, one, "1", "3", "6")
	errs(t, "Append", one.Append("7"), ok)
	open(t, d, "a", "7")
}

// TestWhatOthersDo checks that a journal writes behind what others left in its file, whatever it is.
func TestWhatOthersDo(t *testing.T) {
	d := disk.New(1000)
	w := open(t, d, "a")
	errs(t, "Append", w.Append("1"), ok)
	errs(t, "bytes of somebody else", d.Append("a", "?"), ok)
	errs(t, "Append", w.Append("2"), ok)
	knows(t, w, "1", "2")
	has(t, d, sure("a", frameOf("1")+"?"+frameOf("2")))
	open(t, d, "a", "1")
	has(t, d, sure("a", frameOf("1")))
	d.Wipe()
	knows(t, w, "1", "2")
	has(t, d)
}

// TestJournalBehindACrash checks that a journal goes on with what it knew, and writes behind what was left.
func TestJournalBehindACrash(t *testing.T) {
	d := disk.New(1000)
	w := open(t, d, "a")
	errs(t, "Append", w.Append("1"), ok)
	d.Break(1)
	errs(t, "Append", w.Append("2"), down)
	d.Crash([]int{9})
	knows(t, w, "1")
	errs(t, "Append", w.Append("3"), ok)
	knows(t, w, "1", "3")
	open(t, d, "a", "1", "2", "3")
}

func TestJournalsOfOtherFilesAndDisks(t *testing.T) {
	d, e := disk.New(1000), disk.New(1000)
	da, db, ea := open(t, d, "a"), open(t, d, "b"), open(t, e, "a")
	errs(t, "Append", da.Append("da"), ok)
	errs(t, "Append", db.Append("db"), ok)
	errs(t, "Append", ea.Append("ea"), ok)
	errs(t, "Rewrite", db.Rewrite("x", "y"), ok)
	knows(t, da, "da")
	knows(t, db, "x", "y")
	knows(t, ea, "ea")
	has(t, d, sure("a", frameOf("da")), sure("b", framesOf("x", "y")))
	has(t, e, sure("a", frameOf("ea")))
}

// TestNoDisk checks journals and disks that nobody made.
func TestNoDisk(t *testing.T) {
	if w, err := wal.Open(nil, "a"); w != nil || err != down {
		t.Errorf("Open on no disk: %v, %d", w, err)
	}
	var none *wal.Wal
	var zero disk.Disk
	over := strings.Repeat("o", 65537)
	for _, w := range []*wal.Wal{none, {}} {
		errs(t, "Append of none", w.Append(), ok)
		errs(t, "Append", w.Append(""), down)
		errs(t, "Append of too long", w.Append("", over), long)
		errs(t, "Rewrite", w.Rewrite(), down)
		errs(t, "Rewrite", w.Rewrite("x"), down)
		errs(t, "Rewrite to too long", w.Rewrite(over), long)
		knows(t, w)
	}
	w := open(t, &zero, "a")
	errs(t, "Append without room", w.Append(""), full)
	errs(t, "Rewrite without room", w.Rewrite(""), full)
	errs(t, "Rewrite to none", w.Rewrite(), ok)
	has(t, &zero, sure("a", ""))
}

// TestNothingIsShared writes over what was handed in and out.
func TestNothingIsShared(t *testing.T) {
	d := disk.New(1000)
	w := open(t, d, "a")
	l := []string{"1", "2", "3", "4"}
	errs(t, "Append", w.Append(l[:2]...), ok)
	if !slices.Equal(l, []string{"1", "2", "3", "4"}) {
		t.Errorf("handed in: %q", l)
	}
	l[0] = "x"
	knows(t, w, "1", "2")
	out, other := w.Records(), w.Records()
	out[0] = "y"
	out = append(out[:1], "z", "z", "z")
	knows(t, w, "1", "2")
	if !slices.Equal(other, []string{"1", "2"}) {
		t.Errorf("handed out: %q", other)
	}
	for i := range 20 { // also where the list has room behind it
		was, before := w.Records(), len(w.Records())
		errs(t, "Append", w.Append(fmt.Sprint(i)), ok)
		was = append(was, "w")
		if is := w.Records(); len(is) != before+1 || is[before] != fmt.Sprint(i) || was[before] != "w" {
			t.Errorf("%d: %q", i, is)
		}
	}
	l = []string{"5", "6"}
	errs(t, "Rewrite", w.Rewrite(l...), ok)
	l[0], l[1] = "x", "x"
	knows(t, w, "5", "6")
	errs(t, "Append", w.Append("7"), ok)
	if !slices.Equal(l, []string{"x", "x"}) || len(out) != 4 {
		t.Errorf("handed in: %q", l)
	}
	opened := open(t, d, "a", "5", "6", "7").Records()
	opened[1] = "x"
	open(t, d, "a", "5", "6", "7")
}

// TestTextsAreNotKept hands in texts whose bytes are written over afterwards: what stands for a great buffer, of which a record should keep nothing.
func TestTextsAreNotKept(t *testing.T) {
	buffer := []byte("abcdef")
	text := func(from, to int) string { return unsafe.String(&buffer[from], to-from) }
	d := disk.New(1000)
	w, err := wal.Open(d, text(0, 1))
	errs(t, "Open", err, ok)
	errs(t, "Append", w.Append(text(1, 2), text(2, 4)), ok)
	copy(buffer, "uvwxyz")
	knows(t, w, "b", "cd")
	errs(t, "Append", w.Append("e"), ok)
	has(t, d, sure("a", framesOf("b", "cd", "e")))
	errs(t, "Rewrite", w.Rewrite(text(4, 6)), ok)
	copy(buffer, "ABCDEF")
	knows(t, w, "yz")
	has(t, d, sure("a", frameOf("yz")))
}

// TestWhatHolds plays journals and crashes: behind each one the next journal has what the last one knew, and a beginning of those of an Append that answered ErrDiskDown.
func TestWhatHolds(t *testing.T) {
	for seed := range int64(400) {
		r := rand.New(rand.NewSource(seed))
		d := disk.New(200 + r.Intn(400))
		w := open(t, d, "a")
		var known, lost []string
		for range 40 {
			l := make([]string, r.Intn(4))
			for i := range l {
				l[i] = strings.Repeat(string(rune('a'+r.Intn(26))), r.Intn(20))
			}
			isAppend := r.Intn(4) > 0
			var err api.Errno
			if isAppend {
				err = w.Append(l...)
			} else {
				err = w.Rewrite(l...)
			}
			switch {
			case err == ok && isAppend:
				known = append(known, l...)
			case err == ok:
				known = l
			case err == down && isAppend && len(lost) == 0:
				lost = l
			}
			knows(t, w, known...)
			if r.Intn(5) == 0 {
				d.Break(r.Intn(5))
			}
			if d.Down() || r.Intn(10) == 0 {
				d.Crash([]int{r.Intn(80) - 10})
				var err api.Errno
				if w, err = wal.Open(d, "a"); err != ok {
					t.Fatal(err)
				}
				back := w.Records()
				if len(back) < len(known) || !slices.Equal(back[:len(known)], known) || !slices.Equal(back[len(known):], lost[:min(len(back)-len(known), len(lost))]) {
					t.Fatalf("%d: back came %q; known were %q, and being written %q", seed, back, known, lost)
				}
				known, lost = back, nil
			}
		}
	}
}
