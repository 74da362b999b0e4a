package disk_test

import (
	"math"
	"math/rand"
	"slices"
	"strconv"
	"strings"
	"testing"

	"corncrib/api"
	"corncrib/disk"
)

// expect is a call, and what it should answer.
type expect struct {
	c   call
	err api.Errno
}

// run plays a script of calls on a disk.
func run(t *testing.T, d *disk.Disk, l ...expect) {
	t.Helper()
	for i, x := range l {
		if err := doOf(d, x.c); err != x.err {
			t.Fatalf("%d: %v: %d; should be %d", i, x.c, err, x.err)
		}
	}
}

// has checks a disk's files, told as name, bytes, how many are synced.
func has(t *testing.T, d *disk.Disk, l ...api.Kept) {
	t.Helper()
	if is := d.Kept(); !slices.Equal(is, l) {
		t.Fatalf("Kept: %+v; should be %+v", is, l)
	}
	var names []string
	used := 0
	for _, f := range l {
		names = append(names, f.Name)
		used += len(f.Bytes)
	}
	if is := d.Names(); !slices.Equal(is, names) {
		t.Fatalf("Names: %q; should be %q", is, names)
	}
	if is := d.Used(); is != used {
		t.Fatalf("Used: %d; should be %d", is, used)
	}
	for _, f := range l {
		if b, err := d.Read(f.Name); !d.Down() && (b != f.Bytes || err != api.OK) || d.Down() && (b != "" || err != api.ErrDiskDown) {
			t.Fatalf("Read(%q): %q, %d", f.Name, b, err)
		}
	}
}

const (
	ok   = api.OK
	full = api.ErrDiskFull
	down = api.ErrDiskDown
	none = api.ErrDiskNone
	arg  = api.ErrArg
)

func TestExamples(t *testing.T) {
	d := disk.New(10)
	run(t, d, expect{add("b", "abc"), ok}, expect{sync("b"), ok}, expect{add("b", "def"), ok}, expect{add("a", "xy"), ok}, expect{add("a", "zzz"), full})
	has(t, d, api.Kept{Name: "a", Bytes: "xy"}, api.Kept{Name: "b", Bytes: "abcdef", Synced: 3})
	d.Crash([]int{1, 2})
	has(t, d, api.Kept{Name: "a", Bytes: "x", Synced: 1}, api.Kept{Name: "b", Bytes: "abcde", Synced: 5})
	run(t, d, expect{breaks(1), ok}, expect{add("a", "1"), ok}, expect{add("a", "2"), down})
	if b, err := d.Read("a"); b != "" || err != down || !d.Down() {
		t.Errorf("Read: %q, %d, %t", b, err, d.Down())
	}
	d.Crash([]int{9})
	has(t, d, api.Kept{Name: "a", Bytes: "x12", Synced: 3}, api.Kept{Name: "b", Bytes: "abcde", Synced: 5})
}

func TestNew(t *testing.T) {
	for _, room := range []int{math.MinInt, -1, 0, 1, math.MaxInt} {
		d := disk.New(room)
		has(t, d)
		if d.Down() {
			t.Error("down at first")
		}
		if b, err := d.Read("a"); b != "" || err != none {
			t.Errorf("Read: %q, %d", b, err)
		}
	}
}

func TestRoom(t *testing.T) {
	for _, room := range []int{math.MinInt, -1, 0} {
		run(t, disk.New(room), expect{add("a", "x"), full}, expect{replace("a", "x"), full}, expect{sync("a"), none}, expect{add("a", ""), ok}, expect{replace("b", ""), ok}, expect{add("a", "x"), full}, expect{replace("b", "x"), full})
	}
	d := disk.New(5)
	run(t, d, expect{add("a", "123456"), full}, expect{replace("a", "123456"), full})
	has(t, d) // what errs makes no file
	run(t, d, expect{add("a", "12345"), ok}, expect{add("a", "6"), full}, expect{add("b", "6"), full}, expect{replace("b", "6"), full}, expect{add("a", ""), ok}, expect{add("b", ""), ok})
	run(t, d, expect{replace("a", "123456"), full}, expect{replace("a", "54321"), ok}, expect{replace("a", "321"), ok}, expect{add("b", "xy"), ok}, expect{add("b", "z"), full}, expect{replace("b", "xyz"), full}, expect{replace("b", "yx"), ok})
	has(t, d, api.Kept{Name: "a", Bytes: "321", Synced: 3}, api.Kept{Name: "b", Bytes: "yx", Synced: 2})
	run(t, d, expect{cut("a", 1), ok}, expect{add("b", "123"), full}, expect{add("b", "12"), ok}, expect{remove("b"), ok}, expect{add("c", "12345"), full}, expect{add("c", "1234"), ok}, expect{wipe(), ok}, expect{add("d", "12345"), ok}, expect{crash(2), ok}, expect{add("d", "1234"), full}, expect{add("d", "123"), ok})
	has(t, d, api.Kept{Name: "d", Bytes: "12123", Synced: 2})
}

// TestRoomOfWhatIsTorn checks that what breaks takes room, and that a change that does not fit does not break.
func TestRoomOfWhatIsTorn(t *testing.T) {
	d := disk.New(4)
	run(t, d, expect{breaks(0), ok}, expect{add("a", "12345"), full}, expect{replace("a", "12345"), full}, expect{add("a", "1234"), down}, expect{crash(3), ok}, expect{add("a", "xy"), full}, expect{add("a", "x"), ok})
	has(t, d, api.Kept{Name: "a", Bytes: "123x", Synced: 3})
	d = disk.New(math.MaxInt)
	run(t, d, expect{add("a", "1"), ok}, expect{replace("b", strings.Repeat("x", 1<<20)), ok}, expect{add("b", "y"), ok})
	if d.Used() != 1<<20+2 {
		t.Error(d.Used())
	}
}

func TestWhatIsNotThere(t *testing.T) {
	for _, d := range []*disk.Disk{disk.New(0), disk.New(9)} {
		for _, name := range []string{"", "a", "\x00", "\xff", strings.Repeat("n", 1000)} {
			run(t, d, expect{sync(name), none}, expect{remove(name), none}, expect{cut(name, 0), none}, expect{cut(name, -1), none}, expect{cut(name, 1), none}, expect{cut(name, math.MaxInt), none})
			if b, err := d.Read(name); b != "" || err != none {
				t.Errorf("Read(%q): %q, %d", name, b, err)
			}
		}
		has(t, d)
	}
}

func TestNames(t *testing.T) {
	names := []string{"\xff", "é", "b", "\x00", "a\x00", "aa", "", "Z", "\x00\x00", "a", "/etc/../x", "日本", "\xc3", "￿", "\U0001F600", strings.Repeat("long", 1000), "*", " "}
	sorted := []string{"", "\x00", "\x00\x00", " ", "*", "/etc/../x", "Z", "a", "a\x00", "aa", "b", strings.Repeat("long", 1000), "\xc3", "é", "日本", "￿", "\U0001F600", "\xff"}
	d := disk.New(100)
	for i, name := range names {
		run(t, d, expect{add(name, strconv.Itoa(i%10)), ok})
	}
	if is := d.Names(); !slices.Equal(is, sorted) {
		t.Errorf("Names: %q", is)
	}
	for _, f := range d.Kept() {
		if want := strconv.Itoa(slices.Index(names, f.Name) % 10); f.Bytes != want {
			t.Errorf("%q: %q", f.Name, f.Bytes)
		}
	}
	for _, name := range names {
		run(t, d, expect{sync(name), ok}, expect{cut(name, 0), ok}, expect{replace(name, "x"), ok}, expect{remove(name), ok}, expect{remove(name), none})
	}
	has(t, d)
}

func TestCut(t *testing.T) {
	for n := -1; n <= 6; n++ {
		d := disk.New(9)
		run(t, d, expect{add("a", "abc"), ok}, expect{sync("a"), ok}, expect{add("a", "de"), ok})
		if n < 0 || n > 5 {
			run(t, d, expect{cut("a", n), arg})
			has(t, d, api.Kept{Name: "a", Bytes: "abcde", Synced: 3})
			continue
		}
		run(t, d, expect{cut("a", n), ok})
		has(t, d, api.Kept{Name: "a", Bytes: "abcde"[:n], Synced: min(n, 3)})
		run(t, d, expect{add("a", "xyz"), ok}) // not what was cut off
		has(t, d, api.Kept{Name: "a", Bytes: "abcde"[:n] + "xyz", Synced: min(n, 3)})
		d.Crash(nil)
		has(t, d, api.Kept{Name: "a", Bytes: "abcde"[:min(n, 3)], Synced: min(n, 3)})
	}
	d := disk.New(9)
	run(t, d, expect{add("a", "ab"), ok}, expect{cut("a", math.MinInt), arg}, expect{cut("a", math.MaxInt), arg}, expect{cut("a", 3), arg}, expect{cut("a", 0), ok}, expect{cut("a", 1), arg}, expect{cut("a", 0), ok})
	has(t, d, api.Kept{Name: "a"})
}

func TestReplace(t *testing.T) {
	d := disk.New(9)
	run(t, d, expect{replace("a", "ab"), ok}, expect{replace("b", ""), ok}, expect{add("a", "cd"), ok}, expect{add("b", "x"), ok})
	has(t, d, api.Kept{Name: "a", Bytes: "abcd", Synced: 2}, api.Kept{Name: "b", Bytes: "x"})
	run(t, d, expect{replace("a", "x"), ok}, expect{crash(), ok})
	has(t, d, api.Kept{Name: "a", Bytes: "x", Synced: 1}, api.Kept{Name: "b"})
}

// TestSure checks of which files a crash leaves none.
func TestSure(t *testing.T) {
	for _, x := range []struct {
		l    []call
		left bool
	}{
		{[]call{add("a", "")}, false}, {[]call{add("a", "x")}, false}, {[]call{add("a", "x"), add("a", ""), add("a", "y")}, false},
		{[]call{add("a", ""), sync("a")}, true}, {[]call{add("a", ""), cut("a", 0)}, true}, {[]call{add("a", "xy"), cut("a", 1)}, true}, {[]call{add("a", "xy"), cut("a", 2)}, true}, {[]call{replace("a", "")}, true},
		{[]call{sync("a"), add("a", "x"), cut("a", 0), add("a", "y")}, true}, {[]call{replace("a", ""), add("a", "xyz")}, true},
		{[]call{add("a", "x"), crash(1), cut("a", 0)}, true}, {[]call{replace("a", ""), crash(), crash()}, true}, {[]call{add("a", "x"), crash(0), add("a", "x")}, false},
		{[]call{replace("a", ""), remove("a"), add("a", "x")}, false}, {[]call{add("a", ""), sync("a"), wipe(), add("a", "")}, false}, // another file of that name
		{[]call{breaks(0), add("a", "")}, false}, {[]call{breaks(0), add("a", "xyz")}, false}, {[]call{replace("a", ""), breaks(0), add("a", "x")}, true},
		{[]call{add("a", "x"), breaks(0), sync("a")}, false}, {[]call{add("a", "x"), breaks(0), cut("a", 0)}, false}, {[]call{add("a", "x"), breaks(0), replace("a", "")}, false}, {[]call{breaks(0), replace("a", "")}, false},
		{[]call{add("a", ""), sync("b"), cut("a", 1), cut("a", -1), replace("a", "too much to be held")}, false}, // what errs makes nothing sure
		{[]call{replace("a", ""), breaks(0), remove("a")}, true},
	} {
		d := disk.New(9)
		for _, c := range x.l {
			doOf(d, c)
		}
		d.Crash([]int{-1})
		if x.left {
			has(t, d, api.Kept{Name: "a"})
		} else {
			has(t, d)
		}
	}
}

// TestCrashKeeps checks each number of bytes to keep, at each place.
func TestCrashKeeps(t *testing.T) {
	for _, x := range []struct {
		keep    []int
		a, b, c int
	}{
		{nil, 2, 0, 0}, {[]int{}, 2, 0, 0}, {[]int{0}, 2, 0, 0}, {[]int{1}, 3, 0, 0}, {[]int{2}, 4, 0, 0}, {[]int{3}, 5, 0, 0}, {[]int{4}, 5, 0, 0}, {[]int{math.MaxInt, 0, math.MinInt}, 5, 0, 0},
		{[]int{-1, 1}, 2, 1, 0}, {[]int{math.MinInt, 3, 1}, 2, 3, 1}, {[]int{0, 2, -5}, 2, 2, 0}, {[]int{1, 4, math.MaxInt}, 3, 3, 2}, {[]int{0, 0, 0, 9}, 2, 0, 0}, {[]int{0, 1, 2, 3, 4, 5}, 2, 1, 2},
	} {
		d := disk.New(20)
		run(t, d, expect{add("c", "xy"), ok}, expect{replace("a", "ab"), ok}, expect{add("b", "1"), ok}, expect{add("a", "cde"), ok}, expect{add("b", "23"), ok})
		var want []api.Kept
		for _, f := range []api.Kept{{Name: "a", Bytes: "abcde"[:x.a], Synced: x.a}, {Name: "b", Bytes: "123"[:x.b], Synced: x.b}, {Name: "c", Bytes: "xy"[:x.c], Synced: x.c}} {
			if f.Bytes != "" {
				want = append(want, f)
			}
		}
		d.Crash(x.keep)
		has(t, d, want...)
		d.Crash(nil) // what was left is synced
		has(t, d, want...)
	}
}

// TestCrashCountsWhatIsGone checks that places are those of the files that there were ahead of the crash.
func TestCrashCountsWhatIsGone(t *testing.T) {
	d := disk.New(20)
	run(t, d, expect{add("a", "1"), ok}, expect{add("b", ""), ok}, expect{add("c", "3"), ok}, expect{crash(0, 5, 1), ok})
	has(t, d, api.Kept{Name: "c", Bytes: "3", Synced: 1})
}

func TestBreakOfEachKind(t *testing.T) {
	kept := []api.Kept{{Name: "a", Bytes: "abc", Synced: 2}, {Name: "b"}}
	for _, x := range []struct {
		c    call
		kept []api.Kept
	}{
		{add("a", "d"), []api.Kept{{Name: "a", Bytes: "abcd", Synced: 2}, {Name: "b"}}}, {add("a", ""), kept}, {add("c", ""), append(slices.Clone(kept), api.Kept{Name: "c"})}, {add("c", "xy"), append(slices.Clone(kept), api.Kept{Name: "c", Bytes: "xy"})},
		{sync("a"), kept}, {cut("a", 0), kept}, {cut("a", 3), kept}, {replace("a", "x"), kept}, {replace("c", "x"), kept}, {remove("a"), kept}, {remove("b"), kept},
	} {
		for _, n := range []int{math.MinInt, -1, 0} {
			d := disk.New(9)
			run(t, d, expect{replace("a", "ab"), ok}, expect{add("a", "c"), ok}, expect{add("b", ""), ok}, expect{breaks(n), ok})
			if d.Down() {
				t.Fatal("down ahead of a change")
			}
			run(t, d, expect{x.c, down})
			if !d.Down() {
				t.Fatalf("%v: not down", x.c)
			}
			has(t, d, x.kept...)
			run(t, d, expect{x.c, down}) // no more comes of it
			has(t, d, x.kept...)
		}
	}
}

func TestBreakCounts(t *testing.T) {
	for n := range 7 {
		d := disk.New(9)
		d.Break(n)
		// Of these, only those that are answered OK count.
		l := []expect{{add("a", "x"), ok}, {sync("b"), none}, {sync("a"), ok}, {sync("a"), ok}, {cut("a", 2), arg}, {cut("a", 1), ok}, {remove("b"), none}, {replace("b", "123456789"), full}, {replace("b", ""), ok}, {add("b", "123456789"), full}, {remove("b"), ok}, {add("a", ""), ok}}
		left := n
		for _, x := range l {
			if x.err == ok && left == 0 {
				run(t, d, expect{x.c, down})
				break
			}
			d.Read("a")
			d.Names()
			run(t, d, x)
			if x.err == ok {
				left--
			}
		}
		if !d.Down() {
			t.Errorf("Break(%d): not down", n)
		}
	}
}

func TestBreakInThePlaceOfAnother(t *testing.T) {
	run(t, disk.New(9), expect{breaks(0), ok}, expect{breaks(2), ok}, expect{add("a", "1"), ok}, expect{breaks(1), ok}, expect{add("a", "2"), ok}, expect{add("a", "3"), down}, expect{crash(), ok}, expect{add("a", "4"), ok})
	run(t, disk.New(9), expect{breaks(9), ok}, expect{breaks(-9), ok}, expect{add("a", "1"), down})
	run(t, disk.New(9), expect{breaks(math.MaxInt), ok}, expect{add("a", "1"), ok}, expect{sync("a"), ok})
	// A crash takes away what waits, also what was asked for on a disk that is down; a wipe does not.
	run(t, disk.New(9), expect{breaks(0), ok}, expect{crash(), ok}, expect{add("a", "1"), ok}, expect{sync("a"), ok})
	run(t, disk.New(9), expect{breaks(0), ok}, expect{add("a", "1"), down}, expect{breaks(0), ok}, expect{crash(), ok}, expect{add("a", "1"), ok}, expect{sync("a"), ok})
	run(t, disk.New(9), expect{breaks(1), ok}, expect{wipe(), ok}, expect{add("a", "1"), ok}, expect{wipe(), ok}, expect{add("a", "1"), down})
	// One that came does not come again.
	run(t, disk.New(9), expect{breaks(0), ok}, expect{add("a", "1"), down}, expect{crash(), ok}, expect{add("a", "1"), ok}, expect{add("a", "1"), ok})
}

func TestEachCallOnADiskThatIsDown(t *testing.T) {
	d := disk.New(3)
	run(t, d, expect{replace("a", "1"), ok}, expect{breaks(0), ok}, expect{add("b", "2"), down})
	for _, c := range []call{add("a", ""), add("a", "x"), add("a", "too much"), add("new", "x"), sync("a"), sync("none"), cut("a", 0), cut("a", -1), cut("a", 9), cut("none", 0), replace("a", "x"), replace("new", ""), replace("a", "too much"), remove("a"), remove("none"), breaks(5), add("a", "x")} {
		if c.isChange() {
			run(t, d, expect{c, down})
		} else {
			run(t, d, expect{c, ok})
		}
		has(t, d, api.Kept{Name: "a", Bytes: "1", Synced: 1}, api.Kept{Name: "b", Bytes: "2"})
	}
	for _, name := range []string{"a", "b", "none"} {
		if b, err := d.Read(name); b != "" || err != down {
			t.Errorf("Read(%q): %q, %d", name, b, err)
		}
	}
	d.Wipe()
	has(t, d)
	run(t, d, expect{add("a", "x"), down}, expect{wipe(), ok})
	if !d.Down() {
		t.Error("a wipe does not bring the power back")
	}
	run(t, d, expect{crash(9), ok}, expect{add("a", "xyz"), ok}, expect{add("a", "x"), full})
}

func TestWipe(t *testing.T) {
	d := disk.New(3)
	run(t, d, expect{wipe(), ok}, expect{replace("a", "1"), ok}, expect{add("b", "23"), ok}, expect{wipe(), ok})
	has(t, d)
	run(t, d, expect{sync("a"), none}, expect{crash(9, 9), ok}, expect{remove("b"), none}, expect{add("c", "123"), ok})
	has(t, d, api.Kept{Name: "c", Bytes: "123"})
}

// TestOrderOfErrors has of each change several that apply.
func TestOrderOfErrors(t *testing.T) {
	d := disk.New(2)
	d.Break(0)
	run(t, d, expect{cut("none", -1), none}, expect{sync("none"), none}, expect{remove("none"), none}, expect{add("a", "xyz"), full}, expect{replace("a", "xyz"), full})
	if d.Down() {
		t.Fatal("what errs does not break")
	}
	d.Crash(nil)
	run(t, d, expect{add("a", "x"), ok}, expect{breaks(0), ok}, expect{cut("a", 2), arg}, expect{cut("a", -1), arg}, expect{cut("none", 0), none}, expect{cut("a", 1), down}, expect{cut("a", 2), down}, expect{cut("none", 2), down}, expect{replace("a", "xyz"), down}, expect{add("a", "xyz"), down})
}

func TestNothingIsShared(t *testing.T) {
	d, other := disk.New(9), disk.New(9)
	run(t, d, expect{add("a", "abc"), ok}, expect{add("b", "x"), ok}, expect{breaks(3), ok})
	has(t, other)
	run(t, other, expect{add("a", "xyz"), ok}, expect{breaks(0), ok}, expect{sync("a"), down})
	d.Names()[0] = "x"
	d.Kept()[0] = api.Kept{Name: "x", Bytes: "y", Synced: 7}
	has(t, d, api.Kept{Name: "a", Bytes: "abc"}, api.Kept{Name: "b", Bytes: "x"})
	b, _ := d.Read("a")
	kept := d.Kept()
	run(t, d, expect{cut("a", 1), ok}, expect{add("a", "XY"), ok}) // where the cut bytes stood
	if b != "abc" || kept[0].Bytes != "abc" {
		t.Errorf("what was read: %q, %q", b, kept[0].Bytes)
	}
	keep := []int{2, 1}
	d.Crash(keep)
	keep[0] = 0
	has(t, d, api.Kept{Name: "a", Bytes: "aX", Synced: 2}, api.Kept{Name: "b", Bytes: "x", Synced: 1})
}

// TestNoDisk checks that nothing panics where there is no disk, and that a zero value is a disk without room.
func TestNoDisk(t *testing.T) {
	var d *disk.Disk
	for _, c := range []call{add("a", "b"), sync("a"), cut("a", 0), replace("a", "b"), remove("a")} {
		run(t, d, expect{c, down})
	}
	run(t, d, expect{breaks(0), ok}, expect{crash(1), ok}, expect{wipe(), ok})
	if b, err := d.Read("a"); b != "" || err != down || !d.Down() {
		t.Errorf("Read: %q, %d, %t", b, err, d.Down())
	}
	has(t, d)
	run(t, &disk.Disk{}, expect{wipe(), ok}, expect{crash(1), ok}, expect{remove("a"), none}, expect{add("a", "b"), full}, expect{add("a", ""), ok}, expect{breaks(0), ok}, expect{sync("a"), down})
}

// small are calls enough to come to every state of two small files.
func small() []call {
	return []call{add("a", ""), add("a", "x"), add("b", "yz"), sync("a"), sync("b"), cut("a", 0), cut("b", 1), replace("a", ""), replace("b", "123"), remove("a"), remove("b"), breaks(0), breaks(1), crash(), crash(1, 1), wipe()}
}

// TestShortScripts plays all scripts of a few calls.
func TestShortScripts(t *testing.T) {
	for _, room := range []int{0, 3, 4} {
		for first := range small() {
			playAll(t, room, 4, []call{small()[first]})
		}
	}
}

func playAll(t *testing.T, room, length int, l []call) {
	if len(l) == length {
		newBoth(t, room).all(l...)
		return
	}
	for _, c := range small() {
		playAll(t, room, length, append(slices.Clone(l), c))
	}
}

// TestLongScripts plays many calls, as a number says that is always the same.
func TestLongScripts(t *testing.T) {
	chance := rand.New(rand.NewSource(4))
	names := []string{"a", "b", "", "ab", "\xff"}
	for range 300 {
		x := newBoth(t, chance.Intn(20)-1)
		for range 100 {
			name, b, n := names[chance.Intn(len(names))], "abcdefgh"[:chance.Intn(9)], chance.Intn(9)-1
			x.do([]call{add(name, b), add(name, b), add(name, b), sync(name), sync(name), cut(name, n), replace(name, b), remove(name), breaks(n), crash(n, chance.Intn(5)-1, 2), crash(), wipe()}[min(chance.Intn(13), 11)])
		}
	}
}

// TestWhatWasSyncedStays checks that what a file had when it was synced is there behind each crash, till it is cut, replaced, removed or wiped.
func TestWhatWasSyncedStays(t *testing.T) {
	chance := rand.New(rand.NewSource(5))
	for range 300 {
		d := disk.New(60)
		synced, whole := "", ""
		for range 60 {
			b := strings.Repeat(string(rune('a'+chance.Intn(26))), chance.Intn(4))
			switch chance.Intn(5) {
			case 0:
				if d.Sync("f") == ok {
					synced = whole
				}
			case 1:
				d.Break(chance.Intn(4))
			case 2:
				d.Crash([]int{chance.Intn(6)})
				is, _ := d.Read("f")
				if !strings.HasPrefix(is, synced) || !strings.HasPrefix(whole, is) {
					t.Fatalf("%q is left of %q, synced %q", is, whole, synced)
				}
				synced, whole = is, is
			default:
				if d.Append("f", b); d.Used() > len(whole) {
					whole += b
				}
			}
		}
	}
}

// TestManyAppends checks that a long file is appended to in no time, and many files are.
func TestManyAppends(t *testing.T) {
	d := disk.New(1 << 22)
	for range 1 << 20 {
		d.Append("a", "wxyz")
	}
	if b, err := d.Read("a"); err != ok || b != strings.Repeat("wxyz", 1<<20) || d.Append("b", "x") != full {
		t.Errorf("%d bytes, %d", len(b), err)
	}
	d.Wipe()
	for i := range 1 << 16 {
		d.Append(strconv.Itoa(i), "x")
	}
	if d.Crash(slices.Repeat([]int{1}, 1<<15)); d.Used() != 1<<15 || len(d.Names()) != 1<<15 {
		t.Error(d.Used(), len(d.Names()))
	}
}
