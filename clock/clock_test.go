package clock_test

import (
	"math"
	"testing"

	"corncrib/clock"
)

func ticks(t *testing.T, c *clock.Clocks, i, want int) {
	t.Helper()
	if is := c.Tick(i); is != want {
		t.Fatalf("Tick(%d): %d; should be %d", i, is, want)
	}
}

func shows(t *testing.T, c *clock.Clocks, i, want int) {
	t.Helper()
	if is := c.Now(i); is != want {
		t.Fatalf("Now(%d): %d; should be %d", i, is, want)
	}
}

// showsNothing checks that there are no clocks, also when they are asked to tick.
func showsNothing(t *testing.T, c *clock.Clocks, l ...int) {
	t.Helper()
	for _, i := range l {
		shows(t, c, i, 0)
		ticks(t, c, i, 0)
		ticks(t, c, i, 0)
		shows(t, c, i, 0)
	}
}

func TestNewOfNone(t *testing.T) {
	for _, n := range []int{0, -1, -2, -7, math.MinInt} {
		showsNothing(t, clock.New(n), edges...)
		showsNothing(t, clock.New(n), n-1, n, n+1)
	}
}

func TestNewOfOne(t *testing.T) {
	c := clock.New(1)
	shows(t, c, 0, 0)
	ticks(t, c, 0, 1)
	ticks(t, c, 0, 2)
	shows(t, c, 0, 2)
	showsNothing(t, c, -1, 1, 2, math.MinInt, math.MaxInt)
	shows(t, c, 0, 2)
}

// TestNewOfMany checks the first clock, the last one, and what lies beside them: also of more clocks than there could be room for.
func TestNewOfMany(t *testing.T) {
	for _, n := range []int{2, 3, 15, 1 << 20, 1 << 40, math.MaxInt} {
		c := clock.New(n)
		shows(t, c, n-1, 0)
		ticks(t, c, n-1, 1)
		ticks(t, c, 0, 1)
		ticks(t, c, n-1, 2)
		ticks(t, c, n-1, 3)
		shows(t, c, 0, 1)
		shows(t, c, n-1, 3)
		showsNothing(t, c, -1, -n, math.MinInt)
		if n < math.MaxInt {
			showsNothing(t, c, n, n+1, math.MaxInt)
		}
		shows(t, c, 0, 1)
		shows(t, c, n-1, 3)
	}
}

// TestEachHasItsOwn checks that a clock's tick is no other one's, nor that of any clock of somebody else.
func TestEachHasItsOwn(t *testing.T) {
	a, b := clock.New(4), clock.New(4)
	for i := range 4 {
		for n := range i + 1 {
			ticks(t, a, i, n+1)
		}
	}
	for i := range 4 {
		shows(t, a, i, i+1)
		shows(t, b, i, 0)
		ticks(t, b, i, 1)
		shows(t, a, i, i+1)
	}
}

// TestNowDoesNothing checks that it may be asked as often as one likes.
func TestNowDoesNothing(t *testing.T) {
	c := clock.New(2)
	ticks(t, c, 1, 1)
	for range 5 {
		shows(t, c, 0, 0)
		shows(t, c, 1, 1)
	}
	ticks(t, c, 1, 2)
}

// TestNoClocks checks that neither a nil Clocks nor a zero value panics: they are as none.
func TestNoClocks(t *testing.T) {
	showsNothing(t, nil, edges...)
	showsNothing(t, &clock.Clocks{}, edges...)
}

func grants1(t *testing.T, l *clock.Leases, key, until, want int) {
	t.Helper()
	l.Grant(key, until)
	lasts(t, l, key, want)
}

// lasts checks that a lease lasts until then: by Until, and by Valid below, at and above it.
func lasts(t *testing.T, l *clock.Leases, key, end int) {
	t.Helper()
	if is := l.Until(key); is != end {
		t.Fatalf("Until(%d): %d; should be %d", key, is, end)
	}
	for _, now := range append([]int{end - 2, end - 1, end, end + 1}, edges...) {
		if is := l.Valid(key, now); is != (now < end) {
			t.Fatalf("until %d: Valid(%d, %d): %t", end, key, now, is)
		}
	}
}

// hasNone checks that there is no lease, at any moment.
func hasNone(t *testing.T, l *clock.Leases, keys ...int) {
	t.Helper()
	for _, key := range keys {
		if is := l.Until(key); is != 0 {
			t.Fatalf("Until(%d): %d", key, is)
		}
		for _, now := range edges {
			if l.Valid(key, now) {
				t.Fatalf("Valid(%d, %d)", key, now)
			}
		}
	}
}

func TestLeaseExample(t *testing.T) {
	var l clock.Leases
	l.Grant(5, 10)
	if !l.Valid(5, 9) || l.Valid(5, 10) {
		t.Fatalf("Valid(5, 9): %t, at 10: %t", l.Valid(5, 9), l.Valid(5, 10))
	}
}

func TestGrant(t *testing.T) {
	var l clock.Leases
	grants1(t, &l, 5, 10, 10)
	grants1(t, &l, 5, 10, 10)
	grants1(t, &l, 5, 9, 10)
	grants1(t, &l, 5, -3, 10)
	grants1(t, &l, 5, 0, 10)
	grants1(t, &l, 5, 11, 11)
	grants1(t, &l, 5, math.MinInt, 11)
	hasNone(t, &l, 4, 6, 10, 11, -5, 0)
	grants1(t, &l, 4, 3, 3)
	lasts(t, &l, 5, 11)
	l.Drop(4)
	hasNone(t, &l, 4)
	lasts(t, &l, 5, 11)
}

// TestEndsBelowNought checks that a first end stands as it is: what lasts to a moment below 0 does not last longer because there was none.
func TestEndsBelowNought(t *testing.T) {
	var l clock.Leases
	grants1(t, &l, 1, -7, -7)
	grants1(t, &l, 1, -9, -7)
	grants1(t, &l, 1, -6, -6)
	grants1(t, &l, 1, 0, 0)
	grants1(t, &l, -1, -1, -1)
	grants1(t, &l, 2, 0, 0)
	lasts(t, &l, 1, 0)
}

// TestLeaseAtNought checks that an end at 0 is not as none: it is valid below 0.
func TestLeaseAtNought(t *testing.T) {
	var l clock.Leases
	l.Grant(3, 0)
	if !l.Valid(3, -1) || l.Valid(3, 0) || l.Valid(3, 1) || l.Valid(4, -1) {
		t.Fatal("Valid, of an end at 0")
	}
	l.Drop(3)
	if l.Valid(3, -1) || l.Until(3) != 0 {
		t.Fatal("Valid, of none")
	}
}

// TestEndsAtTheEdges checks the least and the greatest integers, as keys and as ends.
func TestEndsAtTheEdges(t *testing.T) {
	for _, key := range edges {
		for _, end := range edges {
			var l clock.Leases
			l.Grant(key, end)
			if is := l.Until(key); is != end {
				t.Fatalf("Until(%d): %d; should be %d", key, is, end)
			}
			for _, now := range edges {
				if is := l.Valid(key, now); is != (now < end) {
					t.Fatalf("until %d: Valid(%d, %d): %t", end, key, now, is)
				}
			}
		}
	}
}

func TestDropALease(t *testing.T) {
	var l clock.Leases
	l.Drop(1)
	hasNone(t, &l, 1)
	grants1(t, &l, 1, 10, 10)
	grants1(t, &l, 2, 20, 20)
	l.Drop(3)
	l.Drop(-1)
	lasts(t, &l, 1, 10)
	lasts(t, &l, 2, 20)
	l.Drop(1)
	hasNone(t, &l, 1)
	lasts(t, &l, 2, 20)
	l.Drop(1)
	hasNone(t, &l, 1)
	grants1(t, &l, 1, 4, 4) // earlier than before it was dropped: nothing of that is known
	grants1(t, &l, 1, -4, 4)
	l.Drop(1)
	grants1(t, &l, 1, -4, -4)
	lasts(t, &l, 2, 20)
}

// TestValidDoesNothing checks that an end that is past stands: a lease that is not valid at one moment is at an earlier one.
func TestValidDoesNothing(t *testing.T) {
	var l clock.Leases
	l.Grant(1, 10)
	for range 3 {
		if l.Valid(1, 100) || !l.Valid(1, 9) || l.Until(1) != 10 {
			t.Fatal("an end that is past")
		}
	}
	grants1(t, &l, 1, 5, 10)
}

func TestLeasesKnowNothingOfOthers(t *testing.T) {
	var a, b clock.Leases
	a.Grant(1, 10)
	hasNone(t, &b, 1)
	b.Grant(1, 5)
	lasts(t, &a, 1, 10)
	b.Drop(1)
	lasts(t, &a, 1, 10)
}

// TestNoLeases checks that neither a zero value nor a nil Leases panics.
func TestNoLeases(t *testing.T) {
	for _, l := range []*clock.Leases{{}, nil} {
		hasNone(t, l, edges...)
		for _, key := range edges {
			l.Drop(key)
		}
		hasNone(t, l, edges...)
	}
	var none *clock.Leases
	none.Grant(1, 10)
	hasNone(t, none, 1)
}

// over checks Over right below, at and above the moment at which a wait is over.
func over(t *testing.T, w *clock.Waits, key, noted, wait int) {
	t.Helper()
	for _, c := range []struct {
		now  int
		want bool
	}{{noted + wait - 2, false}, {noted + wait - 1, false}, {noted + wait, true}, {noted + wait + 1, true}, {noted + wait + 1000, true}, {math.MaxInt, true}, {noted - 1, false}, {math.MinInt, false}} {
		if is := w.Over(key, c.now, wait); is != c.want {
			t.Fatalf("noted at %d: Over(%d, %d, %d): %t", noted, key, c.now, wait, is)
		}
	}
}

// neverOver checks that nothing is noted.
func neverOver(t *testing.T, w *clock.Waits, keys ...int) {
	t.Helper()
	for _, key := range keys {
		for _, now := range edges {
			for _, wait := range edges {
				if w.Over(key, now, wait) {
					t.Fatalf("Over(%d, %d, %d)", key, now, wait)
				}
			}
		}
	}
}

func TestWaitExample(t *testing.T) {
	var w clock.Waits
	w.Note(1, 7)
	w.Note(1, 9)
	if w.Over(1, 9, 3) || !w.Over(1, 10, 3) {
		t.Fatalf("Over(1, 9, 3): %t; at 10: %t", w.Over(1, 9, 3), w.Over(1, 10, 3))
	}
}

func TestNote(t *testing.T) {
	var w clock.Waits
	w.Note(1, 7)
	over(t, &w, 1, 7, 3)
	over(t, &w, 1, 7, 1)
	w.Note(1, 9)
	over(t, &w, 1, 7, 3)
	w.Note(1, 5)
	over(t, &w, 1, 7, 3)
	w.Note(1, 7)
	over(t, &w, 1, 7, 3)
	neverOver(t, &w, 0, 2, 7, -1)
	w.Note(2, 100)
	over(t, &w, 2, 100, 6)
	over(t, &w, 1, 7, 6)
}

// TestNoteNought checks that what is noted at 0, or below, is noted: the next one does not count.
func TestNoteNought(t *testing.T) {
	var w clock.Waits
	for key, noted := range []int{0, -1, -50} {
		w.Note(key, noted)
		over(t, &w, key, noted, 4)
		w.Note(key, noted+10)
		over(t, &w, key, noted, 4)
		w.Note(key, noted-10)
		over(t, &w, key, noted, 4)
	}
}

// TestWaitOfNone checks waits of 0 and below: they are over at once, but not of a now below what was noted.
func TestWaitOfNone(t *testing.T) {
	var w clock.Waits
	w.Note(1, 7)
	for _, wait := range []int{0, -1, -2, -7, -100, math.MinInt} {
		for now, want := range map[int]bool{7: true, 8: true, math.MaxInt: true, 6: false, 5: false, 0: false, -93: false, math.MinInt: false} {
			if is := w.Over(1, now, wait); is != want {
				t.Fatalf("Over(1, %d, %d): %t", now, wait, is)
			}
		}
		neverOver(t, &w, 2)
	}
}

// TestFarApart checks what would wrap round, were it reckoned with integers of 64 bits.
func TestFarApart(t *testing.T) {
	for _, c := range []struct {
		noted, now, wait int
		want             bool
	}{
		{math.MinInt, math.MaxInt, math.MaxInt, true},
		{math.MinInt, math.MaxInt, 1, true},
		{math.MinInt, math.MaxInt, 0, true},
		{math.MinInt, math.MaxInt, -1, true},
		{math.MinInt, math.MaxInt, math.MinInt, true},
		{math.MinInt, math.MinInt, math.MinInt, true},
		{math.MinInt, math.MinInt, 1, false},
		{math.MinInt, -1, math.MaxInt, true},
		{math.MinInt, -2, math.MaxInt, false},
		{math.MinInt, 0, math.MaxInt, true},
		{math.MinInt, 0, 1, true},
		{-1, math.MaxInt, math.MaxInt, true},
		{-1, math.MaxInt - 1, math.MaxInt, true},
		{-1, math.MaxInt - 2, math.MaxInt, false},
		{-1, math.MaxInt, 2, true},
		{0, math.MaxInt, math.MaxInt, true},
		{0, math.MaxInt - 1, math.MaxInt, false},
		{1, math.MaxInt, math.MaxInt, false},
		{2, 1, math.MaxInt, false},
		{math.MaxInt, math.MaxInt, 0, true},
		{math.MaxInt, math.MaxInt, 1, false},
		{math.MaxInt, math.MaxInt, math.MaxInt, false},
		{math.MaxInt, math.MinInt, 0, false},
		{math.MaxInt, math.MinInt, 1, false},
		{math.MaxInt, math.MinInt, math.MinInt, false},
		{math.MaxInt, math.MaxInt - 1, math.MinInt, false},
		{1, math.MinInt, math.MaxInt, false},
		{math.MaxInt - 1, math.MaxInt, 1, true},
		{math.MaxInt - 1, math.MaxInt, 2, false},
	} {
		var w clock.Waits
		w.Note(1, c.noted)
		if is := w.Over(1, c.now, c.wait); is != c.want {
			t.Errorf("noted at %d: Over(1, %d, %d): %t", c.noted, c.now, c.wait, is)
		}
	}
}

// TestAllEdges holds Over against integers without bounds, at all edges.
func TestAllEdges(t *testing.T) {
	for _, key := range edges {
		for _, noted := range edges {
			waitScript(t, []waitCall{{key: key, now: noted}}, []int{key, key ^ 1}, edges, edges)
		}
	}
}

func TestDropAWait(t *testing.T) {
	var w clock.Waits
	w.Drop(1)
	neverOver(t, &w, 1)
	w.Note(1, 7)
	w.Note(2, 8)
	w.Drop(3)
	w.Drop(-1)
	over(t, &w, 1, 7, 3)
	w.Drop(1)
	neverOver(t, &w, 1)
	over(t, &w, 2, 8, 3)
	w.Drop(1)
	neverOver(t, &w, 1)
	w.Note(1, 20) // anew: nothing of what was noted ahead is known
	over(t, &w, 1, 20, 3)
	w.Drop(1)
	w.Note(1, 3)
	over(t, &w, 1, 3, 3)
	over(t, &w, 2, 8, 3)
}

// TestOverDoesNothing checks that a wait that is over stands: nothing else is noted for it, and it is not over at an earlier moment.
func TestOverDoesNothing(t *testing.T) {
	var w clock.Waits
	w.Note(1, 7)
	for range 3 {
		over(t, &w, 1, 7, 3)
		w.Note(1, 50)
	}
}

func TestWaitsKnowNothingOfOthers(t *testing.T) {
	var a, b clock.Waits
	a.Note(1, 7)
	neverOver(t, &b, 1)
	b.Note(1, 20)
	over(t, &a, 1, 7, 3)
	over(t, &b, 1, 20, 3)
	b.Drop(1)
	over(t, &a, 1, 7, 3)
}

// TestNoWaits checks that neither a zero value nor a nil Waits panics.
func TestNoWaits(t *testing.T) {
	for _, w := range []*clock.Waits{{}, nil} {
		neverOver(t, w, edges...)
		for _, key := range edges {
			w.Drop(key)
		}
		neverOver(t, w, edges...)
	}
	var none *clock.Waits
	none.Note(1, 10)
	neverOver(t, none, 1)
}
