package quorum_test

import (
	"fmt"
	"math"
	"math/rand"
	"slices"
	"testing"

	"corncrib/quorum"
)

// edges are integers, also those next to which something wraps round.
var edges = []int{math.MinInt, math.MinInt + 1, math.MinInt / 2, -7, -2, -1, 0, 1, 2, 3, 7, math.MaxInt/2 - 1, math.MaxInt / 2, math.MaxInt/2 + 1, math.MaxInt - 1, math.MaxInt}

// plainMajority counts up to what is more than half, of a small number.
func plainMajority(n int) int {
	most := 0
	for most+most <= max(n, 0) {
		most++
	}
	return most
}

// reach is how many of a list are x, or above.
func reach(l []int, x int) int {
	n := 0
	for _, y := range l {
		if y >= x {
			n++
		}
	}
	return n
}

// plainCommit tries each number of a list.
func plainCommit(l []int) int {
	best, found := 0, false
	for _, x := range l {
		if reach(l, x) >= plainMajority(len(l)) && (!found || x > best) {
			best, found = x, true
		}
	}
	return best
}

func plainHas(l []int, x int) bool {
	for _, y := range l {
		if y == x {
			return true
		}
	}
	return false
}

// plainFirst looks for each number among those that it has, without any sorting or map.
func plainFirst(l []int, n int) []int {
	var first []int
	for _, x := range l {
		if len(first) < n && !plainHas(first, x) {
			first = append(first, x)
		}
	}
	return first
}

// plainSet puts each number of some lists, if it is wanted, to its place in a list that rises.
func plainSet(wants func(x int) bool, lists ...[]int) []int {
	var set []int
	for _, l := range lists {
		for _, x := range l {
			if !wants(x) || plainHas(set, x) {
				continue
			}
			place := 0
			for place < len(set) && set[place] < x {
				place++
			}
			set = slices.Insert(set, place, x)
		}
	}
	return set
}

func anyNumber(int) bool { return true }

// same holds an answer against what it should be: a list without things is nil or empty.
func same(t *testing.T, what string, is, want []int) {
	t.Helper()
	if !slices.Equal(is, want) {
		t.Fatalf("%s: %d; should be %d", what, is, want)
	}
}

func sameBool(t *testing.T, what string, is, want bool) {
	t.Helper()
	if is != want {
		t.Fatalf("%s: %t; should be %t", what, is, want)
	}
}

func sameInt(t *testing.T, what string, is, want int) {
	t.Helper()
	if is != want {
		t.Fatalf("%s: %d; should be %d", what, is, want)
	}
}

// ofOne holds all calls that are given one list against the plain ones.
func ofOne(t *testing.T, l, numbers, counts []int) {
	t.Helper()
	sameInt(t, fmt.Sprint("Commit of ", l), quorum.Commit(l), plainCommit(l))
	same(t, fmt.Sprint("Set of ", l), quorum.Set(l), plainSet(anyNumber, l))
	for _, x := range numbers {
		sameBool(t, fmt.Sprint("Has of ", l, x), quorum.Has(l, x), plainHas(l, x))
	}
	for _, n := range counts {
		same(t, fmt.Sprint("First of ", l, n), quorum.First(l, n), plainFirst(l, n))
	}
}

// ofTwo holds all calls that are given two lists against the plain ones.
func ofTwo(t *testing.T, a, b []int) {
	t.Helper()
	inB := func(x int) bool { return plainHas(b, x) }
	notB := func(x int) bool { return !plainHas(b, x) }
	both := plainSet(inB, a)
	same(t, fmt.Sprint("Union of ", a, b), quorum.Union(a, b), plainSet(anyNumber, a, b))
	same(t, fmt.Sprint("Inter of ", a, b), quorum.Inter(a, b), both)
	same(t, fmt.Sprint("Minus of ", a, b), quorum.Minus(a, b), plainSet(notB, a))
	sameBool(t, fmt.Sprint("Meets of ", a, b), quorum.Meets(a, b), len(both) > 0)
}

// lists go through all lists of so many of these numbers.
func lists(numbers []int, n int, each func(l []int)) {
	l := make([]int, n)
	var from func(place int)
	from = func(place int) {
		if place == n {
			each(l)
			return
		}
		for _, x := range numbers {
			l[place] = x
			from(place + 1)
		}
	}
	from(0)
}

// upTo are all lists of at most so many of these numbers.
func upTo(numbers []int, most int) [][]int {
	var all [][]int
	for n := range most + 1 {
		lists(numbers, n, func(l []int) { all = append(all, slices.Clone(l)) })
	}
	return all
}

// TestShortLists plays all short lists of numbers that are far apart, near to each other, and at the edges.
func TestShortLists(t *testing.T) {
	for _, c := range []struct {
		numbers []int
		most    int
	}{{[]int{-1, 0, 1, 2}, 7}, {[]int{math.MinInt, math.MinInt + 1, -1, 0, 1, math.MaxInt - 1, math.MaxInt}, 5}, {[]int{5, 3}, 11}} {
		asked := slices.Concat(c.numbers, []int{-2, 3, 4, 6, 9})
		counts := []int{math.MinInt, -2, -1, 0, 1, 2, 3, 4, 5, 8, math.MaxInt}
		for _, l := range upTo(c.numbers, c.most) {
			ofOne(t, l, asked, counts)
		}
	}
}

// TestPairsOfShortLists plays all pairs of short lists.
func TestPairsOfShortLists(t *testing.T) {
	for _, c := range []struct {
		numbers []int
		most    int
	}{{[]int{-1, 0, 1}, 5}, {[]int{math.MinInt, -2, 0, 1, math.MaxInt}, 3}, {[]int{0, 1, 2, 3, 4, 5}, 3}} {
		all := upTo(c.numbers, c.most)
		for _, a := range all {
			for _, b := range all {
				ofTwo(t, a, b)
			}
		}
	}
}

// TestLongLists plays long ones, by a fixed beginning of chance: of many numbers that are alike, and of few.
func TestLongLists(t *testing.T) {
	for seed := range int64(300) {
		r := rand.New(rand.NewSource(seed))
		chance := func() []int {
			wide := 1 + r.Intn(150)
			var l []int
			for range r.Intn(120) {
				if r.Intn(8) == 0 {
					l = append(l, edges[r.Intn(len(edges))])
				} else {
					l = append(l, r.Intn(wide)-wide/3)
				}
			}
			return l
		}
		a, b := chance(), chance()
		ofOne(t, a, slices.Concat(b, edges), []int{-1, 0, 1, 7, len(a) / 2, len(a) - 1, len(a), len(a) + 1, math.MaxInt})
		ofTwo(t, a, b)
	}
}

// TestManyNumbers plays lists so long that what goes through one list for each number of the other does not end soon.
func TestManyNumbers(t *testing.T) {
	const n = 1 << 18
	var falling, rising, even, odd []int
	for i := range n {
		falling = append(falling, n-1-i, n-1-i)
		rising = append(rising, i)
		if i%2 == 0 {
			even = append(even, i)
		} else {
			odd = append(odd, i)
		}
	}
	same(t, "Set", quorum.Set(falling), rising)
	same(t, "Union", quorum.Union(odd, even), rising)
	same(t, "Inter", quorum.Inter(falling, odd), odd)
	same(t, "Minus", quorum.Minus(falling, odd), even)
	sameBool(t, "Meets", quorum.Meets(odd, even), false)
	sameInt(t, "First", len(quorum.First(falling, n)), n)
	sameInt(t, "Commit", quorum.Commit(falling), n/2-1)
}

// TestAnswersAreAlike asks often: an answer hangs on what was given, not on the order in which a map is gone through.
func TestAnswersAreAlike(t *testing.T) {
	var a, b []int
	for i := range 40 {
		a = append(a, i*7%40, i)
		b = append(b, 60-i*3%45)
	}
	for range 200 {
		ofOne(t, a, b, []int{0, 10, 40, 50})
		ofTwo(t, a, b)
		ofTwo(t, b, a)
	}
}
