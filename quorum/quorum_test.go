package quorum_test

import (
	"math"
	"math/big"
	"slices"
	"testing"

	"corncrib/quorum"
)

func TestMajorityExamples(t *testing.T) {
	for _, c := range [][2]int{{0, 1}, {1, 1}, {2, 2}, {3, 2}, {5, 3}} {
		sameInt(t, "Majority", quorum.Majority(c[0]), c[1])
	}
}

// TestMajorityBelowNought checks that what is below 0 counts as 0.
func TestMajorityBelowNought(t *testing.T) {
	for _, n := range []int{0, -1, -2, -3, -7, -100, math.MinInt / 2, math.MinInt + 1, math.MinInt} {
		sameInt(t, "Majority", quorum.Majority(n), 1)
	}
}

func TestMajorityOfSmallNumbers(t *testing.T) {
	for n := -300; n < 300; n++ {
		sameInt(t, "Majority", quorum.Majority(n), plainMajority(n))
	}
}

// TestMajorityAtTheEdges checks by integers without bounds that it is more than half, and that one less is not.
func TestMajorityAtTheEdges(t *testing.T) {
	twice := func(n int) *big.Int { return new(big.Int).Mul(big.NewInt(int64(n)), big.NewInt(2)) }
	for _, edge := range edges {
		for _, n := range []int{edge, edge ^ 1} {
			all := big.NewInt(int64(max(n, 0)))
			most := quorum.Majority(n)
			if twice(most).Cmp(all) <= 0 || twice(most-1).Cmp(all) > 0 {
				t.Errorf("Majority(%d): %d", n, most)
			}
		}
	}
	sameInt(t, "Majority of the greatest", quorum.Majority(math.MaxInt), math.MaxInt/2+1)
	sameInt(t, "Majority of one less", quorum.Majority(math.MaxInt-1), math.MaxInt/2+1)
}

func TestCommitExamples(t *testing.T) {
	sameInt(t, "Commit", quorum.Commit([]int{5, 3, 9}), 5)
	sameInt(t, "Commit", quorum.Commit([]int{4, 4}), 4)
	sameInt(t, "Commit", quorum.Commit([]int{1, 2, 3, 4}), 2)
	sameInt(t, "Commit", quorum.Commit([]int{-1}), -1)
}

func TestCommitOfNone(t *testing.T) {
	for _, l := range [][]int{nil, {}, make([]int, 0, 5)} {
		sameInt(t, "Commit of none", quorum.Commit(l), 0)
	}
}

func TestCommitOfOne(t *testing.T) {
	for _, x := range edges {
		sameInt(t, "Commit of one", quorum.Commit([]int{x}), x)
	}
}

// TestCommitOfAlike checks that numbers that are alike count each.
func TestCommitOfAlike(t *testing.T) {
	for _, x := range edges {
		for n := 1; n < 9; n++ {
			sameInt(t, "Commit of alike", quorum.Commit(slices.Repeat([]int{x}, n)), x)
		}
	}
	for _, c := range []struct {
		l    []int
		want int
	}{
		{[]int{7, 7, 1}, 7}, {[]int{1, 7, 1}, 1}, {[]int{7, 7, 1, 1}, 1}, {[]int{7, 7, 7, 1}, 7},
		{[]int{9, 9, 3, 3, 3}, 3}, {[]int{9, 9, 9, 3, 3}, 9}, {[]int{0, 0, 0, 4, 8, 8}, 0}, {[]int{0, 0, 4, 4, 8, 8}, 4},
	} {
		sameInt(t, "Commit", quorum.Commit(c.l), c.want)
	}
}

// TestCommitBelowNought checks that 0 is only told where it stands, or where nothing does.
func TestCommitBelowNought(t *testing.T) {
	for _, c := range []struct {
		l    []int
		want int
	}{
		{[]int{-1, -2}, -2}, {[]int{-5, -3, -9}, -5}, {[]int{-1, 0}, -1}, {[]int{-1, 0, 1}, 0}, {[]int{-4, -4, 9}, -4},
		{[]int{math.MinInt, -1, -2}, -2}, {[]int{math.MinInt, math.MinInt, math.MaxInt}, math.MinInt},
		{[]int{math.MinInt, math.MaxInt}, math.MinInt}, {[]int{math.MaxInt, math.MinInt, math.MaxInt}, math.MaxInt},
	} {
		sameInt(t, "Commit", quorum.Commit(c.l), c.want)
	}
}

// TestCommitOfCounts checks even and odd counts, of numbers that rise and that fall.
func TestCommitOfCounts(t *testing.T) {
	for n := 1; n < 40; n++ {
		var l []int
		for i := range n {
			l = append(l, i+1)
		}
		want := n - plainMajority(n) + 1
		sameInt(t, "Commit of what rises", quorum.Commit(l), want)
		slices.Reverse(l)
		sameInt(t, "Commit of what falls", quorum.Commit(l), want)
	}
}

// parts are all parts of 0 to n-1, from the least one on.
func parts(n int) [][]int {
	var all [][]int
	for bits := range 1 << n {
		var part []int
		for x := range n {
			if bits>>x&1 == 1 {
				part = append(part, x)
			}
		}
		all = append(all, part)
	}
	return all
}

// TestMajoritiesMeet checks that two majorities of one set meet, and that of the next lesser parts two may not.
func TestMajoritiesMeet(t *testing.T) {
	for n := range 8 {
		apart := false
		for _, a := range parts(n) {
			for _, b := range parts(n) {
				least := min(len(a), len(b))
				if least >= quorum.Majority(n) && (!quorum.Meets(a, b) || len(quorum.Inter(a, b)) == 0) {
					t.Fatalf("of %d: %d and %d are majorities and do not meet", n, a, b)
				}
				apart = apart || least >= quorum.Majority(n)-1 && !quorum.Meets(a, b)
			}
		}
		if !apart {
			t.Errorf("of %d: a majority is less than %d", n, quorum.Majority(n))
		}
	}
}

// TestCommitIsReached checks that what Commit tells is one of them that a majority reaches, and that nothing above it is reached by one, be it one of them or not.
func TestCommitIsReached(t *testing.T) {
	for _, numbers := range [][]int{{-3, -1, 0, 1, 4}, {math.MinInt, -2, 0, 7, math.MaxInt}} {
		for _, l := range upTo(numbers, 6) {
			if len(l) == 0 {
				continue
			}
			is := quorum.Commit(l)
			if !quorum.Has(l, is) || reach(l, is) < quorum.Majority(len(l)) {
				t.Fatalf("Commit of %d: %d, that no majority reaches", l, is)
			}
			if is == math.MaxInt {
				continue
			}
			for above := is + 1; above < is+9; above++ {
				if above > is && reach(l, above) >= quorum.Majority(len(l)) {
					t.Fatalf("Commit of %d: %d; a majority reaches %d", l, is, above)
				}
			}
			for _, above := range l {
				if above > is && reach(l, above) >= quorum.Majority(len(l)) {
					t.Fatalf("Commit of %d: %d; a majority reaches %d", l, is, above)
				}
			}
		}
	}
}
