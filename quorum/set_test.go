package quorum_test

import (
	"fmt"
	"math"
	"slices"
	"testing"

	"corncrib/quorum"
)

func TestSetExamples(t *testing.T) {
	same(t, "Set", quorum.Set([]int{3, 1, 3}), []int{1, 3})
	same(t, "Minus", quorum.Minus([]int{1, 2, 3}, []int{2}), []int{1, 3})
	same(t, "First", quorum.First([]int{3, 1, 3, 2}, 2), []int{3, 1})
}

// nones are lists without numbers.
func nones() [][]int { return [][]int{nil, {}, make([]int, 0, 4)} }

func TestOfNone(t *testing.T) {
	l := []int{4, -1, 4, 0}
	for _, none := range nones() {
		same(t, "Set of none", quorum.Set(none), nil)
		for _, x := range edges {
			sameBool(t, "Has of none", quorum.Has(none, x), false)
			same(t, "First of none", quorum.First(none, x), nil)
		}
		for _, other := range nones() {
			same(t, "Union of none", quorum.Union(none, other), nil)
			same(t, "Inter of none", quorum.Inter(none, other), nil)
			same(t, "Minus of none", quorum.Minus(none, other), nil)
			sameBool(t, "Meets of none", quorum.Meets(none, other), false)
		}
		same(t, "Union", quorum.Union(none, l), []int{-1, 0, 4})
		same(t, "Union", quorum.Union(l, none), []int{-1, 0, 4})
		same(t, "Inter", quorum.Inter(none, l), nil)
		same(t, "Inter", quorum.Inter(l, none), nil)
		same(t, "Minus", quorum.Minus(none, l), nil)
		same(t, "Minus", quorum.Minus(l, none), []int{-1, 0, 4})
		sameBool(t, "Meets", quorum.Meets(none, l), false)
		sameBool(t, "Meets", quorum.Meets(l, none), false)
	}
}

func TestSet(t *testing.T) {
	for _, c := range []struct{ l, want []int }{
		{[]int{0}, []int{0}}, {[]int{0, 0}, []int{0}}, {[]int{1, 2, 3}, []int{1, 2, 3}}, {[]int{3, 2, 1}, []int{1, 2, 3}},
		{[]int{2, 3, 1, 3, 2, 1}, []int{1, 2, 3}}, {[]int{-1, 1, -1, 0}, []int{-1, 0, 1}},
		{[]int{10, 9, 100, 1}, []int{1, 9, 10, 100}}, {[]int{-10, -9, -100}, []int{-100, -10, -9}},
		{[]int{math.MaxInt, math.MinInt, 0, math.MaxInt}, []int{math.MinInt, 0, math.MaxInt}},
		{[]int{math.MinInt + 1, math.MaxInt, math.MinInt, math.MaxInt - 1}, []int{math.MinInt, math.MinInt + 1, math.MaxInt - 1, math.MaxInt}},
		{[]int{5, 5, 5, 5, 5}, []int{5}},
	} {
		same(t, fmt.Sprint("Set of ", c.l), quorum.Set(c.l), c.want)
		same(t, fmt.Sprint("Set of the set of ", c.l), quorum.Set(quorum.Set(c.l)), c.want)
	}
}

func TestHas(t *testing.T) {
	l := []int{7, -3, 7, 0, math.MaxInt, math.MinInt}
	for _, x := range l {
		sameBool(t, fmt.Sprint("Has ", x), quorum.Has(l, x), true)
	}
	for _, x := range []int{-7, -4, -2, -1, 1, 3, 6, 8, math.MaxInt - 1, math.MinInt + 1} {
		sameBool(t, fmt.Sprint("Has ", x), quorum.Has(l, x), false)
	}
	sameBool(t, "Has 0, which stands nowhere", quorum.Has([]int{1, 2}, 0), false)
	sameBool(t, "Has behind the end", quorum.Has(append(make([]int, 0, 9), 1, 2, 3)[:2], 3), false)
}

func TestTwoLists(t *testing.T) {
	for _, c := range []struct{ a, b, union, inter, minus []int }{
		{[]int{1, 2}, []int{2, 3}, []int{1, 2, 3}, []int{2}, []int{1}},
		{[]int{1, 2}, []int{3, 4}, []int{1, 2, 3, 4}, nil, []int{1, 2}},
		{[]int{3, 4}, []int{1, 2}, []int{1, 2, 3, 4}, nil, []int{3, 4}},
		{[]int{1, 2}, []int{2, 1}, []int{1, 2}, []int{1, 2}, nil},
		{[]int{1, 2}, []int{0, 1, 2, 3}, []int{0, 1, 2, 3}, []int{1, 2}, nil},
		{[]int{3, 2, 1, 0}, []int{2, 1}, []int{0, 1, 2, 3}, []int{1, 2}, []int{0, 3}},
		{[]int{9, 1, 9, 1, 5}, []int{5, 5, 5, 7, 7}, []int{1, 5, 7, 9}, []int{5}, []int{1, 9}},
		{[]int{4, 4, 4}, []int{4}, []int{4}, []int{4}, nil},
		{[]int{4}, []int{4, 4, 4, 4}, []int{4}, []int{4}, nil},
		{[]int{0}, []int{-1}, []int{-1, 0}, nil, []int{0}},
		{[]int{math.MaxInt, math.MinInt}, []int{math.MinInt, 0}, []int{math.MinInt, 0, math.MaxInt}, []int{math.MinInt}, []int{math.MaxInt}},
		{[]int{math.MaxInt}, []int{math.MinInt}, []int{math.MinInt, math.MaxInt}, nil, []int{math.MaxInt}},
		{[]int{1, math.MaxInt}, []int{math.MaxInt, -1}, []int{-1, 1, math.MaxInt}, []int{math.MaxInt}, []int{1}},
	} {
		what := fmt.Sprint(c.a, c.b)
		same(t, "Union of "+what, quorum.Union(c.a, c.b), c.union)
		same(t, "Union, the other way round, of "+what, quorum.Union(c.b, c.a), c.union)
		same(t, "Inter of "+what, quorum.Inter(c.a, c.b), c.inter)
		same(t, "Inter, the other way round, of "+what, quorum.Inter(c.b, c.a), c.inter)
		same(t, "Minus of "+what, quorum.Minus(c.a, c.b), c.minus)
		sameBool(t, "Meets of "+what, quorum.Meets(c.a, c.b), len(c.inter) > 0)
		sameBool(t, "Meets, the other way round, of "+what, quorum.Meets(c.b, c.a), len(c.inter) > 0)
	}
}

// TestOneListTwice hands the same list in as both.
func TestOneListTwice(t *testing.T) {
	l := []int{3, 1, 3, 2}
	same(t, "Union", quorum.Union(l, l), []int{1, 2, 3})
	same(t, "Inter", quorum.Inter(l, l), []int{1, 2, 3})
	same(t, "Minus", quorum.Minus(l, l), nil)
	sameBool(t, "Meets", quorum.Meets(l, l), true)
	same(t, "the list", l, []int{3, 1, 3, 2})
}

func TestFirst(t *testing.T) {
	l := []int{3, 1, 3, 3, 2, 1, -5, math.MaxInt, 0, math.MinInt, 2}
	all := []int{3, 1, 2, -5, math.MaxInt, 0, math.MinInt}
	for n, want := range map[int][]int{math.MinInt: nil, -100: nil, -1: nil, 0: nil, 1: all[:1], 2: all[:2], 3: all[:3], 6: all[:6], 7: all, 8: all, 10: all, 11: all, 12: all, 1 << 40: all, math.MaxInt: all} {
		same(t, fmt.Sprint("First of ", n), quorum.First(l, n), want)
	}
	same(t, "First of one", quorum.First([]int{0}, 1), []int{0})
	same(t, "First of alike", quorum.First([]int{0, 0, 0}, 3), []int{0})
	same(t, "First of those that follow alike ones", quorum.First([]int{7, 7, 7, 8}, 2), []int{7, 8})
	same(t, "First of what falls", quorum.First([]int{9, 8, 7}, 3), []int{9, 8, 7})
}

// taken are all calls that hand out a list, of two lists, or of the first one.
func taken(a, b []int) map[string][]int {
	return map[string][]int{
		"Set": quorum.Set(a), "Union": quorum.Union(a, b), "Inter": quorum.Inter(a, b), "Minus": quorum.Minus(a, b),
		"Minus the other way round": quorum.Minus(b, a), "First": quorum.First(a, 100), "First of some": quorum.First(a, 2),
	}
}

// asked are all calls that hand out none.
func asked(a, b []int) {
	quorum.Commit(a)
	quorum.Has(a, 1)
	quorum.Meets(a, b)
	quorum.Meets(b, a)
}

// overlapping are lists that lie within one: next to each other, one above the other, with room behind them, or without.
func overlapping(all []int) [][2][]int {
	n := len(all)
	return [][2][]int{
		{all, all}, {all[:n/2], all[n/2:]}, {all[n/2:], all[:n/2]}, {all[:n-1], all[1:]}, {all[1 : n-1], all[:n-2]},
		{all[2:4], all}, {all[:0], all[1:3]}, {all[:3:3], all[3:]}, {all[:2], all[4:5]},
	}
}

// TestNothingHandedInIsChanged checks it also of what lies behind the ends of lists that are not sorted, and of those that are.
func TestNothingHandedInIsChanged(t *testing.T) {
	for _, first := range [][]int{{9, 3, 7, 3, 1, 9, 5, 2, 8}, {1, 2, 3, 4, 5, 6}, {6, 5, 4, 3, 2, 1}, {4, 4, 4, 4, 4, 4}, {1, 1, 2, 2, 3, 3, 0}} {
		all := slices.Clone(first)
		for _, c := range overlapping(all) {
			asked(c[0], c[1])
			same(t, "what was handed in", all, first)
			for name, l := range taken(c[0], c[1]) {
				same(t, "what was handed in to "+name, all, first)
				writeOver(l)
				same(t, "what was handed in to "+name+", whose answer is written over", all, first)
			}
		}
	}
}

// writeOver writes a list over, and what there is behind its end.
func writeOver(l []int) {
	l = l[:cap(l)]
	for i := range l {
		l[i] = -77
	}
}

// TestAnswersAreTheTakers writes over what was handed in, and over other answers: one answer stands.
func TestAnswersAreTheTakers(t *testing.T) {
	first := []int{9, 3, 7, 3, 1, 9, 5, 2, 8}
	for k, c := range overlapping(slices.Clone(first)) {
		want := taken(c[0], c[1])
		for name := range want {
			all := slices.Clone(first)
			lists := overlapping(all)[k]
			is, other := taken(lists[0], lists[1]), taken(lists[0], lists[1])
			for also, l := range is {
				if also != name {
					writeOver(l)
				}
			}
			for _, l := range other {
				writeOver(l)
			}
			writeOver(all)
			same(t, name, is[name], want[name])
		}
	}
}
