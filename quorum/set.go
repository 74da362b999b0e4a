package quorum

import "slices"

// Set is numbers that rise, each once.
func Set(l []int) []int {
	return rising(l, func(int) bool { return true })
}

// Has tells whether a number is one of some.
func Has(l []int, x int) bool { return slices.Contains(l, x) }

// Union is what is in one or the other.
func Union(a, b []int) []int { return Set(slices.Concat(a, b)) }

// Inter is what is in both.
func Inter(a, b []int) []int { return rising(a, among(b)) }

// Minus is what is in the one alone.
func Minus(a, b []int) []int {
	in := among(b)
	return rising(a, func(x int) bool { return !in(x) })
}

// Meets tells whether something is in both.
func Meets(a, b []int) bool { return slices.ContainsFunc(a, among(b)) }

// First is the first ones, each once.
func First(l []int, n int) []int {
	var first []int
	often := map[int]int{}
	for _, x := range l {
		if len(first) >= n {
			break
		}
		often[x]++
		if often[x] == 1 {
			first = append(first, x)
		}
	}
	return first
}

// rising are the numbers of a list that a call wants, as a set.
func rising(l []int, wants func(x int) bool) []int {
	var set []int
	for x := range met(l) {
		if wants(x) {
			set = append(set, x)
		}
	}
	slices.Sort(set) // a map tells its keys in no order
	return set
}

// among asks of a number whether it is one of a list, without going through the list each time.
func among(l []int) func(x int) bool {
	in := met(l)
	return func(x int) bool { return in[x] > 0 }
}

// met is how often each number of a list is met.
func met(l []int) map[int]int {
	often := map[int]int{}
	for _, x := range l {
		often[x]++
	}
	return often
}
