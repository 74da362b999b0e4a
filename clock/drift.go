package clock

// Drift tells whether clocks ticked as they should.
func Drift(l []int, masters, servers, wait, lease int) bool {
	if masters <= 0 || servers <= 0 || lease <= 0 {
		return true
	}
	// No wait at all asks for what a wait of one tick asks for: nothing ticks within it.
	wait = max(wait, 1)
	left, never := places(l), len(l)
	enough := allHad(left, masters, servers, lease, never)
	for _, i := range l {
		ticks := left[i]
		left[i] = ticks[1:]
		switch {
		case i < 0:
		case i < masters:
			if end := nth(ticks, wait, never); end < never && end <= enough {
				return false
			}
		case isServer(i, masters, servers):
			// What the servers need ends nowhere earlier for a later beginning, so that the last end of all is found on the way.
			enough = max(enough, nth(ticks[1:], lease, never))
		}
	}
	return true
}

// places are, of each node, the places of its ticks.
func places(l []int) map[int][]int {
	of := map[int][]int{}
	for place, i := range l {
		of[i] = append(of[i], place)
	}
	return of
}

// allHad is the place at which, from the start on, each server has had so many ticks; or never.
func allHad(ticks map[int][]int, masters, servers, lease, never int) int {
	enough, ticking := 0, 0
	for i, of := range ticks {
		if isServer(i, masters, servers) {
			enough = max(enough, nth(of, lease, never))
			ticking++
		}
	}
	if ticking < servers {
		return never
	}
	return enough
}

// isServer tells whether a node is a server. No sum is taken, which might wrap round.
func isServer(i, masters, servers int) bool {
	return i >= masters && i-masters < servers
}

// nth is the place of the n-th tick, counted from 1 on; or never.
func nth(ticks []int, n, never int) int {
	if n > len(ticks) {
		return never
	}
	return ticks[n-1]
}
