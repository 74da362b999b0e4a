package clock_test

import (
	"fmt"
	"math"
	"math/big"
	"math/rand"
	"testing"

	"corncrib/clock"
)

// plainDrift is Drift by the words of the document: of few masters and servers.
func plainDrift(l []int, masters, servers, wait, lease int) bool {
	if wait <= 1 {
		return lease <= 0 || servers <= 0 || !masterTicks(l, masters)
	}
	for m := range max(masters, 0) {
		ticks := placesOf(l, m)
		for first := 0; first+wait <= len(ticks); first++ {
			between := l[ticks[first]+1 : ticks[first+wait-1]]
			for s := range max(servers, 0) {
				if len(placesOf(between, masters+s)) < lease {
					return false
				}
			}
		}
	}
	return true
}

func masterTicks(l []int, masters int) bool {
	for _, i := range l {
		if i >= 0 && i < masters {
			return true
		}
	}
	return false
}

func placesOf(l []int, node int) []int {
	var places []int
	for place, i := range l {
		if i == node {
			places = append(places, place)
		}
	}
	return places
}

// scripts go through all lists of so many ticks of these nodes.
func scripts(nodes []int, n int, each func(l []int)) {
	l := make([]int, n)
	var from func(place int)
	from = func(place int) {
		if place == n {
			each(l)
			return
		}
		for _, node := range nodes {
			l[place] = node
			from(place + 1)
		}
	}
	from(0)
}

// drifts holds one call of Drift against what it should be, and tells that.
func drifts(t *testing.T, l []int, masters, servers, wait, lease int) bool {
	want := plainDrift(l, masters, servers, wait, lease)
	if is := clock.Drift(l, masters, servers, wait, lease); is != want {
		t.Fatalf("Drift(%d, %d masters, %d servers, wait %d, lease %d): %t", l, masters, servers, wait, lease, is)
	}
	return want
}

// TestDriftScripts plays all short scripts of ticks, of nodes that there are and that there are not, with all small numbers.
func TestDriftScripts(t *testing.T) {
	for n := range 7 {
		t.Run(fmt.Sprint(n), func(t *testing.T) {
			t.Parallel()
			scripts([]int{-1, 0, 1, 2, 3}, n, func(l []int) {
				for masters := -1; masters < 4; masters++ {
					for servers := -1; servers < 4; servers++ {
						for wait := -1; wait < 4; wait++ {
							for lease := -1; lease < 3; lease++ {
								drifts(t, l, masters, servers, wait, lease)
							}
						}
					}
				}
			})
		})
	}
}

// TestDriftOfFew plays longer ones, of a master or two, and a server or two.
func TestDriftOfFew(t *testing.T) {
	for _, c := range []struct{ masters, servers, most int }{{1, 1, 13}, {1, 2, 9}, {2, 1, 9}, {2, 2, 7}} {
		t.Run(fmt.Sprint(c.masters, c.servers), func(t *testing.T) {
			t.Parallel()
			var nodes []int
			for i := range c.masters + c.servers {
				nodes = append(nodes, i)
			}
			for n := range c.most + 1 {
				scripts(nodes, n, func(l []int) {
					for wait := 1; wait < 6; wait++ {
						for lease := range 5 {
							drifts(t, l, c.masters, c.servers, wait, lease)
						}
					}
				})
			}
		})
	}
}

// TestLongDrift plays long ones, by a fixed beginning of chance: some masters' and servers' clocks are faster than others.
func TestLongDrift(t *testing.T) {
	held := 0
	for seed := range int64(400) {
		r := rand.New(rand.NewSource(seed))
		masters, servers := r.Intn(4), r.Intn(4)
		var nodes []int
		for i := -1; i < masters+servers+2; i++ {
			for range 1 + r.Intn(3) {
				nodes = append(nodes, i)
			}
		}
		var l []int
		for range r.Intn(300) {
			l = append(l, nodes[r.Intn(len(nodes))])
		}
		for wait := range 40 {
			for lease := range 8 {
				holds := drifts(t, l, masters, servers, wait, lease)
				if holds && wait > 1 && lease > 0 && masters > 0 && servers > 0 && len(placesOf(l, 0)) >= wait {
					held++
				}
			}
		}
	}
	if held < 1000 {
		t.Errorf("too few that hold: %d", held)
	}
}

// edges are integers, also those next to which something wraps round.
var edges = []int{math.MinInt, math.MinInt + 1, math.MinInt / 2, -3, -1, 0, 1, 2, 3, math.MaxInt / 2, math.MaxInt - 1, math.MaxInt}

// grants are what was granted for a key since it was last dropped.
type grants map[int][]int

func (g grants) until(key int) int {
	l := g[key]
	if len(l) == 0 {
		return 0
	}
	end := l[0]
	for _, until := range l {
		if until > end {
			end = until
		}
	}
	return end
}

func (g grants) valid(key, now int) bool {
	for _, until := range g[key] {
		if now < until {
			return true
		}
	}
	return false
}

// leaseCall is a Grant, or a Drop.
type leaseCall struct {
	key, until int
	drop       bool
}

// leaseScript plays calls, and holds what is asked behind each of them against what it should be.
func leaseScript(t *testing.T, script []leaseCall, keys, nows []int) {
	var l clock.Leases
	g := grants{}
	for i, c := range script {
		if c.drop {
			l.Drop(c.key)
			delete(g, c.key)
		} else {
			l.Grant(c.key, c.until)
			g[c.key] = append(g[c.key], c.until)
		}
		for _, key := range keys {
			if is, want := l.Until(key), g.until(key); is != want {
				t.Fatalf("%v: Until(%d): %d; should be %d", script[:i+1], key, is, want)
			}
			for _, now := range nows {
				if is, want := l.Valid(key, now), g.valid(key, now); is != want {
					t.Fatalf("%v: Valid(%d, %d): %t; should be %t", script[:i+1], key, now, is, want)
				}
			}
		}
	}
}

// TestLeaseScripts plays all scripts of four calls of two keys.
func TestLeaseScripts(t *testing.T) {
	var calls []leaseCall
	for _, key := range []int{0, 1} {
		calls = append(calls, leaseCall{key: key, drop: true})
		for _, until := range []int{-4, 0, 5, 7} {
			calls = append(calls, leaseCall{key: key, until: until})
		}
	}
	var places []int
	for place := range calls {
		places = append(places, place)
	}
	scripts(places, 4, func(l []int) {
		var script []leaseCall
		for _, place := range l {
			script = append(script, calls[place])
		}
		leaseScript(t, script, []int{0, 1, 2}, []int{-5, -4, -3, -1, 0, 1, 4, 5, 6, 7, 8})
	})
}

// TestLongLeaseScripts plays long ones with keys, ends and moments at the edges.
func TestLongLeaseScripts(t *testing.T) {
	for seed := range int64(200) {
		r := rand.New(rand.NewSource(seed))
		var script []leaseCall
		for range 60 {
			script = append(script, leaseCall{edges[r.Intn(len(edges))], edges[r.Intn(len(edges))], r.Intn(4) == 0})
		}
		leaseScript(t, script, edges, edges)
	}
}

// notes are what was noted for a key since it was last dropped.
type notes map[int][]int

// over tells it by integers without bounds.
func (n notes) over(key, now, wait int) bool {
	l := n[key]
	if len(l) == 0 || now < l[0] {
		return false
	}
	apart := new(big.Int).Sub(big.NewInt(int64(now)), big.NewInt(int64(l[0])))
	return apart.Cmp(big.NewInt(int64(wait))) >= 0
}

// waitCall is a Note, or a Drop.
type waitCall struct {
	key, now int
	drop     bool
}

// waitScript plays calls, and holds what is asked behind each of them against what it should be.
func waitScript(t *testing.T, script []waitCall, keys, nows, waits []int) {
	var w clock.Waits
	n := notes{}
	for i, c := range script {
		if c.drop {
			w.Drop(c.key)
			delete(n, c.key)
		} else {
			w.Note(c.key, c.now)
			n[c.key] = append(n[c.key], c.now)
		}
		for _, key := range keys {
			for _, now := range nows {
				for _, wait := range waits {
					if is, want := w.Over(key, now, wait), n.over(key, now, wait); is != want {
						t.Fatalf("%v: Over(%d, %d, %d): %t; should be %t", script[:i+1], key, now, wait, is, want)
					}
				}
			}
		}
	}
}

// TestWaitScripts plays all scripts of four calls of two keys.
func TestWaitScripts(t *testing.T) {
	var calls []waitCall
	for _, key := range []int{0, 1} {
		calls = append(calls, waitCall{key: key, drop: true})
		for _, now := range []int{-2, 0, 3} {
			calls = append(calls, waitCall{key: key, now: now})
		}
	}
	var places []int
	for place := range calls {
		places = append(places, place)
	}
	scripts(places, 4, func(l []int) {
		var script []waitCall
		for _, place := range l {
			script = append(script, calls[place])
		}
		waitScript(t, script, []int{0, 1, 2}, []int{-3, -2, -1, 0, 1, 2, 3, 4}, []int{-2, -1, 0, 1, 2, 5})
	})
}

// TestLongWaitScripts plays long ones with keys, moments and waits at the edges.
func TestLongWaitScripts(t *testing.T) {
	for seed := range int64(40) {
		r := rand.New(rand.NewSource(seed))
		var script []waitCall
		for range 60 {
			script = append(script, waitCall{edges[r.Intn(len(edges))], edges[r.Intn(len(edges))], r.Intn(3) == 0})
		}
		waitScript(t, script, edges, edges, edges)
	}
}

// TestClockScripts plays long scripts of ticks, and holds each clock against how often it ticked.
func TestClockScripts(t *testing.T) {
	for seed := range int64(200) {
		r := rand.New(rand.NewSource(seed))
		n := r.Intn(9) - 1
		c := clock.New(n)
		ticked := map[int]int{}
		for range 100 {
			i := r.Intn(12) - 3
			if i >= 0 && i < n {
				ticked[i]++
			}
			if is := c.Tick(i); is != ticked[i] {
				t.Fatalf("of %d clocks: Tick(%d): %d; should be %d", n, i, is, ticked[i])
			}
			for i := -4; i < 12; i++ {
				if is := c.Now(i); is != ticked[i] {
					t.Fatalf("of %d clocks: Now(%d): %d; should be %d", n, i, is, ticked[i])
				}
			}
		}
	}
}
