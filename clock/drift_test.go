package clock_test

import (
	"fmt"
	"math"
	"math/rand"
	"slices"
	"testing"
	"time"

	"corncrib/clock"
)

// drift checks one call of Drift; and that it leaves the ticks alone.
func drift(t *testing.T, want bool, l []int, masters, servers, wait, lease int) {
	t.Helper()
	handed := slices.Clone(l)
	if is := clock.Drift(handed, masters, servers, wait, lease); is != want {
		t.Errorf("Drift(%d, %d masters, %d servers, wait %d, lease %d): %t", l, masters, servers, wait, lease, is)
	}
	if !slices.Equal(handed, l) {
		t.Fatalf("Drift wrote over the ticks: %d; were %d", handed, l)
	}
}

func TestDriftExamples(t *testing.T) {
	drift(t, true, []int{0, 1, 0, 0}, 1, 1, 3, 1)
	drift(t, false, []int{0, 0, 0, 1}, 1, 1, 3, 1)
	drift(t, true, []int{0, 0}, 1, 1, 3, 1)
}

// TestNoTicks checks that without any nothing can fall behind.
func TestNoTicks(t *testing.T) {
	for _, l := range [][]int{nil, {}} {
		for _, masters := range edges {
			for _, servers := range edges {
				for _, wait := range edges {
					for _, lease := range edges {
						drift(t, true, l, masters, servers, wait, lease)
					}
				}
			}
		}
	}
}

// TestNoMasters checks that without a master nobody waits; and of a number below 0 the servers begin at the node 0 or nowhere: it is all the same.
func TestNoMasters(t *testing.T) {
	for _, masters := range []int{0, -1, -2, -5, math.MinInt, math.MinInt + 1} {
		for _, l := range [][]int{{0, 0, 0}, {-1, -1, -1}, {0, 1, 2, -1, 0, 1}, {masters, masters, masters - 1}} {
			for _, servers := range edges {
				for _, wait := range edges {
					drift(t, true, l, masters, servers, wait, 1)
					drift(t, true, l, masters, servers, wait, math.MaxInt)
				}
			}
		}
	}
}

// TestNoServers checks that without a server nobody has a lease.
func TestNoServers(t *testing.T) {
	for _, servers := range []int{0, -1, -2, -5, math.MinInt} {
		for _, l := range [][]int{{0}, {0, 0, 0}, {0, 1, 2, 0, 0}, {0, math.MaxInt, 0}} {
			for _, wait := range edges {
				for _, lease := range edges {
					drift(t, true, l, 1, servers, wait, lease)
					drift(t, true, l, math.MaxInt, servers, wait, lease)
				}
			}
		}
	}
}

// TestNeither checks that the ticks of nodes that are neither masters nor servers do not count: neither for a wait nor for a lease, nor do they stand between.
func TestNeither(t *testing.T) {
	for _, other := range []int{3, 4, -1, -2, math.MaxInt, math.MinInt} {
		drift(t, true, []int{other, other, other, other}, 1, 2, 2, 1)
		drift(t, false, []int{0, other, 0}, 1, 2, 2, 1)
		drift(t, false, []int{0, other, 1, other, other, 0}, 1, 2, 2, 1)
		drift(t, true, []int{0, other, 1, 2, other, 0}, 1, 2, 2, 1)
		drift(t, true, []int{other, 0, other, 2, other, 1, other, 0, other}, 1, 2, 2, 1)
		drift(t, false, []int{0, 1, other, 2, 0}, 1, 2, 2, 2)
		drift(t, true, []int{0, other, other, 0}, 1, 2, 3, 1)
		drift(t, true, []int{other}, 1, 2, 0, 1) // no master has a tick
		drift(t, true, []int{other, 1, 2}, 1, 2, 1, 1)
		drift(t, true, []int{other, 1, 2}, 1, 2, -1, 1)
	}
}

// TestShortWaits checks a wait of 1, of 0 and below: there is nothing between, so that one tick of a master is too much.
func TestShortWaits(t *testing.T) {
	for _, wait := range []int{1, 0, -1, -2, -100, math.MinInt} {
		for _, lease := range []int{1, 2, math.MaxInt} {
			drift(t, false, []int{0}, 1, 1, wait, lease)
			drift(t, false, []int{1, 0, 1}, 1, 1, wait, lease)
			drift(t, false, []int{1, 1, 1, 1, 1, 0}, 1, 1, wait, lease)
			drift(t, false, []int{0, 1, 1, 1}, 1, 1, wait, lease)
			drift(t, false, []int{1, 2, 2}, 2, 1, wait, lease)
			drift(t, true, []int{1, 1, 1}, 1, 1, wait, lease)
			drift(t, true, []int{2, -1, 3}, 1, 1, wait, lease)
			drift(t, true, []int{0, 1}, 0, 2, wait, lease)
			drift(t, true, []int{0, 1}, 2, 0, wait, lease)
		}
		for _, lease := range []int{0, -1, math.MinInt} {
			drift(t, true, []int{0, 0, 0}, 1, 1, wait, lease)
		}
	}
}

func TestWaitOfTwo(t *testing.T) {
	drift(t, true, []int{0}, 1, 1, 2, 1)
	drift(t, false, []int{0, 0}, 1, 1, 2, 1)
	drift(t, true, []int{0, 1, 0}, 1, 1, 2, 1)
	drift(t, true, []int{0, 1, 0, 1, 0}, 1, 1, 2, 1)
	drift(t, false, []int{0, 1, 0, 0}, 1, 1, 2, 1)
	drift(t, false, []int{0, 0, 1, 0}, 1, 1, 2, 1)
	drift(t, false, []int{1, 0, 0, 1}, 1, 1, 2, 1)
	drift(t, true, []int{0, 0}, 1, 1, 2, 0)
}

// TestSoManyTicks checks leases of 0 and below, and great ones: exactly so many ticks as it asks, and one fewer.
func TestSoManyTicks(t *testing.T) {
	for lease := range 30 {
		for wait := 2; wait < 7; wait++ {
			ticks := slices.Repeat([]int{1}, lease)
			l := slices.Concat([]int{1, 1, 0}, ticks, slices.Repeat([]int{0}, wait-1), []int{1, 1})
			drift(t, true, l, 1, 1, wait, lease)
			drift(t, false, l, 1, 1, wait, lease+1)
			l = slices.Concat([]int{1, 1}, slices.Repeat([]int{0}, wait-1), ticks, []int{0, 1, 1})
			drift(t, true, l, 1, 1, wait, lease)
			drift(t, false, l, 1, 1, wait, lease+1)
			drift(t, false, l, 1, 1, wait, math.MaxInt)
			drift(t, true, l, 1, 1, wait, math.MinInt)
			drift(t, true, l, 1, 1, wait+1, math.MaxInt) // the master has not so many ticks
		}
	}
	for _, lease := range []int{0, -1, -2, math.MinInt} {
		drift(t, true, []int{0, 0, 0}, 1, 1, 2, lease)
		drift(t, true, []int{0, 0, 0}, 1, 1, 3, lease)
		drift(t, true, []int{0, 0, 0}, math.MaxInt, math.MaxInt, 2, lease)
	}
}

// TestOnlyBetween checks that a server's ticks ahead of the first tick and behind the last one do not count.
func TestOnlyBetween(t *testing.T) {
	drift(t, false, []int{1, 1, 1, 0, 0, 0, 1, 1, 1}, 1, 1, 3, 1)
	drift(t, false, []int{1, 1, 1, 0, 1, 0, 0, 1, 1, 1}, 1, 1, 3, 2)
	drift(t, true, []int{0, 1, 0, 0, 1, 0, 0, 1, 0}, 1, 1, 3, 1)
	drift(t, false, []int{0, 1, 0, 0, 0, 1, 0}, 1, 1, 3, 1) // the second to the fourth
}

// TestOneFallsBehind checks that one server alone that falls behind is enough, whichever it is, behind whichever master.
func TestOneFallsBehind(t *testing.T) {
	const masters, servers = 3, 4
	around := []int{0, 1, 2, 3, 4, 5, 6} // each ticks once: all keep up with all
	for m := range masters {
		for s := range servers {
			l := slices.Repeat(around, 3)
			l = append(l, m) // its last tick but one
			for other := range servers {
				if other != s {
					l = append(l, masters+other, masters+other)
				}
			}
			drift(t, true, append(slices.Clone(l), masters+s, m), masters, servers, 2, 1)
			drift(t, false, append(slices.Clone(l), m, masters+s), masters, servers, 2, 1)
			drift(t, false, slices.Concat(l, []int{m}, around, around), masters, servers, 2, 1)
			drift(t, true, append(l, m), masters, s, 2, 1) // were it not one of them, nor any behind it
			drift(t, m > 0, append(l, m), 1, s+1, 2, 1)    // the nodes 1 and 2 are servers then
		}
	}
}

// TestMastersAlone checks that each master is held against the servers by its own ticks alone.
func TestMastersAlone(t *testing.T) {
	drift(t, true, []int{0, 1, 2, 0, 1}, 2, 1, 2, 1)
	drift(t, true, []int{0, 1, 0, 1, 0, 1}, 2, 1, 4, 1) // neither has so many
	drift(t, false, []int{0, 1, 0, 1, 0, 1, 0}, 2, 1, 4, 1)
	drift(t, false, []int{0, 2, 1, 0, 1}, 2, 1, 2, 1) // the first one has it, the second one not
	drift(t, false, []int{0, 1, 0, 2, 1}, 2, 1, 2, 1) // the other way round
	drift(t, true, []int{0, 1, 1, 1, 2, 0}, 1, 1, 2, 1)
}

// TestGreatNumbers checks numbers of masters and servers beyond what there are ticks of, and beyond what a sum could hold.
func TestGreatNumbers(t *testing.T) {
	const most = math.MaxInt
	drift(t, false, []int{0, 1, 0}, 1, 2, 2, 1) // the second server has no ticks
	drift(t, true, []int{0, 1, 0}, 1, 2, 3, 1)
	drift(t, true, []int{0, 1, 2, 0}, 1, 2, 2, 1)
	for _, servers := range []int{3, 1 << 20, 1 << 40, most - 1, most} {
		drift(t, false, []int{0, 1, 2, 0}, 1, servers, 2, 1)
		drift(t, true, []int{0, 1, 2, 0}, 1, servers, 3, 1)
		drift(t, true, []int{0, 1, 2, 0}, 1, servers, 2, 0)
	}
	for _, masters := range []int{3, 1 << 20, 1 << 40, most - 1, most} {
		drift(t, true, []int{0, 1, 2, 0}, masters, 0, 2, 1)
		drift(t, false, []int{0, 1, 2, 0}, masters, 1, 2, 1)
		drift(t, true, []int{0, 1, 2, 0}, masters, 1, 3, 1)
		drift(t, false, []int{0, 1, 2, 0}, masters, most, 2, 1)
		drift(t, false, []int{masters - 1, masters - 1}, masters, 1, 2, 1)
		drift(t, true, []int{0, masters, 0}, masters, 1, 2, 1)
		drift(t, false, []int{0, masters, 0}, masters, 2, 2, 1)
		drift(t, false, []int{0, masters, 0}, masters, most, 2, 1)
	}
	drift(t, true, []int{0, most, most - 1, 0}, most-1, 2, 2, 1)
	drift(t, false, []int{0, most, 0}, most-1, 2, 2, 1)
	drift(t, false, []int{0, most - 1, 0}, most-1, 2, 2, 1)
	drift(t, false, []int{0, math.MinInt, 0}, most, 1, 2, 1) // what would be the sum, wrapped round
	drift(t, false, []int{0, math.MinInt, most, 0}, most, 2, 2, 1)
	drift(t, true, []int{math.MinInt, math.MinInt, most, most}, most, 1, 2, 1)
	drift(t, true, []int{0, 0, 0}, 1, 1, most, most)
	drift(t, false, []int{0, 1, 0}, 1, 1, 2, most)
	drift(t, false, []int{0, 1, 0}, 1, 1, 2, most-1)
	drift(t, false, []int{0, 1, 0}, 1, 1, math.MinInt, most)
}

// TestLongDriftEnds checks that many ticks of many masters and servers are gone through soon.
func TestLongDriftEnds(t *testing.T) {
	const masters, servers = 50000, 50000
	var l []int
	for range 4 {
		for i := range masters + servers {
			l = append(l, i)
		}
	}
	begin := time.Now()
	drift(t, true, l, masters, servers, 2, 1)
	drift(t, true, l, masters, servers, 4, 3)
	drift(t, false, l, masters, servers, 4, 4)
	one := make([]int, 1<<20)
	for i := range one {
		one[i] = i % 2
	}
	drift(t, true, one, 1, 1, 1<<18, 1<<18-1)
	drift(t, false, one, 1, 1, 1<<18, 1<<18)
	if took := time.Since(begin); took > 20*time.Second {
		t.Errorf("it took %v", took)
	}
}

// shown plays ticks, and tells what all clocks show at each moment: ahead of the first tick, and behind each one.
func shown(l []int, nodes int) [][]int {
	c := clock.New(nodes)
	var all [][]int
	for place := 0; ; place++ {
		var now []int
		for i := range nodes {
			now = append(now, c.Now(i))
		}
		all = append(all, now)
		if place == len(l) {
			return all
		}
		c.Tick(l[place])
	}
}

// lemma plays the words of the lemma of leases: a server takes a lease at each moment, a master notes its clock at each one from then on. How often a wait was over; and what is wrong, if a lease is valid then.
func lemma(shown [][]int, server, master, wait, lease int) (over int, wrong string) {
	for taken := range shown {
		var leases clock.Leases
		leases.Grant(9, shown[taken][server]+lease)
		for noted := taken; noted < len(shown); noted++ {
			var waits clock.Waits
			waits.Note(5, shown[noted][master])
			for now := noted; now < len(shown); now++ {
				if !waits.Over(5, shown[now][master], wait) {
					continue
				}
				over++
				if leases.Valid(9, shown[now][server]) {
					return over, fmt.Sprintf("server %d, taken behind %d ticks, master %d, noted behind %d: valid behind %d", server, taken, master, noted, now)
				}
			}
		}
	}
	return over, ""
}

// lemmaOfAll plays it of all servers and masters; Drift must hold.
func lemmaOfAll(t *testing.T, l []int, masters, servers, wait, lease int) (over int) {
	all := shown(l, masters+servers)
	for m := range masters {
		for s := range servers {
			n, wrong := lemma(all, masters+s, m, wait, lease)
			if wrong != "" {
				t.Fatalf("%d, %d masters, %d servers, wait %d, lease %d: %s", l, masters, servers, wait, lease, wrong)
			}
			over += n
		}
	}
	return over
}

// TestLemmaOfLeases plays all short scripts of ticks of which Drift holds. (Of a wait of 0 and below those in which a master ticks: of the other ones Drift holds by its own words, though such a wait is over at once.)
func TestLemmaOfLeases(t *testing.T) {
	for _, c := range []struct{ masters, servers, most int }{{1, 1, 10}, {1, 2, 7}, {2, 1, 7}, {2, 2, 6}} {
		t.Run(fmt.Sprint(c.masters, c.servers), func(t *testing.T) {
			t.Parallel()
			over := 0
			var nodes []int
			for i := range c.masters + c.servers {
				nodes = append(nodes, i)
			}
			for n := range c.most + 1 {
				scripts(nodes, n, func(l []int) {
					for wait := -1; wait < 5; wait++ {
						for lease := -1; lease < 4; lease++ {
							if clock.Drift(l, c.masters, c.servers, wait, lease) && (wait > 0 || masterTicks(l, c.masters)) {
								over += lemmaOfAll(t, l, c.masters, c.servers, wait, lease)
							}
						}
					}
				})
			}
			if over < 1000 {
				t.Errorf("waits that were over: %d", over)
			}
		})
	}
}

// TestLemmaOfLeasesAtLength plays long scripts, by a fixed beginning of chance, in which servers are faster than masters.
func TestLemmaOfLeasesAtLength(t *testing.T) {
	held, over := 0, 0
	for seed := range int64(60) {
		r := rand.New(rand.NewSource(seed))
		masters, servers := 1+r.Intn(3), 1+r.Intn(3)
		var l []int
		for range 60 {
			i := r.Intn(masters + servers)
			if i < masters && r.Intn(3) > 0 {
				i = masters + r.Intn(servers)
			}
			l = append(l, i)
		}
		for wait := 2; wait < 8; wait++ {
			for lease := 1; lease < 6; lease++ {
				if clock.Drift(l, masters, servers, wait, lease) {
					held++
					over += lemmaOfAll(t, l, masters, servers, wait, lease)
				}
			}
		}
	}
	if held < 500 || over < 10000 {
		t.Errorf("too few: Drift held of %d, %d waits were over", held, over)
	}
}

// TestLemmaNeedsDrift checks that the lemma asks for no more than it must: whenever Drift does not hold, some lease is valid when a wait is over.
func TestLemmaNeedsDrift(t *testing.T) {
	for n := range 10 {
		scripts([]int{0, 1}, n, func(l []int) {
			for wait := 1; wait < 5; wait++ {
				for lease := 1; lease < 4; lease++ {
					if clock.Drift(l, 1, 1, wait, lease) {
						continue
					}
					if _, wrong := lemma(shown(l, 2), 1, 0, wait, lease); wrong == "" {
						t.Fatalf("%d, wait %d, lease %d: Drift does not hold, but each lease is over", l, wait, lease)
					}
				}
			}
		})
	}
}
