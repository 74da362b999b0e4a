package bag_test

import (
	"fmt"
	"math"
	"slices"
	"strings"
	"testing"
	"unsafe"

	"corncrib/api"
	"corncrib/bag"
)

// named is a message that is known by its text.
func named(name string, to int) api.Msg {
	return api.Msg{Kind: api.MsgWrite, From: 9, To: to, Data: name}
}

// of are messages to the node 1, known by their texts.
func of(names ...string) []api.Msg {
	var l []api.Msg
	for _, name := range names {
		l = append(l, named(name, 1))
	}
	return l
}

// with is a bag with room for so many, that has these.
func with(t *testing.T, most int, names ...string) *bag.Bag {
	t.Helper()
	b := bag.New(most)
	sends(t, b, len(names), of(names...)...)
	has(t, b, names...)
	return b
}

// has checks which messages a bag has, by their texts: by Len, At and All.
func has(t *testing.T, b *bag.Bag, names ...string) {
	t.Helper()
	if is := b.Len(); is != len(names) {
		t.Fatalf("Len: %d; should be %d", is, len(names))
	}
	for i, name := range names {
		if m, there := b.At(i); m.Data != name || !there {
			t.Fatalf("At(%d): %q, %t; should be %q", i, m.Data, there, name)
		}
	}
	var all []string
	for i, m := range b.All() {
		if i != len(all) {
			t.Fatalf("All: the place %d; should be %d", i, len(all))
		}
		all = append(all, m.Data)
	}
	if !slices.Equal(all, names) {
		t.Fatalf("All: %q; should be %q", all, names)
	}
}

func sends(t *testing.T, b *bag.Bag, want int, l ...api.Msg) {
	t.Helper()
	if is := b.Send(l...); is != want {
		t.Fatalf("Send of %d: %d; should be %d", len(l), is, want)
	}
}

func takes(t *testing.T, b *bag.Bag, i int, name string) {
	t.Helper()
	if m, there := b.Take(i); m.Data != name || !there {
		t.Fatalf("Take(%d): %q, %t; should be %q", i, m.Data, there, name)
	}
}

func doubles(t *testing.T, b *bag.Bag, i int, want bool) {
	t.Helper()
	if is := b.Double(i); is != want {
		t.Fatalf("Double(%d): %t; should be %t", i, is, want)
	}
}

func loses(t *testing.T, b *bag.Bag, to, want int) {
	t.Helper()
	if is := b.Lose(to); is != want {
		t.Fatalf("Lose(%d): %d; should be %d", to, is, want)
	}
}

// isNone checks that an answer is noughts and false.
func isNone(t *testing.T, what string, m api.Msg, there bool) {
	t.Helper()
	if there || words(m) != words(api.Msg{}) {
		t.Fatalf("%s: %s, %t", what, words(m), there)
	}
}

func TestExample(t *testing.T) {
	b := bag.New(3)
	sends(t, b, 2, of("a", "b")...)
	doubles(t, b, 0, true)
	has(t, b, "a", "b", "a")
	sends(t, b, 0, of("c")...)
	takes(t, b, 1, "b")
	has(t, b, "a", "a")
	sends(t, b, 1, of("c", "d")...)
	has(t, b, "a", "a", "c")
	m, there := b.Take(5)
	isNone(t, "Take(5)", m, there)
	has(t, b, "a", "a", "c")
}

func TestNewOfNone(t *testing.T) {
	for _, most := range []int{0, -1, -2, -512, math.MinInt} {
		b := bag.New(most)
		has(t, b)
		sends(t, b, 0)
		sends(t, b, 0, of("a")...)
		sends(t, b, 0, of("a", "b", "c")...)
		has(t, b)
		doubles(t, b, 0, false)
		loses(t, b, 1, 0)
		m, there := b.Take(0)
		isNone(t, "Take", m, there)
		has(t, b)
	}
}

func TestNewOfOne(t *testing.T) {
	b := bag.New(1)
	sends(t, b, 1, of("a", "b")...)
	has(t, b, "a")
	sends(t, b, 0, of("c")...)
	doubles(t, b, 0, false)
	has(t, b, "a")
	takes(t, b, 0, "a")
	has(t, b)
	sends(t, b, 1, of("d")...)
	has(t, b, "d")
	loses(t, b, 1, 1)
	sends(t, b, 1, of("e")...)
	has(t, b, "e")
}

// TestNewOfMany checks that room is not laid out ahead, and that it is there.
func TestNewOfMany(t *testing.T) {
	for _, most := range []int{api.MaxBag, 1 << 40, math.MaxInt} {
		b := bag.New(most)
		var names []string
		for i := range 600 {
			names = append(names, fmt.Sprint(i))
		}
		want := min(600, most)
		sends(t, b, want, of(names...)...)
		has(t, b, names[:want]...)
		doubles(t, b, 0, most > 600)
	}
}

func TestSend(t *testing.T) {
	for _, x := range []struct {
		ahead, sent, want int
	}{{0, 0, 0}, {0, 1, 1}, {0, 3, 3}, {0, 4, 4}, {0, 5, 4}, {0, 100, 4}, {3, 0, 0}, {3, 1, 1}, {3, 2, 1}, {3, 9, 1}, {4, 0, 0}, {4, 1, 0}, {4, 2, 0}} {
		letters := strings.Split("abcdefghijklmnopqrstuvwxyz", "")
		ahead := letters[:x.ahead]
		var behind []string
		for i := range x.sent {
			behind = append(behind, fmt.Sprint(i))
		}
		b := with(t, 4, ahead...)
		sends(t, b, x.want, of(behind...)...)
		has(t, b, slices.Concat(ahead, behind[:x.want])...)
	}
}

func TestAtPlaces(t *testing.T) {
	b := with(t, 5, "a", "b", "c")
	for _, i := range []int{-1, -2, -3, math.MinInt, 3, 4, 5, 6, math.MaxInt} {
		m, there := b.At(i)
		isNone(t, fmt.Sprint("At ", i), m, there)
		m, there = b.Take(i)
		isNone(t, fmt.Sprint("Take ", i), m, there)
		doubles(t, b, i, false)
		has(t, b, "a", "b", "c")
	}
	for i, name := range []string{"a", "b", "c"} {
		if m, there := b.At(i); words(m) != words(named(name, 1)) || !there {
			t.Errorf("At(%d): %s, %t", i, words(m), there)
		}
	}
	has(t, b, "a", "b", "c")
}

// TestTakeMovesUp takes from the beginning, the midst, and the end.
func TestTakeMovesUp(t *testing.T) {
	names := []string{"a", "b", "c", "d", "e"}
	for i, name := range names {
		b := with(t, 5, names...)
		takes(t, b, i, name)
		left := slices.Delete(slices.Clone(names), i, i+1)
		has(t, b, left...)
		sends(t, b, 1, of("new", "lost")...)
		has(t, b, append(left, "new")...)
	}
	b := with(t, 5, names...)
	takes(t, b, 2, "c")
	takes(t, b, 2, "d")
	takes(t, b, 2, "e")
	m, there := b.Take(2)
	isNone(t, "Take", m, there)
	takes(t, b, 0, "a")
	takes(t, b, 0, "b")
	has(t, b)
}

// TestTakeOfAllOrders takes the messages in each order that there is.
func TestTakeOfAllOrders(t *testing.T) {
	var further func(names []string, places ...int)
	further = func(names []string, places ...int) {
		b := with(t, 4, "a", "b", "c", "d")
		for _, i := range places {
			b.Take(i)
		}
		has(t, b, names...)
		for i, name := range names {
			takes(t, b, i, name)
			further(slices.Delete(slices.Clone(names), i, i+1), append(slices.Clone(places), i)...)
			b = with(t, 4, "a", "b", "c", "d")
			for _, i := range places {
				b.Take(i)
			}
		}
	}
	further([]string{"a", "b", "c", "d"})
}

func TestDouble(t *testing.T) {
	for i, name := range []string{"a", "b", "c"} {
		b := with(t, 4, "a", "b", "c")
		doubles(t, b, i, true)
		has(t, b, "a", "b", "c", name)
		doubles(t, b, i, false)
		doubles(t, b, 3, false)
		has(t, b, "a", "b", "c", name)
		takes(t, b, i, name)
		doubles(t, b, 2, true) // the copy's own copy
		if m, there := b.At(3); words(m) != words(named(name, 1)) || !there {
			t.Errorf("At(3): %s, %t", words(m), there)
		}
	}
}

func TestAllOverNone(t *testing.T) {
	for range bag.New(3).All() {
		t.Error("All over no message")
	}
	b := with(t, 3, "a")
	takes(t, b, 0, "a")
	for range b.All() {
		t.Error("All over what was taken")
	}
}

// TestAllLeft leaves the loop behind each message: no other one is told then.
func TestAllLeft(t *testing.T) {
	names := []string{"a", "b", "c", "d"}
	b := with(t, 4, names...)
	for n := range len(names) {
		var l []string
		b.All()(func(i int, m api.Msg) bool {
			l = append(l, fmt.Sprint(i, m.Data))
			return i != n
		})
		var want []string
		for i, name := range names[:n+1] {
			want = append(want, fmt.Sprint(i, name))
		}
		if !slices.Equal(l, want) {
			t.Errorf("left behind %d: %q", n, l)
		}
	}
	has(t, b, names...)
}

// TestAllWithinAll goes through all for each of all, and leaves both at once.
func TestAllWithinAll(t *testing.T) {
	b := with(t, 3, "a", "b", "c")
	var l []string
outer:
	for _, m := range b.All() {
		for i, n := range b.All() {
			if m.Data == "c" {
				break outer
			}
			if i == 2 {
				continue outer
			}
			l = append(l, m.Data+n.Data)
		}
	}
	if want := []string{"aa", "ab", "ba", "bb"}; !slices.Equal(l, want) {
		t.Errorf("%q; should be %q", l, want)
	}
}

// TestAllTwice goes through the same answer twice: what was told first, and written over, is as it was.
func TestAllTwice(t *testing.T) {
	x := newBoth(t, 9)
	x.do(call{"send", 9})
	all := x.b.All()
	for range 2 {
		if is, want := firsts(all, 99), x.p.told(9); !slices.Equal(is, want) {
			t.Errorf("%q; should be %q", is, want)
		}
	}
}

// TestAllAndOtherCalls checks that an answer shares nothing with what is kept: it is as the bag was when All was called.
func TestAllAndOtherCalls(t *testing.T) {
	changes := []func(b *bag.Bag){
		func(b *bag.Bag) { b.Send(of("x")...) },
		func(b *bag.Bag) { b.Take(0) },
		func(b *bag.Bag) { b.Take(1); b.Send(of("y", "z")...) },
		func(b *bag.Bag) { b.Double(2) },
		func(b *bag.Bag) { b.Lose(1) },
		func(b *bag.Bag) { b.Lose(1); b.Send(of("w", "w", "w", "w", "w")...) },
	}
	for k, change := range changes {
		b := with(t, 5, "a", "b", "c")
		all := b.All()
		change(b)
		for range 2 {
			l := ""
			for i, m := range all {
				l += fmt.Sprint(i, m.Data)
				change(b)
			}
			if l != "0a1b2c" {
				t.Errorf("change %d: %q", k, l)
			}
		}
	}
}

func TestLose(t *testing.T) {
	lay := func(to ...int) (*bag.Bag, map[int][]string) {
		b := bag.New(9)
		names := map[int][]string{}
		for i, node := range to {
			name := fmt.Sprint(i)
			sends(t, b, 1, named(name, node))
			for _, other := range []int{-1, 0, 1, 2, 3, 9, math.MinInt, math.MaxInt} {
				if other != node {
					names[other] = append(names[other], name)
				}
			}
		}
		return b, names
	}
	for _, to := range [][]int{nil, {0}, {1}, {1, 1, 1}, {0, 1, 0, 1, 2}, {2, 2, 0}, {1, 0, 0}, {-1, 0, 1, -1}, {math.MaxInt, math.MinInt}} {
		for _, node := range []int{-1, 0, 1, 2, 3, 9, math.MinInt, math.MaxInt} {
			b, left := lay(to...)
			loses(t, b, node, len(to)-len(left[node]))
			has(t, b, left[node]...)
			loses(t, b, node, 0) // who it came from is no matter, be it the same node
			sends(t, b, 1, named("new", node))
			has(t, b, append(slices.Clone(left[node]), "new")...)
			loses(t, b, node, 1)
			has(t, b, left[node]...)
		}
	}
}

// TestLoseGivesRoom checks that what is lost takes up none.
func TestLoseGivesRoom(t *testing.T) {
	b := bag.New(4)
	sends(t, b, 4, named("a", 1), named("b", 2), named("c", 1), named("d", 2))
	loses(t, b, 2, 2)
	sends(t, b, 2, named("e", 3), named("f", 2), named("g", 1))
	has(t, b, "a", "c", "e", "f")
	doubles(t, b, 0, false)
	loses(t, b, 1, 2)
	doubles(t, b, 1, true)
	has(t, b, "e", "f", "f")
	loses(t, b, 2, 2)
	loses(t, b, 3, 1)
	has(t, b)
}

// kinds are messages of each kind, and of none, with what it says and with all that a message may say.
func kinds() []api.Msg {
	var l []api.Msg
	for kind := range 256 {
		l = append(l,
			api.Msg{Kind: api.MsgKind(kind)},
			api.Msg{Kind: api.MsgKind(kind), From: 1, To: 2, Term: 3, A: 4, B: 5, C: 6, OK: true, List: []int{7, 8, 9}, Entries: []api.Entry{{Term: 10, Data: "eleven"}, {}, {Term: 12}}, Data: "thirteen"},
			api.Msg{Kind: api.MsgKind(kind), From: math.MinInt, To: math.MaxInt, Term: -1, A: math.MaxInt, B: math.MinInt, C: -1, List: []int{math.MinInt, 0, math.MaxInt, 0}, Entries: []api.Entry{{Term: math.MinInt, Data: "\xff\x00"}}, Data: "\x00\xfe\u00e9" + strings.Repeat("x", 300)},
			api.Msg{Kind: api.MsgKind(kind), List: []int{}, Entries: []api.Entry{}})
	}
	return l
}

func TestEachKindComesOutAsItWentIn(t *testing.T) {
	b := bag.New(4)
	for _, m := range kinds() {
		want := words(m)
		sends(t, b, 1, m)
		if words(m) != want {
			t.Fatalf("Send wrote over it: %s; was %s", words(m), want)
		}
		doubles(t, b, 0, true)
		for i := range 2 {
			if is, there := b.At(i); words(is) != want || !there {
				t.Fatalf("At(%d): %s, %t; should be %s", i, words(is), there, want)
			}
		}
		for i, is := range b.All() {
			if words(is) != want {
				t.Fatalf("All, %d: %s; should be %s", i, words(is), want)
			}
		}
		for range 2 {
			if is, there := b.Take(0); words(is) != want || !there {
				t.Fatalf("Take: %s, %t; should be %s", words(is), there, want)
			}
		}
	}
	has(t, b)
}

// full is a message with lists, and room behind them.
func full() api.Msg {
	list := append(make([]int, 0, 8), 1, 2, 3)
	entries := append(make([]api.Entry, 0, 8), api.Entry{Term: 4, Data: "five"}, api.Entry{Term: 6, Data: "seven"})
	return api.Msg{Kind: api.MsgAppend, From: 1, To: 2, List: list, Entries: entries, Data: "eight"}
}

// TestNothingIsShared writes over the lists of each message that was handed in or out, behind each call.
func TestNothingIsShared(t *testing.T) {
	want := words(full())
	same := func(what string, b *bag.Bag, n int) {
		t.Helper()
		for i := range n {
			if m, there := b.At(i); words(m) != want || !there {
				t.Fatalf("%s: At(%d): %s, %t; should be %s", what, i, words(m), there, want)
			}
		}
	}
	b := bag.New(4)
	one := full()
	l := []api.Msg{one, one} // both have the same lists
	sends(t, b, 2, l...)
	spoil(one)
	clear(l)
	same("handed in", b, 2)
	m, _ := b.At(0)
	spoil(m)
	same("told by At", b, 2)
	for i, m := range b.All() {
		spoil(m)
		same(fmt.Sprint("told by All ", i), b, 2)
	}
	doubles(t, b, 0, true)
	same("doubled", b, 3)
	m, _ = b.At(2)
	spoil(m)
	same("the copy, told by At", b, 3)
	m, _ = b.Take(0)
	spoil(m)
	same("taken", b, 2)
	doubles(t, b, 1, true)
	m, _ = b.Take(2)
	spoil(m)
	same("the copy, taken", b, 2)
	m, _ = b.At(0)
	sends(t, b, 1, m)
	spoil(m)
	same("handed out, and in again", b, 3)
}

// TestAnswersShareNothing writes over one answer, and looks at the others.
func TestAnswersShareNothing(t *testing.T) {
	want := words(full())
	b := bag.New(2)
	sends(t, b, 1, full())
	doubles(t, b, 0, true)
	answers := func() []api.Msg {
		at, _ := b.At(0)
		again, _ := b.At(0)
		copied, _ := b.At(1)
		l := []api.Msg{at, again, copied}
		for range 2 {
			for _, m := range b.All() {
				l = append(l, m)
			}
		}
		return l
	}
	for k := range 7 {
		l := answers()
		spoil(l[k])
		for i, m := range l {
			if i != k && words(m) != want {
				t.Errorf("%d was written over, and %d is %s", k, i, words(m))
			}
		}
	}
	all := b.All()
	taken, _ := b.Take(0)
	spoil(taken)
	for i, m := range all {
		if words(m) != want {
			t.Errorf("taken, and All tells %d: %s", i, words(m))
		}
	}
}

// TestTextsAreNotKept writes over the bytes of the texts that were handed in.
func TestTextsAreNotKept(t *testing.T) {
	buffer := []byte("abcdefgh")
	text := func(from, to int) string { return unsafe.String(&buffer[from], to-from) }
	b := bag.New(3)
	sends(t, b, 1, api.Msg{Data: text(0, 3), Entries: []api.Entry{{Data: text(3, 5)}, {Data: text(5, 8)}}})
	want := words(api.Msg{Data: "abc", Entries: []api.Entry{{Data: "de"}, {Data: "fgh"}}})
	doubles(t, b, 0, true)
	copy(buffer, "????????")
	for i := range 2 {
		if m, there := b.At(i); words(m) != want || !there {
			t.Errorf("At(%d): %s, %t; should be %s", i, words(m), there, want)
		}
	}
}

func TestBagsKnowNothingOfEachOther(t *testing.T) {
	a, b := with(t, 3, "a"), with(t, 3, "b", "c")
	m, _ := b.Take(0)
	sends(t, a, 1, m)
	doubles(t, a, 1, true)
	loses(t, b, 1, 1)
	has(t, a, "a", "b", "b")
	has(t, b)
}

// TestNoBag checks that no call of a nil or a zero one panics: there is no room in it.
func TestNoBag(t *testing.T) {
	for _, b := range []*bag.Bag{nil, {}} {
		for range 2 {
			has(t, b)
			sends(t, b, 0)
			sends(t, b, 0, of("a", "b")...)
			for _, i := range []int{math.MinInt, -1, 0, 1, math.MaxInt} {
				m, there := b.At(i)
				isNone(t, "At", m, there)
				m, there = b.Take(i)
				isNone(t, "Take", m, there)
				doubles(t, b, i, false)
				loses(t, b, i, 0)
			}
		}
	}
}
