package bag_test

import (
	"fmt"
	"iter"
	"math/rand"
	"slices"
	"testing"

	"corncrib/api"
	"corncrib/bag"
)

// words are all that a message says: a text, so that nobody can write over it.
func words(m api.Msg) string {
	s := fmt.Sprintf("kind %d from %d to %d term %d a %d b %d c %d %t list %d data %q", m.Kind, m.From, m.To, m.Term, m.A, m.B, m.C, m.OK, m.List, m.Data)
	for _, e := range m.Entries {
		s += fmt.Sprintf(" entry %d %q", e.Term, e.Data)
	}
	return s
}

// spoil writes over all that can be written over of a message: also what stands behind its lists' ends.
func spoil(m api.Msg) {
	for i := range m.List[:cap(m.List)] {
		m.List[:cap(m.List)][i] = -77
	}
	for i := range m.Entries[:cap(m.Entries)] {
		m.Entries[:cap(m.Entries)][i] = api.Entry{Term: -77, Data: "spoiled"}
	}
}

// plain is a bag by the words of the document. It has each message's words, and to whom it goes.
type plain struct {
	most int
	l    []letter
}

type letter struct {
	to    int
	words string
}

func (p *plain) send(l ...letter) int {
	n := 0
	for _, x := range l {
		if len(p.l) < p.most {
			p.l = append(p.l, x)
			n++
		}
	}
	return n
}

func (p *plain) at(i int) (string, bool) {
	for place, x := range p.l {
		if place == i {
			return x.words, true
		}
	}
	return words(api.Msg{}), false
}

func (p *plain) take(i int) (string, bool) {
	w, there := p.at(i)
	var l []letter
	for place, x := range p.l {
		if place != i {
			l = append(l, x)
		}
	}
	p.l = l
	return w, there
}

func (p *plain) double(i int) bool {
	if i < 0 || i >= len(p.l) || len(p.l) >= p.most {
		return false
	}
	p.l = append(p.l, p.l[i])
	return true
}

func (p *plain) lose(to int) int {
	var l []letter
	for _, x := range p.l {
		if x.to != to {
			l = append(l, x)
		}
	}
	lost := len(p.l) - len(l)
	p.l = l
	return lost
}

// call is one of a bag.
type call struct {
	what string
	n    int // how many messages, which place, or to whom
}

// both are a bag, and what it should be.
type both struct {
	t      *testing.T
	b      *bag.Bag
	p      *plain
	next   int // each message that is made is another one
	script []call
}

func newBoth(t *testing.T, most int) *both {
	return &both{t: t, b: bag.New(most), p: &plain{most: most}}
}

// message makes one of which no other is the same: to the node 0, 1 or 2, of any kind, with and without lists.
func (x *both) message() api.Msg {
	n := x.next
	x.next++
	m := api.Msg{Kind: api.MsgKind(n % 23), From: -n, To: n % 3, Term: n * 10, A: n + 1, B: n + 2, C: n + 3, OK: n%2 == 0, Data: fmt.Sprint("data", n)}
	for i := range n % 4 {
		m.List = append(m.List, n*100+i)
	}
	for i := range n % 5 {
		m.Entries = append(m.Entries, api.Entry{Term: n*100 + i, Data: fmt.Sprint("entry", n, i)})
	}
	return m
}

// send sends so many new messages at once, and writes over them.
func (x *both) send(n int) (is, want int) {
	var l []api.Msg
	var letters []letter
	for range n {
		m := x.message()
		l = append(l, m)
		letters = append(letters, letter{m.To, words(m)})
	}
	is, want = x.b.Send(l...), x.p.send(letters...)
	for i, m := range l {
		if words(m) != letters[i].words {
			x.t.Fatalf("%v: Send wrote over what it was handed: %s; was %s", x.script, words(m), letters[i].words)
		}
		spoil(m)
		l[i] = api.Msg{}
	}
	return is, want
}

// answer is what a call answers, as a text.
func answer(m api.Msg, there bool) string {
	s := fmt.Sprint(there, words(m))
	spoil(m)
	return s
}

func answerOf(w string, there bool) string { return fmt.Sprint(there, w) }

// one does the call on both sides, and tells what they answer.
func (x *both) one(c call) (is, want any) {
	switch c.what {
	case "send":
		return x.send(c.n)
	case "at":
		return answer(x.b.At(c.n)), answerOf(x.p.at(c.n))
	case "take":
		return answer(x.b.Take(c.n)), answerOf(x.p.take(c.n))
	case "double":
		return x.b.Double(c.n), x.p.double(c.n)
	case "lose":
		return x.b.Lose(c.n), x.p.lose(c.n)
	}
	panic(c.what)
}

// do does a call on both sides, and holds them against each other.
func (x *both) do(c call) {
	x.script = append(x.script, c)
	if is, want := x.one(c); is != want {
		x.t.Fatalf("%v: the last one %v; should be %v", x.script, is, want)
	}
	x.same()
}

func (x *both) same() {
	if x.b.Len() != len(x.p.l) {
		x.t.Fatalf("%v: Len: %d; should be %d", x.script, x.b.Len(), len(x.p.l))
	}
	for i := -2; i < len(x.p.l)+2; i++ {
		if is, want := answer(x.b.At(i)), answerOf(x.p.at(i)); is != want {
			x.t.Fatalf("%v: At(%d): %s; should be %s", x.script, i, is, want)
		}
	}
	for n := range len(x.p.l) + 1 {
		want := x.p.told(n)
		if is := firsts(x.b.All(), n); !slices.Equal(is, want) {
			x.t.Fatalf("%v: All, left behind %d: %q; should be %q", x.script, n, is, want)
		}
	}
	if is, want := firsts(x.b.All(), len(x.p.l)+1), x.p.told(len(x.p.l)); !slices.Equal(is, want) {
		x.t.Fatalf("%v: All: %q; should be %q", x.script, is, want)
	}
}

// told are the first n, with their places.
func (p *plain) told(n int) []string {
	var l []string
	for i, x := range p.l[:n] {
		l = append(l, fmt.Sprint(i, " ", x.words))
	}
	return l
}

// firsts are the first n of all, with their places: then the loop is left.
func firsts(all iter.Seq2[int, api.Msg], n int) []string {
	var l []string
	if n == 0 {
		for range all {
			break
		}
		return l
	}
	for i, m := range all {
		l = append(l, fmt.Sprint(i, " ", words(m)))
		spoil(m)
		if len(l) == n {
			break
		}
	}
	return l
}

// calls are what scripts are made of.
func calls() []call {
	var l []call
	for n := range 5 {
		l = append(l, call{"send", n})
	}
	for i := -1; i < 4; i++ {
		l = append(l, call{"take", i}, call{"double", i})
	}
	for to := -1; to < 4; to++ {
		l = append(l, call{"lose", to})
	}
	return l
}

// TestScripts plays all short scripts, in bags with little room.
func TestScripts(t *testing.T) {
	for most := range 5 {
		t.Run(fmt.Sprint(most), func(t *testing.T) {
			t.Parallel()
			for _, first := range calls() {
				for _, second := range calls() {
					for _, third := range calls() {
						x := newBoth(t, most)
						x.next = 7 // to the node 1, with a list and entries
						x.do(call{"send", 2})
						x.do(first)
						x.do(second)
						x.do(third)
					}
				}
			}
		})
	}
}

// TestLongScripts plays long ones, by a fixed beginning of chance, in bags with more of it.
func TestLongScripts(t *testing.T) {
	for seed := range int64(300) {
		r := rand.New(rand.NewSource(seed))
		x := newBoth(t, r.Intn(20))
		for range 60 {
			c := call{what: []string{"send", "send", "at", "take", "double", "lose"}[r.Intn(6)]}
			switch c.what {
			case "send":
				c.n = r.Intn(6)
			case "lose":
				c.n = r.Intn(12)
			default:
				c.n = r.Intn(x.b.Len()+2) - 1
			}
			x.do(c)
		}
	}
}
