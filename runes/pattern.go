package runes

import "corncrib/api"

// span has the code points from low to high.
type span struct{ low, high rune }

// part is what a pattern says of one place: any number of pieces (star), or one whose code point is in the spans, or is not.
type part struct {
	star  bool
	not   bool
	spans []span
}

func (x part) takes(c rune) bool {
	for _, s := range x.spans {
		if s.low <= c && c <= s.high {
			return !x.not
		}
	}
	return x.not
}

// Pattern tells what is wrong with a pattern, and where.
func Pattern(p string) (api.Errno, int) {
	_, fault, at := parse(p)
	return fault, at
}

// Match tells whether a text is what a pattern says.
func Match(p, s string) bool {
	l, fault, _ := parse(p)
	return fault == api.OK && matches(l, Points(s))
}

// matches needs no more than the last star to go back to: what stands between two stars may as well be taken at the first place where it fits.
func matches(l []part, points []rune) bool {
	next, at := 0, 0
	star, from := -1, 0
	for at < len(points) {
		switch {
		case next < len(l) && l[next].star:
			star, from = next, at
			next++
		case next < len(l) && l[next].takes(points[at]):
			next++
			at++
		case star >= 0:
			from++
			next, at = star+1, from
		default:
			return false
		}
	}
	for next < len(l) && l[next].star {
		next++
	}
	return next == len(l)
}

// parse tells a pattern's parts, or what is wrong with it, and where.
func parse(p string) ([]part, api.Errno, int) {
	r := read(p)
	var l []part
	for r.more() {
		at := r.places[r.next]
		c := r.take()
		switch c {
		case '*':
			l = append(l, part{star: true})
		case '?':
			l = append(l, part{not: true}) // none of no code points: whatever stands there
		case '[':
			x, ok := r.class()
			if !ok {
				return nil, api.ErrPattern, at
			}
			l = append(l, x)
		case '\\':
			if !r.more() {
				return nil, api.ErrPattern, at
			}
			c = r.take()
			fallthrough
		default:
			l = append(l, part{spans: []span{{c, c}}})
		}
	}
	return l, api.OK, 0
}

// reader has a pattern's pieces side by side, since a range over a text can't look ahead.
type reader struct {
	points []rune
	places []int
	next   int
}

func read(p string) *reader {
	r := &reader{}
	for at, c := range p {
		r.points = append(r.points, c)
		r.places = append(r.places, at)
	}
	return r
}

func (r *reader) more() bool { return r.next < len(r.points) }

func (r *reader) take() rune {
	c := r.points[r.next]
	r.next++
	return c
}

func (r *reader) skip(c rune) bool {
	if r.more() && r.points[r.next] == c {
		r.next++
		return true
	}
	return false
}

// class takes what stands behind a [, up to its ]; false, if that is no class.
func (r *reader) class() (part, bool) {
	x := part{not: r.skip('^')}
	for r.more() {
		if r.skip(']') {
			return x, len(x.spans) > 0
		}
		s, ok := r.item()
		if !ok {
			return part{}, false
		}
		x.spans = append(x.spans, s)
	}
	return part{}, false
}

// item takes an item of a class; false, if it ends too soon, or its second code point is below its first one.
func (r *reader) item() (span, bool) {
	low, ok := r.point()
	if !ok {
		return span{}, false
	}
	if !r.ranges() {
		return span{low, low}, true
	}
	r.take()
	high, ok := r.point()
	return span{low, high}, ok && low <= high
}

// ranges tells whether the item goes on: a - ahead of the class's ], or at the end, is an item of its own.
func (r *reader) ranges() bool {
	behind := r.next + 1
	return behind < len(r.points) && r.points[r.next] == '-' && r.points[behind] != ']'
}

// point takes one code point of an item; false, if the pattern ends behind a \.
func (r *reader) point() (rune, bool) {
	if !r.skip('\\') {
		return r.take(), true
	}
	if !r.more() {
		return 0, false
	}
	return r.take(), true
}
