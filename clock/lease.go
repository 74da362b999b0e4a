package clock

// Leases are what lasts for a while.
type Leases struct {
	ends map[int]int
}

// Grant lets one last.
func (l *Leases) Grant(key, until int) {
	if l == nil {
		return
	}
	if l.ends == nil {
		l.ends = map[int]int{}
	}
	if end, there := l.ends[key]; there { // an end may be below 0, so that none is not as one at 0
		until = max(until, end)
	}
	l.ends[key] = until
}

// Valid tells whether one lasts.
func (l *Leases) Valid(key, now int) bool {
	end, there := l.end(key)
	return there && now < end
}

// Until is one's end.
func (l *Leases) Until(key int) int {
	end, _ := l.end(key)
	return end
}

// Drop takes one away.
func (l *Leases) Drop(key int) {
	if l != nil {
		delete(l.ends, key)
	}
}

// end is one's end, and whether there is one. No leases at all are none.
func (l *Leases) end(key int) (int, bool) {
	if l == nil {
		return 0, false
	}
	end, there := l.ends[key]
	return end, there
}
