package clock

// Waits are what is waited out.
type Waits struct {
	noted map[int]int
}

// Note begins to wait.
func (w *Waits) Note(key, now int) {
	if w == nil {
		return
	}
	if w.noted == nil {
		w.noted = map[int]int{}
	}
	if _, there := w.noted[key]; !there {
		w.noted[key] = now
	}
}

// Over tells whether one is over.
func (w *Waits) Over(key, now, wait int) bool {
	if w == nil {
		return false
	}
	noted, there := w.noted[key]
	if !there || now < noted {
		return false
	}
	// The difference is at least 0: as a number without a sign it is right however far they are apart.
	return uint(now)-uint(noted) >= uint(max(wait, 0))
}

// Drop takes one away.
func (w *Waits) Drop(key int) {
	if w != nil {
		delete(w.noted, key)
	}
}
