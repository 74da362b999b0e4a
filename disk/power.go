package disk

// Break lets the power go behind so many more changes.
func (d *Disk) Break(n int) {
	if d != nil {
		d.waits, d.more = true, max(n, 0)
	}
}

// Crash lets the power go, and come back.
func (d *Disk) Crash(keep []int) {
	if d == nil {
		return
	}
	for i, name := range d.Names() {
		more := 0
		if i < len(keep) {
			more = keep[i]
		}
		d.lose(name, more)
	}
	d.down, d.waits = false, false
}

// lose leaves of a file what is synced, and so many more bytes.
func (d *Disk) lose(name string, more int) {
	f := d.files[name]
	left := f.synced + min(max(more, 0), len(f.bytes)-f.synced)
	if left == 0 && !f.sure {
		d.remove(name)
		return
	}
	d.put(name, file{bytes: f.bytes[:left], synced: left, sure: true})
}

// Wipe takes all files away.
func (d *Disk) Wipe() {
	if d != nil {
		clear(d.files)
		d.used = 0
	}
}
