package disk

import "corncrib/api"

// Append writes behind a file.
func (d *Disk) Append(name, b string) api.Errno {
	write := func() {
		f := d.files[name]
		f.bytes = append(f.bytes, b...)
		d.put(name, f)
	}
	// What breaks is written all the same: a crash says how much of it is left.
	return d.change(func() api.Errno { return d.fits(len(b)) }, write, write)
}

// Sync makes a file sure.
func (d *Disk) Sync(name string) api.Errno {
	return d.change(d.needs(name), func() {
		f := d.files[name]
		d.put(name, file{bytes: f.bytes, synced: len(f.bytes), sure: true})
	}, nothing)
}

// Cut leaves a file's first bytes.
func (d *Disk) Cut(name string, n int) api.Errno {
	need := func() api.Errno {
		f, there := d.files[name]
		if !there {
			return api.ErrDiskNone
		}
		if n < 0 || n > len(f.bytes) {
			return api.ErrArg
		}
		return api.OK
	}
	return d.change(need, func() {
		f := d.files[name]
		d.put(name, file{bytes: f.bytes[:n], synced: min(f.synced, n), sure: true})
	}, nothing)
}

// Replace gives a file other bytes.
func (d *Disk) Replace(name, b string) api.Errno {
	need := func() api.Errno { return d.fits(len(b) - len(d.files[name].bytes)) }
	return d.change(need, func() {
		d.put(name, file{bytes: []byte(b), synced: len(b), sure: true})
	}, nothing)
}

// Remove takes a file away.
func (d *Disk) Remove(name string) api.Errno {
	return d.change(d.needs(name), func() { d.remove(name) }, nothing)
}

// change does a change whole, if nothing that it needs is missing; of one within which the disk breaks, what is torn is done.
func (d *Disk) change(need func() api.Errno, whole, torn func()) api.Errno {
	if d.Down() {
		return api.ErrDiskDown
	}
	if err := need(); err != api.OK {
		return err
	}
	if d.breaks() {
		torn()
		return api.ErrDiskDown
	}
	whole()
	return api.OK
}

func nothing() {}

// needs is the need of a file that is there.
func (d *Disk) needs(name string) func() api.Errno {
	return func() api.Errno {
		if _, there := d.files[name]; !there {
			return api.ErrDiskNone
		}
		return api.OK
	}
}

// fits tells whether there is room for so many more bytes.
func (d *Disk) fits(more int) api.Errno {
	if more > d.room-d.used {
		return api.ErrDiskFull
	}
	return api.OK
}

// breaks counts a change that nothing is against, and tells whether the disk breaks within it.
func (d *Disk) breaks() bool {
	if !d.waits {
		return false
	}
	if d.more == 0 {
		d.waits, d.down = false, true
		return true
	}
	d.more--
	return false
}
