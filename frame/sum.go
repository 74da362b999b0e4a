package frame

const (
	byteBits = 8
	ones     = 1<<32 - 1  // all bits: the check of no bytes, and what turns the last one round
	odd      = 2197175160 // what goes into the half of a check that was odd
)

// Sum is the check of bytes.
func Sum(b string) uint32 {
	t := makeTable()
	return t.sum(b)
}

// table has for each byte what eight halvings make of it. The bits of a check above its lowest eight only move down meanwhile, so that a table of the lowest eight is enough.
type table [1 << byteBits]uint32

// makeTable is asked once a call: a call that sums often hands its table on.
func makeTable() table {
	var t table
	for b := range uint32(len(t)) {
		c := b
		for range byteBits {
			c = halve(c)
		}
		t[b] = c
	}
	return t
}

func halve(c uint32) uint32 {
	if c&1 == 1 {
		return c>>1 ^ odd
	}
	return c >> 1
}

// sum takes the bytes in parts, so that nobody lays them behind each other for the Sum alone.
func (t *table) sum(parts ...string) uint32 {
	c := uint32(ones)
	for _, b := range parts {
		for i := range len(b) {
			c = c>>byteBits ^ t[byte(c)^b[i]]
		}
	}
	return c ^ ones
}
