package ring

import "rondeau/api"

// cursors are where sends and receives have got to.
type cursors struct {
	capacity uint64
	readers  int
	tail     uint64
	heads    [api.MaxReaders]uint64
	closed   bool
}

// reads tells whether there is a reader j.
func (c *cursors) reads(j int) bool { return j >= 0 && j < c.readers }

// full tells whether there is no room for a claim.
func (c *cursors) full() bool { return c.tail-c.least() >= c.capacity }

// empty tells whether there is nothing to take for a reader.
func (c *cursors) empty(j int) bool { return !c.reads(j) || c.heads[j] == c.tail }

// least returns the least head.
func (c *cursors) least() uint64 {
	least := c.heads[0]
	for j := range c.readers {
		least = min(least, c.heads[j])
	}
	return least
}

// passed tells whether the heads of all readers but those left out (by their
// bits) are greater than a ticket.
func (c *cursors) passed(t uint64, left int) bool {
	for j := range c.readers {
		if left>>j&1 == 0 && c.heads[j] <= t {
			return false
		}
	}
	return true
}
