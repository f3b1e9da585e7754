package mvcc

import "annals/api"

// clock tells the time, and the last stamp that was given.
type clock struct {
	now, last int64
}

// Now: the clock.
func (c *clock) Now() int64 { return c.now }

// Last: the last stamp.
func (c *clock) Last() int64 { return c.last }

// Tick: the clock goes on by so much.
func (c *clock) Tick(n int64) {
	if n > 0 {
		// Held against what is left, as the sum may wrap round.
		c.now += min(n, api.Forever-c.now)
	}
}

// next is the stamp to be.
func (c *clock) next() int64 { return max(c.now, c.last+1) }
