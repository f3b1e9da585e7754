package bag

import "math/bits"

// wide is a sum of 128 bits: on the way to a sum that fits in 64 there may be ones that don't.
type wide struct {
	high, low uint64
}

// plus is a sum with a number added, or, by -1, taken away.
func (w wide) plus(n int64, by int) wide {
	sign := uint64(n >> 63)
	if by < 0 {
		low, borrow := bits.Sub64(w.low, uint64(n), 0)
		high, _ := bits.Sub64(w.high, sign, borrow)
		return wide{high, low}
	}
	low, carry := bits.Add64(w.low, uint64(n), 0)
	high, _ := bits.Add64(w.high, sign, carry)
	return wide{high, low}
}

// number is the sum as a number, and whether it fits in one.
func (w wide) number() (int64, bool) {
	n := int64(w.low)
	return n, w.high == uint64(n>>63)
}
