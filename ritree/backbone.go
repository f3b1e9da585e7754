package ritree

import (
	"math/bits"
	"slices"

	"annals/api"
	"annals/period"
)

// top is the node that has 0 alone above it.
const top = api.Forever

// Fork: the node at which a period is filed: of its instants the one that can be halved most often (0 more often than all).
func Fork(p api.Period) (int64, api.Errno) {
	if e := period.Check(p); e != api.OK {
		return 0, e
	}
	if p.From == 0 {
		return 0, api.OK
	}
	// The highest bit in which the last instant differs from the one ahead of the first is that of the greatest power within.
	last := p.To - 1
	power := bits.Len64(uint64(last^(p.From-1))) - 1
	return last >> power << power, api.OK
}

// Nodes: of the nodes at which periods may be filed that overlap p, but lie beside it: those to the left, and those to the right, both rising.
func Nodes(p api.Period) (left, right []int64, e api.Errno) {
	if e = period.Check(p); e != api.OK {
		return nil, nil, e
	}
	left = above(p.From, func(n int64) bool { return n < p.From })
	right = above(p.To-1, func(n int64) bool { return n >= p.To })
	return left, right, api.OK
}

// above is those of the nodes above a node that are kept, rising.
func above(n int64, keep func(int64) bool) []int64 {
	var list []int64
	for n > 0 {
		n = parent(n)
		if keep(n) {
			list = append(list, n)
		}
	}
	slices.Sort(list)
	return list
}

// parent is the node above a node that isn't 0.
func parent(n int64) int64 {
	if n == top {
		return 0
	}
	// Of the neighbours at the distance of n's power, one is an odd multiple of twice the power: the one that has that bit.
	power := n & -n
	return (n - power) | power<<1
}
