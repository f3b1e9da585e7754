package btree

import (
	"slices"
	"strings"
)

// item is a key with its value.
type item struct {
	key string
	val int64
}

// node is keys in order and, but on the last level, one kid more than keys: a key's own kid holds what is below it, and above the key ahead.
type node struct {
	turn  int // the tree's, when it was made
	items []item
	kids  []*node
}

// last: is it on the last level?
func (n *node) last() bool { return len(n.kids) == 0 }

// find is the place of a key among a node's, or that of the kid to go on in, and whether the key is there.
func (n *node) find(key string) (int, bool) {
	return slices.BinarySearchFunc(n.items, key, func(x item, key string) int { return strings.Compare(x.key, key) })
}

// greatest is the last key of all below a node.
func (n *node) greatest() item {
	for !n.last() {
		n = n.kids[len(n.kids)-1]
	}
	return n.items[len(n.items)-1]
}

// tell gives out the keys of a range; the answer is whether to go on.
func (n *node) tell(from, to string, yield func(string, int64) bool) bool {
	start, _ := n.find(from)
	for i := start; ; i++ {
		if !n.last() && !n.kids[i].tell(from, to, yield) {
			return false
		}
		if i == len(n.items) {
			return true
		}
		x := n.items[i]
		if to != "" && x.key >= to || !yield(x.key, x.val) {
			return false
		}
	}
}
