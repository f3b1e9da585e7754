package btree

import "slices"

// own is a node that may be changed: a range may still go on in those of earlier turns, and these are copied.
func (t *Tree) own(n *node) *node {
	if n.turn == t.turn {
		return n
	}
	return &node{turn: t.turn, items: slices.Clone(n.items), kids: slices.Clone(n.kids)}
}

// top is the root, as a node that may be changed.
func (t *Tree) top() *node {
	t.root = t.own(t.root)
	return t.root
}

// kid is a node's kid, as a node that may be changed.
func (t *Tree) kid(n *node, i int) *node {
	n.kids[i] = t.own(n.kids[i])
	return n.kids[i]
}

// change gives a key that is there another value.
func (t *Tree) change(key string, val int64) {
	n := t.top()
	i, found := n.find(key)
	for !found {
		n = t.kid(n, i)
		i, found = n.find(key)
	}
	n.items[i].val = val
}

// insert takes in a key that isn't there. Full nodes are halved on the way down, so that each has room for the key that a half below it hands up.
func (t *Tree) insert(key string, val int64) {
	if t.full(t.root) {
		t.root = &node{turn: t.turn, kids: []*node{t.root}}
		t.halve(t.root, 0)
	}
	n := t.top()
	i, _ := n.find(key)
	for !n.last() {
		if t.full(n.kids[i]) {
			t.halve(n, i)
			i, _ = n.find(key)
		}
		n = t.kid(n, i)
		i, _ = n.find(key)
	}
	n.items = slices.Insert(n.items, i, item{key, val})
}

// halve cuts a full kid in two, with its middle key between them in the node.
func (t *Tree) halve(n *node, i int) {
	left, middle := t.kid(n, i), t.order-1
	right := &node{turn: t.turn, items: slices.Clone(left.items[middle+1:])}
	if !left.last() {
		right.kids = slices.Clone(left.kids[middle+1:])
		left.kids = slices.Delete(left.kids, middle+1, len(left.kids))
	}
	n.items = slices.Insert(n.items, i, left.items[middle])
	n.kids = slices.Insert(n.kids, i+1, right)
	left.items = slices.Delete(left.items, middle, len(left.items))
}

// remove drops a key that is there. On the way down each kid is made rich ahead of going on in it, so that it may lose a key, to the cut or to a kid of its own.
func (t *Tree) remove(key string) {
	n := t.top()
cutting:
	for {
		i, found := n.find(key)
		switch {
		case n.last():
			n.items = slices.Delete(n.items, i, i+1)
			break cutting
		case !t.rich(n.kids[i]):
			// The key may have gone down with others: it is looked for anew.
			t.enrich(n, i)
			continue cutting
		case found:
			// The greatest key ahead takes its place, and is the one to be dropped below.
			n.items[i] = n.kids[i].greatest()
			key = n.items[i].key
		}
		n = t.kid(n, i)
	}
	if len(t.root.items) == 0 && !t.root.last() {
		t.root = t.root.kids[0]
	}
}

// enrich gives a poor kid a key more, from the kid beside it that is rich, by way of the node's key between them; or else makes one of the two kids and that key.
func (t *Tree) enrich(n *node, i int) {
	switch {
	case i > 0 && t.rich(n.kids[i-1]):
		t.fromLeft(n, i)
	case i < len(n.items) && t.rich(n.kids[i+1]):
		t.fromRight(n, i)
	case i < len(n.items):
		t.merge(n, i)
	default:
		t.merge(n, i-1)
	}
}

func (t *Tree) fromLeft(n *node, i int) {
	giver, taker := t.kid(n, i-1), t.kid(n, i)
	taker.items = slices.Insert(taker.items, 0, n.items[i-1])
	end := len(giver.items) - 1
	n.items[i-1] = giver.items[end]
	giver.items = slices.Delete(giver.items, end, end+1)
	if !giver.last() {
		taker.kids = slices.Insert(taker.kids, 0, giver.kids[end+1])
		giver.kids = slices.Delete(giver.kids, end+1, end+2)
	}
}

func (t *Tree) fromRight(n *node, i int) {
	taker, giver := t.kid(n, i), t.kid(n, i+1)
	taker.items = append(taker.items, n.items[i])
	n.items[i] = giver.items[0]
	giver.items = slices.Delete(giver.items, 0, 1)
	if !giver.last() {
		taker.kids = append(taker.kids, giver.kids[0])
		giver.kids = slices.Delete(giver.kids, 0, 1)
	}
}

// merge makes one of two kids and the key between them.
func (t *Tree) merge(n *node, i int) {
	left, right := t.kid(n, i), n.kids[i+1]
	left.items = append(append(left.items, n.items[i]), right.items...)
	left.kids = append(left.kids, right.kids...)
	n.items = slices.Delete(n.items, i, i+1)
	n.kids = slices.Delete(n.kids, i+1, i+2)
}
