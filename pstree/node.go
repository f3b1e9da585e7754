package pstree

import (
	"cmp"
	"slices"
)

// slack is how many points the fuller side of a node may have beyond twice those of the other: without it small nodes would be built anew all the time.
const slack = 4

// node is the top of some points. The others lie to both sides of a fork, each side with a top of its own.
type node struct {
	Point
	fork        Point // what stands ahead of it in order lies left; its Y doesn't count, and its point may be gone
	left, right *node
	size        int
}

// order holds points against each other by X, equal ones by Id.
func order(a, b Point) int {
	return cmp.Or(cmp.Compare(a.X, b.X), cmp.Compare(a.Id, b.Id))
}

// above: does a point stand above another in the heap?
func above(a, b Point) bool {
	return cmp.Or(cmp.Compare(b.Y, a.Y), order(a, b)) < 0
}

// weight is how many points there are from a node on, which may be none.
func (n *node) weight() int {
	if n == nil {
		return 0
	}
	return n.size
}

// side is where a point lies, if it isn't the top.
func (n *node) side(p Point) **node {
	if order(p, n.fork) < 0 {
		return &n.left
	}
	return &n.right
}

// add: the node with a point more.
func (n *node) add(p Point) *node {
	if n == nil {
		return &node{Point: p, fork: p, size: 1}
	}
	if above(p, n.Point) {
		n.Point, p = p, n.Point
	}
	n.size++
	side := n.side(p)
	*side = (*side).add(p)
	return n.balanced()
}

// cut: the node without a point that is there.
func (n *node) cut(p Point) *node {
	if n.Id == p.Id {
		return n.behead()
	}
	n.size--
	side := n.side(p)
	*side = (*side).cut(p)
	return n.balanced()
}

// behead: the node without its top; the higher of the tops below comes up in its place.
func (n *node) behead() *node {
	if n.size == 1 {
		return nil
	}
	side := &n.left
	if n.left == nil || n.right != nil && above(n.right.Point, n.left.Point) {
		side = &n.right
	}
	n.size--
	n.Point = (*side).Point
	*side = (*side).behead()
	return n.balanced()
}

// balanced: the node, built anew if one side has outgrown the other. So points that come in order make no long path.
func (n *node) balanced() *node {
	left, right := n.left.weight(), n.right.weight()
	if max(left, right) <= 2*min(left, right)+slack {
		return n
	}
	points := n.points(make([]Point, 0, n.size))
	slices.SortFunc(points, order)
	return build(points)
}

// points is a list with the node's points behind it.
func (n *node) points(list []Point) []Point {
	if n == nil {
		return list
	}
	return n.right.points(n.left.points(append(list, n.Point)))
}

// build: a node of points in order, whose list it uses up.
func build(points []Point) *node {
	if len(points) == 0 {
		return nil
	}
	top := 0
	for i, p := range points {
		if above(p, points[top]) {
			top = i
		}
	}
	n := &node{Point: points[top], fork: points[top], size: len(points)}
	rest := slices.Delete(points, top, top+1)
	half := len(rest) / 2
	if half < len(rest) {
		n.fork = rest[half]
	}
	n.left, n.right = build(rest[:half]), build(rest[half:])
	return n
}

// find is a list with those of the node's points behind it that lie within three sides.
func (n *node) find(list []Point, low, high, least int64) []Point {
	// No point below the top has a greater Y.
	if n == nil || n.Y < least {
		return list
	}
	if low <= n.X && n.X <= high {
		list = append(list, n.Point)
	}
	if low <= n.fork.X {
		list = n.left.find(list, low, high, least)
	}
	if n.fork.X <= high {
		list = n.right.find(list, low, high, least)
	}
	return list
}
