package pstree

import (
	"math"
	"slices"
	"sort"
	"testing"

	"annals/api"
)

const (
	least    = math.MinInt64
	greatest = math.MaxInt64
)

// dice answers numbers that look thrown, the same ones each time.
type dice uint64

func (x *dice) below(n int) int {
	*x = *x*6364136223846793005 + 1442695040888963407
	return int(uint64(*x) >> 33 % uint64(n))
}

// number is one of a few small ones, or one at the edges.
func (x *dice) number(n int) int64 {
	if x.below(20) == 0 {
		return []int64{least, least + 1, -1, greatest - 1, greatest}[x.below(5)]
	}
	return int64(x.below(n)) - 3
}

// ahead: does a point stand ahead of another, by the words of the chapter?
func ahead(a, b Point) bool {
	if a.X != b.X {
		return a.X < b.X
	}
	return a.Id < b.Id
}

// slow is points found by looking at all of them.
type slow map[int64]Point

func (s slow) find(low, high, from int64) []Point {
	var out []Point
	for _, p := range s {
		if p.X >= low && p.X <= high && p.Y >= from {
			out = append(out, p)
		}
	}
	sort.Slice(out, func(i, j int) bool { return ahead(out[i], out[j]) })
	return out
}

func (s slow) top() (Point, api.Errno) {
	best, e := Point{}, api.ErrNone
	for _, p := range s {
		if e != api.OK || p.Y > best.Y || p.Y == best.Y && ahead(p, best) {
			best, e = p, api.OK
		}
	}
	return best, e
}

// made is a tree of points, and the same points to be looked through.
func made(t *testing.T, points ...Point) (*Tree, slow) {
	t.Helper()
	tree, all := New(), slow{}
	for _, p := range points {
		if e := tree.Add(p); e != api.OK {
			t.Fatalf("Add(%v): %v", p, e)
		}
		all[p.Id] = p
	}
	return tree, all
}

// agree: does a tree tell of all its points what looking at all of them does?
func agree(t *testing.T, tree *Tree, all slow) {
	t.Helper()
	if tree.Len() != len(all) {
		t.Fatalf("Len: %d, not %d", tree.Len(), len(all))
	}
	if got, want := tree.Find(least, greatest, least), all.find(least, greatest, least); !slices.Equal(got, want) {
		t.Fatalf("Find of all: %v, not %v", got, want)
	}
	p, e := tree.Top()
	if q, f := all.top(); p != q || e != f {
		t.Fatalf("Top: %v %v, not %v %v", p, e, q, f)
	}
}

// depth is how many nodes lie below one another; each is held against what the tree leans on.
func depth(t *testing.T, n *node) int {
	t.Helper()
	if n == nil {
		return 0
	}
	for _, kid := range []*node{n.left, n.right} {
		if kid != nil && above(kid.Point, n.Point) {
			t.Fatalf("%v below %v", kid.Point, n.Point)
		}
	}
	for _, p := range n.left.points(nil) {
		if !ahead(p, n.fork) {
			t.Fatalf("%v left of %v", p, n.fork)
		}
	}
	for _, p := range n.right.points(nil) {
		if ahead(p, n.fork) {
			t.Fatalf("%v right of %v", p, n.fork)
		}
	}
	if n.size != 1+n.left.weight()+n.right.weight() {
		t.Fatalf("size %d", n.size)
	}
	return 1 + max(depth(t, n.left), depth(t, n.right))
}

// shallow: is no path longer than a tree of so many points needs?
func shallow(t *testing.T, tree *Tree) {
	t.Helper()
	bound := 4
	for n := tree.Len(); n > 0; n = n * 2 / 3 {
		bound++
	}
	if d := depth(t, tree.root); d > bound {
		t.Fatalf("%d points are %d deep, not %d at most", tree.Len(), d, bound)
	}
}

// P11.1
func TestNew(t *testing.T) {
	tree := New()
	if tree.Len() != 0 {
		t.Errorf("Len: %d", tree.Len())
	}
	if l := tree.Find(least, greatest, least); len(l) != 0 {
		t.Errorf("Find: %v", l)
	}
	if other := New(); other.Add(Point{Id: 1}) != api.OK || other.Len() != 1 || tree.Len() != 0 {
		t.Errorf("two trees: %d and %d", tree.Len(), other.Len())
	}
}

// P11.1, P11.2
func TestAddAndCut(t *testing.T) {
	ids := []int64{0, 1, -1, least, greatest, 7, 1 << 40, -8}
	tree, all := New(), slow{}
	for i, id := range ids {
		p := Point{X: int64(i % 3), Y: int64(i % 2), Id: id}
		if e := tree.Add(p); e != api.OK || tree.Len() != i+1 {
			t.Errorf("Add(%v): %v, Len %d", p, e, tree.Len())
		}
		all[id] = p
		agree(t, tree, all)
		// Also one that differs in all but the Id, and one that is the same.
		if e := tree.Add(Point{X: 99, Y: 99, Id: id}); e != api.ErrKey {
			t.Errorf("Add of the Id %d again: %v", id, e)
		}
		if e := tree.Add(p); e != api.ErrKey {
			t.Errorf("Add(%v) again: %v", p, e)
		}
		agree(t, tree, all)
	}
	for _, id := range []int64{2, -2, least + 1, greatest - 1} {
		if e := tree.Cut(id); e != api.ErrMissing {
			t.Errorf("Cut(%d): %v", id, e)
		}
		agree(t, tree, all)
	}
	for i, id := range ids {
		if e := tree.Cut(id); e != api.OK || tree.Len() != len(ids)-1-i {
			t.Errorf("Cut(%d): %v, Len %d", id, e, tree.Len())
		}
		delete(all, id)
		agree(t, tree, all)
		if e := tree.Cut(id); e != api.ErrMissing {
			t.Errorf("Cut(%d) again: %v", id, e)
		}
		agree(t, tree, all)
	}
	if e := New().Cut(0); e != api.ErrMissing {
		t.Errorf("Cut of none: %v", e)
	}
}

// P11.2: what is cut may be there again, at another place.
func TestAddBehindCut(t *testing.T) {
	tree, all := made(t, Point{1, 5, 1}, Point{2, 9, 2}, Point{3, 4, 3})
	for i, id := range []int64{2, 1, 3, 2, 2} {
		p := Point{X: int64(10 - 3*i), Y: int64(3 * i), Id: id}
		if e := tree.Cut(id); e != api.OK {
			t.Fatalf("Cut(%d): %v", id, e)
		}
		if e := tree.Add(p); e != api.OK {
			t.Fatalf("Add(%v): %v", p, e)
		}
		all[id] = p
		agree(t, tree, all)
	}
}

// P11.3, and the example of the chapter.
func TestFind(t *testing.T) {
	tree, _ := made(t, Point{1, 5, 1}, Point{2, 9, 2})
	cases := []struct {
		low, high, least int64
		want             []Point
	}{
		{0, 4, 6, []Point{{2, 9, 2}}},
		{0, 4, 5, []Point{{1, 5, 1}, {2, 9, 2}}},
		{1, 2, 5, []Point{{1, 5, 1}, {2, 9, 2}}},
		{1, 1, 5, []Point{{1, 5, 1}}},
		{2, 2, 9, []Point{{2, 9, 2}}},
		{2, 2, 10, nil},
		{1, 1, 6, nil},
		{3, 4, 0, nil},
		{-4, 0, 0, nil},
		{2, 1, 0, nil},
		{4, 0, 0, nil},
		{greatest, least, least, nil},
		{least, greatest, least, []Point{{1, 5, 1}, {2, 9, 2}}},
		{least, greatest, greatest, nil},
		{least, least, least, nil},
		{greatest, greatest, least, nil},
	}
	for _, c := range cases {
		if got := tree.Find(c.low, c.high, c.least); !slices.Equal(got, c.want) {
			t.Errorf("Find(%d, %d, %d): %v, not %v", c.low, c.high, c.least, got, c.want)
		}
		if got := New().Find(c.low, c.high, c.least); len(got) != 0 {
			t.Errorf("Find(%d, %d, %d) of none: %v", c.low, c.high, c.least, got)
		}
	}
}

// P11.3: by X, of equal ones by Id, below 0 too, whatever Y is and in whatever order they came.
func TestFindOrder(t *testing.T) {
	want := []Point{
		{least, least, 3}, {-2, 9, -7}, {-2, 4, 0}, {-2, 9, 8}, {0, 1, least}, {0, greatest, greatest}, {5, 5, -1}, {5, 5, 1}, {greatest, 0, 2},
	}
	x := dice(5)
	for range 50 {
		points := slices.Clone(want)
		for i := range points {
			j := i + x.below(len(points)-i)
			points[i], points[j] = points[j], points[i]
		}
		tree, _ := made(t, points...)
		if got := tree.Find(least, greatest, least); !slices.Equal(got, want) {
			t.Fatalf("%v, not %v", got, want)
		}
		if got := tree.Find(-2, 0, 4); !slices.Equal(got, []Point{want[1], want[2], want[3], want[5]}) {
			t.Fatalf("from -2 to 0, from 4 on: %v", got)
		}
		if got := tree.Find(greatest, greatest, 0); !slices.Equal(got, want[8:]) {
			t.Fatalf("at the greatest X: %v", got)
		}
		if got := tree.Find(least, least, least); !slices.Equal(got, want[:1]) {
			t.Fatalf("at the least X: %v", got)
		}
		if got := tree.Find(least, greatest, greatest); !slices.Equal(got, want[5:6]) {
			t.Fatalf("with the greatest Y: %v", got)
		}
	}
}

// P11.3, and the example of the chapter.
func TestTop(t *testing.T) {
	cases := []struct {
		name   string
		points []Point
		want   Point
		e      api.Errno
	}{
		{"none", nil, Point{}, api.ErrNone},
		{"the example", []Point{{1, 5, 1}, {2, 9, 2}}, Point{2, 9, 2}, api.OK},
		{"one", []Point{{0, 0, 0}}, Point{0, 0, 0}, api.OK},
		{"the least Y", []Point{{3, least, 1}}, Point{3, least, 1}, api.OK},
		{"the greatest Y", []Point{{3, least, 1}, {9, greatest, 2}, {1, greatest - 1, 3}}, Point{9, greatest, 2}, api.OK},
		{"below 0", []Point{{1, -5, 1}, {2, -9, 2}, {3, -4, 3}}, Point{3, -4, 3}, api.OK},
		{"equal Y, the first by X", []Point{{4, 7, 1}, {2, 7, 9}, {3, 7, 0}}, Point{2, 7, 9}, api.OK},
		{"equal Y and X, the first by Id", []Point{{4, 7, 1}, {4, 7, -9}, {4, 7, 5}}, Point{4, 7, -9}, api.OK},
		{"equal Y at the edges", []Point{{greatest, 7, 1}, {least, 7, 2}, {0, 7, 0}}, Point{least, 7, 2}, api.OK},
		{"a greater Y behind an equal one", []Point{{0, 7, 0}, {1, 7, 1}, {2, 8, 2}}, Point{2, 8, 2}, api.OK},
	}
	for _, c := range cases {
		tree, _ := made(t, c.points...)
		if p, e := tree.Top(); p != c.want || e != c.e {
			t.Errorf("%s: %v %v, not %v %v", c.name, p, e, c.want, c.e)
		}
		back := slices.Clone(c.points)
		slices.Reverse(back)
		tree, _ = made(t, back...)
		if p, e := tree.Top(); p != c.want || e != c.e {
			t.Errorf("%s, backwards: %v %v, not %v %v", c.name, p, e, c.want, c.e)
		}
	}
	tree, _ := made(t, Point{1, 5, 1})
	tree.Cut(1)
	if p, e := tree.Top(); p != (Point{}) || e != api.ErrNone {
		t.Errorf("behind the last cut: %v %v", p, e)
	}
}

// P11.1, P11.2, P11.3: points come and go, and all calls tell what looking at all points tells.
func TestAgainstAll(t *testing.T) {
	found, refused, rebuilt := 0, 0, 0
	for seed := range 60 {
		x := dice(seed)
		spread := 2 + x.below(60)
		tree, all := New(), slow{}
		for step := range 400 {
			id := x.number(spread)
			_, there := all[id]
			root := tree.root
			adds := x.below(5) < 3-step/200
			if adds {
				p := Point{X: x.number(spread), Y: x.number(spread), Id: id}
				if e := tree.Add(p); there != (e == api.ErrKey) || !there && e != api.OK {
					t.Fatalf("Add(%v): %v", p, e)
				}
				if !there {
					all[id] = p
				}
			} else {
				if e := tree.Cut(id); there != (e == api.OK) || !there && e != api.ErrMissing {
					t.Fatalf("Cut(%d): %v", id, e)
				}
				delete(all, id)
			}
			if adds == there {
				refused++
			}
			if root != nil && tree.root != nil && root != tree.root {
				rebuilt++
			}
			agree(t, tree, all)
			low, high, from := x.number(spread), x.number(spread), x.number(spread)
			want := all.find(low, high, from)
			if got := tree.Find(low, high, from); !slices.Equal(got, want) {
				t.Fatalf("Find(%d, %d, %d) of %v: %v, not %v", low, high, from, all, got, want)
			}
			if len(want) > 1 && len(want) < len(all) {
				found++
			}
			shallow(t, tree)
		}
	}
	if found < 1000 || refused < 1000 || rebuilt < 100 {
		t.Errorf("too few of something: %d found, %d refused, %d roots built anew", found, refused, rebuilt)
	}
}

// P1: points in an order that would make one long path are no deeper than others, so that no call runs out of room or of time.
func TestLongRuns(t *testing.T) {
	const many = 20000
	runs := map[string]func(i int64) Point{
		"rising":           func(i int64) Point { return Point{i, i, i} },
		"falling":          func(i int64) Point { return Point{-i, i, i} },
		"rising downwards": func(i int64) Point { return Point{i, -i, i} },
		"all alike":        func(i int64) Point { return Point{7, 7, i} },
		"alike, backwards": func(i int64) Point { return Point{7, 7, -i} },
		"from both ends":   func(i int64) Point { return Point{i * (i%2*2 - 1), i / 2, i} },
		"one Y":            func(i int64) Point { return Point{i, 7, i} },
		"at the edge":      func(i int64) Point { return Point{greatest - i, least + i, i} },
	}
	for name, at := range runs {
		tree := New()
		for i := range int64(many) {
			if e := tree.Add(at(i)); e != api.OK {
				t.Fatalf("%s: Add(%v): %v", name, at(i), e)
			}
		}
		shallow(t, tree)
		// All but a few of one end are cut: what is left lay on one side.
		for i := range int64(many - 50) {
			if e := tree.Cut(at(i).Id); e != api.OK {
				t.Fatalf("%s: Cut(%d): %v", name, at(i).Id, e)
			}
			if i == many/2 {
				shallow(t, tree)
			}
		}
		shallow(t, tree)
		all := slow{}
		for i := int64(many - 50); i < many; i++ {
			all[at(i).Id] = at(i)
		}
		agree(t, tree, all)
	}
}

// P2: what is answered shares no memory with what is kept or with other answers.
func TestAnswersAreNew(t *testing.T) {
	var points []Point
	for i := range int64(40) {
		points = append(points, Point{X: i % 7, Y: i % 5, Id: i})
	}
	tree, all := made(t, points...)
	one := tree.Find(0, 6, 1)
	other := tree.Find(0, 6, 1)
	clear(one[:cap(one)])
	if want := all.find(0, 6, 1); !slices.Equal(other, want) {
		t.Errorf("another answer: %v, not %v", other, want)
	}
	clear(other[:cap(other)])
	agree(t, tree, all)
	kept := tree.Find(0, 6, 1)
	tree.Cut(kept[0].Id)
	tree.Add(Point{X: -1, Y: 99, Id: 99})
	if want := all.find(0, 6, 1); !slices.Equal(kept, want) {
		t.Errorf("an answer from before: %v, not %v", kept, want)
	}
}

// P2: two trees, of which one has refused calls in between, go on alike.
func TestRefusedChangesNothing(t *testing.T) {
	x := dice(11)
	plain, teased := New(), New()
	for range 500 {
		id := int64(x.below(30))
		p := Point{X: int64(x.below(9)), Y: int64(x.below(9)), Id: id}
		for _, q := range teased.Find(least, greatest, least) {
			if e := teased.Add(Point{X: p.X, Y: 99, Id: q.Id}); e != api.ErrKey {
				t.Fatalf("Add of the Id %d again: %v", q.Id, e)
			}
		}
		if e := teased.Cut(id + 100); e != api.ErrMissing {
			t.Fatalf("Cut(%d): %v", id+100, e)
		}
		if x.below(2) == 0 {
			plain.Add(p)
			teased.Add(p)
		} else {
			plain.Cut(id)
			teased.Cut(id)
		}
		all := slow{}
		for _, q := range plain.Find(least, greatest, least) {
			all[q.Id] = q
		}
		agree(t, teased, all)
	}
}
