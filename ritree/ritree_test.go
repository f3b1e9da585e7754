package ritree

import (
	"math"
	"slices"
	"testing"

	"annals/api"
)

const end = api.Forever

func span(from, to int64) api.Period { return api.Period{From: from, To: to} }

// wrong is what is no period.
func wrong() []api.Period {
	return []api.Period{
		{},
		span(2, 2),
		span(5, 3),
		span(-1, 5),
		span(-1, 0),
		span(-5, -3),
		span(0, end+1),
		span(3, math.MaxInt64),
		span(end, end),
		span(end, end+1),
		span(end, 0),
		span(math.MinInt64, math.MaxInt64),
		span(math.MaxInt64, math.MinInt64),
		span(math.MinInt64, math.MinInt64),
		span(math.MaxInt64, math.MaxInt64),
		span(math.MinInt64, 5),
	}
}

// dice answers numbers that look thrown, the same ones each time.
type dice uint64

func (x *dice) below(n int64) int64 {
	*x = *x*6364136223846793005 + 1442695040888963407
	high := uint64(*x) >> 33
	*x = *x*6364136223846793005 + 1442695040888963407
	return int64((high<<31 ^ uint64(*x)>>33) % uint64(n))
}

// period is one of all lengths and all places: both are thrown by their number of bits.
func (x *dice) period() api.Period {
	for {
		from := x.below(int64(1) << x.below(41))
		if x.below(4) == 0 {
			from = end - 1 - from
		}
		to := from + 1 + x.below(int64(1)<<x.below(41))
		if x.below(10) == 0 {
			to = end
		}
		if to <= end {
			return span(from, to)
		}
	}
}

// samples is periods at the edges and of all sizes.
func samples() []api.Period {
	list := []api.Period{
		span(0, 1), span(0, 2), span(0, end), span(1, 2), span(1, end), span(end-1, end), span(end-2, end), span(end-2, end-1),
		span(end/2, end), span(end/2, end/2+1), span(end/2-1, end/2), span(end/2-1, end/2+1), span(1, end-1), span(0, end-1),
		span(0, end/2), span(0, end/2+1), span(end/2+1, end), span(3, 9), span(8, 20), span(6, 7),
	}
	for from := int64(0); from < 18; from++ {
		for to := from + 1; to <= 18; to++ {
			list = append(list, span(from, to), span(end-to, end-from), span(end/2-9+from, end/2-9+to))
		}
	}
	x := dice(3)
	for range 300 {
		list = append(list, x.period())
	}
	return list
}

// powerOf is the power of two of which a node above 0 is an odd multiple.
func powerOf(n int64) int64 {
	w := int64(1)
	for n%(2*w) == 0 {
		w *= 2
	}
	return w
}

// nodesAbove is the nodes above a node, by the words of the chapter.
func nodesAbove(n int64) []int64 {
	var out []int64
	for n != 0 {
		w := powerOf(n)
		switch {
		case n == end:
			n = 0
		case n-w > 0 && powerOf(n-w) == 2*w:
			n -= w
		default:
			n += w
		}
		out = append(out, n)
	}
	return out
}

// P10.1, and the example of the chapter.
func TestFork(t *testing.T) {
	cases := []struct {
		p    api.Period
		want int64
	}{
		{span(3, 9), 8},
		{span(3, 8), 4},
		{span(8, 20), 16},
		{span(0, 1), 0},
		{span(0, end), 0},
		{span(1, 2), 1},
		{span(1, end), end / 2},
		{span(end/2+1, end), end/2 + end/4},
		{span(end-1, end), end - 1},
		{span(end-2, end), end - 2},
		{span(7, 8), 7},
		{span(5, 8), 6},
		{span(12, 13), 12},
	}
	for _, c := range cases {
		if n, e := Fork(c.p); n != c.want || e != api.OK {
			t.Errorf("Fork(%v): %d, %v, want %d", c.p, n, e, c.want)
		}
	}
	for _, p := range wrong() {
		if n, e := Fork(p); n != 0 || e != api.ErrPeriod {
			t.Errorf("Fork(%v): %d, %v", p, n, e)
		}
	}
}

// P10.1: one instant after the other.
func TestForkOfShortPeriods(t *testing.T) {
	for _, base := range []int64{0, end/4 - 20, end/2 - 33, end - 70} {
		for from := base; from <= base+69; from++ {
			best := from
			for to := from + 1; to <= base+70; to++ {
				at := to - 1
				if best != 0 && powerOf(at) > powerOf(best) {
					best = at
				}
				if n, e := Fork(span(from, to)); n != best || e != api.OK {
					t.Fatalf("Fork(%d to %d): %d, %v, want %d", from, to, n, e, best)
				}
			}
		}
	}
}

// P10.1: of long ones too, the greatest power of which a multiple is within.
func TestForkOfLongPeriods(t *testing.T) {
	for _, p := range samples() {
		want := int64(0)
		for w := int64(end); p.From > 0; w /= 2 {
			if want = (p.From + w - 1) / w * w; want < p.To {
				break
			}
		}
		if n, e := Fork(p); n != want || e != api.OK {
			t.Errorf("Fork(%v): %d, %v, want %d", p, n, e, want)
		}
	}
}

// P10.3
func TestNodes(t *testing.T) {
	doubles := func(from int64) []int64 {
		var list []int64
		for n := from; n <= end; n *= 2 {
			list = append(list, n)
		}
		return list
	}
	cases := []struct {
		p           api.Period
		left, right []int64
	}{
		{span(6, 7), []int64{0, 4}, doubles(8)},
		{span(0, 1), nil, nil},
		{span(0, 2), nil, doubles(2)},
		{span(0, 3), nil, doubles(4)},
		{span(0, end), nil, []int64{end}},
		{span(1, 2), []int64{0}, doubles(2)},
		{span(3, 9), []int64{0, 2}, doubles(16)},
		{span(7, 8), []int64{0, 4, 6}, doubles(8)},
		{span(5, 6), []int64{0, 4}, append([]int64{6}, doubles(8)...)},
		{span(end/2, end/2+1), []int64{0}, []int64{end}},
		{span(1, end/2+1), []int64{0}, []int64{end}},
	}
	for _, c := range cases {
		left, right, e := Nodes(c.p)
		if e != api.OK || !slices.Equal(left, c.left) || !slices.Equal(right, c.right) {
			t.Errorf("Nodes(%v): %v, %v, %v, want %v, %v", c.p, left, right, e, c.left, c.right)
		}
	}
	left, right, _ := Nodes(span(end-1, end))
	if len(left) != 40 || left[0] != 0 || left[1] != end/2 || left[39] != end-2 || !slices.Equal(right, []int64{end}) {
		t.Errorf("Nodes of the last instant: %v, %v", left, right)
	}
	for _, p := range wrong() {
		if left, right, e := Nodes(p); len(left) != 0 || len(right) != 0 || e != api.ErrPeriod {
			t.Errorf("Nodes(%v): %v, %v, %v", p, left, right, e)
		}
	}
}

// P10.3: held against the words of the chapter.
func TestNodesAbove(t *testing.T) {
	for _, p := range samples() {
		wantLeft := slices.DeleteFunc(nodesAbove(p.From), func(n int64) bool { return n >= p.From })
		wantRight := slices.DeleteFunc(nodesAbove(p.To-1), func(n int64) bool { return n < p.To })
		slices.Sort(wantLeft)
		slices.Sort(wantRight)
		left, right, e := Nodes(p)
		if e != api.OK || !slices.Equal(left, wantLeft) || !slices.Equal(right, wantRight) {
			t.Fatalf("Nodes(%v): %v, %v, %v, want %v, %v", p, left, right, e, wantLeft, wantRight)
		}
	}
}

func overlap(a, b api.Period) bool { return a.From < b.To && b.From < a.To }

// P10.3: a period that overlaps p is filed at one of p's nodes, or at an instant of p.
func TestNodesAreEnough(t *testing.T) {
	list := samples()
	for _, p := range list {
		left, right, _ := Nodes(p)
		for _, q := range list {
			n, _ := Fork(q)
			if overlap(p, q) && !(p.From <= n && n < p.To) && !slices.Contains(left, n) && !slices.Contains(right, n) {
				t.Fatalf("%v overlaps %v, but is filed at %d", q, p, n)
			}
		}
	}
}

// P10.2, and the order of errors.
func TestAddAndCut(t *testing.T) {
	x := New()
	if x.Len() != 0 || x.Cut(0) != api.ErrMissing || x.Cut(math.MinInt64) != api.ErrMissing {
		t.Error("a new tree has a period")
	}
	ids := []int64{0, 7, -7, math.MaxInt64, math.MinInt64, -1, end}
	for i, id := range ids {
		if e := x.Add(id, span(3, 9)); e != api.OK || x.Len() != i+1 {
			t.Errorf("Add(%d): %v, Len %d", id, e, x.Len())
		}
	}
	for _, id := range ids {
		for _, p := range []api.Period{span(3, 9), span(0, 1), span(0, end)} {
			if e := x.Add(id, p); e != api.ErrKey {
				t.Errorf("Add(%d) once more: %v", id, e)
			}
		}
		for _, p := range wrong() {
			if e := x.Add(id, p); e != api.ErrPeriod {
				t.Errorf("Add(%d, %v): %v", id, p, e)
			}
		}
	}
	for _, p := range wrong() {
		if e := x.Add(99, p); e != api.ErrPeriod || x.Len() != len(ids) {
			t.Errorf("Add(99, %v): %v", p, e)
		}
	}
	for i, id := range ids {
		if e := x.Cut(id); e != api.OK || x.Len() != len(ids)-1-i {
			t.Errorf("Cut(%d): %v", id, e)
		}
		if e := x.Cut(id); e != api.ErrMissing {
			t.Errorf("Cut(%d) once more: %v", id, e)
		}
	}
	if e := x.Add(7, span(0, 1)); e != api.OK || x.Len() != 1 {
		t.Errorf("Add behind Cut: %v", e)
	}
	if l, _ := x.Overlap(span(1, end)); len(l) != 0 {
		t.Errorf("Overlap finds what was cut: %v", l)
	}
	if New().Len() != 0 {
		t.Error("trees are not apart")
	}
}

// P10.4, and the examples of the chapter.
func TestOverlapAndStab(t *testing.T) {
	x := New()
	x.Add(7, span(3, 9))
	x.Add(-2, span(0, end))
	x.Add(math.MaxInt64, span(8, 9))
	x.Add(math.MinInt64, span(9, 10))
	overlaps := []struct {
		p    api.Period
		want []int64
	}{
		{span(8, 20), []int64{math.MinInt64, -2, 7, math.MaxInt64}},
		{span(9, 20), []int64{math.MinInt64, -2}},
		{span(10, 20), []int64{-2}},
		{span(0, 3), []int64{-2}},
		{span(0, 4), []int64{-2, 7}},
		{span(2, 3), []int64{-2}},
		{span(3, 4), []int64{-2, 7}},
		{span(0, end), []int64{math.MinInt64, -2, 7, math.MaxInt64}},
		{span(end-1, end), []int64{-2}},
	}
	for _, c := range overlaps {
		if l, e := x.Overlap(c.p); !slices.Equal(l, c.want) || e != api.OK {
			t.Errorf("Overlap(%v): %v, %v, want %v", c.p, l, e, c.want)
		}
	}
	stabs := []struct {
		at   int64
		want []int64
	}{
		{0, []int64{-2}},
		{2, []int64{-2}},
		{3, []int64{-2, 7}},
		{8, []int64{-2, 7, math.MaxInt64}},
		{9, []int64{math.MinInt64, -2}},
		{10, []int64{-2}},
		{end - 1, []int64{-2}},
	}
	for _, c := range stabs {
		if l, e := x.Stab(c.at); !slices.Equal(l, c.want) || e != api.OK {
			t.Errorf("Stab(%d): %v, %v, want %v", c.at, l, e, c.want)
		}
	}
}

// P10.4: wrong inputs, also of a tree without periods.
func TestOverlapAndStabRefused(t *testing.T) {
	some := New()
	some.Add(1, span(0, end))
	for _, x := range []*Tree{New(), some} {
		for _, p := range wrong() {
			if l, e := x.Overlap(p); len(l) != 0 || e != api.ErrPeriod {
				t.Errorf("Overlap(%v): %v, %v", p, l, e)
			}
		}
		for _, at := range []int64{-1, math.MinInt64, end, end + 1, math.MaxInt64, math.MaxInt64 - 1} {
			if l, e := x.Stab(at); len(l) != 0 || e != api.ErrRange {
				t.Errorf("Stab(%d): %v, %v", at, l, e)
			}
		}
		for _, at := range []int64{0, end - 1} {
			if l, e := x.Stab(at); len(l) != x.Len() || e != api.OK {
				t.Errorf("Stab(%d): %v, %v", at, l, e)
			}
		}
	}
}

// found is what a model's periods have in common with one.
func found(model map[int64]api.Period, p api.Period) []int64 {
	var ids []int64
	for id, q := range model {
		if overlap(p, q) {
			ids = append(ids, id)
		}
	}
	slices.Sort(ids)
	return ids
}

// P10.4: all periods of a few instants, each asked for with all.
func TestEveryOverlap(t *testing.T) {
	for _, base := range []int64{0, 1, end/2 - 6, end - 13} {
		x := New()
		model := map[int64]api.Period{}
		for from := base; from < base+13; from++ {
			for to := from + 1; to <= base+13; to++ {
				id := (from-base)*100 + to - base - 500
				x.Add(id, span(from, to))
				model[id] = span(from, to)
			}
		}
		for _, p := range model {
			if l, e := x.Overlap(p); !slices.Equal(l, found(model, p)) || e != api.OK {
				t.Fatalf("Overlap(%v): %v, %v", p, l, e)
			}
		}
		for at := base; at < base+13; at++ {
			if l, e := x.Stab(at); !slices.Equal(l, found(model, span(at, at+1))) || e != api.OK {
				t.Fatalf("Stab(%d): %v, %v", at, l, e)
			}
		}
	}
}

// P10.2, P10.4, P2: many calls, held against a map; refused ones change nothing.
func TestModel(t *testing.T) {
	x := dice(10)
	hits, refused, cuts := 0, 0, 0
	for range 6 {
		tree := New()
		model := map[int64]api.Period{}
		for range 2500 {
			id := x.below(400) - 200
			_, was := model[id]
			switch x.below(6) {
			case 0, 1, 2:
				p, want := x.period(), api.OK
				switch {
				case x.below(8) == 0:
					p, want = wrong()[x.below(int64(len(wrong())))], api.ErrPeriod
				case was:
					want = api.ErrKey
				default:
					model[id] = p
				}
				if e := tree.Add(id, p); e != want {
					t.Fatalf("Add(%d, %v): %v, want %v", id, p, e, want)
				}
				if want != api.OK {
					refused++
				}
			case 3:
				want := api.ErrMissing
				if was {
					want = api.OK
					cuts++
				}
				if e := tree.Cut(id); e != want {
					t.Fatalf("Cut(%d): %v, want %v", id, e, want)
				}
				delete(model, id)
			case 4:
				p := x.period()
				want := found(model, p)
				hits += len(want)
				if l, e := tree.Overlap(p); !slices.Equal(l, want) || e != api.OK {
					t.Fatalf("Overlap(%v): %v, %v, want %v", p, l, e, want)
				}
			case 5:
				at := x.period().From
				if l, e := tree.Stab(at); !slices.Equal(l, found(model, span(at, at+1))) || e != api.OK {
					t.Fatalf("Stab(%d): %v, %v", at, l, e)
				}
			}
			if tree.Len() != len(model) {
				t.Fatalf("Len: %d, want %d", tree.Len(), len(model))
			}
		}
		for id := range model {
			if tree.Cut(id) != api.OK {
				t.Fatalf("Cut(%d) at the end", id)
			}
		}
		if l, _ := tree.Overlap(span(0, end)); len(l) != 0 || tree.Len() != 0 {
			t.Fatalf("left at the end: %v", l)
		}
		if tree.byFrom.Len() != 0 || tree.byTo.Len() != 0 {
			t.Fatal("texts are left at the end")
		}
	}
	if hits < 10000 || refused < 1000 || cuts < 500 {
		t.Errorf("too little was tried: %d hits, %d refused, %d cuts", hits, refused, cuts)
	}
}

// P2: what is answered is the caller's.
func TestAnswersAreNewMemory(t *testing.T) {
	x := New()
	for id := range int64(20) {
		x.Add(id, span(id, id+5))
	}
	first, _ := x.Overlap(span(3, 9))
	second, _ := x.Overlap(span(3, 9))
	kept := slices.Clone(second)
	clear(first[:cap(first)])
	if again, _ := x.Overlap(span(3, 9)); !slices.Equal(second, kept) || !slices.Equal(again, kept) {
		t.Error("Overlap shares its memory")
	}
	left, right, _ := Nodes(span(7, 8))
	keptRight := slices.Clone(right)
	clear(left[:cap(left)])
	if !slices.Equal(right, keptRight) {
		t.Error("the two lists of Nodes share memory")
	}
	stab, _ := x.Stab(4)
	clear(stab[:cap(stab)])
	if again, _ := x.Stab(4); !slices.Equal(again, []int64{0, 1, 2, 3, 4}) {
		t.Errorf("Stab shares its memory: %v", again)
	}
}

// P10.4: few ranges are gone through, not all periods: many questions to many periods end soon.
func TestManyPeriods(t *testing.T) {
	x := New()
	const count = 50_000
	for id := range int64(count) {
		x.Add(id, span(id*10, id*10+10))
	}
	for id := range int64(count) {
		if l, e := x.Stab(id * 10); e != api.OK || len(l) != 1 || l[0] != id {
			t.Fatalf("Stab(%d): %v, %v", id*10, l, e)
		}
	}
}
