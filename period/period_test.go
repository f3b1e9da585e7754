package period

import (
	"math"
	"slices"
	"testing"

	"annals/api"
)

func span(from, to int64) api.Period { return api.Period{From: from, To: to} }

// wrong is what is no period.
func wrong() []api.Period {
	return []api.Period{
		{},
		span(2, 2),
		span(5, 3),
		span(-1, 5),
		span(-1, 0),
		span(-5, -3),
		span(0, api.Forever+1),
		span(3, math.MaxInt64),
		span(api.Forever, api.Forever),
		span(api.Forever, api.Forever+1),
		span(api.Forever, 0),
		span(math.MinInt64, math.MaxInt64),
		span(math.MaxInt64, math.MinInt64),
		span(math.MinInt64, math.MinInt64),
		span(math.MaxInt64, math.MaxInt64),
		span(math.MinInt64, 5),
	}
}

func right() []api.Period {
	return []api.Period{
		span(0, 1),
		span(0, api.Forever),
		span(3, 9),
		span(api.Forever-1, api.Forever),
		span(1, api.Forever-1),
	}
}

// dice answers numbers that look thrown, the same ones each time.
type dice uint64

func (x *dice) below(n int) int {
	*x = *x*6364136223846793005 + 1442695040888963407
	return int(uint64(*x) >> 33 % uint64(n))
}

// width is how many instants the tests below go through one by one.
const width = 12

// small is all periods of the first instants, and what is none.
func small() []api.Period {
	var list []api.Period
	for from := int64(-1); from <= 7; from++ {
		for to := int64(-1); to <= 7; to++ {
			list = append(list, span(from, to))
		}
	}
	return list
}

// P4.1
func TestCheck(t *testing.T) {
	for _, p := range right() {
		if e := Check(p); e != api.OK {
			t.Errorf("Check(%v): %v", p, e)
		}
	}
	for _, p := range wrong() {
		if e := Check(p); e != api.ErrPeriod {
			t.Errorf("Check(%v): %v", p, e)
		}
	}
}

// P4.1: of any numbers, also where there is no period.
func TestHas(t *testing.T) {
	cases := []struct {
		p    api.Period
		at   int64
		want bool
	}{
		{span(3, 9), 2, false},
		{span(3, 9), 3, true},
		{span(3, 9), 8, true},
		{span(3, 9), 9, false},
		{span(0, api.Forever), 0, true},
		{span(0, api.Forever), -1, false},
		{span(0, api.Forever), api.Forever - 1, true},
		{span(0, api.Forever), api.Forever, false},
		{span(4, 4), 4, false},
		{span(9, 3), 5, false},
		{span(-5, -3), -5, true},
		{span(-5, -3), -3, false},
		{span(-5, 5), 0, true},
		{span(0, math.MaxInt64), api.Forever, true},
		{span(0, math.MaxInt64), math.MaxInt64, false},
		{span(0, math.MaxInt64), math.MaxInt64 - 1, true},
		{span(math.MinInt64, 0), math.MinInt64, true},
		{span(math.MinInt64, math.MaxInt64), 7, true},
		{span(math.MinInt64, math.MinInt64), math.MinInt64, false},
	}
	for _, c := range cases {
		if Has(c.p, c.at) != c.want {
			t.Errorf("Has(%v, %d): not %v", c.p, c.at, c.want)
		}
	}
}

// P4.2: the numbers are those of the document.
func TestWaysAreNumbered(t *testing.T) {
	ways := []int{Before, Meets, Overlaps, Starts, During, Finishes, Equals, FinishedBy, Contains, StartedBy, OverlappedBy, MetBy, After}
	for i, w := range ways {
		if w != i+1 {
			t.Errorf("way %d has the number %d", i+1, w)
		}
	}
}

// P4.2
func TestRelate(t *testing.T) {
	const end = api.Forever
	cases := []struct {
		a, b api.Period
		want int
	}{
		{span(1, 3), span(4, 6), Before},
		{span(1, 3), span(5, 6), Before},
		{span(0, 1), span(end-1, end), Before},
		{span(1, 4), span(4, 6), Meets},
		{span(0, 1), span(1, end), Meets},
		{span(1, 5), span(4, 6), Overlaps},
		{span(4, 5), span(4, 6), Starts},
		{span(0, 1), span(0, end), Starts},
		{span(5, 7), span(4, 9), During},
		{span(5, 9), span(4, 9), Finishes},
		{span(end-1, end), span(0, end), Finishes},
		{span(4, 9), span(4, 9), Equals},
		{span(0, end), span(0, end), Equals},
		{span(0, 1), span(0, 1), Equals},
		{span(3, 9), span(4, 9), FinishedBy},
		{span(3, 9), span(4, 8), Contains},
		{span(0, end), span(1, 2), Contains},
		{span(4, 9), span(4, 8), StartedBy},
		{span(5, 9), span(4, 8), OverlappedBy},
		{span(8, 9), span(4, 8), MetBy},
		{span(9, 10), span(4, 8), After},
		{span(10, 11), span(4, 8), After},
		{span(end-1, end), span(0, 1), After},
	}
	for _, c := range cases {
		if n, e := Relate(c.a, c.b); n != c.want || e != api.OK {
			t.Errorf("Relate(%v, %v): %d, %v, want %d", c.a, c.b, n, e, c.want)
		}
	}
}

// P4.2: the ways are so numbered that a's to b and b's to a are 14 together.
func TestRelateTurnedAbout(t *testing.T) {
	seen := make([]int, 14)
	for _, a := range small() {
		for _, b := range small() {
			n, e := Relate(a, b)
			if Check(a) != api.OK || Check(b) != api.OK {
				if n != 0 || e != api.ErrPeriod {
					t.Fatalf("Relate(%v, %v): %d, %v", a, b, n, e)
				}
				continue
			}
			back, _ := Relate(b, a)
			if e != api.OK || n < Before || n > After || n+back != 14 {
				t.Fatalf("Relate(%v, %v): %d, %v; turned about %d", a, b, n, e, back)
			}
			seen[n]++
			_, common := Overlap(a, b)
			if apart := n <= Meets || n >= MetBy; apart == common {
				t.Fatalf("Relate(%v, %v): %d, but Overlap %v", a, b, n, common)
			}
		}
	}
	if slices.Contains(seen[1:], 0) {
		t.Errorf("a way was never answered: %v", seen)
	}
}

// P4.2
func TestRelateAndOverlapOfWhatIsNoPeriod(t *testing.T) {
	others := append(right(), wrong()...)
	for _, w := range wrong() {
		for _, p := range others {
			for _, pair := range [][2]api.Period{{w, p}, {p, w}} {
				if n, e := Relate(pair[0], pair[1]); n != 0 || e != api.ErrPeriod {
					t.Errorf("Relate(%v): %d, %v", pair, n, e)
				}
				if o, ok := Overlap(pair[0], pair[1]); ok || o != (api.Period{}) {
					t.Errorf("Overlap(%v): %v, %v", pair, o, ok)
				}
			}
		}
	}
}

// P4.2
func TestOverlap(t *testing.T) {
	const end = api.Forever
	cases := []struct {
		a, b, want api.Period
	}{
		{span(1, 9), span(8, end), span(8, 9)},
		{span(1, 9), span(3, 5), span(3, 5)},
		{span(1, 9), span(1, 9), span(1, 9)},
		{span(0, end), span(0, end), span(0, end)},
		{span(0, end), span(end-1, end), span(end-1, end)},
		{span(0, 5), span(0, 1), span(0, 1)},
		{span(1, 9), span(9, 12), api.Period{}},
		{span(1, 9), span(10, 12), api.Period{}},
		{span(0, 1), span(1, end), api.Period{}},
	}
	for _, c := range cases {
		for _, pair := range [][2]api.Period{{c.a, c.b}, {c.b, c.a}} {
			p, ok := Overlap(pair[0], pair[1])
			if p != c.want || ok != (c.want != api.Period{}) {
				t.Errorf("Overlap(%v): %v, %v, want %v", pair, p, ok, c.want)
			}
		}
	}
	for _, a := range small() {
		for _, b := range small() {
			both := has(func(at int64) bool { return within(a, at) && within(b, at) })
			p, ok := Overlap(a, b)
			if want := runs(both, 0); ok != (len(want) == 1) || ok && p != want[0] || !ok && p != (api.Period{}) {
				t.Fatalf("Overlap(%v, %v): %v, %v, want %v", a, b, p, ok, want)
			}
		}
	}
}

// within: has a list's period that instant? What is no period has none.
func within(p api.Period, at int64) bool {
	return p.From >= 0 && p.To <= api.Forever && p.From <= at && at < p.To
}

// has is which of the first instants something is so at.
func has(so func(int64) bool) []bool {
	out := make([]bool, width)
	for at := range out {
		out[at] = so(int64(at))
	}
	return out
}

// runs is the periods of the instants that are told one by one, the first of them at base.
func runs(told []bool, base int64) []api.Period {
	var out []api.Period
	for i, yes := range told {
		at := base + int64(i)
		switch {
		case !yes:
		case i > 0 && told[i-1]:
			out[len(out)-1].To = at + 1
		default:
			out = append(out, span(at, at+1))
		}
	}
	return out
}

// P4.3
func TestUnion(t *testing.T) {
	const end = api.Forever
	cases := []struct {
		list, want []api.Period
	}{
		{nil, nil},
		{[]api.Period{}, nil},
		{wrong(), nil},
		{[]api.Period{span(1, 3), span(3, 5)}, []api.Period{span(1, 5)}},
		{[]api.Period{span(3, 5), span(1, 3)}, []api.Period{span(1, 5)}},
		{[]api.Period{span(1, 3), span(4, 5)}, []api.Period{span(1, 3), span(4, 5)}},
		{[]api.Period{span(4, 5), span(1, 3)}, []api.Period{span(1, 3), span(4, 5)}},
		{[]api.Period{span(1, 9), span(3, 5)}, []api.Period{span(1, 9)}},
		{[]api.Period{span(1, 9), span(3, 5), span(6, 12)}, []api.Period{span(1, 12)}},
		{[]api.Period{span(1, 9), span(1, 3), span(1, 9)}, []api.Period{span(1, 9)}},
		{[]api.Period{span(1, 3), span(5, 7), span(3, 5)}, []api.Period{span(1, 7)}},
		{[]api.Period{span(0, end)}, []api.Period{span(0, end)}},
		{[]api.Period{span(end-1, end), span(0, 1)}, []api.Period{span(0, 1), span(end-1, end)}},
		{[]api.Period{span(1, end), span(0, 1)}, []api.Period{span(0, end)}},
		{append(wrong(), span(2, 4)), []api.Period{span(2, 4)}},
		{append([]api.Period{span(2, 4)}, wrong()...), []api.Period{span(2, 4)}},
		{[]api.Period{span(1, 3), span(3, 3), span(5, 3), span(-1, 9), span(5, 7)}, []api.Period{span(1, 3), span(5, 7)}},
	}
	for _, c := range cases {
		before := slices.Clone(c.list)
		if l := Union(c.list...); !slices.Equal(l, c.want) {
			t.Errorf("Union(%v): %v, want %v", c.list, l, c.want)
		}
		if !slices.Equal(before, c.list) {
			t.Errorf("Union changed its list: %v, was %v", c.list, before)
		}
	}
}

// P4.3
func TestMinus(t *testing.T) {
	const end = api.Forever
	cases := []struct {
		a          api.Period
		list, want []api.Period
	}{
		{span(1, 9), nil, []api.Period{span(1, 9)}},
		{span(1, 9), wrong(), []api.Period{span(1, 9)}},
		{span(1, 9), []api.Period{span(3, 5)}, []api.Period{span(1, 3), span(5, 9)}},
		{span(1, 9), []api.Period{span(5, 6), span(3, 4)}, []api.Period{span(1, 3), span(4, 5), span(6, 9)}},
		{span(1, 9), []api.Period{span(5, 6), span(3, 5)}, []api.Period{span(1, 3), span(6, 9)}},
		{span(1, 9), []api.Period{span(3, 8), span(4, 5)}, []api.Period{span(1, 3), span(8, 9)}},
		{span(1, 9), []api.Period{span(1, 3)}, []api.Period{span(3, 9)}},
		{span(1, 9), []api.Period{span(0, 3)}, []api.Period{span(3, 9)}},
		{span(1, 9), []api.Period{span(7, 9)}, []api.Period{span(1, 7)}},
		{span(1, 9), []api.Period{span(7, 12)}, []api.Period{span(1, 7)}},
		{span(1, 9), []api.Period{span(1, 9)}, nil},
		{span(1, 9), []api.Period{span(0, end)}, nil},
		{span(1, 9), []api.Period{span(1, 5), span(5, 9)}, nil},
		{span(1, 9), []api.Period{span(5, 20), span(0, 6)}, nil},
		{span(1, 9), []api.Period{span(0, 1), span(9, 12)}, []api.Period{span(1, 9)}},
		{span(1, 9), []api.Period{span(10, 12), span(0, 1)}, []api.Period{span(1, 9)}},
		{span(1, 9), []api.Period{span(0, 1), span(3, 4), span(20, 30)}, []api.Period{span(1, 3), span(4, 9)}},
		{span(1, 9), append(wrong(), span(3, 4)), []api.Period{span(1, 3), span(4, 9)}},
		{span(0, end), []api.Period{span(0, 1), span(end-1, end)}, []api.Period{span(1, end-1)}},
		{span(0, end), []api.Period{span(1, end-1)}, []api.Period{span(0, 1), span(end-1, end)}},
		{span(5, 6), []api.Period{span(4, 5), span(6, 7)}, []api.Period{span(5, 6)}},
	}
	for _, c := range cases {
		before := slices.Clone(c.list)
		if l := Minus(c.a, c.list...); !slices.Equal(l, c.want) {
			t.Errorf("Minus(%v, %v): %v, want %v", c.a, c.list, l, c.want)
		}
		if !slices.Equal(before, c.list) {
			t.Errorf("Minus changed its list: %v, was %v", c.list, before)
		}
	}
	for _, w := range wrong() {
		for _, list := range [][]api.Period{nil, right(), wrong(), {span(3, 4)}} {
			if l := Minus(w, list...); len(l) != 0 {
				t.Errorf("Minus(%v, %v): %v", w, list, l)
			}
		}
	}
}

// P4.4
func TestEdges(t *testing.T) {
	const end = api.Forever
	cases := []struct {
		list []api.Period
		want []int64
	}{
		{nil, nil},
		{wrong(), nil},
		{[]api.Period{span(3, 9)}, []int64{3, 9}},
		{[]api.Period{span(1, 9), span(3, 5), span(1, 9)}, []int64{1, 3, 5, 9}},
		{[]api.Period{span(5, 7), span(3, 5), span(1, 3)}, []int64{1, 3, 5, 7}},
		{[]api.Period{span(0, end), span(0, 1), span(end-1, end)}, []int64{0, 1, end - 1, end}},
		{append(wrong(), span(2, 4)), []int64{2, 4}},
		{append([]api.Period{span(2, 4)}, wrong()...), []int64{2, 4}},
	}
	for _, c := range cases {
		before := slices.Clone(c.list)
		if l := Edges(c.list...); !slices.Equal(l, c.want) {
			t.Errorf("Edges(%v): %v, want %v", c.list, l, c.want)
		}
		if !slices.Equal(before, c.list) {
			t.Errorf("Edges changed its list: %v, was %v", c.list, before)
		}
	}
}

// moved is a list with all its numbers moved on.
func moved(list []api.Period, by int64) []api.Period {
	out := slices.Clone(list)
	for i := range out {
		out[i].From += by
		out[i].To += by
	}
	return out
}

// P4.3 and P4.4 beside the instants gone through one by one, at the beginning of time and at its end.
func TestListsAgreeWithInstants(t *testing.T) {
	x := dice(4)
	for _, base := range []int64{0, 1000, api.Forever - width, api.Forever - width + 3} {
		for range 4000 {
			list := make([]api.Period, x.below(7))
			for i := range list {
				list[i] = span(int64(x.below(width+3)-1), int64(x.below(width+3)-1))
			}
			list = moved(list, base)
			a := span(base+int64(x.below(width)), base+int64(x.below(width+1)))
			some := func(at int64) bool {
				return slices.ContainsFunc(list, func(p api.Period) bool { return within(p, at) })
			}
			// One instant more ahead and two behind, so that nothing is cut off.
			told := func(so func(int64) bool) []api.Period {
				flags := make([]bool, width+3)
				for i := range flags {
					flags[i] = so(base - 1 + int64(i))
				}
				return runs(flags, base-1)
			}
			if l, want := Union(list...), told(some); !slices.Equal(l, want) {
				t.Fatalf("Union(%v): %v, want %v", list, l, want)
			}
			left := func(at int64) bool { return within(a, at) && !some(at) }
			if l, want := Minus(a, list...), told(left); !slices.Equal(l, want) {
				t.Fatalf("Minus(%v, %v): %v, want %v", a, list, l, want)
			}
			var edges []int64
			for at := base - 1; at <= base+width+1; at++ {
				if slices.ContainsFunc(list, func(p api.Period) bool { return Check(p) == api.OK && (p.From == at || p.To == at) }) {
					edges = append(edges, at)
				}
			}
			if l := Edges(list...); !slices.Equal(l, edges) {
				t.Fatalf("Edges(%v): %v, want %v", list, l, edges)
			}
		}
	}
}

// P4.3 and P4.4: a list whose order the outcome must not hang on.
func TestOrderOfTheListMakesNoDifference(t *testing.T) {
	x := dice(5)
	list := []api.Period{span(1, 9), span(9, 10), span(3, 5), span(12, 14), span(12, 13), span(11, 12), span(20, 30), span(7, 2)}
	a := span(0, 25)
	union, minus, edges := Union(list...), Minus(a, list...), Edges(list...)
	for range 500 {
		i, j := x.below(len(list)), x.below(len(list))
		list[i], list[j] = list[j], list[i]
		if !slices.Equal(Union(list...), union) || !slices.Equal(Minus(a, list...), minus) || !slices.Equal(Edges(list...), edges) {
			t.Fatalf("%v: %v, %v, %v", list, Union(list...), Minus(a, list...), Edges(list...))
		}
	}
	if !slices.Equal(union, []api.Period{span(1, 10), span(11, 14), span(20, 30)}) {
		t.Errorf("Union: %v", union)
	}
}

// P2, rule 4: neither a list's spare room nor another answer is touched.
func TestNothingIsShared(t *testing.T) {
	room := []api.Period{span(5, 6), span(4, 4), span(1, 3), span(70, 80), span(90, 91)}
	before := slices.Clone(room)
	list := room[:3]
	a := span(0, 9)
	wantUnion, wantMinus, wantEdges := Union(list...), Minus(a, list...), Edges(list...)
	u, m, e := Union(list...), Minus(a, list...), Edges(list...)
	clear(u[:cap(u)])
	clear(m[:cap(m)])
	clear(e[:cap(e)])
	if !slices.Equal(room, before) {
		t.Errorf("what was handed in is changed: %v", room)
	}
	if !slices.Equal(wantUnion, []api.Period{span(1, 3), span(5, 6)}) || !slices.Equal(wantMinus, []api.Period{span(0, 1), span(3, 5), span(6, 9)}) || !slices.Equal(wantEdges, []int64{1, 3, 5, 6}) {
		t.Errorf("two answers share memory: %v, %v, %v", wantUnion, wantMinus, wantEdges)
	}
	clear(room)
	if wantUnion[0] != span(1, 3) || wantMinus[0] != span(0, 1) {
		t.Error("an answer shares memory with the list")
	}
	one := []api.Period{span(1, 3)}
	Union(one...)[0].To = 99
	Minus(one[0])[0].To = 99
	if one[0] != span(1, 3) {
		t.Error("an answer of one period shares memory with the list")
	}
}
