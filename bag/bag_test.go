package bag

import (
	"math"
	"math/big"
	"slices"
	"sort"
	"strings"
	"testing"

	"annals/api"
	"annals/codec"
)

const (
	least    = math.MinInt64
	greatest = math.MaxInt64
)

// dice answers numbers that look thrown, the same ones each time.
type dice uint64

func (x *dice) below(n int) int {
	*x = *x*6364136223846793005 + 1442695040888963407
	return int(uint64(*x) >> 33 % uint64(n))
}

func number(n int64) api.Value { return api.Value{Kind: api.Int, Int: n} }

func text(s string) api.Value { return api.Value{Kind: api.Text, Text: s} }

func row(values ...api.Value) []api.Value { return values }

func fact(from, to int64, values ...api.Value) api.Fact {
	return api.Fact{Row: values, Period: api.Period{From: from, To: to}}
}

// one is a fact of a row of one Int.
func one(n, from, to int64) api.Fact { return fact(from, to, number(n)) }

// wrong is periods that are none.
func wrong() []api.Period {
	return []api.Period{
		{}, {From: 1, To: 1}, {From: 2, To: 1}, {From: -1, To: 5}, {From: -1, To: -1}, {From: 0, To: api.Forever + 1},
		{From: api.Forever, To: api.Forever}, {From: api.Forever, To: api.Forever + 1}, {From: least, To: greatest},
		{From: greatest, To: least}, {From: least, To: 5}, {From: 0, To: greatest}, {From: 0, To: least},
	}
}

// points is the instants at which the facts of the tests begin and end.
func points() []int64 {
	return []int64{0, 1, 2, 3, 5, 8, 9, 40, 1 << 39, api.Forever - 2, api.Forever - 1, api.Forever}
}

// moment is the rows at the instants from one of the points up to the next, in order.
type moment [][]api.Value

// moments is what facts say, from point to point, by looking at every fact for each.
func moments(list []api.Fact) []moment {
	at := points()
	out := make([]moment, len(at)-1)
	for i := range out {
		for _, f := range list {
			p := f.Period
			if p.From >= 0 && p.To <= api.Forever && p.From <= at[i] && at[i+1] <= p.To {
				out[i] = append(out[i], f.Row)
			}
		}
		sort.Slice(out[i], func(j, k int) bool { return codec.Compare(out[i][j], out[i][k]) < 0 })
	}
	return out
}

// times is how often a row is there.
func (m moment) times(row []api.Value) int {
	n := 0
	for _, r := range m {
		if codec.Compare(r, row) == 0 {
			n++
		}
	}
	return n
}

// form is the normal form of what is said from point to point, by its words in the chapter.
func form(said []moment) []api.Fact {
	var rows [][]api.Value
	for _, m := range said {
		rows = append(rows, m...)
	}
	slices.SortFunc(rows, codec.Compare)
	rows = slices.CompactFunc(rows, func(a, b []api.Value) bool { return codec.Compare(a, b) == 0 })
	var out []api.Fact
	for _, row := range rows {
		var facts []api.Fact
		for k := 1; ; k++ {
			runs := runsOf(said, func(m moment) bool { return m.times(row) >= k })
			if len(runs) == 0 {
				break
			}
			for _, p := range runs {
				facts = append(facts, api.Fact{Row: row, Period: p})
			}
		}
		sort.Slice(facts, func(i, j int) bool {
			a, b := facts[i].Period, facts[j].Period
			return a.From < b.From || a.From == b.From && a.To < b.To
		})
		out = append(out, facts...)
	}
	return out
}

// runsOf is the longest periods in which something holds.
func runsOf(said []moment, holds func(moment) bool) []api.Period {
	at := points()
	var out []api.Period
	for i, m := range said {
		if !holds(m) {
			continue
		}
		if n := len(out); n > 0 && out[n-1].To == at[i] {
			out[n-1].To = at[i+1]
			continue
		}
		out = append(out, api.Period{From: at[i], To: at[i+1]})
	}
	return out
}

// same: are two lists the same facts in the same order?
func same(a, b []api.Fact) bool {
	return slices.EqualFunc(a, b, func(x, y api.Fact) bool {
		return x.Period == y.Period && codec.Compare(x.Row, y.Row) == 0
	})
}

func sameRows(a, b [][]api.Value) bool {
	return slices.EqualFunc(a, b, func(x, y []api.Value) bool { return codec.Compare(x, y) == 0 })
}

// each is what is said at each moment by itself, made from what two lists say.
func each(a, b []api.Fact, what func(a, b moment) moment) []api.Fact {
	x, y := moments(a), moments(b)
	out := make([]moment, len(x))
	for i := range out {
		out[i] = what(x[i], y[i])
	}
	return form(out)
}

// facts is a list of facts with few rows and periods, some of which are none.
func (x *dice) facts(most int, rows [][]api.Value) []api.Fact {
	at := points()
	out := make([]api.Fact, x.below(most+1))
	for i := range out {
		p := api.Period{From: at[x.below(len(at))], To: at[x.below(len(at))]}
		if x.below(12) == 0 {
			p = wrong()[x.below(len(wrong()))]
		} else if p.From > p.To && x.below(8) > 0 {
			p.From, p.To = p.To, p.From
		}
		out[i] = api.Fact{Row: rows[x.below(len(rows))], Period: p}
	}
	return out
}

// raw is rows of any values, of which some are nearly the same, and some put together are the same as others put together.
func raw() [][]api.Value {
	return [][]api.Value{
		nil, {}, row(number(1)), row(number(1), number(2)), row(number(2)), row(number(2), number(1)), row(number(-1)),
		row(text("")), row(text("a")), row(text("a\x00")), row(api.Value{}), row(api.Value{Kind: 1, Text: "a"}),
		row(api.Value{Kind: -7, Int: 4, Text: "b"}), row(api.Value{Kind: math.MaxInt}), row(api.Value{Kind: 2, Int: 1, Text: "a"}),
		row(number(1), text(strings.Repeat("x", 100))),
	}
}

// P13.1
func TestNormal(t *testing.T) {
	cases := []struct {
		name  string
		lists [][]api.Fact
		want  []api.Fact
	}{
		{"no lists", nil, nil},
		{"empty lists", [][]api.Fact{nil, {}, nil}, nil},
		{"one fact", [][]api.Fact{{one(1, 3, 4)}}, []api.Fact{one(1, 3, 4)}},
		{"all time", [][]api.Fact{{one(1, 0, api.Forever)}}, []api.Fact{one(1, 0, api.Forever)}},
		{"what meets", [][]api.Fact{{one(1, 0, 5), one(1, 5, 9)}}, []api.Fact{one(1, 0, 9)}},
		{"what meets, the other way round", [][]api.Fact{{one(1, 5, 9)}, {one(1, 0, 5)}}, []api.Fact{one(1, 0, 9)}},
		{"what is apart", [][]api.Fact{{one(1, 6, 9), one(1, 0, 5)}}, []api.Fact{one(1, 0, 5), one(1, 6, 9)}},
		{"what overlaps", [][]api.Fact{{one(1, 0, 5)}, {one(1, 3, 9)}}, []api.Fact{one(1, 0, 9), one(1, 3, 5)}},
		{"what lies within", [][]api.Fact{{one(1, 0, 9), one(1, 3, 5)}}, []api.Fact{one(1, 0, 9), one(1, 3, 5)}},
		{"the same twice", [][]api.Fact{{one(1, 0, 9)}, {one(1, 0, 9)}}, []api.Fact{one(1, 0, 9), one(1, 0, 9)}},
		{"the same beginning", [][]api.Fact{{one(1, 0, 9), one(1, 0, 5), one(1, 0, 7)}}, []api.Fact{one(1, 0, 5), one(1, 0, 7), one(1, 0, 9)}},
		{"one begins where another ends, within a third", [][]api.Fact{{one(1, 0, 9), one(1, 1, 5), one(1, 5, 8)}}, []api.Fact{one(1, 0, 9), one(1, 1, 8)}},
		{"other rows", [][]api.Fact{{one(2, 0, 5), one(1, 5, 9)}}, []api.Fact{one(1, 5, 9), one(2, 0, 5)}},
		{"a row and a longer one", [][]api.Fact{{fact(0, 5, number(1), number(2)), one(1, 5, 9)}}, []api.Fact{one(1, 5, 9), fact(0, 5, number(1), number(2))}},
		{"rows without values", [][]api.Fact{{fact(5, 9)}, {{Row: []api.Value{}, Period: api.Period{From: 0, To: 5}}}}, []api.Fact{fact(0, 9)}},
		{"rows that differ in what has no meaning", [][]api.Fact{{fact(0, 5, api.Value{Kind: 1, Text: "b"}), fact(5, 9, api.Value{Kind: 1})}}, []api.Fact{fact(5, 9, api.Value{Kind: 1}), fact(0, 5, api.Value{Kind: 1, Text: "b"})}},
		{"up to the end of time", [][]api.Fact{{one(1, api.Forever-1, api.Forever), one(1, 0, api.Forever-1)}}, []api.Fact{one(1, 0, api.Forever)}},
	}
	for _, c := range cases {
		if got := Normal(c.lists...); !same(got, c.want) {
			t.Errorf("%s: %v, want %v", c.name, got, c.want)
		}
	}
}

// P13.1 to P13.6: a fact without a period is passed over.
func TestFactsWithoutAPeriod(t *testing.T) {
	right := []api.Fact{one(1, 2, 4)}
	all := api.Period{From: 0, To: api.Forever}
	for _, p := range wrong() {
		list := []api.Fact{{Row: row(number(7)), Period: p}, right[0], {Row: row(number(1)), Period: p}}
		projected, e := Project(list, 0)
		sum, e2 := Sum(list, 0)
		if e != api.OK || e2 != api.OK {
			t.Fatalf("%v: %v, %v", p, e, e2)
		}
		for name, got := range map[string][]api.Fact{
			"Normal": Normal(list), "Coalesce": Coalesce(list), "Except": Except(list, nil), "Except nothing": Except(right, append(list[:1:1], list[2])),
			"Clip": Clip(list, all), "Project": projected, "Count": Count(list), "Sum": sum,
		} {
			if !same(got, right) {
				t.Errorf("%s with %v: %v", name, p, got)
			}
		}
		if got := Join(list, list); !same(got, []api.Fact{fact(2, 4, number(1), number(1))}) {
			t.Errorf("Join with %v: %v", p, got)
		}
		for _, at := range []int64{least, -1, 0, 2, 3, 4, 5, api.Forever - 1, api.Forever, greatest} {
			want := 0
			if at == 2 || at == 3 {
				want = 1
			}
			if got := Slice(list, at); len(got) != want {
				t.Errorf("Slice at %d with %v: %v", at, p, got)
			}
		}
		if got := Clip(right, p); len(got) != 0 {
			t.Errorf("Clip to %v: %v", p, got)
		}
	}
}

// P13.1
func TestSlice(t *testing.T) {
	list := []api.Fact{one(2, 3, 5), one(1, 0, 4), one(2, 4, 9), fact(4, 6), one(2, 3, 5), fact(3, 4, text("a"), number(1)), fact(3, 4, text("a"))}
	n1, n2 := row(number(1)), row(number(2))
	cases := []struct {
		at   int64
		want [][]api.Value
	}{
		{least, nil}, {-1, nil}, {0, [][]api.Value{n1}}, {2, [][]api.Value{n1}},
		{3, [][]api.Value{n1, n2, n2, row(text("a")), row(text("a"), number(1))}},
		{4, [][]api.Value{nil, n2, n2, n2}},
		{5, [][]api.Value{nil, n2}}, {6, [][]api.Value{n2}}, {8, [][]api.Value{n2}}, {9, nil}, {api.Forever, nil}, {greatest, nil},
	}
	for _, c := range cases {
		if got := Slice(list, c.at); !sameRows(got, c.want) {
			t.Errorf("Slice at %d: %v, want %v", c.at, got, c.want)
		}
	}
	ends := []api.Fact{one(1, 0, api.Forever)}
	if len(Slice(ends, 0)) != 1 || len(Slice(ends, api.Forever-1)) != 1 || len(Slice(ends, api.Forever)) != 0 || len(Slice(nil, 0)) != 0 {
		t.Error("Slice at the edges of time")
	}
}

// P13.2
func TestCoalesce(t *testing.T) {
	list := []api.Fact{one(2, 0, 3), one(1, 5, 9), one(1, 0, 5), one(1, 2, 7), one(1, 2, 7), one(1, 11, 12), one(2, 4, 5)}
	want := []api.Fact{one(1, 0, 9), one(1, 11, 12), one(2, 0, 3), one(2, 4, 5)}
	if got := Coalesce(list); !same(got, want) {
		t.Errorf("Coalesce: %v, want %v", got, want)
	}
	if got := Coalesce([]api.Fact{fact(0, 3), fact(2, 5)}); !same(got, []api.Fact{fact(0, 5)}) {
		t.Errorf("Coalesce of rows without values: %v", got)
	}
	if len(Coalesce(nil)) != 0 {
		t.Error("Coalesce of nothing")
	}
}

// P13.3
func TestExcept(t *testing.T) {
	cases := []struct {
		name       string
		a, b, want []api.Fact
	}{
		{"nothing", nil, nil, nil},
		{"without nothing", []api.Fact{one(1, 0, 9)}, nil, []api.Fact{one(1, 0, 9)}},
		{"nothing without something", nil, []api.Fact{one(1, 0, 9)}, nil},
		{"the example", []api.Fact{one(1, 0, 5), one(1, 5, 9)}, []api.Fact{one(1, 2, 3)}, []api.Fact{one(1, 0, 2), one(1, 3, 9)}},
		{"the same", []api.Fact{one(1, 0, 9)}, []api.Fact{one(1, 0, 9)}, nil},
		{"all of it and more", []api.Fact{one(1, 2, 5)}, []api.Fact{one(1, 0, 9)}, nil},
		{"another row", []api.Fact{one(1, 0, 9)}, []api.Fact{one(2, 0, 9)}, []api.Fact{one(1, 0, 9)}},
		{"two without one", []api.Fact{one(1, 0, 9), one(1, 0, 9)}, []api.Fact{one(1, 2, 3)}, []api.Fact{one(1, 0, 2), one(1, 0, 9), one(1, 3, 9)}},
		{"one without two", []api.Fact{one(1, 0, 9)}, []api.Fact{one(1, 2, 5), one(1, 3, 7)}, []api.Fact{one(1, 0, 2), one(1, 7, 9)}},
		{"less ahead of more", []api.Fact{one(1, 5, 9)}, []api.Fact{one(1, 0, 5), one(1, 1, 5)}, []api.Fact{one(1, 5, 9)}},
	}
	for _, c := range cases {
		if got := Except(c.a, c.b); !same(got, c.want) {
			t.Errorf("%s: %v, want %v", c.name, got, c.want)
		}
	}
}

// P13.4
func TestJoin(t *testing.T) {
	cases := []struct {
		name       string
		a, b, want []api.Fact
	}{
		{"nothing", nil, nil, nil},
		{"with nothing", []api.Fact{one(1, 0, 9)}, nil, nil},
		{"nothing with something", nil, []api.Fact{one(1, 0, 9)}, nil},
		{"what overlaps", []api.Fact{one(1, 0, 5)}, []api.Fact{one(2, 3, 9)}, []api.Fact{fact(3, 5, number(1), number(2))}},
		{"the other way round", []api.Fact{one(2, 3, 9)}, []api.Fact{one(1, 0, 5)}, []api.Fact{fact(3, 5, number(2), number(1))}},
		{"what meets", []api.Fact{one(1, 0, 5)}, []api.Fact{one(2, 5, 9)}, nil},
		{"what meets, the other way round", []api.Fact{one(1, 5, 9)}, []api.Fact{one(2, 0, 5)}, nil},
		{"what lies within", []api.Fact{one(1, 0, 9)}, []api.Fact{one(2, 3, 4)}, []api.Fact{fact(3, 4, number(1), number(2))}},
		{"the same", []api.Fact{one(1, 3, 4)}, []api.Fact{one(1, 3, 4)}, []api.Fact{fact(3, 4, number(1), number(1))}},
		{"pieces", []api.Fact{one(1, 0, 5), one(1, 5, 9)}, []api.Fact{one(2, 3, 7)}, []api.Fact{fact(3, 7, number(1), number(2))}},
		{
			"twice two", []api.Fact{one(1, 0, 9), one(1, 2, 9)}, []api.Fact{one(2, 0, 5), one(2, 0, 5)},
			[]api.Fact{fact(0, 5, number(1), number(2)), fact(0, 5, number(1), number(2)), fact(2, 5, number(1), number(2)), fact(2, 5, number(1), number(2))},
		},
		{
			"as many in another way", []api.Fact{one(1, 0, 5), one(1, 0, 5), one(1, 5, 9)}, []api.Fact{one(2, 0, 5), one(2, 5, 9), one(2, 5, 9)},
			[]api.Fact{fact(0, 9, number(1), number(2)), fact(0, 9, number(1), number(2))},
		},
		{
			"rows that are alike once put together", []api.Fact{one(1, 0, 9), fact(2, 5, number(1), number(2))}, []api.Fact{one(3, 0, 9), fact(3, 9, number(2), number(3))},
			[]api.Fact{
				fact(3, 5, number(1), number(2), number(2), number(3)),
				fact(2, 9, number(1), number(2), number(3)), fact(3, 5, number(1), number(2), number(3)), fact(0, 9, number(1), number(3)),
			},
		},
		{"a row without values", []api.Fact{fact(0, 5)}, []api.Fact{one(2, 3, 9), fact(4, 6)}, []api.Fact{fact(4, 5), one(2, 3, 5)}},
	}
	for _, c := range cases {
		if got := Join(c.a, c.b); !same(got, c.want) {
			t.Errorf("%s: %v, want %v", c.name, got, c.want)
		}
	}
}

// P13.5
func TestClip(t *testing.T) {
	list := []api.Fact{one(1, 0, 9), one(1, 3, 5), one(2, 5, 7), fact(8, api.Forever)}
	cases := []struct {
		from, to int64
		want     []api.Fact
	}{
		{0, api.Forever, []api.Fact{fact(8, api.Forever), one(1, 0, 9), one(1, 3, 5), one(2, 5, 7)}},
		{4, 6, []api.Fact{one(1, 4, 5), one(1, 4, 6), one(2, 5, 6)}},
		{5, 7, []api.Fact{one(1, 5, 7), one(2, 5, 7)}},
		{0, 3, []api.Fact{one(1, 0, 3)}},
		{0, 1, []api.Fact{one(1, 0, 1)}},
		{8, 9, []api.Fact{fact(8, 9), one(1, 8, 9)}},
		{9, 10, []api.Fact{fact(9, 10)}},
		{api.Forever - 1, api.Forever, []api.Fact{fact(api.Forever-1, api.Forever)}},
		{4, 4, nil}, {6, 4, nil}, {-1, 9, nil}, {0, api.Forever + 1, nil}, {least, greatest, nil},
	}
	for _, c := range cases {
		if got := Clip(list, api.Period{From: c.from, To: c.to}); !same(got, c.want) {
			t.Errorf("Clip from %d to %d: %v, want %v", c.from, c.to, got, c.want)
		}
	}
}

// P13.5
func TestCount(t *testing.T) {
	cases := []struct {
		name       string
		list, want []api.Fact
	}{
		{"nothing", nil, nil},
		{"one", []api.Fact{one(7, 3, 9)}, []api.Fact{one(1, 3, 9)}},
		{"apart", []api.Fact{one(7, 3, 9), one(7, 0, 2)}, []api.Fact{one(1, 0, 2), one(1, 3, 9)}},
		{"one row behind another", []api.Fact{one(7, 3, 9), one(8, 0, 3)}, []api.Fact{one(1, 0, 9)}},
		{"overlapping", []api.Fact{one(7, 0, 5), one(8, 3, 9)}, []api.Fact{one(1, 0, 3), one(1, 5, 9), one(2, 3, 5)}},
		{"the same row twice", []api.Fact{one(7, 0, 5), one(7, 0, 5)}, []api.Fact{one(2, 0, 5)}},
		{"one ends as another begins", []api.Fact{one(7, 0, 9), one(7, 0, 5), one(8, 5, 9)}, []api.Fact{one(2, 0, 9)}},
		{"rows of any length", []api.Fact{fact(0, 5), fact(0, 5, text("a"), text("b"))}, []api.Fact{one(2, 0, 5)}},
	}
	for _, c := range cases {
		if got := Count(c.list); !same(got, c.want) {
			t.Errorf("%s: %v, want %v", c.name, got, c.want)
		}
	}
}

// P13.6
func TestProject(t *testing.T) {
	a, b := text("a"), text("b")
	list := []api.Fact{fact(0, 5, number(1), a), fact(3, 9, number(1), b), fact(9, 10, number(1), a, b), fact(4, 4, number(1), b)}
	cases := []struct {
		columns []int
		want    []api.Fact
		e       api.Errno
	}{
		{nil, []api.Fact{fact(0, 10), fact(3, 5)}, api.OK},
		{[]int{0}, []api.Fact{one(1, 0, 10), one(1, 3, 5)}, api.OK},
		{[]int{1}, []api.Fact{fact(0, 5, a), fact(9, 10, a), fact(3, 9, b)}, api.OK},
		{[]int{1, 0}, []api.Fact{fact(0, 5, a, number(1)), fact(9, 10, a, number(1)), fact(3, 9, b, number(1))}, api.OK},
		{[]int{0, 0}, []api.Fact{fact(0, 10, number(1), number(1)), fact(3, 5, number(1), number(1))}, api.OK},
		{[]int{2}, nil, api.ErrColumn},
		{[]int{0, 2}, nil, api.ErrColumn},
		{[]int{-1}, nil, api.ErrColumn},
		{[]int{0, math.MinInt}, nil, api.ErrColumn},
		{[]int{math.MaxInt, 0}, nil, api.ErrColumn},
	}
	for _, c := range cases {
		if got, e := Project(list, c.columns...); e != c.e || !same(got, c.want) {
			t.Errorf("Project(%v): %v, %v, want %v, %v", c.columns, got, e, c.want, c.e)
		}
	}
	short := []api.Fact{fact(0, 5, number(1), a), fact(5, 5, number(1))}
	if got, e := Project(short, 1); e != api.ErrColumn || len(got) != 0 {
		t.Errorf("Project of a short row that is passed over: %v, %v", got, e)
	}
	if got, e := Project(short, 0); e != api.OK || !same(got, []api.Fact{one(1, 0, 5)}) {
		t.Errorf("Project of what even a short row has: %v, %v", got, e)
	}
	if got, e := Project(nil, -1, 7, math.MaxInt); e != api.OK || len(got) != 0 {
		t.Errorf("Project of nothing: %v, %v", got, e)
	}
}

// P13.6
func TestSum(t *testing.T) {
	none := api.Period{From: 5, To: 5}
	short, wordy := api.Fact{Period: none}, api.Fact{Row: row(text("a")), Period: none}
	cases := []struct {
		name   string
		list   []api.Fact
		column int
		want   []api.Fact
		e      api.Errno
	}{
		{"nothing", nil, 0, nil, api.OK},
		{"nothing, of no column", nil, -1, nil, api.OK},
		{"one", []api.Fact{one(7, 3, 9)}, 0, []api.Fact{one(7, 3, 9)}, api.OK},
		{"overlapping", []api.Fact{one(7, 0, 5), one(-9, 3, 9)}, 0, []api.Fact{one(-9, 5, 9), one(-2, 3, 5), one(7, 0, 3)}, api.OK},
		{"0 of some rows is told", []api.Fact{one(7, 0, 5), one(-7, 0, 5), one(0, 6, 7)}, 0, []api.Fact{one(0, 0, 5), one(0, 6, 7)}, api.OK},
		{"as much by other rows", []api.Fact{one(7, 0, 5), one(3, 5, 9), one(4, 5, 9)}, 0, []api.Fact{one(7, 0, 9)}, api.OK},
		{"the second column", []api.Fact{fact(0, 5, text("a"), number(4)), fact(0, 5, text("b"), number(5))}, 1, []api.Fact{one(9, 0, 5)}, api.OK},
		{"an Int with a text", []api.Fact{fact(0, 5, api.Value{Kind: api.Int, Int: 4, Text: "a"})}, 0, []api.Fact{one(4, 0, 5)}, api.OK},
		{"no such column", []api.Fact{one(7, 3, 9)}, 1, nil, api.ErrColumn},
		{"a column below 0", []api.Fact{one(7, 3, 9)}, -1, nil, api.ErrColumn},
		{"the least column", []api.Fact{one(7, 3, 9)}, math.MinInt, nil, api.ErrColumn},
		{"the greatest column", []api.Fact{one(7, 3, 9)}, math.MaxInt, nil, api.ErrColumn},
		{"a text", []api.Fact{fact(0, 5, text("a"))}, 0, nil, api.ErrType},
		{"no kind", []api.Fact{fact(0, 5, api.Value{})}, 0, nil, api.ErrType},
		{"a text with a number", []api.Fact{fact(0, 5, api.Value{Kind: api.Text, Int: 4})}, 0, nil, api.ErrType},
		{"Bool's kind", []api.Fact{fact(0, 5, api.Value{Kind: 3, Int: 1})}, 0, nil, api.ErrType},
		{"a short row first", []api.Fact{one(7, 3, 9), short, wordy}, 0, nil, api.ErrColumn},
		{"a text first", []api.Fact{one(7, 3, 9), wordy, short}, 0, nil, api.ErrType},
		{"a wrong row ahead of too much", []api.Fact{one(greatest, 0, 5), one(greatest, 0, 5), wordy}, 0, nil, api.ErrType},
		{"the greatest", []api.Fact{one(greatest, 0, 5), one(0, 0, 5)}, 0, []api.Fact{one(greatest, 0, 5)}, api.OK},
		{"the least", []api.Fact{one(least, 0, 5), one(0, 0, 5)}, 0, []api.Fact{one(least, 0, 5)}, api.OK},
		{"one above the greatest", []api.Fact{one(greatest, 0, 5), one(1, 4, 9)}, 0, nil, api.ErrOverflow},
		{"one below the least", []api.Fact{one(least, 0, 5), one(-1, 4, 9)}, 0, nil, api.ErrOverflow},
		{"twice round", []api.Fact{one(least, 0, 5), one(least, 0, 5)}, 0, nil, api.ErrOverflow},
		{"four times round", []api.Fact{one(least, 0, 5), one(least, 0, 5), one(least, 0, 5), one(least, 0, 5)}, 0, nil, api.ErrOverflow},
		{"too much, and then all of it taken away", []api.Fact{one(greatest, 0, 5), one(greatest, 0, 5), one(-greatest, 0, 5)}, 0, []api.Fact{one(greatest, 0, 5)}, api.OK},
		{"too little, and then all of it given back", []api.Fact{one(least, 0, 5), one(least, 0, 5), one(greatest, 0, 5), one(1, 0, 5)}, 0, []api.Fact{one(least, 0, 5)}, api.OK},
		{"both at the edges", []api.Fact{one(least, 0, 5), one(greatest, 0, 5)}, 0, []api.Fact{one(-1, 0, 5)}, api.OK},
		{"one ends as another begins", []api.Fact{one(greatest, 0, 5), one(greatest, 5, 9)}, 0, []api.Fact{one(greatest, 0, 9)}, api.OK},
		{"too much where there is no period", []api.Fact{one(greatest, 0, 5), one(1, 5, 5)}, 0, []api.Fact{one(greatest, 0, 5)}, api.OK},
		{"too much at the last instant", []api.Fact{one(greatest, 0, api.Forever), one(1, api.Forever-1, api.Forever)}, 0, nil, api.ErrOverflow},
		{"too much at first, right at last", []api.Fact{one(greatest, 0, 9), one(1, 0, 5)}, 0, nil, api.ErrOverflow},
	}
	for _, c := range cases {
		if got, e := Sum(c.list, c.column); e != c.e || !same(got, c.want) {
			t.Errorf("%s: %v, %v, want %v, %v", c.name, got, e, c.want, c.e)
		}
	}
}

// P13.1 to P13.5, by what holds at each instant.
func TestInstantByInstant(t *testing.T) {
	x := dice(13)
	most := map[string]int{}
	for range 4000 {
		rows := raw()
		rows = rows[x.below(len(rows)):]
		rows = rows[:1+x.below(len(rows))]
		a, b := x.facts(12, rows), x.facts(12, rows)
		p := x.facts(1, rows[:1])
		got := map[string][]api.Fact{"Normal": Normal(a, b), "Coalesce": Coalesce(a), "Except": Except(a, b), "Join": Join(a, b), "Count": Count(a)}
		want := map[string][]api.Fact{
			"Normal": each(a, b, func(a, b moment) moment { return append(a, b...) }),
			"Coalesce": each(a, b, func(a, _ moment) moment {
				return slices.CompactFunc(a, func(r, s []api.Value) bool { return codec.Compare(r, s) == 0 })
			}),
			"Except": each(a, b, func(a, b moment) moment { return a.without(b) }),
			"Join":   each(a, b, func(a, b moment) moment { return a.with(b) }),
			"Count": each(a, b, func(a, _ moment) moment {
				if len(a) == 0 {
					return nil
				}
				return moment{row(number(int64(len(a))))}
			}),
		}
		if len(p) == 1 {
			got["Clip"] = Clip(a, p[0].Period)
			want["Clip"] = each(a, p, func(a, p moment) moment {
				if len(p) == 0 {
					return nil
				}
				return a
			})
		}
		for name, w := range want {
			most[name] = max(most[name], len(w))
			if !same(got[name], w) {
				t.Fatalf("%s of %v and %v (%v): %v, want %v", name, a, b, p, got[name], w)
			}
		}
		for i, m := range moments(a) {
			from, to := points()[i], points()[i+1]
			if !sameRows(Slice(a, from), m) || !sameRows(Slice(a, to-1), m) {
				t.Fatalf("Slice of %v at %d and %d: %v, %v, want %v", a, from, to-1, Slice(a, from), Slice(a, to-1), m)
			}
		}
	}
	for _, name := range []string{"Normal", "Coalesce", "Except", "Join", "Count", "Clip"} {
		if most[name] < 6 {
			t.Errorf("%s never came to much: %d", name, most[name])
		}
	}
}

// without is each row as many times more as it is here than there.
func (m moment) without(other moment) moment {
	var out moment
	for i, r := range m {
		if m[:i].times(r) >= other.times(r) {
			out = append(out, r)
		}
	}
	return out
}

// with is each row of one with each of the other.
func (m moment) with(other moment) moment {
	var out moment
	for _, r := range m {
		for _, s := range other {
			out = append(out, append(append([]api.Value{}, r...), s...))
		}
	}
	return out
}

// P13.6, by what holds at each instant.
func TestProjectAndSumInstantByInstant(t *testing.T) {
	x := dice(136)
	var rows [][]api.Value
	for _, n := range []int64{least, least + 1, -1, 0, 1, 5, greatest - 1, greatest} {
		rows = append(rows, row(number(n), text("a")), row(number(n), text("b")), row(number(n)))
	}
	seen := map[api.Errno]int{}
	for range 4000 {
		list := x.facts(8, rows)
		sum, e := Sum(list, 0)
		seen[e]++
		if want, wantE := slowSum(list); e != wantE || !same(sum, want) {
			t.Fatalf("Sum of %v: %v, %v, want %v, %v", list, sum, e, want, wantE)
		}
		wantE := api.OK
		for _, f := range list {
			if len(f.Row) == 1 {
				wantE = api.ErrColumn
			}
		}
		got, e := Project(list, 1, 0, 1)
		seen[e+1000]++
		var want []api.Fact
		if wantE == api.OK {
			want = each(list, nil, func(m, _ moment) moment {
				var out moment
				for _, r := range m {
					out = append(out, row(r[1], r[0], r[1]))
				}
				return out
			})
		}
		if e != wantE || !same(got, want) {
			t.Fatalf("Project of %v: %v, %v, want %v, %v", list, got, e, want, wantE)
		}
	}
	if seen[api.OK] < 100 || seen[api.ErrOverflow] < 100 || seen[1000] < 100 || seen[1000+api.ErrColumn] < 100 {
		t.Errorf("not all answers were seen often: %v", seen)
	}
}

// slowSum is Sum of the first column with numbers of any size.
func slowSum(list []api.Fact) ([]api.Fact, api.Errno) {
	e := api.OK
	out := each(list, nil, func(m, _ moment) moment {
		if len(m) == 0 {
			return nil
		}
		sum := new(big.Int)
		for _, r := range m {
			sum.Add(sum, big.NewInt(r[0].Int))
		}
		if !sum.IsInt64() {
			e = api.ErrOverflow
		}
		return moment{row(number(sum.Int64()))}
	})
	if e != api.OK {
		return nil, e
	}
	return out, e
}

// answers is what all calls answer of two lists.
func answers(a, b []api.Fact, columns []int) [][]api.Fact {
	projected, _ := Project(a, columns...)
	sum, _ := Sum(a, 0)
	slice := Slice(a, 3)
	sliced := make([]api.Fact, len(slice))
	for i, r := range slice {
		sliced[i].Row = r
	}
	return [][]api.Fact{
		Normal(a, b, a), Normal(a), Coalesce(a), Except(a, b), Except(a, nil), Join(a, b), Join(a, []api.Fact{fact(0, 9)}), Join([]api.Fact{fact(0, 9)}, a),
		Clip(a, api.Period{From: 0, To: api.Forever}), projected, Count(a), sum, sliced,
	}
}

// P2, rule 4: what is handed in stays as it is, also in its spare room, and what is answered shares memory with nothing.
func TestNothingIsShared(t *testing.T) {
	build := func() ([]api.Fact, []api.Fact, []int) {
		room := []api.Value{number(4), text("d"), number(3), text("c"), number(2), text("b"), number(1), text("a")}
		shared := room[:2]
		a := []api.Fact{
			{Row: shared, Period: api.Period{From: 0, To: 9}}, {Row: room[4:6], Period: api.Period{From: 2, To: 5}},
			{Row: shared, Period: api.Period{From: 0, To: 9}}, {Row: room[2:4], Period: api.Period{From: 3, To: 3}},
			{Row: room[2:4], Period: api.Period{From: 1, To: 7}}, {Row: room[6:8], Period: api.Period{From: 3, To: 4}},
		}
		return a[:5], []api.Fact{{Row: room[6:8], Period: api.Period{From: 0, To: 20}}, {Row: room[4:6], Period: api.Period{From: 4, To: 30}}}, []int{1, 0}
	}
	a, b, columns := build()
	first := answers(a, b, columns)
	wantA, wantB, wantColumns := build()
	if !same(a[:cap(a)], wantA[:cap(wantA)]) || !same(b, wantB) || !slices.Equal(columns, wantColumns) {
		t.Fatalf("what was handed in is changed: %v, %v, %v", a[:cap(a)], b, columns)
	}
	want := answers(wantA, wantB, wantColumns)
	for i, list := range first {
		if len(list) == 0 {
			t.Fatalf("answer %d is empty", i)
		}
		for j, f := range list {
			clear(f.Row[:cap(f.Row)])
			if !same(list[j+1:], want[i][j+1:]) {
				t.Fatalf("answer %d: the fact %d shares memory with one behind it", i, j)
			}
		}
		clear(list[:cap(list)])
	}
	if !same(a[:cap(a)], wantA[:cap(wantA)]) || !same(b, wantB) || !slices.Equal(columns, wantColumns) {
		t.Fatalf("answers share memory with what was handed in: %v, %v, %v", a, b, columns)
	}
	second := answers(a, b, columns)
	for _, list := range [][]api.Fact{a[:cap(a)], b} {
		for _, f := range list {
			clear(f.Row)
		}
		clear(list)
	}
	for i := range second {
		if !same(second[i], want[i]) {
			t.Errorf("answer %d shares memory with what was handed in: %v, want %v", i, second[i], want[i])
		}
	}
}

// P2, rule 4: what is answered hangs on the arguments alone, not on their order where that says nothing.
func TestOrderMakesNoDifference(t *testing.T) {
	x := dice(4)
	for range 300 {
		a := x.facts(20, raw())
		b := slices.Clone(a)
		for i := range b {
			j := i + x.below(len(b)-i)
			b[i], b[j] = b[j], b[i]
		}
		cut := x.below(len(b) + 1)
		if !same(Normal(a), Normal(b[cut:], nil, b[:cut])) || !same(Normal(a), Normal(Normal(b))) {
			t.Fatalf("Normal of %v and of %v", a, b)
		}
		if !same(Coalesce(a), Coalesce(Normal(b))) || !same(Count(a), Count(Normal(b))) || !same(Join(a, a), Join(b, Normal(b))) || len(Except(a, b)) != 0 {
			t.Fatalf("answers of %v and of %v", a, b)
		}
	}
}

// P1 and P13.4: a long list takes no time that grows with all pairs of facts.
func TestLongLists(t *testing.T) {
	const n = 100000
	var apart, nested, meeting, other []api.Fact
	for i := range int64(n) {
		apart = append(apart, one(i, 2*i, 2*i+1))
		nested = append(nested, one(1, i, 2*n-i))
		meeting = append(meeting, one(1, i, i+1))
		other = append(other, one(-i, 2*i, 2*i+2))
	}
	if l := Normal(apart, other); len(l) != 2*n-1+1 {
		t.Errorf("Normal of rows apart: %d", len(l))
	}
	if l := Normal(nested); len(l) != n || l[0].Period.To != 2*n || l[n-1].Period != (api.Period{From: n - 1, To: n + 1}) {
		t.Errorf("Normal of nested rows: %d", len(l))
	}
	if l := Normal(meeting, meeting); len(l) != 2 || l[1].Period != (api.Period{From: 0, To: n}) {
		t.Errorf("Normal of rows that meet: %d", len(l))
	}
	if l := Coalesce(nested); len(l) != 1 {
		t.Errorf("Coalesce of nested rows: %d", len(l))
	}
	if l := Except(nested, meeting); len(l) == 0 {
		t.Error("Except of nested rows")
	}
	if l := Join(apart, other); len(l) != n {
		t.Errorf("Join of rows apart: %d", len(l))
	}
	if l := Join(meeting, nested[:1000]); len(l) != 1000 {
		t.Errorf("Join of rows that meet: %d", len(l))
	}
	var always []api.Fact
	for i := range int64(1000) {
		always = append(always, one(i, 0, n))
	}
	if l := Join(meeting, always); len(l) != 1000 {
		t.Errorf("Join of rows that meet with those that are always there: %d", len(l))
	}
	if l := Count(nested); len(l) != 2*n-1 {
		t.Errorf("Count of nested rows: %d", len(l))
	}
	if l, e := Sum(nested, 0); e != api.OK || len(l) != 2*n-1 {
		t.Errorf("Sum of nested rows: %d, %v", len(l), e)
	}
}
