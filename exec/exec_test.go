package exec

import (
	"math"
	"slices"
	"sort"
	"testing"

	"annals/api"
	"annals/bag"
	"annals/bind"
	"annals/codec"
)

const (
	least    = math.MinInt64
	greatest = math.MaxInt64
)

// dice answers numbers that look thrown, the same ones each time.
type dice uint64

func (x *dice) below(n int) int {
	*x = *x*6364136223846793005 + 1442695040888963407
	return int(uint64(*x) >> 33 % uint64(n))
}

func number(n int64) api.Value { return api.Value{Kind: api.Int, Int: n} }

func text(s string) api.Value { return api.Value{Kind: api.Text, Text: s} }

func fact(from, to int64, values ...api.Value) api.Fact {
	return api.Fact{Row: values, Period: api.Period{From: from, To: to}}
}

// one is a fact of a row of one Int.
func one(n, from, to int64) api.Fact { return fact(from, to, number(n)) }

// two is a fact of a row of two Ints.
func two(a, b, from, to int64) api.Fact { return fact(from, to, number(a), number(b)) }

func same(a, b []api.Fact) bool {
	return slices.EqualFunc(a, b, func(x, y api.Fact) bool { return x.Period == y.Period && slices.Equal(x.Row, y.Row) })
}

// ways is all ways of joining.
func ways() []int { return []int{Nested, Sweep, Indexed, Points} }

func join2(t *testing.T, left, right Op, way int) Op {
	t.Helper()
	op, e := Join(left, right, way)
	if op == nil || e != api.OK {
		t.Fatalf("Join in the way %d: %v %v", way, op, e)
	}
	return op
}

// wrong is periods that are none.
func wrong() []api.Period {
	return []api.Period{
		{}, {From: 1, To: 1}, {From: 2, To: 1}, {From: -1, To: 5}, {From: -1, To: -1}, {From: 0, To: api.Forever + 1},
		{From: api.Forever, To: api.Forever}, {From: api.Forever, To: api.Forever + 1}, {From: least, To: greatest},
		{From: greatest, To: least}, {From: least, To: 5}, {From: 0, To: greatest}, {From: 0, To: least},
	}
}

// wrongFacts is a fact of each of these periods.
func wrongFacts() []api.Fact {
	var out []api.Fact
	for _, p := range wrong() {
		out = append(out, fact(p.From, p.To, number(7)))
	}
	return out
}

// term is a condition on the columns 0 and 1 of a row, both Ints.
func term(t *testing.T, op string, args ...api.Expr) bind.Term {
	t.Helper()
	scope := []bind.Column{{Table: "T", Column: api.Column{Name: "A", Kind: api.Int}}, {Table: "T", Column: api.Column{Name: "B", Kind: api.Int}}}
	out, e := bind.Bind(api.Expr{Op: op, Args: args}, scope)
	if e != api.OK {
		t.Fatalf("Bind of %s: %v", op, e)
	}
	return out
}

func name(s string) api.Expr { return api.Expr{Op: "name", Text: s} }

func constant(n int64) api.Expr { return api.Expr{Op: "number", Int: n} }

// P18.1
func TestScanAndResult(t *testing.T) {
	cases := []struct {
		name       string
		list, want []api.Fact
	}{
		{"nothing", nil, nil},
		{"one", []api.Fact{one(7, 3, 9)}, []api.Fact{one(7, 3, 9)}},
		{"in order", []api.Fact{one(8, 3, 9), one(7, 5, 9), one(7, 0, 2)}, []api.Fact{one(7, 0, 2), one(7, 5, 9), one(8, 3, 9)}},
		{"meeting", []api.Fact{one(7, 5, 9), one(7, 0, 5)}, []api.Fact{one(7, 0, 9)}},
		{"overlapping", []api.Fact{one(7, 0, 5), one(7, 3, 9)}, []api.Fact{one(7, 0, 9), one(7, 3, 5)}},
		{"twice", []api.Fact{one(7, 0, 5), one(7, 0, 5)}, []api.Fact{one(7, 0, 5), one(7, 0, 5)}},
		{"no values", []api.Fact{fact(0, api.Forever)}, []api.Fact{fact(0, api.Forever)}},
		{"values of no kind", []api.Fact{fact(0, 1, api.Value{Kind: -3, Int: 5, Text: "x"})}, []api.Fact{fact(0, 1, api.Value{Kind: -3, Int: 5, Text: "x"})}},
		{"no periods", wrongFacts(), nil},
		{"one with a period", append(wrongFacts(), one(7, 3, 9)), []api.Fact{one(7, 3, 9)}},
	}
	for _, c := range cases {
		op := Scan(c.list)
		for range 3 {
			if got := Result(op); !same(got, c.want) {
				t.Errorf("%s: %v, want %v", c.name, got, c.want)
			}
		}
	}
}

// P18.2
func TestFilter(t *testing.T) {
	list := []api.Fact{two(1, 2, 0, 5), two(2, 2, 3, 9), two(3, 1, 4, 8), one(1, 0, 9), fact(0, 9), fact(0, 9, text("x"), number(2)), two(2, 2, 5, 5), two(greatest, 1, 1, 2)}
	less, equal := term(t, "<", name("A"), name("B")), term(t, "=", name("B"), constant(2))
	over := term(t, ">", api.Expr{Op: "+", Args: []api.Expr{name("A"), constant(1)}}, constant(0))
	constantly := term(t, "=", constant(1), constant(1))
	cases := []struct {
		name  string
		terms []bind.Term
		want  []api.Fact
	}{
		{"no terms", nil, bag.Normal(list)},
		{"what is always true", []bind.Term{constantly}, bag.Normal(list)},
		{"less", []bind.Term{less}, []api.Fact{two(1, 2, 0, 5)}},
		{"equal", []bind.Term{equal}, []api.Fact{two(1, 2, 0, 5), two(2, 2, 3, 9), fact(0, 9, text("x"), number(2))}},
		{"both", []bind.Term{equal, less}, []api.Fact{two(1, 2, 0, 5)}},
		{"both, the other way", []bind.Term{less, constantly, equal}, []api.Fact{two(1, 2, 0, 5)}},
		{"an error doesn't hold", []bind.Term{over}, []api.Fact{one(1, 0, 9), two(1, 2, 0, 5), two(2, 2, 3, 9), two(3, 1, 4, 8)}},
		{"a number is no condition", []bind.Term{term(t, "+", constant(0), constant(1))}, nil},
		{"a moved term", []bind.Term{bind.Move(equal, -1)}, []api.Fact{two(2, 2, 3, 9)}},
		{"moved ahead of the row", []bind.Term{bind.Move(equal, -2)}, nil},
	}
	for _, c := range cases {
		if got := Result(Filter(Scan(list), c.terms...)); !same(got, c.want) {
			t.Errorf("%s: %v, want %v", c.name, got, c.want)
		}
		if got := Result(Filter(Scan(nil), c.terms...)); len(got) != 0 {
			t.Errorf("%s of nothing: %v", c.name, got)
		}
	}
}

// P18.2
func TestDuring(t *testing.T) {
	list := append(wrongFacts(), one(1, 0, 5), one(2, 3, 9), one(3, 9, api.Forever), one(2, 3, 9))
	cases := []struct {
		from, to int64
		want     []api.Fact
	}{
		{0, api.Forever, []api.Fact{one(1, 0, 5), one(2, 3, 9), one(2, 3, 9), one(3, 9, api.Forever)}},
		{4, 20, []api.Fact{one(1, 4, 5), one(2, 4, 9), one(2, 4, 9), one(3, 9, 20)}},
		{5, 9, []api.Fact{one(2, 5, 9), one(2, 5, 9)}},
		{0, 3, []api.Fact{one(1, 0, 3)}},
		{0, 1, []api.Fact{one(1, 0, 1)}},
		{9, 10, []api.Fact{one(3, 9, 10)}},
		{api.Forever - 1, api.Forever, []api.Fact{one(3, api.Forever-1, api.Forever)}},
	}
	for _, c := range cases {
		if got := Result(During(Scan(list), api.Period{From: c.from, To: c.to})); !same(got, c.want) {
			t.Errorf("from %d to %d: %v, want %v", c.from, c.to, got, c.want)
		}
	}
	for _, p := range wrong() {
		if got := Result(During(Scan(list), p)); len(got) != 0 {
			t.Errorf("during %v: %v", p, got)
		}
	}
}

// P18.3
func TestJoin(t *testing.T) {
	cases := []struct {
		name              string
		left, right, want []api.Fact
	}{
		{"nothing", nil, nil, nil},
		{"no left", nil, []api.Fact{one(1, 0, 5)}, nil},
		{"no right", []api.Fact{one(1, 0, 5)}, nil, nil},
		{"the example", []api.Fact{one(1, 0, 5)}, []api.Fact{one(2, 3, 9)}, []api.Fact{two(1, 2, 3, 5)}},
		{"the left's row ahead", []api.Fact{one(2, 3, 9)}, []api.Fact{one(1, 0, 5)}, []api.Fact{two(2, 1, 3, 5)}},
		{"meeting", []api.Fact{one(1, 0, 5)}, []api.Fact{one(2, 5, 9)}, nil},
		{"met", []api.Fact{one(1, 5, 9)}, []api.Fact{one(2, 0, 5)}, nil},
		{"one instant", []api.Fact{one(1, 0, 5)}, []api.Fact{one(2, 4, 9)}, []api.Fact{two(1, 2, 4, 5)}},
		{"one instant, the other way", []api.Fact{one(1, 4, 9)}, []api.Fact{one(2, 0, 5)}, []api.Fact{two(1, 2, 4, 5)}},
		{"within", []api.Fact{one(1, 0, 9)}, []api.Fact{one(2, 4, 5)}, []api.Fact{two(1, 2, 4, 5)}},
		{"around", []api.Fact{one(1, 4, 5)}, []api.Fact{one(2, 0, 9)}, []api.Fact{two(1, 2, 4, 5)}},
		{"the same", []api.Fact{one(1, 4, 5)}, []api.Fact{one(2, 4, 5)}, []api.Fact{two(1, 2, 4, 5)}},
		{"the same beginning", []api.Fact{one(1, 4, 5), one(3, 4, 7)}, []api.Fact{one(2, 4, 9)}, []api.Fact{two(1, 2, 4, 5), two(3, 2, 4, 7)}},
		{"the same end", []api.Fact{one(1, 4, 9)}, []api.Fact{one(2, 0, 9)}, []api.Fact{two(1, 2, 4, 9)}},
		{"the first instant", []api.Fact{one(1, 0, 1)}, []api.Fact{one(2, 0, api.Forever)}, []api.Fact{two(1, 2, 0, 1)}},
		{"the last instant", []api.Fact{one(1, api.Forever-1, api.Forever)}, []api.Fact{one(2, 0, api.Forever)}, []api.Fact{two(1, 2, api.Forever-1, api.Forever)}},
		{"all of time", []api.Fact{one(1, 0, api.Forever)}, []api.Fact{one(2, 0, api.Forever)}, []api.Fact{two(1, 2, 0, api.Forever)}},
		{"as often as told", []api.Fact{one(1, 0, 5), one(1, 0, 5)}, []api.Fact{one(2, 3, 9), one(2, 3, 9), one(2, 4, 5)},
			[]api.Fact{two(1, 2, 3, 5), two(1, 2, 3, 5), two(1, 2, 3, 5), two(1, 2, 3, 5), two(1, 2, 4, 5), two(1, 2, 4, 5)}},
		{"not in normal form", []api.Fact{one(1, 3, 9), one(1, 0, 3)}, []api.Fact{one(2, 1, 4), one(2, 4, 8)}, []api.Fact{two(1, 2, 1, 8)}},
		{"rows of any length", []api.Fact{fact(0, 9), fact(2, 4, number(1), text("x"))}, []api.Fact{fact(1, 3), fact(0, 5, api.Value{Kind: 9})},
			[]api.Fact{fact(1, 3), fact(2, 3, number(1), text("x")), fact(2, 4, number(1), text("x"), api.Value{Kind: 9}), fact(0, 5, api.Value{Kind: 9})}},
		{"what has no period", append(wrongFacts(), one(1, 0, 5)), append([]api.Fact{one(2, 3, 9)}, wrongFacts()...), []api.Fact{two(1, 2, 3, 5)}},
		{"nothing has a period", wrongFacts(), wrongFacts(), nil},
		{"no period on the left", wrongFacts(), []api.Fact{one(2, 0, api.Forever)}, nil},
		{"no period on the right", []api.Fact{one(2, 0, api.Forever)}, wrongFacts(), nil},
	}
	for _, c := range cases {
		for _, way := range ways() {
			op := join2(t, Scan(c.left), Scan(c.right), way)
			for range 2 {
				if got := Result(op); !same(got, c.want) {
					t.Errorf("%s, in the way %d: %v, want %v", c.name, way, got, c.want)
				}
			}
		}
	}
}

// P18.3
func TestJoinInNoWay(t *testing.T) {
	if Nested != 1 || Sweep != 2 || Indexed != 3 || Points != 4 {
		t.Error("the numbers of the ways")
	}
	left, right := Scan([]api.Fact{one(1, 0, 5)}), Scan([]api.Fact{one(2, 3, 9)})
	for _, way := range []int{0, 5, -1, 6, math.MaxInt, math.MinInt, 1<<32 + 1} {
		if op, e := Join(left, right, way); op != nil || e != api.ErrKind {
			t.Errorf("way %d: %v %v", way, op, e)
		}
		if op, e := Join(nil, nil, way); op != nil || e != api.ErrKind {
			t.Errorf("way %d of no operators: %v %v", way, op, e)
		}
	}
	if !same(Result(left), []api.Fact{one(1, 0, 5)}) || !same(Result(right), []api.Fact{one(2, 3, 9)}) {
		t.Error("the inputs of a refused Join are changed")
	}
}

// P18.4
func TestShift(t *testing.T) {
	a, b, c := number(1), text("b"), api.Value{Kind: 7}
	list := []api.Fact{fact(0, 5, a, b, c), fact(1, 6, a), fact(2, 7), fact(3, 3, a, b, c)}
	cases := []struct {
		first int
		want  []api.Fact
	}{
		{0, []api.Fact{fact(2, 7), fact(1, 6, a), fact(0, 5, a, b, c)}},
		{1, []api.Fact{fact(2, 7), fact(1, 6, a), fact(0, 5, b, c, a)}},
		{2, []api.Fact{fact(2, 7), fact(1, 6, a), fact(0, 5, c, a, b)}},
		{3, []api.Fact{fact(2, 7), fact(1, 6, a), fact(0, 5, a, b, c)}},
	}
	for _, first := range []int{4, 5, math.MaxInt, -1, -2, math.MinInt} {
		cases = append(cases, cases[0])
		cases[len(cases)-1].first = first
	}
	for _, c := range cases {
		if got := Result(Shift(Scan(list), c.first)); !same(got, c.want) {
			t.Errorf("Shift by %d: %v, want %v", c.first, got, c.want)
		}
	}
	// What was two rows may be one behind it.
	pairs := join2(t, Scan([]api.Fact{one(1, 0, 5), fact(5, 9)}), Scan([]api.Fact{fact(0, 5), one(1, 5, 9)}), Nested)
	if got := Result(Shift(pairs, 1)); !same(got, []api.Fact{one(1, 0, 9)}) {
		t.Errorf("Shift of a Join: %v", got)
	}
}

// P18.5
func TestSort(t *testing.T) {
	a, b, c, d := two(2, 1, 0, 5), two(1, 2, 3, 9), one(2, 1, 4), fact(7, 9)
	none := one(1, 9, 2)
	cases := []struct {
		name    string
		columns []int
		want    []api.Fact
	}{
		{"by rows", nil, []api.Fact{d, none, b, c, a}},
		{"the first column", []int{0}, []api.Fact{d, none, b, c, a}},
		{"the second", []int{1}, []api.Fact{d, none, c, a, b}},
		{"the second, then the first", []int{1, 0}, []api.Fact{d, none, c, a, b}},
		{"a place that none has", []int{2}, []api.Fact{d, none, b, c, a}},
		{"the last place", []int{math.MaxInt}, []api.Fact{d, none, b, c, a}},
		{"From", []int{-1}, []api.Fact{a, c, b, d, none}},
		{"From, by another number", []int{math.MinInt}, []api.Fact{a, c, b, d, none}},
		{"From ahead of a column", []int{-2, 0}, []api.Fact{a, c, b, d, none}},
		{"a column, then From", []int{0, -1}, []api.Fact{d, b, none, a, c}},
		{"the same column twice, then From", []int{0, 0, -1}, []api.Fact{d, b, none, a, c}},
		{"the second column, then From", []int{1, -1}, []api.Fact{c, d, none, a, b}},
	}
	for _, x := range cases {
		if got := Sort([]api.Fact{a, b, c, d, none}, x.columns...); !same(got, x.want) {
			t.Errorf("%s: %v, want %v", x.name, got, x.want)
		}
		if got := Sort(nil, x.columns...); len(got) != 0 {
			t.Errorf("%s of nothing: %v", x.name, got)
		}
	}
	// Then by From, then by To, of any numbers; equal facts stay as many as they are.
	tail := []api.Fact{one(1, 5, 9), one(1, greatest, least), one(1, least, greatest), one(1, 5, 7), one(1, -5, 9), one(1, 5, 7), one(1, 5, least)}
	want := []api.Fact{tail[2], tail[4], tail[6], tail[3], tail[5], tail[0], tail[1]}
	for _, columns := range [][]int{nil, {0}, {1}, {-1}, {0, -1, 7}} {
		if got := Sort(tail, columns...); !same(got, want) {
			t.Errorf("by periods, with %v: %v, want %v", columns, got, want)
		}
	}
	// Values by Kind, then Int, then Text; those of no kind too.
	values := []api.Fact{fact(0, 1, text("b"), number(0)), fact(0, 1, text("ab"), number(9)), fact(0, 1, api.Value{Kind: 3, Int: -9}), fact(0, 1, api.Value{Kind: 1, Int: 5, Text: "x"}, number(7)), fact(0, 1, number(5), number(8)), fact(0, 1, api.Value{Kind: -3, Text: "z"}), fact(0, 1, number(-6), text("a"))}
	want = []api.Fact{values[5], values[6], values[4], values[3], values[1], values[0], values[2]}
	if got := Sort(values, 0); !same(got, want) {
		t.Errorf("by values: %v, want %v", got, want)
	}
}

// ahead: does a fact stand ahead of another, by the words of the chapter?
func ahead(a, b api.Fact, columns []int) bool {
	for _, c := range columns {
		switch {
		case c < 0 && a.Period.From != b.Period.From:
			return a.Period.From < b.Period.From
		case c < 0:
		case c >= len(a.Row) || c >= len(b.Row):
			if c < len(b.Row) || c < len(a.Row) {
				return c < len(b.Row)
			}
		case a.Row[c] != b.Row[c]:
			return codec.Compare([]api.Value{a.Row[c]}, []api.Value{b.Row[c]}) < 0
		}
	}
	if n := codec.Compare(a.Row, b.Row); n != 0 {
		return n < 0
	}
	if a.Period.From != b.Period.From {
		return a.Period.From < b.Period.From
	}
	return a.Period.To < b.Period.To
}

// P18.5, by thrown facts.
func TestSortThrown(t *testing.T) {
	x := dice(185)
	for range 3000 {
		list := x.facts(12)
		var columns []int
		for range x.below(4) {
			columns = append(columns, x.below(5)-1)
		}
		want := slices.Clone(list)
		sort.SliceStable(want, func(i, j int) bool { return ahead(want[i], want[j], columns) })
		if got := Sort(list, columns...); !same(got, want) {
			t.Fatalf("Sort(%v, %v): %v, want %v", list, columns, got, want)
		}
	}
}

// instants is where the facts of the tests begin and end.
func instants() []int64 {
	return []int64{0, 1, 2, 3, 5, 8, 9, 40, 1 << 39, api.Forever - 2, api.Forever - 1, api.Forever}
}

// facts is up to n thrown facts, with rows of up to three values.
func (x *dice) facts(n int) []api.Fact {
	var out []api.Fact
	for range x.below(n + 1) {
		at := instants()
		f := fact(at[x.below(len(at))], at[x.below(len(at))])
		if x.below(10) == 0 {
			f.Period = wrong()[x.below(len(wrong()))]
		} else if f.Period.From > f.Period.To {
			f.Period.From, f.Period.To = f.Period.To, f.Period.From
		}
		for range x.below(4) {
			f.Row = append(f.Row, []api.Value{number(0), number(1), number(2), text("x"), {Kind: 9}}[x.below(5)])
		}
		out = append(out, f)
	}
	return out
}

// branch is an operator, and what it tells by looking at every fact and pair.
type branch struct {
	op    Op
	facts []api.Fact
}

func overlap(a, b api.Period) (api.Period, bool) {
	p := api.Period{From: max(a.From, b.From), To: min(a.To, b.To)}
	right := func(p api.Period) bool { return p.From >= 0 && p.To <= api.Forever }
	return p, right(a) && right(b) && p.From < p.To
}

func (x *dice) tree(t *testing.T, depth int) branch {
	if depth == 0 {
		list := x.facts(7)
		return branch{Scan(list), list}
	}
	in := x.tree(t, depth-1)
	out := branch{}
	switch x.below(5) {
	case 0:
		cond := term(t, []string{"<=", ">", "<>"}[x.below(3)], name("A"), constant(1))
		out.op = Filter(in.op, cond)
		for _, f := range in.facts {
			if bind.Holds(f.Row, cond) {
				out.facts = append(out.facts, f)
			}
		}
	case 1:
		at := instants()
		p := api.Period{From: at[x.below(4)], To: at[3+x.below(len(at)-3)]}
		out.op = During(in.op, p)
		for _, f := range in.facts {
			if both, ok := overlap(f.Period, p); ok {
				out.facts = append(out.facts, fact(both.From, both.To, f.Row...))
			}
		}
	case 2:
		first := x.below(6) - 1
		out.op = Shift(in.op, first)
		for _, f := range in.facts {
			row := slices.Clone(f.Row)
			if first > 0 && first < len(row) {
				row = append(append([]api.Value{}, row[first:]...), row[:first]...)
			}
			out.facts = append(out.facts, fact(f.Period.From, f.Period.To, row...))
		}
	default:
		other := x.tree(t, depth-1)
		out.op = join2(t, in.op, other.op, 1+x.below(4))
		for _, l := range in.facts {
			for _, r := range other.facts {
				if both, ok := overlap(l.Period, r.Period); ok {
					out.facts = append(out.facts, fact(both.From, both.To, append(append([]api.Value{}, l.Row...), r.Row...)...))
				}
			}
		}
	}
	return out
}

// P18.1 to P18.4: thrown trees of operators tell what is found by looking at everything.
func TestTrees(t *testing.T) {
	x := dice(18)
	told := 0
	for i := range 6000 {
		b := x.tree(t, 1+i%3)
		want := bag.Normal(b.facts)
		told = max(told, len(want))
		if got := Result(b.op); !same(got, want) {
			t.Fatalf("%v: %v, want %v", b.facts, got, want)
		}
	}
	if told < 100 {
		t.Errorf("no tree told much: %d", told)
	}
}

// P18.3: each way tells the same.
func TestWaysTellTheSame(t *testing.T) {
	x := dice(183)
	for range 2000 {
		a, b := x.facts(15), x.facts(15)
		want := bag.Join(a, b)
		for _, way := range ways() {
			if got := Result(join2(t, Scan(a), Scan(b), way)); !same(got, want) {
				t.Fatalf("the way %d of %v and %v: %v, want %v", way, a, b, got, want)
			}
		}
	}
}

// P2, rule 4: operators keep nothing that was handed in, and what is answered shares memory with nothing.
func TestNothingIsShared(t *testing.T) {
	build := func() []api.Fact {
		room := []api.Value{number(4), number(5), number(3), number(6), number(2), number(7), number(1), number(8)}
		shared := room[:2]
		return []api.Fact{
			{Row: shared, Period: api.Period{From: 0, To: 9}}, {Row: room[4:6], Period: api.Period{From: 2, To: 5}},
			{Row: shared, Period: api.Period{From: 0, To: 9}}, {Row: room[2:4], Period: api.Period{From: 3, To: 3}}, {Row: room[6:8], Period: api.Period{From: 1, To: 7}},
		}[:4]
	}
	list, untouched := build(), build()
	terms := []bind.Term{term(t, "<", name("A"), name("B")), term(t, ">", name("A"), constant(1)), term(t, "=", name("A"), constant(99))}[:2]
	scan := Scan(list)
	filter := Filter(scan, terms...)
	ops := []Op{scan, filter, During(filter, api.Period{From: 1, To: 20}), Shift(scan, 1), Shift(scan, 0), Shift(filter, 2)}
	for _, way := range ways() {
		ops = append(ops, join2(t, scan, filter, way), join2(t, filter, Scan([]api.Fact{fact(0, 9)}), way), join2(t, Scan([]api.Fact{fact(0, 9)}), filter, way))
	}
	look := func() [][]api.Fact {
		var out [][]api.Fact
		for _, op := range ops {
			out = append(out, Result(op))
		}
		return append(out, Sort(untouched, 1), Sort(untouched), Sort(untouched, -1, 0))
	}
	want, got := look(), look()
	if !same(list[:5], build()[:5]) || !same(untouched[:5], build()[:5]) {
		t.Fatalf("what was handed in is changed: %v, %v", list[:5], untouched[:5])
	}
	for i, answer := range got {
		if len(answer) == 0 {
			t.Fatalf("answer %d is empty", i)
		}
		for j, f := range answer {
			clear(f.Row[:cap(f.Row)])
			if !same(answer[j+1:], want[i][j+1:]) {
				t.Fatalf("answer %d: the fact %d shares memory with one behind it", i, j)
			}
		}
		clear(answer[:cap(answer)])
	}
	if !same(list[:5], build()[:5]) || !same(untouched[:5], build()[:5]) {
		t.Fatalf("answers share memory with what was handed in: %v, %v", list[:5], untouched[:5])
	}
	for _, f := range list[:5] {
		clear(f.Row)
	}
	clear(list[:5])
	terms[0], terms[1] = terms[:3][2], terms[:3][2]
	for i, answer := range look() {
		if !same(answer, want[i]) {
			t.Errorf("answer %d hangs on what was handed in, or on earlier answers: %v, want %v", i, answer, want[i])
		}
	}
	columns := []int{-1, 0, 7}[:2]
	Sort(untouched, columns...)
	if !slices.Equal(columns[:3], []int{-1, 0, 7}) {
		t.Errorf("Sort changes its columns: %v", columns[:3])
	}
}

// P18.1: an operator may be part of several others.
func TestOperatorsInSeveral(t *testing.T) {
	scan := Scan([]api.Fact{one(1, 0, 5), one(2, 3, 9)})
	cut := During(scan, api.Period{From: 4, To: 20})
	for _, way := range ways() {
		if got := Result(join2(t, scan, scan, way)); !same(got, []api.Fact{two(1, 1, 0, 5), two(1, 2, 3, 5), two(2, 1, 3, 5), two(2, 2, 3, 9)}) {
			t.Errorf("with itself, in the way %d: %v", way, got)
		}
		if got := Result(join2(t, cut, scan, way)); !same(got, []api.Fact{two(1, 1, 4, 5), two(1, 2, 4, 5), two(2, 1, 4, 5), two(2, 2, 4, 9)}) {
			t.Errorf("with what is cut, in the way %d: %v", way, got)
		}
	}
	if got := Result(scan); !same(got, []api.Fact{one(1, 0, 5), one(2, 3, 9)}) {
		t.Errorf("behind it: %v", got)
	}
}

// P1 and P18.3: the ways that don't look at all pairs take no time that grows with these.
func TestLongLists(t *testing.T) {
	const n = 20000
	var apart, between, nested, around []api.Fact
	for i := range int64(n) {
		apart = append(apart, one(i, 4*i, 4*i+1))
		between = append(between, one(-i, 4*i+1, 4*i+3))
		nested = append(nested, one(i, i, 2*n-i))
	}
	around = []api.Fact{one(1, n, n+1), one(2, 0, 1), one(3, 2*n-1, 2*n)}
	for _, way := range []int{Sweep, Indexed, Points} {
		if got := Result(join2(t, Scan(apart), Scan(between), way)); len(got) != 0 {
			t.Errorf("what lies between, in the way %d: %d", way, len(got))
		}
		if got := Result(join2(t, Scan(between), Scan(append(between, apart...)), way)); len(got) != n {
			t.Errorf("what is there itself, in the way %d: %d", way, len(got))
		}
		if got := Result(join2(t, Scan(nested), Scan(around), way)); len(got) != n+2 {
			t.Errorf("nested ones on the left, in the way %d: %d", way, len(got))
		}
		if got := Result(join2(t, Scan(around), Scan(nested), way)); len(got) != n+2 {
			t.Errorf("nested ones on the right, in the way %d: %d", way, len(got))
		}
	}
}

// P1: very many operators within one another.
func TestDeepTrees(t *testing.T) {
	list := []api.Fact{two(1, 2, 0, 5), two(3, 4, 3, 9)}
	cond := term(t, "<", name("A"), name("B"))
	op, unit := Scan(list), Scan([]api.Fact{fact(0, api.Forever)})
	for i := range 1<<14 - 1 {
		op = Shift(Shift(During(Filter(op, cond), api.Period{From: 0, To: 8}), 1), 1)
		if i%1000 == 0 {
			op = join2(t, op, unit, 1+i/1000%4)
		}
	}
	if got := Result(op); !same(got, []api.Fact{two(1, 2, 0, 5), two(3, 4, 3, 8)}) {
		t.Errorf("a deep tree: %v", got)
	}
}
