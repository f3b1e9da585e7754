package plan

import (
	"reflect"
	"slices"
	"testing"

	"annals/api"
	"annals/bind"
	"annals/codec"
	"annals/exec"
)

func has(p api.Period, t int64) bool { return p.From <= t && t < p.To }

func isPeriod(p api.Period) bool { return 0 <= p.From && p.From < p.To && p.To <= api.Forever }

// rowsAt is the rows of facts that are valid at an instant, in order.
func rowsAt(facts []api.Fact, t int64) [][]api.Value {
	var out [][]api.Value
	for _, f := range facts {
		if isPeriod(f.Period) && has(f.Period, t) {
			out = append(out, f.Row)
		}
	}
	slices.SortFunc(out, codec.Compare)
	return out
}

// answer is the rows of a question's answer at an instant, by the chapter: what is valid there, of both sources, if all terms hold.
func answer(q Query, t int64) [][]api.Value {
	if len(q.During) > 0 && !(isPeriod(q.During[0]) && has(q.During[0], t)) {
		return nil
	}
	rows := [][]api.Value{nil}
	for _, s := range q.Sources {
		var next [][]api.Value
		for _, row := range rows {
			for _, other := range rowsAt(s.Facts, t) {
				next = append(next, slices.Concat(row, other))
			}
		}
		rows = next
	}
	rows = slices.DeleteFunc(rows, func(row []api.Value) bool { return !bind.Holds(row, q.Terms...) })
	slices.SortFunc(rows, codec.Compare)
	return rows
}

func sameRows(a, b [][]api.Value) bool {
	return slices.EqualFunc(a, b, func(x, y []api.Value) bool { return slices.Equal(x, y) })
}

// instants is those at which thrown facts begin and end, and their neighbours.
func instants() []int64 {
	return []int64{0, 1, 2, 3, 4, 5, 6, 7, 8, 9, 10, api.Forever - 1, api.Forever}
}

// tells looks whether a plan tells a question's answer at all instants.
func tells(t *testing.T, name string, q Query, p Plan) {
	t.Helper()
	op, e := Build(q, p)
	if op == nil || e != api.OK {
		t.Fatalf("%s: Build by %v: %v %v", name, p, op, e)
	}
	got := exec.Result(op)
	for _, at := range instants() {
		if rows, want := rowsAt(got, at), answer(q, at); !sameRows(rows, want) {
			t.Fatalf("%s: by %v at %d: %v, want %v", name, p, at, rows, want)
		}
	}
}

// P19.4
func TestBuild(t *testing.T) {
	left := Source{Columns: 1, Facts: []api.Fact{fact(0, 5, 1), fact(3, 9, 2), fact(3, 9, 2), fact(4, 4, 1)}}
	right := Source{Columns: 2, Facts: []api.Fact{fact(2, 4, 1, 10), fact(0, api.Forever, 2, 20)}}
	one, two := []Source{left}, []Source{left, right}
	same := term(t, "=", at(0), at(1))
	small := term(t, "<", at(0), constant(2))
	ten := term(t, "=", at(2), constant(10))
	cases := []struct {
		name string
		q    Query
		want []api.Fact
	}{
		{"one source", Query{Sources: one}, []api.Fact{fact(0, 5, 1), fact(3, 9, 2), fact(3, 9, 2)}},
		{"one with a term", Query{Sources: one, Terms: []bind.Term{small}}, []api.Fact{fact(0, 5, 1)}},
		{"one with a period", Query{Sources: one, During: []api.Period{{From: 4, To: 6}}}, []api.Fact{fact(4, 5, 1), fact(4, 6, 2), fact(4, 6, 2)}},
		{"one with both", Query{Sources: one, Terms: []bind.Term{small}, During: []api.Period{{From: 4, To: 6}}}, []api.Fact{fact(4, 5, 1)}},
		{"one with a term on what it hasn't", Query{Sources: one, Terms: []bind.Term{same}}, nil},
		{"one with a term ahead of it", Query{Sources: one, Terms: []bind.Term{bind.Move(small, -1)}}, nil},
		{"one with a term that is none", Query{Sources: one, Terms: []bind.Term{term(t, "+", at(0), constant(1))}}, nil},
		{"one with a period that is none", Query{Sources: one, During: []api.Period{{From: 5, To: 5}}}, nil},
		{"two", Query{Sources: two}, []api.Fact{fact(2, 4, 1, 1, 10), fact(0, 5, 1, 2, 20), fact(3, 4, 2, 1, 10), fact(3, 4, 2, 1, 10), fact(3, 9, 2, 2, 20), fact(3, 9, 2, 2, 20)}},
		{"two with a term on both", Query{Sources: two, Terms: []bind.Term{same}}, []api.Fact{fact(2, 4, 1, 1, 10), fact(3, 9, 2, 2, 20), fact(3, 9, 2, 2, 20)}},
		{"two with a term on the first", Query{Sources: two, Terms: []bind.Term{small}}, []api.Fact{fact(2, 4, 1, 1, 10), fact(0, 5, 1, 2, 20)}},
		{"two with a term on the second", Query{Sources: two, Terms: []bind.Term{ten}}, []api.Fact{fact(2, 4, 1, 1, 10), fact(3, 4, 2, 1, 10), fact(3, 4, 2, 1, 10)}},
		{"two with terms on each", Query{Sources: two, Terms: []bind.Term{ten, small, same}, During: []api.Period{{From: 3, To: 8}}}, []api.Fact{fact(3, 4, 1, 1, 10)}},
		{"two with a term on a column behind", Query{Sources: two, Terms: []bind.Term{small, bind.Move(ten, 1)}}, nil},
		{"two with a period", Query{Sources: two, During: []api.Period{{From: 0, To: 3}}}, []api.Fact{fact(2, 3, 1, 1, 10), fact(0, 3, 1, 2, 20)}},
		{"two with a period that is none", Query{Sources: two, During: []api.Period{{From: -1, To: 99}}}, nil},
		{"one that is empty", Query{Sources: []Source{left, {Columns: 8}}}, nil},
		{"rows without values", Query{Sources: []Source{{Facts: []api.Fact{fact(0, 5)}}, {Facts: []api.Fact{fact(3, 9), fact(4, 6)}}}}, []api.Fact{fact(3, 5), fact(4, 5)}},
	}
	right4, not := ways()
	for _, c := range cases {
		plans := allPlans(right4...)
		if len(c.q.Sources) == 1 {
			plans = allPlans(append(right4, not...)...)
		}
		for _, p := range plans {
			op, e := Build(c.q, p)
			if e != api.OK {
				t.Fatalf("%s: Build by %v: %v", c.name, p, e)
			}
			got := exec.Result(op)
			if want := exec.Result(exec.Scan(c.want)); !sameFacts(got, want) || !sameFacts(exec.Result(op), want) {
				t.Errorf("%s: by %v: %v, want %v", c.name, p, got, want)
			}
			tells(t, c.name, c.q, p)
		}
	}
	for _, p := range allPlans(not...) {
		if op, e := Build(Query{Sources: two, Terms: []bind.Term{same}}, p); op != nil || e != api.ErrKind {
			t.Errorf("the way %d: %v %v", p.Way, op, e)
		}
	}
}

func sameFacts(a, b []api.Fact) bool {
	return slices.EqualFunc(a, b, func(x, y api.Fact) bool { return x.Period == y.Period && slices.Equal(x.Row, y.Row) })
}

// throwPeriod is mostly a period.
func (x *dice) throwPeriod() api.Period {
	ends := instants()
	a, b := ends[x.below(len(ends))], ends[x.below(len(ends))]
	if x.below(8) == 0 {
		return api.Period{From: a, To: b}
	}
	return api.Period{From: min(a, b), To: max(a, b)}
}

// throwSource is a source of a few facts, some of them without a period, or with values of another kind.
func (x *dice) throwSource() Source {
	s := Source{Columns: x.below(4), Indexed: x.yes()}
	for range x.below(7) {
		f := fact(0, 0)
		f.Period = x.throwPeriod()
		for range s.Columns {
			f.Row = append(f.Row, api.Value{Kind: api.Int, Int: int64(x.below(3))})
		}
		if s.Columns > 0 && x.below(8) == 0 {
			f.Row[x.below(s.Columns)] = api.Value{Kind: api.Text, Text: "x"}
		}
		s.Facts = append(s.Facts, f)
	}
	return s
}

// throwTerm is a condition on any columns, some of which no source has, or on none.
func (x *dice) throwTerm(t *testing.T) bind.Term {
	t.Helper()
	operand := func() api.Expr {
		switch x.below(5) {
		case 0:
			return constant(int64(x.below(3)))
		case 1:
			return expr("*", at(x.below(6)), constant(greatest))
		}
		return at(x.below(6))
	}
	signs := []string{"=", "<>", "<", "<=", ">=", ">"}
	compared := func() api.Expr { return expr(signs[x.below(len(signs))], operand(), operand()) }
	out := term(t, "NOT", compared())
	switch x.below(6) {
	case 0:
		out = term(t, "AND", compared(), compared())
	case 1:
		out = term(t, "OR", compared(), compared())
	case 2:
		out = term(t, "+", operand(), operand())
	}
	if x.below(6) == 0 {
		return bind.Move(out, x.below(5)-2)
	}
	return out
}

// P19.4: all plans tell the same, also such as Plans doesn't have.
func TestPlansTellTheSame(t *testing.T) {
	x := dice(1919)
	right, not := ways()
	told := 0
	for range 1500 {
		q := Query{Sources: []Source{x.throwSource()}}
		if x.below(4) > 0 {
			q.Sources = append(q.Sources, x.throwSource())
		}
		for range x.below(4) {
			q.Terms = append(q.Terms, x.throwTerm(t))
		}
		if x.yes() {
			q.During = []api.Period{x.throwPeriod()}
		}
		plans := allPlans(right...)
		if len(q.Sources) == 1 {
			plans = allPlans(append(right, not...)...)
		}
		for _, p := range plans {
			tells(t, "thrown", q, p)
		}
		if slices.ContainsFunc(instants(), func(at int64) bool { return len(answer(q, at)) > 0 }) {
			told++
		}
	}
	if told < 200 {
		t.Errorf("few questions had an answer: %d", told)
	}
}

// P2, rule 4: what is handed in is neither changed nor kept, and what is answered shares memory with nothing.
func TestNothingIsShared(t *testing.T) {
	build := func() Query {
		spare := fact(0, 9, 9)
		terms := []bind.Term{term(t, "=", at(1), constant(2)), term(t, "<", at(0), at(1)), term(t, "=", constant(1), constant(2))}
		return Query{
			Sources: []Source{{Columns: 1, Facts: []api.Fact{fact(0, 5, 1), spare}[:1]}, {Columns: 1, Indexed: true, Facts: []api.Fact{fact(3, 9, 2), spare}[:1]}, {Columns: 99}}[:2],
			Terms:   terms[:2],
			During:  []api.Period{{From: 2, To: 8}, {From: 1, To: 1}}[:1],
		}
	}
	whole := func(q Query) Query {
		return Query{Sources: q.Sources[:cap(q.Sources)], Terms: q.Terms[:cap(q.Terms)], During: q.During[:cap(q.During)]}
	}
	plans, e := Plans(build())
	if e != api.OK || len(plans) != 24 {
		t.Fatalf("Plans: %v %v", plans, e)
	}
	for _, p := range plans {
		q := build()
		op, e := Build(q, p)
		if e != api.OK {
			t.Fatal(e)
		}
		Cost(q, p)
		Choose(q, -1)
		Plans(q)
		Check(q)
		if !reflect.DeepEqual(whole(q), whole(build())) || !slices.Equal(q.Sources[0].Facts[:2][1].Row, fact(0, 9, 9).Row) {
			t.Fatalf("%v: what was handed in is changed", p)
		}
		for _, s := range q.Sources {
			for _, f := range s.Facts {
				clear(f.Row)
			}
			clear(s.Facts)
		}
		clear(q.Sources)
		clear(q.Terms)
		clear(q.During)
		for range 2 {
			got := exec.Result(op)
			if !sameFacts(got, []api.Fact{fact(3, 5, 1, 2)}) {
				t.Fatalf("%v: what was handed in is kept: %v", p, got)
			}
			clear(got[0].Row[:cap(got[0].Row)])
			clear(got[:cap(got)])
		}
	}
	other, _ := Plans(build())
	clear(other[:cap(other)])
	if again, _ := Plans(build()); !slices.Equal(again, plans) {
		t.Error("answers of Plans share memory")
	}
}

// P1: long lists, terms of 2^16 parts within one another, and very many terms.
func TestLongAndDeep(t *testing.T) {
	long := source(20000, 1, true)
	deep := at(1)
	for range 1<<16 - 2 {
		deep = expr("-", deep)
	}
	q := Query{Sources: []Source{long, source(20000, 1, true)}, Terms: []bind.Term{term(t, "=", deep, constant(0))}, During: []api.Period{{From: 0, To: api.Forever}}}
	if n, e := Cost(q, Plan{Way: exec.Nested}); n != 40000+20000*20000 || e != api.OK {
		t.Errorf("Cost: %d %v", n, e)
	}
	if p, e := Choose(q, -1); p != (Plan{Way: exec.Sweep, Early: true, Push: true}) || e != api.OK {
		t.Errorf("Choose: %v %v", p, e)
	}
	q.Sources[1].Facts = q.Sources[1].Facts[:100]
	for _, p := range []Plan{{Way: exec.Sweep, Push: true}, {Way: exec.Indexed, Early: true, Push: true, Swap: true}, {Way: exec.Points, Push: true}} {
		op, e := Build(q, p)
		if e != api.OK {
			t.Fatal(e)
		}
		result := exec.Result(op)
		for at, want := range map[int64]int{0: 1, 1: 4, 50: 4, 100: 2, 101: 0} {
			if got := rowsAt(result, at); len(got) != want {
				t.Errorf("by %v at %d: %d rows, want %d", p, at, len(got), want)
			}
		}
	}
	q.Terms = slices.Repeat([]bind.Term{term(t, "<", at(0), at(1))}, 1<<16)
	if op, e := Build(q, Plan{Way: exec.Sweep, Push: true}); e != api.OK || len(exec.Result(op)) != 0 {
		t.Errorf("very many terms: %v", e)
	}
}
