package plan

import (
	"math"
	"slices"
	"strconv"
	"testing"

	"annals/api"
	"annals/bind"
	"annals/exec"
)

const (
	least    = math.MinInt64
	greatest = math.MaxInt64
)

// dice answers numbers that look thrown, the same ones each time.
type dice uint64

func (x *dice) below(n int) int {
	*x = *x*6364136223846793005 + 1442695040888963407
	return int(uint64(*x) >> 33 % uint64(n))
}

func (x *dice) yes() bool { return x.below(2) == 1 }

// fact is a row of Ints that is valid in a period.
func fact(from, to int64, numbers ...int64) api.Fact {
	var row []api.Value
	for _, n := range numbers {
		row = append(row, api.Value{Kind: api.Int, Int: n})
	}
	return api.Fact{Row: row, Period: api.Period{From: from, To: to}}
}

// source is one with as many facts and as many columns.
func source(facts, columns int, indexed bool) Source {
	s := Source{Columns: columns, Indexed: indexed}
	for i := range facts {
		s.Facts = append(s.Facts, fact(int64(i), int64(i+2), make([]int64, columns)...))
	}
	return s
}

// at is the name of the column at a place, from 0 to 15.
func at(place int) api.Expr { return api.Expr{Op: "name", Text: "C" + strconv.Itoa(place)} }

func constant(n int64) api.Expr { return api.Expr{Op: "number", Int: n} }

func expr(op string, args ...api.Expr) api.Expr { return api.Expr{Op: op, Args: args} }

// term is an operator over columns of Ints.
func term(t *testing.T, op string, args ...api.Expr) bind.Term {
	t.Helper()
	var scope []bind.Column
	for i := range 16 {
		scope = append(scope, bind.Column{Column: api.Column{Name: at(i).Text, Kind: api.Int}})
	}
	out, e := bind.Bind(expr(op, args...), scope)
	if e != api.OK {
		t.Fatalf("Bind of %s: %v", op, e)
	}
	return out
}

// wrong is periods that are none.
func wrong() []api.Period {
	return []api.Period{
		{}, {From: 1, To: 1}, {From: 2, To: 1}, {From: -1, To: 5}, {From: 0, To: api.Forever + 1}, {From: api.Forever, To: api.Forever + 1},
		{From: least, To: greatest}, {From: greatest, To: least}, {From: least, To: 5}, {From: 0, To: greatest},
	}
}

// ways is all ways of joining, and what is none.
func ways() (right, not []int) {
	return []int{1, 2, 3, 4}, []int{0, 5, 6, -1, -4, 256 + 1, 1<<32 + 1, math.MaxInt, math.MinInt}
}

// allPlans is every plan of these ways.
func allPlans(ways ...int) []Plan {
	var out []Plan
	for _, way := range ways {
		for i := range 8 {
			out = append(out, Plan{Swap: i&1 > 0, Way: way, Push: i&2 > 0, Early: i&4 > 0})
		}
	}
	return out
}

// P19.1: what is no question, by its first error, which all calls answer.
func TestCheck(t *testing.T) {
	good := source(2, 2, false)
	short, long := source(3, 3, true), source(3, 1, false)
	short.Facts[2].Row = short.Facts[2].Row[:2]
	long.Facts[1].Row = append(long.Facts[1].Row, api.Value{})
	none := source(1, 0, false)
	empty := Source{Columns: 1, Facts: []api.Fact{{}}}
	negative := Source{Columns: -1}
	wide := source(1, 9, true)
	noPeriods := Source{Columns: 1}
	for _, p := range wrong() {
		noPeriods.Facts = append(noPeriods.Facts, fact(p.From, p.To, 1))
	}
	p := api.Period{From: 1, To: 2}
	cases := []struct {
		name    string
		sources []Source
		during  []api.Period
		want    api.Errno
	}{
		{"no sources", nil, nil, api.ErrRange},
		{"three sources", []Source{good, good, good}, nil, api.ErrRange},
		{"three, of which one is wrong", []Source{short, good, good}, nil, api.ErrRange},
		{"one source", []Source{good}, nil, api.OK},
		{"two sources", []Source{good, good}, nil, api.OK},
		{"one period", []Source{good}, []api.Period{p}, api.OK},
		{"two periods", []Source{good}, []api.Period{p, p}, api.ErrRange},
		{"two periods that are none", []Source{good, good}, []api.Period{{}, {}}, api.ErrRange},
		{"a period that is none", []Source{good}, []api.Period{{From: 9, To: -9}}, api.OK},
		{"two periods ahead of a row", []Source{short}, []api.Period{p, p}, api.ErrRange},
		{"no columns", []Source{none, {}}, nil, api.OK},
		{"eight columns", []Source{source(2, 8, true), source(1, 8, false)}, nil, api.OK},
		{"nine columns", []Source{wide}, nil, api.ErrRange},
		{"below 0 columns", []Source{good, negative}, nil, api.ErrRange},
		{"the least number of columns", []Source{{Columns: math.MinInt}}, nil, api.ErrRange},
		{"the greatest number of columns", []Source{{Columns: math.MaxInt}}, nil, api.ErrRange},
		{"a short row", []Source{short}, nil, api.ErrColumn},
		{"a long row", []Source{good, long}, nil, api.ErrColumn},
		{"a row without values", []Source{empty}, nil, api.ErrColumn},
		{"the first source's row ahead of the second's columns", []Source{short, wide}, nil, api.ErrColumn},
		{"the first source's columns ahead of the second's row", []Source{wide, short}, nil, api.ErrRange},
		{"columns ahead of rows", []Source{{Columns: 9, Facts: short.Facts}}, nil, api.ErrRange},
		{"facts without periods", []Source{noPeriods}, nil, api.OK},
	}
	for _, c := range cases {
		q := Query{Sources: c.sources, During: c.during}
		if e := Check(q); e != c.want {
			t.Errorf("%s: %v, want %v", c.name, e, c.want)
		}
		if c.want == api.OK {
			continue
		}
		for _, p := range allPlans(0, exec.Sweep, 77) {
			if n, e := Cost(q, p); n != 0 || e != c.want {
				t.Errorf("%s: Cost: %d %v, want %v", c.name, n, e, c.want)
			}
			if op, e := Build(q, p); op != nil || e != c.want {
				t.Errorf("%s: Build: %v %v, want %v", c.name, op, e, c.want)
			}
		}
		if l, e := Plans(q); len(l) != 0 || e != c.want {
			t.Errorf("%s: Plans: %v %v, want %v", c.name, l, e, c.want)
		}
		for _, oracle := range []int{math.MinInt, -1, 0, 5} {
			if p, e := Choose(q, oracle); p != (Plan{}) || e != c.want {
				t.Errorf("%s: Choose: %v %v, want %v", c.name, p, e, c.want)
			}
		}
	}
}

// letters is plans as words: s for Swap, the way, p for Push, e for Early.
func letters(plans []Plan) string {
	out := ""
	for i, p := range plans {
		if i > 0 {
			out += " "
		}
		if p.Swap {
			out += "s"
		}
		out += strconv.Itoa(p.Way)
		if p.Push {
			out += "p"
		}
		if p.Early {
			out += "e"
		}
	}
	return out
}

// P19.2
func TestPlans(t *testing.T) {
	plain, indexed := source(2, 1, false), source(2, 1, true)
	terms := []bind.Term{term(t, "=", constant(1), constant(1))}
	during := []api.Period{{}}
	cases := []struct {
		name    string
		sources []Source
		terms   []bind.Term
		during  []api.Period
		want    string
	}{
		{"one", []Source{plain}, nil, nil, "0"},
		{"one that is indexed", []Source{indexed}, nil, nil, "0"},
		{"one with a term", []Source{plain}, terms, nil, "0 0p"},
		{"one with a period", []Source{plain}, nil, during, "0 0e"},
		{"one with both", []Source{indexed}, terms, during, "0 0e 0p 0pe"},
		{"two", []Source{plain, plain}, nil, nil, "1 2 s1 s2"},
		{"two, the second indexed", []Source{plain, indexed}, nil, nil, "1 2 3 4 s1 s2"},
		{"two, the first indexed", []Source{indexed, plain}, nil, nil, "1 2 s1 s2 s3 s4"},
		{"two that are indexed", []Source{indexed, indexed}, nil, nil, "1 2 3 4 s1 s2 s3 s4"},
		{"two with terms", []Source{plain, indexed}, slices.Repeat(terms, 3), nil, "1 1p 2 2p 3 3p 4 4p s1 s1p s2 s2p"},
		{"two with a period", []Source{plain, plain}, nil, during, "1 1e 2 2e s1 s1e s2 s2e"},
		{"two with both", []Source{indexed, plain}, terms, during, "1 1e 1p 1pe 2 2e 2p 2pe s1 s1e s1p s1pe s2 s2e s2p s2pe s3 s3e s3p s3pe s4 s4e s4p s4pe"},
		{"two without facts", []Source{{}, {Indexed: true}}, nil, nil, "1 2 3 4 s1 s2"},
	}
	for _, c := range cases {
		plans, e := Plans(Query{Sources: c.sources, Terms: c.terms, During: c.during})
		if got := letters(plans); got != c.want || e != api.OK {
			t.Errorf("%s: %s %v, want %s", c.name, got, e, c.want)
		}
	}
}

// P19.3
func TestCost(t *testing.T) {
	always := term(t, "=", constant(1), constant(1))
	first := term(t, "=", at(0), at(1))
	other := term(t, "<", at(2), constant(5))
	number := term(t, "+", at(2), constant(5))
	across := term(t, "<", at(1), at(2))
	outside := term(t, "<", at(3), constant(5))
	half := term(t, "<", at(2), at(3))
	one := []Source{source(9, 2, false)}
	two := []Source{source(9, 2, false), source(100, 1, false)}
	period := []api.Period{{From: 1, To: 2}}
	cases := []struct {
		name    string
		sources []Source
		terms   []bind.Term
		during  []api.Period
		p       Plan
		want    int64
	}{
		{"one", one, nil, nil, Plan{}, 9 + 9},
		{"one of a way that is none", one, nil, nil, Plan{Way: 77, Swap: true}, 9 + 9},
		{"one with Push", one, []bind.Term{first}, nil, Plan{Push: true}, 9 + 5},
		{"one with Push and no terms", one, nil, nil, Plan{Push: true}, 9 + 9},
		{"one with Push and a term without columns", one, []bind.Term{always}, nil, Plan{Push: true}, 9 + 9},
		{"one with Push and a term outside", one, []bind.Term{across}, nil, Plan{Push: true}, 9 + 9},
		{"one with Push and a term moved ahead", one, []bind.Term{bind.Move(first, -1)}, nil, Plan{Push: true}, 9 + 9},
		{"one with two terms is halved once", one, []bind.Term{always, first, first}, nil, Plan{Push: true}, 9 + 5},
		{"one with terms and no Push", one, []bind.Term{first}, nil, Plan{}, 9 + 9},
		{"one with Early", one, nil, period, Plan{Early: true}, 9 + 5},
		{"one with Early and no period", one, nil, nil, Plan{Early: true}, 9 + 5},
		{"one with a period and no Early", one, nil, period, Plan{}, 9 + 9},
		{"one with both", one, []bind.Term{first}, period, Plan{Push: true, Early: true}, 9 + 3},
		{"none", []Source{{}}, nil, nil, Plan{Early: true}, 0},
		{"one fact", []Source{source(1, 1, true)}, nil, nil, Plan{Early: true, Push: true}, 2},
		{"nested", two, nil, nil, Plan{Way: exec.Nested}, 109 + 900},
		{"nested and swapped", two, nil, nil, Plan{Way: exec.Nested, Swap: true}, 109 + 900},
		{"nested with Early", two, nil, nil, Plan{Way: exec.Nested, Early: true}, 109 + 5*50},
		{"nested with Push on the first", two, []bind.Term{first}, nil, Plan{Way: exec.Nested, Push: true}, 109 + 5*100},
		{"nested with Push on the second", two, []bind.Term{other}, nil, Plan{Way: exec.Nested, Push: true}, 109 + 9*50},
		{"nested with Push of a number", two, []bind.Term{number}, nil, Plan{Way: exec.Nested, Push: true}, 109 + 9*50},
		{"nested with Push on both", two, []bind.Term{other, first}, nil, Plan{Way: exec.Nested, Push: true, Swap: true}, 109 + 5*50},
		{"nested with Push on both and Early", two, []bind.Term{other, first}, nil, Plan{Way: exec.Nested, Push: true, Early: true}, 109 + 3*25},
		{"nested with Push on both at once", two, []bind.Term{across}, nil, Plan{Way: exec.Nested, Push: true}, 109 + 900},
		{"nested with Push on no source", two, []bind.Term{outside, half, always}, nil, Plan{Way: exec.Nested, Push: true}, 109 + 900},
		{"nested with Push on a moved term", two, []bind.Term{bind.Move(outside, -1)}, nil, Plan{Way: exec.Nested, Push: true}, 109 + 9*50},
		{"sweep", two, nil, nil, Plan{Way: exec.Sweep}, 109 + 109*8},
		{"sweep, swapped", two, nil, nil, Plan{Way: exec.Sweep, Swap: true}, 109 + 109*8},
		{"sweep with Early", two, nil, nil, Plan{Way: exec.Sweep, Early: true}, 109 + 55*7},
		{"sweep of nothing", []Source{{}, {}}, nil, nil, Plan{Way: exec.Sweep}, 0},
		{"sweep of one", []Source{{}, source(1, 1, false)}, nil, nil, Plan{Way: exec.Sweep}, 1 + 2},
		{"indexed", two, nil, nil, Plan{Way: exec.Indexed}, 109 + 109*9},
		{"indexed, swapped", two, nil, nil, Plan{Way: exec.Indexed, Swap: true}, 109 + 109*6},
		{"indexed with Early", two, nil, nil, Plan{Way: exec.Indexed, Early: true}, 109 + 55*8},
		{"indexed, swapped, with Push", two, []bind.Term{first}, nil, Plan{Way: exec.Indexed, Swap: true, Push: true}, 109 + 105*5},
		{"points", two, nil, nil, Plan{Way: exec.Points}, 109 + 109*9},
		{"points, swapped", two, nil, nil, Plan{Way: exec.Points, Swap: true}, 109 + 109*6},
		{"points of an empty second", []Source{source(3, 1, false), {}}, nil, nil, Plan{Way: exec.Points}, 3 + 3*2},
		{"points of an empty first, swapped", []Source{{}, source(3, 1, false)}, nil, nil, Plan{Way: exec.Points, Swap: true}, 3 + 3*2},
		{"points of an empty first", []Source{{}, source(3, 1, false)}, nil, nil, Plan{Way: exec.Points}, 3 + 3*4},
	}
	for _, c := range cases {
		q := Query{Sources: c.sources, Terms: c.terms, During: c.during}
		if n, e := Cost(q, c.p); n != c.want || e != api.OK {
			t.Errorf("%s: %d %v, want %d", c.name, n, e, c.want)
		}
	}
	_, not := ways()
	for _, p := range allPlans(not...) {
		if n, e := Cost(Query{Sources: two}, p); n != 0 || e != api.ErrKind {
			t.Errorf("the way %d: %d %v", p.Way, n, e)
		}
	}
}

// costOf is the chapter's cost, with digits counted as they are written.
func costOf(q Query, p Plan) int64 {
	var all int64
	var n [2]int64
	begin := 0
	for i, s := range q.Sources {
		all += int64(len(s.Facts))
		n[i] = int64(len(s.Facts))
		isOwn := func(t bind.Term) bool {
			places := bind.Columns(t)
			return len(places) > 0 && !slices.ContainsFunc(places, func(c int) bool { return c < begin || c >= begin+s.Columns })
		}
		if p.Push && slices.ContainsFunc(q.Terms, isOwn) {
			n[i] -= n[i] / 2
		}
		if p.Early {
			n[i] -= n[i] / 2
		}
		begin += s.Columns
	}
	count := func(n int64) int64 {
		if n == 0 {
			return 0
		}
		return int64(len(strconv.FormatInt(n, 2)))
	}
	if len(q.Sources) == 1 {
		return all + n[0]
	}
	switch p.Way {
	case 1:
		return all + n[0]*n[1]
	case 2:
		return all + (n[0]+n[1])*(1+count(n[0]+n[1]))
	}
	if p.Swap {
		return all + (n[0]+n[1])*(2+count(n[0]))
	}
	return all + (n[0]+n[1])*(2+count(n[1]))
}

// P19.3: plans that are picked, and the cheapest ones, of which there are all kinds.
func TestChoose(t *testing.T) {
	x := dice(19)
	picked := map[Plan]int{}
	for range 3000 {
		q := Query{}
		sizes := []int{0, 1, 2, 3, 7, 16, 40}
		for range 1 + x.below(2) {
			q.Sources = append(q.Sources, source(sizes[x.below(len(sizes))], x.below(3), x.yes()))
		}
		for range x.below(3) {
			q.Terms = append(q.Terms, term(t, "<", at(x.below(4)), at(x.below(4))))
		}
		if x.yes() {
			q.During = []api.Period{{From: 1, To: 3}}
		}
		plans, e := Plans(q)
		if e != api.OK {
			t.Fatal(e)
		}
		best := 0
		for i, p := range plans {
			n, e := Cost(q, p)
			if want := costOf(q, p); n != want || e != api.OK {
				t.Fatalf("Cost of %v: %d %v, want %d", p, n, e, want)
			}
			if n < costOf(q, plans[best]) {
				best = i
			}
			for _, oracle := range []int{i, i + len(plans), i + 1000*len(plans)} {
				if got, e := Choose(q, oracle); got != p || e != api.OK {
					t.Fatalf("Choose at %d of %d: %v %v, want %v", oracle, len(plans), got, e, p)
				}
			}
		}
		for _, oracle := range []int{-1, -2, -7, math.MinInt} {
			if got, e := Choose(q, oracle); got != plans[best] || e != api.OK {
				t.Fatalf("Choose of the cheapest: %v %v, want %v", got, e, plans[best])
			}
		}
		if got, _ := Choose(q, math.MaxInt); got != plans[math.MaxInt%len(plans)] {
			t.Fatalf("Choose at the greatest number: %v", got)
		}
		picked[plans[best]]++
	}
	if len(picked) < 14 {
		t.Errorf("few plans were the cheapest: %v", picked)
	}
}
