package dml

import (
	"math"
	"reflect"
	"slices"
	"strings"
	"testing"

	"annals/api"
	"annals/bag"
	"annals/bind"
	"annals/catalog"
)

const (
	least    = math.MinInt64
	greatest = math.MaxInt64
)

// dice answers numbers that look thrown, the same ones each time.
type dice uint64

func (x *dice) below(n int) int {
	*x = *x*6364136223846793005 + 1442695040888963407
	return int(uint64(*x) >> 33 % uint64(n))
}

func number(n int64) api.Value { return api.Value{Kind: api.Int, Int: n} }

func text(s string) api.Value { return api.Value{Kind: api.Text, Text: s} }

func fact(from, to int64, values ...api.Value) api.Fact {
	return api.Fact{Row: values, Period: api.Period{From: from, To: to}}
}

// one is a fact of a row of one Int.
func one(n, from, to int64) api.Fact { return fact(from, to, number(n)) }

// two is a fact of a row of two Ints.
func two(a, b, from, to int64) api.Fact { return fact(from, to, number(a), number(b)) }

func from(a, b int64) api.Period { return api.Period{From: a, To: b} }

func same(a, b []api.Fact) bool {
	return slices.EqualFunc(a, b, func(x, y api.Fact) bool { return x.Period == y.Period && slices.Equal(x.Row, y.Row) })
}

func sameChange(a, b Change) bool { return slices.Equal(a.Ended, b.Ended) && same(a.Added, b.Added) }

func isNone(c Change) bool { return c.Ended == nil && c.Added == nil }

// wrong is periods that are none.
func wrong() []api.Period {
	return []api.Period{
		{}, {From: 1, To: 1}, {From: 2, To: 1}, {From: -1, To: 5}, {From: -1, To: -1}, {From: 0, To: api.Forever + 1},
		{From: api.Forever, To: api.Forever}, {From: api.Forever, To: api.Forever + 1}, {From: least, To: greatest},
		{From: greatest, To: least}, {From: least, To: 5}, {From: 0, To: greatest}, {From: 0, To: least},
	}
}

func name(s string) api.Expr { return api.Expr{Op: "name", Text: s} }

func constant(n int64) api.Expr { return api.Expr{Op: "number", Int: n} }

func expr(op string, args ...api.Expr) api.Expr { return api.Expr{Op: op, Args: args} }

// term is an expression over the Ints A, B and C, the Text D and the Bool E.
func term(t *testing.T, e api.Expr) bind.Term {
	t.Helper()
	var scope []bind.Column
	for i, kind := range []int{api.Int, api.Int, api.Int, api.Text, bind.Bool} {
		scope = append(scope, bind.Column{Column: api.Column{Name: string(rune('A' + i)), Kind: kind}})
	}
	out, no := bind.Bind(e, scope)
	if no != api.OK {
		t.Fatalf("Bind of %v: %v", e, no)
	}
	return out
}

// P20.1
func TestFits(t *testing.T) {
	table := catalog.Table{Name: "T", Columns: []api.Column{{Name: "A", Kind: api.Int}, {Name: "B", Kind: api.Text}}, Keys: []string{"Z"}}
	odd := catalog.Table{Columns: []api.Column{{Name: "A", Kind: 3}, {Name: "A", Kind: 0}}}
	long := text(strings.Repeat("x", api.MaxText+1))
	cases := []struct {
		name string
		t    catalog.Table
		f    api.Fact
		want api.Errno
	}{
		{"one that fits", table, fact(3, 9, number(7), text("x")), api.OK},
		{"the longest text and period", table, fact(0, api.Forever, number(least), text(long.Text[1:])), api.OK},
		{"no values", table, fact(3, 9), api.ErrRange},
		{"too few values", table, fact(3, 9, number(7)), api.ErrRange},
		{"too many values", table, fact(3, 9, number(7), text("x"), text("y")), api.ErrRange},
		{"too few, and of another kind", table, fact(3, 3, text("x")), api.ErrRange},
		{"a text for a number", table, fact(3, 9, text("x"), text("x")), api.ErrType},
		{"a number for a text", table, fact(3, 9, number(7), number(7)), api.ErrType},
		{"no kind for a text", table, fact(3, 9, number(7), api.Value{}), api.ErrType},
		{"a kind ahead of a long text", table, fact(3, 9, text("x"), long), api.ErrType},
		{"a kind behind a value that is none", table, fact(3, 9, api.Value{Kind: api.Int, Text: "x"}, number(7)), api.ErrType},
		{"a long text", table, fact(3, 9, number(7), long), api.ErrLong},
		{"a long text ahead of the period", table, fact(9, 3, number(7), long), api.ErrLong},
		{"a number with a text", table, fact(3, 9, api.Value{Kind: api.Int, Text: "x"}, text("x")), api.ErrKind},
		{"a text with a number", table, fact(9, 3, number(7), api.Value{Kind: api.Text, Int: 1, Text: long.Text}), api.ErrKind},
		{"the first value that is none", table, fact(3, 9, api.Value{Kind: api.Int, Text: "x"}, long), api.ErrKind},
		{"kinds that no value has", odd, fact(3, 9, api.Value{Kind: 3}, api.Value{}), api.ErrKind},
		{"no columns", catalog.Table{}, fact(3, 9), api.OK},
		{"no columns and no period", catalog.Table{}, fact(3, 3), api.ErrPeriod},
		{"no columns and a value", catalog.Table{}, one(7, 3, 9), api.ErrRange},
	}
	for _, c := range cases {
		if e := Fits(c.t, c.f); e != c.want {
			t.Errorf("%s: %v, want %v", c.name, e, c.want)
		}
	}
	for _, p := range wrong() {
		if e := Fits(table, fact(p.From, p.To, number(7), text("x"))); e != api.ErrPeriod {
			t.Errorf("the period %v: %v", p, e)
		}
	}
}

// P20.2
func TestDelete(t *testing.T) {
	three := []api.Fact{one(1, 0, 9), one(2, 8, 12), one(1, 4, 6)}
	isOne := term(t, expr("=", name("A"), constant(1)))
	isTrue := term(t, expr("=", constant(1), constant(1)))
	cases := []struct {
		name  string
		list  []api.Fact
		p     api.Period
		where []bind.Term
		want  Change
	}{
		{"nothing", nil, from(0, 9), nil, Change{}},
		{"in the middle", three[:1], from(3, 5), nil, Change{[]int{0}, []api.Fact{one(1, 0, 3), one(1, 5, 9)}}},
		{"the beginning", three[:1], from(0, 5), nil, Change{[]int{0}, []api.Fact{one(1, 5, 9)}}},
		{"the end", three[:1], from(5, 9), nil, Change{[]int{0}, []api.Fact{one(1, 0, 5)}}},
		{"all of it", three[:1], from(0, 9), nil, Change{[]int{0}, nil}},
		{"more than it", three[2:], from(0, api.Forever), nil, Change{[]int{0}, nil}},
		{"one instant", three[2:], from(5, 6), nil, Change{[]int{0}, []api.Fact{one(1, 4, 5)}}},
		{"meeting ahead", three[2:], from(0, 4), nil, Change{}},
		{"meeting behind", three[2:], from(6, 9), nil, Change{}},
		{"of several", three, from(5, 10), nil, Change{[]int{0, 1, 2}, []api.Fact{one(1, 0, 5), one(2, 10, 12), one(1, 4, 5)}}},
		{"of several, some", three, from(7, 8), nil, Change{[]int{0}, []api.Fact{one(1, 0, 7), one(1, 8, 9)}}},
		{"where one holds", three, from(5, 10), []bind.Term{isOne}, Change{[]int{0, 2}, []api.Fact{one(1, 0, 5), one(1, 4, 5)}}},
		{"where two hold", three, from(5, 10), []bind.Term{isTrue, isOne}, Change{[]int{0, 2}, []api.Fact{one(1, 0, 5), one(1, 4, 5)}}},
		{"where one of two holds", three, from(5, 10), []bind.Term{isTrue, term(t, expr("<", constant(1), name("A"))), isOne}, Change{}},
		{"where there is no such column", three, from(5, 10), []bind.Term{term(t, expr("=", name("B"), name("B")))}, Change{}},
		{"where it is no condition", three, from(5, 10), []bind.Term{term(t, name("A"))}, Change{}},
		{"where it is too great for 2", three, from(5, 10), []bind.Term{term(t, expr("<", name("A"), expr("*", name("A"), constant(greatest))))}, Change{[]int{0, 2}, []api.Fact{one(1, 0, 5), one(1, 4, 5)}}},
		{"rows of any kind", []api.Fact{fact(0, 9, api.Value{Kind: 9, Int: 1, Text: "x"}), fact(0, 5)}, from(2, 20), nil, Change{[]int{0, 1}, []api.Fact{fact(0, 2, api.Value{Kind: 9, Int: 1, Text: "x"}), fact(0, 2)}}},
	}
	for _, c := range cases {
		if got := Delete(c.list, c.p, c.where...); !sameChange(got, c.want) {
			t.Errorf("%s: %v, want %v", c.name, got, c.want)
		}
	}
	for _, p := range wrong() {
		if got := Delete(three, p); !isNone(got) {
			t.Errorf("within %v: %v", p, got)
		}
		if got := Delete([]api.Fact{one(1, p.From, p.To)}, from(0, api.Forever)); !isNone(got) {
			t.Errorf("of %v: %v", p, got)
		}
		if got := Delete([]api.Fact{one(1, p.From, p.To)}, p); !isNone(got) {
			t.Errorf("of %v within itself: %v", p, got)
		}
	}
}

// P20.3
func TestUpdate(t *testing.T) {
	list := []api.Fact{two(1, 10, 0, 9), two(2, 20, 8, 12), two(1, 30, 4, 6)}
	isOne := term(t, expr("=", name("A"), constant(1)))
	a, b := term(t, name("A")), term(t, name("B"))
	more := term(t, expr("+", name("B"), constant(1)))
	seven := term(t, constant(7))
	cases := []struct {
		name  string
		p     api.Period
		sets  []Set
		where []bind.Term
		want  Change
	}{
		{"in the middle", from(1, 3), []Set{{1, seven}}, nil, Change{[]int{0}, []api.Fact{two(1, 10, 0, 1), two(1, 10, 3, 9), two(1, 7, 1, 3)}}},
		{"the beginning", from(0, 3), []Set{{0, seven}}, nil, Change{[]int{0}, []api.Fact{two(1, 10, 3, 9), two(7, 10, 0, 3)}}},
		{"the end", from(10, api.Forever), []Set{{0, seven}}, nil, Change{[]int{1}, []api.Fact{two(2, 20, 8, 10), two(7, 20, 10, 12)}}},
		{"all of them", from(0, api.Forever), []Set{{1, more}}, nil, Change{[]int{0, 1, 2}, []api.Fact{two(1, 11, 0, 9), two(2, 21, 8, 12), two(1, 31, 4, 6)}}},
		{"some of each", from(5, 10), []Set{{1, more}}, nil, Change{[]int{0, 1, 2}, []api.Fact{two(1, 10, 0, 5), two(1, 11, 5, 9), two(2, 20, 10, 12), two(2, 21, 8, 10), two(1, 30, 4, 5), two(1, 31, 5, 6)}}},
		{"where a term holds", from(5, 10), []Set{{1, more}}, []bind.Term{isOne}, Change{[]int{0, 2}, []api.Fact{two(1, 10, 0, 5), two(1, 11, 5, 9), two(1, 30, 4, 5), two(1, 31, 5, 6)}}},
		{"turned about", from(0, 3), []Set{{0, b}, {1, a}}, nil, Change{[]int{0}, []api.Fact{two(1, 10, 3, 9), two(10, 1, 0, 3)}}},
		{"of the row as it was", from(0, 3), []Set{{1, seven}, {0, more}}, nil, Change{[]int{0}, []api.Fact{two(1, 10, 3, 9), two(11, 7, 0, 3)}}},
		{"set twice", from(0, 3), []Set{{1, seven}, {1, more}}, nil, Change{[]int{0}, []api.Fact{two(1, 10, 3, 9), two(1, 11, 0, 3)}}},
		{"set twice, the other way", from(0, 3), []Set{{1, more}, {0, b}, {1, seven}}, nil, Change{[]int{0}, []api.Fact{two(1, 10, 3, 9), two(10, 7, 0, 3)}}},
		{"no sets", from(0, 3), nil, nil, Change{[]int{0}, []api.Fact{two(1, 10, 3, 9), two(1, 10, 0, 3)}}},
		{"the same value", from(0, 9), []Set{{0, a}}, []bind.Term{term(t, expr("=", name("B"), constant(10)))}, Change{[]int{0}, []api.Fact{two(1, 10, 0, 9)}}},
		{"what concerns nothing", from(20, 30), []Set{{9, seven}}, nil, Change{}},
		{"where nothing holds", from(0, 9), []Set{{9, seven}}, []bind.Term{isOne, seven}, Change{}},
	}
	for _, c := range cases {
		if got, e := Update(list, c.p, c.sets, c.where...); !sameChange(got, c.want) || e != api.OK {
			t.Errorf("%s: %v %v, want %v", c.name, got, e, c.want)
		}
	}
	for _, p := range wrong() {
		if got, e := Update(list, p, []Set{{-1, seven}}); !isNone(got) || e != api.OK {
			t.Errorf("within %v: %v %v", p, got, e)
		}
		if got, e := Update([]api.Fact{one(1, p.From, p.To)}, from(0, api.Forever), []Set{{-1, seven}}); !isNone(got) || e != api.OK {
			t.Errorf("of %v: %v %v", p, got, e)
		}
	}
}

// P20.3: the first fact's first set that goes wrong.
func TestUpdateRefused(t *testing.T) {
	list := []api.Fact{
		two(1, 2, 0, 9),
		fact(0, 9, number(greatest), number(2), number(3)),
		fact(0, 9, number(4), text("x")),
		fact(0, 9, number(5), number(6), number(7), text("x"), api.Value{Kind: bind.Bool, Int: 1}),
	}
	all := from(0, 9)
	seven, word, truth := term(t, constant(7)), term(t, api.Expr{Op: "text", Text: "w"}), term(t, expr("=", constant(1), constant(1)))
	a, b, c, d, e := term(t, name("A")), term(t, name("B")), term(t, name("C")), term(t, name("D")), term(t, name("E"))
	more := term(t, expr("+", name("A"), constant(1)))
	cases := []struct {
		name string
		list []api.Fact
		sets []Set
		want api.Errno
	}{
		{"a place behind the row", list[:1], []Set{{2, seven}}, api.ErrColumn},
		{"a place below 0", list[:1], []Set{{-1, seven}}, api.ErrColumn},
		{"the greatest place", list[:1], []Set{{math.MaxInt, seven}}, api.ErrColumn},
		{"the least place", list[:1], []Set{{math.MinInt, seven}}, api.ErrColumn},
		{"the row that has it, then one that hasn't", []api.Fact{list[1], list[0]}, []Set{{2, a}}, api.ErrColumn},
		{"a text for a number", list[:1], []Set{{0, word}}, api.ErrType},
		{"a number for a text", list[2:3], []Set{{1, seven}}, api.ErrType},
		{"a Bool for a number", list[:1], []Set{{0, truth}}, api.ErrType},
		{"a text's place behind the row", list[:1], []Set{{2, word}}, api.ErrColumn},
		{"a column that the row hasn't", list[:1], []Set{{0, c}}, api.ErrColumn},
		{"a column of another kind", list[2:3], []Set{{0, b}}, api.ErrColumn},
		{"too great", list[1:2], []Set{{0, more}}, api.ErrOverflow},
		{"too great, for no place", list[1:2], []Set{{9, more}}, api.ErrOverflow},
		{"too great, for the second fact", list, []Set{{0, more}}, api.ErrOverflow},
		{"the first fact ahead of the second", list, []Set{{0, more}, {2, seven}}, api.ErrColumn},
		{"the first set ahead of the second", list[1:], []Set{{0, word}, {0, more}}, api.ErrType},
		{"the second set ahead of the third", list[1:], []Set{{1, a}, {0, more}, {0, word}}, api.ErrOverflow},
		{"a set that another follows", list[:1], []Set{{0, word}, {0, seven}}, api.ErrType},
		{"a second that is wrong", list[:1], []Set{{0, seven}, {0, word}}, api.ErrType},
	}
	for _, x := range cases {
		if got, no := Update(x.list, all, x.sets); !isNone(got) || no != x.want {
			t.Errorf("%s: %v %v, want %v", x.name, got, no, x.want)
		}
	}
	want := Change{[]int{3}, []api.Fact{fact(1, 9, list[3].Row...), fact(0, 1, number(5), number(5), number(6), text("w"), api.Value{Kind: bind.Bool, Int: 1})}}
	if got, no := Update(list, from(0, 1), []Set{{1, a}, {2, b}, {3, word}, {4, truth}, {4, e}}, term(t, expr("=", name("D"), api.Expr{Op: "text", Text: "x"}))); !sameChange(got, want) || no != api.OK {
		t.Errorf("what doesn't concern a wrong row: %v %v, want %v", got, no, want)
	}
	if got, no := Update(list[3:], all, []Set{{3, d}}); !sameChange(got, Change{[]int{0}, list[3:]}) || no != api.OK {
		t.Errorf("a text of its own: %v %v", got, no)
	}
}

// P20.4
func TestApply(t *testing.T) {
	list := []api.Fact{one(1, 0, 5), one(2, 3, 9), one(1, 0, 5), one(4, 9, 3)}
	cases := []struct {
		name  string
		list  []api.Fact
		ended []int
		added []api.Fact
		want  []api.Fact
		e     api.Errno
	}{
		{"nothing", nil, nil, nil, nil, api.OK},
		{"no change", list, nil, nil, list, api.OK},
		{"an end", list, []int{1}, nil, []api.Fact{one(1, 0, 5), one(1, 0, 5), one(4, 9, 3)}, api.OK},
		{"ends in any order", list, []int{3, 0}, nil, []api.Fact{one(2, 3, 9), one(1, 0, 5)}, api.OK},
		{"all end", list, []int{3, 2, 0, 1}, nil, nil, api.OK},
		{"some begin", list[:1], nil, []api.Fact{one(9, 7, 8), one(1, 0, 5), fact(4, 2)}, []api.Fact{one(1, 0, 5), one(9, 7, 8), one(1, 0, 5), fact(4, 2)}, api.OK},
		{"both", list, []int{1, 3}, []api.Fact{one(2, 3, 4)}, []api.Fact{one(1, 0, 5), one(1, 0, 5), one(2, 3, 4)}, api.OK},
		{"nothing there, one begins", nil, nil, list[1:2], list[1:2], api.OK},
		{"a place behind", list, []int{4}, nil, nil, api.ErrMissing},
		{"a place below 0", list, []int{1, -1}, list, nil, api.ErrMissing},
		{"far places", list, []int{math.MaxInt}, nil, nil, api.ErrMissing},
		{"far places below", list, []int{math.MinInt}, nil, nil, api.ErrMissing},
		{"a place of nothing", nil, []int{0}, nil, nil, api.ErrMissing},
		{"what begins has no place", list, []int{4}, list, nil, api.ErrMissing},
		{"twice", list, []int{1, 1}, list, nil, api.ErrTwice},
		{"twice, with others between", list, []int{1, 3, 2, 1}, nil, nil, api.ErrTwice},
		{"twice ahead of a wrong one", list, []int{2, 2, 9}, nil, nil, api.ErrTwice},
		{"a wrong one ahead of twice", list, []int{2, 9, 2}, nil, nil, api.ErrMissing},
		{"a wrong one twice", list, []int{9, 9}, nil, nil, api.ErrMissing},
	}
	for _, c := range cases {
		if got, e := Apply(c.list, Change{c.ended, c.added}); !same(got, c.want) || e != c.e || e != api.OK && len(got) > 0 {
			t.Errorf("%s: %v %v, want %v %v", c.name, got, e, c.want, c.e)
		}
	}
}

// P20.5
func TestClash(t *testing.T) {
	odd := func(n int64, s string) api.Value { return api.Value{Kind: 1, Int: n, Text: s} }
	cases := []struct {
		name string
		list []api.Fact
		keys []int
		j, i int
	}{
		{"nothing", nil, []int{0}, 0, 0},
		{"one", []api.Fact{one(1, 0, 9)}, []int{0}, 0, 0},
		{"two alike", []api.Fact{one(1, 0, 9), one(1, 8, 10)}, []int{0}, 0, 1},
		{"two alike, the later first", []api.Fact{one(1, 8, 10), one(1, 0, 9)}, []int{0}, 0, 1},
		{"the same period", []api.Fact{one(1, 8, 10), one(1, 8, 10)}, []int{0}, 0, 1},
		{"meeting", []api.Fact{one(1, 0, 8), one(1, 8, 10)}, []int{0}, 0, 0},
		{"unlike", []api.Fact{one(1, 0, 9), one(2, 8, 10)}, []int{0}, 0, 0},
		{"without keys", []api.Fact{one(1, 0, 9), one(1, 0, 9)}, nil, 0, 0},
		{"alike in one key", []api.Fact{two(1, 2, 0, 9), two(1, 3, 0, 9)}, []int{0}, 0, 1},
		{"alike in the other", []api.Fact{two(2, 1, 0, 9), two(3, 1, 0, 9)}, []int{1}, 0, 1},
		{"alike in one of two", []api.Fact{two(1, 2, 0, 9), two(1, 3, 0, 9)}, []int{0, 1}, 0, 0},
		{"alike in both", []api.Fact{two(1, 2, 0, 9), two(1, 2, 0, 9)}, []int{1, 0, 1}, 0, 1},
		{"a key that no row has", []api.Fact{one(1, 0, 9), one(1, 0, 9)}, []int{0, 1}, 0, 0},
		{"a key below 0", []api.Fact{one(1, 0, 9), one(1, 0, 9)}, []int{-1}, 0, 0},
		{"far keys", []api.Fact{one(1, 0, 9), one(1, 0, 9)}, []int{0, math.MaxInt}, 0, 0},
		{"far keys below", []api.Fact{one(1, 0, 9), one(1, 0, 9)}, []int{math.MinInt, 0}, 0, 0},
		{"a key that some rows have", []api.Fact{one(1, 0, 9), two(1, 2, 0, 9), one(1, 0, 9), fact(0, 9), two(3, 2, 0, 9)}, []int{1}, 1, 4},
		{"the least i", []api.Fact{one(1, 0, 9), one(2, 0, 9), one(2, 3, 4), one(1, 3, 4)}, []int{0}, 1, 2},
		{"the least j of it", []api.Fact{one(1, 0, 3), one(1, 5, 9), one(3, 0, 9), one(1, 2, 6)}, []int{0}, 0, 3},
		{"the least j isn't the earliest", []api.Fact{one(1, 5, 9), one(1, 0, 3), one(1, 2, 6), one(1, 5, 6)}, []int{0}, 0, 2},
		{"kinds count", []api.Fact{fact(0, 9, number(0)), fact(0, 9, text("")), fact(0, 9, api.Value{})}, []int{0}, 0, 0},
		{"all of a value counts", []api.Fact{fact(0, 9, odd(1, "x")), fact(0, 9, odd(1, "y")), fact(0, 9, odd(1, ""))}, []int{0}, 0, 0},
		{"values of no kind that are alike", []api.Fact{fact(0, 9, odd(1, "x")), fact(0, 9, odd(1, "y")), fact(0, 1, odd(1, "y"))}, []int{0}, 1, 2},
		{"the longest periods", []api.Fact{one(1, 0, api.Forever), one(2, 0, api.Forever), one(2, api.Forever-1, api.Forever)}, []int{0}, 1, 2},
	}
	for _, c := range cases {
		j, i, ok := Clash(c.list, c.keys...)
		if j != c.j || i != c.i || ok != (c.i > 0) {
			t.Errorf("%s: %d %d %v, want %d %d", c.name, j, i, ok, c.j, c.i)
		}
	}
	for _, p := range wrong() {
		for _, list := range [][]api.Fact{
			{one(1, p.From, p.To), one(1, 0, api.Forever)}, {one(1, 0, api.Forever), one(1, p.From, p.To)}, {one(1, p.From, p.To), one(1, p.From, p.To)},
		} {
			if j, i, ok := Clash(list, 0); j != 0 || i != 0 || ok {
				t.Errorf("with %v: %d %d %v", p, j, i, ok)
			}
		}
	}
}

// ends is instants at which thrown facts begin and end, and numbers that are none.
func ends() []int64 { return []int64{0, 1, 2, 3, 4, 5, 6, 7, api.Forever, -1, api.Forever + 1} }

// throwPeriod is mostly a period.
func (x *dice) throwPeriod() api.Period {
	list := ends()
	if x.below(6) > 0 {
		list = list[:9]
	}
	a, b := list[x.below(len(list))], list[x.below(len(list))]
	if x.below(6) > 0 {
		a, b = min(a, b), max(a, b)
	}
	return from(a, b)
}

// throwFacts is a few facts of rows of mostly three small numbers.
func (x *dice) throwFacts(n int) []api.Fact {
	var out []api.Fact
	for range x.below(n) {
		f := api.Fact{Period: x.throwPeriod()}
		size := 3
		if x.below(9) == 0 {
			size = x.below(5)
		}
		for range size {
			f.Row = append(f.Row, number(int64(x.below(3))))
		}
		out = append(out, f)
	}
	return out
}

func isPeriod(p api.Period) bool { return 0 <= p.From && p.From < p.To && p.To <= api.Forever }

func haveCommon(a, b api.Period) bool {
	return isPeriod(a) && isPeriod(b) && max(a.From, b.From) < min(a.To, b.To)
}

// changeOf is a change by the chapter, fact by fact; set makes of a row the one that it gets, or none.
func changeOf(list []api.Fact, p api.Period, where []bind.Term, set func([]api.Value) []api.Value) Change {
	var c Change
	for i, f := range list {
		if !haveCommon(f.Period, p) || !bind.Holds(f.Row, where...) {
			continue
		}
		c.Ended = append(c.Ended, i)
		if f.Period.From < p.From {
			c.Added = append(c.Added, fact(f.Period.From, p.From, f.Row...))
		}
		if p.To < f.Period.To {
			c.Added = append(c.Added, fact(p.To, f.Period.To, f.Row...))
		}
		if set != nil {
			c.Added = append(c.Added, fact(max(f.Period.From, p.From), min(f.Period.To, p.To), set(f.Row)...))
		}
	}
	return c
}

// P20.2 to P20.4: thrown changes; and what they leave at each instant.
func TestChangesThrown(t *testing.T) {
	x := dice(20)
	where := []bind.Term{term(t, expr("<", name("A"), name("B"))), term(t, expr("<>", name("B"), constant(2)))}
	sets := []Set{{0, term(t, expr("+", name("B"), constant(10)))}, {2, term(t, name("A"))}, {0, term(t, expr("-", name("A")))}}
	set := func(row []api.Value) []api.Value {
		out := slices.Clone(row)
		out[0], out[2] = number(-row[0].Int), row[0]
		return out
	}
	refused, moved := 0, 0
	for range 20000 {
		list, p, terms := x.throwFacts(8), x.throwPeriod(), where[:x.below(3)]
		got := Delete(list, p, terms...)
		if want := changeOf(list, p, terms, nil); !sameChange(got, want) {
			t.Fatalf("Delete of %v within %v: %v, want %v", list, p, got, want)
		}
		left, e := Apply(list, got)
		if e != api.OK {
			t.Fatal(e)
		}
		for _, at := range ends() {
			kept := slices.DeleteFunc(bag.Slice(list, at), func(row []api.Value) bool {
				return isPeriod(p) && p.From <= at && at < p.To && bind.Holds(row, terms...)
			})
			if rows := bag.Slice(left, at); !slices.EqualFunc(rows, kept, func(a, b []api.Value) bool { return slices.Equal(a, b) }) {
				t.Fatalf("Delete of %v within %v leaves at %d: %v, want %v", list, p, at, rows, kept)
			}
		}
		short := slices.ContainsFunc(Delete(list, p, terms...).Ended, func(i int) bool { return len(list[i].Row) < 3 })
		change, e := Update(list, p, sets, terms...)
		if short {
			refused++
			if !isNone(change) || e != api.ErrColumn {
				t.Fatalf("Update of %v within %v: %v %v", list, p, change, e)
			}
			continue
		}
		if want := changeOf(list, p, terms, set); !sameChange(change, want) || e != api.OK {
			t.Fatalf("Update of %v within %v: %v %v, want %v", list, p, change, e, want)
		}
		moved += len(change.Ended)
	}
	if refused < 500 || moved < 10000 {
		t.Errorf("%d refused, %d changed", refused, moved)
	}
}

// clashOf looks at all pairs.
func clashOf(list []api.Fact, keys []int) (int, int, bool) {
	for i, f := range list {
	other:
		for j, g := range list[:i] {
			if !haveCommon(f.Period, g.Period) || len(keys) == 0 {
				continue
			}
			for _, k := range keys {
				if k < 0 || k >= len(f.Row) || k >= len(g.Row) || f.Row[k] != g.Row[k] {
					continue other
				}
			}
			return j, i, true
		}
	}
	return 0, 0, false
}

// P20.5
func TestClashThrown(t *testing.T) {
	x := dice(205)
	sets := [][]int{nil, {0}, {1}, {2}, {0, 1}, {2, 0}, {2, 1, 0}, {1, 1}, {3}, {0, 4}, {-1}, {1, -2}}
	clashes := map[bool]int{}
	for range 30000 {
		list, keys := x.throwFacts(14), sets[x.below(len(sets))]
		j, i, ok := Clash(list, keys...)
		if wantJ, wantI, want := clashOf(list, keys); j != wantJ || i != wantI || ok != want {
			t.Fatalf("%v by %v: %d %d %v, want %d %d %v", list, keys, j, i, ok, wantJ, wantI, want)
		}
		clashes[ok]++
	}
	if clashes[true] < 5000 || clashes[false] < 5000 {
		t.Errorf("clashes: %v", clashes)
	}
}

// spare is facts with spare room, behind the list and behind each row.
func spare() []api.Fact {
	list := []api.Fact{two(1, 2, 0, 9), two(1, 3, 4, 6), two(5, 5, 0, 9), one(77, 1, 2)}
	for i := range list {
		list[i].Row = append(list[i].Row, number(99))[:len(list[i].Row)]
	}
	return list[:3]
}

func isSpare(list []api.Fact) bool {
	for _, f := range list {
		if f.Row[:3][2] != number(99) {
			return false
		}
	}
	return reflect.DeepEqual(list, spare()) && same(list[:4], spare()[:4])
}

// wipe clears a list, its rows, and what lies behind them.
func wipe(list []api.Fact) {
	for _, f := range list {
		clear(f.Row[:cap(f.Row)])
	}
	clear(list[:cap(list)])
}

// P2, rule 4: what is handed in is neither changed nor kept, and what is answered shares memory with nothing.
func TestNothingIsShared(t *testing.T) {
	where := []bind.Term{term(t, expr("=", name("A"), constant(1))), term(t, constant(1))}[:1]
	sets := []Set{{1, term(t, constant(7))}, {9, term(t, constant(9))}}[:1]
	keys := []int{1, 0, 5}[:2]
	list := spare()
	look := func(when string) {
		t.Helper()
		if !isSpare(list) || where[:2][1].Kind() != api.Int || sets[:2][1].Place != 9 || !slices.Equal(keys[:3], []int{1, 0, 5}) {
			t.Fatalf("%s: what was handed in is changed", when)
		}
	}
	calls := []struct {
		name  string
		facts func() ([]api.Fact, []int)
		want  []api.Fact
	}{
		{"Delete", func() ([]api.Fact, []int) {
			c := Delete(list, from(5, 8), where...)
			return c.Added, c.Ended
		}, []api.Fact{two(1, 2, 0, 5), two(1, 2, 8, 9), two(1, 3, 4, 5)}},
		{"Update", func() ([]api.Fact, []int) {
			c, _ := Update(list, from(5, 8), sets, where...)
			return c.Added, c.Ended
		}, []api.Fact{two(1, 2, 0, 5), two(1, 2, 8, 9), two(1, 7, 5, 8), two(1, 3, 4, 5), two(1, 7, 5, 6)}},
		{"Apply", func() ([]api.Fact, []int) {
			l, _ := Apply(list, Change{Ended: []int{1}, Added: list[1:]})
			return l, nil
		}, []api.Fact{two(1, 2, 0, 9), two(5, 5, 0, 9), two(1, 3, 4, 6), two(5, 5, 0, 9)}},
	}
	for _, c := range calls {
		got, ended := c.facts()
		other, ends := c.facts()
		look(c.name)
		for i := range got {
			before := slices.Clone(got[i+1:])
			clear(got[i].Row[:cap(got[i].Row)])
			if !same(got[i+1:], before) || !same(got[i+1:], c.want[i+1:]) {
				t.Errorf("%s: rows of one answer share memory: %v", c.name, got)
			}
		}
		wipe(got)
		clear(ended[:cap(ended)])
		look(c.name + ", answers changed")
		if !same(other, c.want) || len(ends) > 0 && !slices.Equal(ends, []int{0, 1}) {
			t.Errorf("%s: answers share memory: %v %v", c.name, other, ends)
		}
		again, _ := c.facts()
		wipe(list[:4])
		if !same(again, c.want) {
			t.Errorf("%s: what is handed in is kept: %v", c.name, again)
		}
		list = spare()
	}
	if j, i, ok := Clash(list, keys...); j != 0 || i != 0 || ok {
		t.Errorf("Clash: %d %d %v", j, i, ok)
	}
	change := Change{Ended: []int{2, 0, 9}[:2], Added: spare()}
	if _, e := Apply(list, change); e != api.OK || !slices.Equal(change.Ended[:3], []int{2, 0, 9}) || !isSpare(change.Added) {
		t.Errorf("Apply changes its change: %v %v", change, e)
	}
	Fits(catalog.Table{Columns: []api.Column{{Kind: 1}, {Kind: 1}}}, list[0])
	look("all")
}

// P1: long lists, very many keys, sets and terms.
func TestLong(t *testing.T) {
	const n = 1 << 17
	var list []api.Fact
	for i := range int64(n) {
		list = append(list, two(i%7, i, i*2, i*2+2))
	}
	if _, _, ok := Clash(list, 0); ok {
		t.Error("Clash of a long list")
	}
	if j, i, ok := Clash(append(list, two(3, 0, n, n+3), two(3, 0, 0, n)), 0); j != n/2+1 || i != n || !ok {
		t.Errorf("Clash at the end of a long list: %d %d %v", j, i, ok)
	}
	if j, i, ok := Clash(slices.Repeat(list[:1], n), 0); j != 0 || i != 1 || !ok {
		t.Errorf("Clash at the beginning of a long list: %d %d %v", j, i, ok)
	}
	if _, _, ok := Clash(list[:9], slices.Repeat([]int{0, 1}, n)...); ok {
		t.Error("Clash by very many keys")
	}
	c := Delete(list, from(1, 2*n-1), slices.Repeat([]bind.Term{term(t, expr("=", constant(1), constant(1)))}, 9)...)
	if len(c.Ended) != n || !same(c.Added, []api.Fact{two(0, 0, 0, 1), two((n-1)%7, n-1, 2*n-1, 2*n)}) {
		t.Errorf("Delete of a long list: %d %v", len(c.Ended), c.Added)
	}
	if left, e := Apply(list, c); !same(left, c.Added) || e != api.OK {
		t.Errorf("Apply to a long list: %d %v", len(left), e)
	}
	sets := slices.Repeat([]Set{{0, term(t, name("B"))}, {1, term(t, constant(5))}}, n)
	if c, e := Update(list[:2], from(0, 9), sets); !same(c.Added, []api.Fact{two(0, 5, 0, 2), two(1, 5, 2, 4)}) || e != api.OK {
		t.Errorf("Update by very many sets: %v %v", c, e)
	}
}
