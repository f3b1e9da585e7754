package bind

import (
	"cmp"
	"math/big"
	"slices"
	"strings"
	"testing"

	"annals/api"
	"annals/codec"
)

// evalScope is columns of every kind, each with the name of its place.
func evalScope() []Column {
	return []Column{column("T", "A", 1), column("T", "B", 2), column("T", "P", 3), column("U", "Q", 3), column("U", "C", 1), column("U", "W", 9)}
}

func evalRow() []api.Value {
	return []api.Value{integer(5), texted("x"), boolean(1), boolean(0), integer(greatest), {Kind: 9, Int: 4, Text: "w"}}
}

// P17.4
func TestEval(t *testing.T) {
	over := op("+", col("C"), num(1))
	lost := colOf("T", "A")
	yes, no := op("=", num(1), num(1)), op("=", num(1), num(2))
	wrongKind := evalRow()
	wrongKind[0] = texted("5")
	cases := []struct {
		name string
		e    api.Expr
		row  []api.Value
		want api.Value
		no   api.Errno
	}{
		{"A + 2", op("+", col("A"), num(2)), evalRow(), integer(7), api.OK},
		{"a number", num(least), nil, integer(least), api.OK},
		{"a number alone counts", api.Expr{Op: "number", Int: 4, Text: "x", Of: "y"}, nil, integer(4), api.OK},
		{"a text", txt("it's"), nil, texted("it's"), api.OK},
		{"a text alone counts", api.Expr{Op: "text", Int: 4, Text: "x", Of: "y"}, nil, texted("x"), api.OK},
		{"a column", col("B"), evalRow(), texted("x"), api.OK},
		{"a column's value as it is", col("A"), []api.Value{{Kind: 1, Int: 4, Text: "odd"}}, api.Value{Kind: 1, Int: 4, Text: "odd"}, api.OK},
		{"a column of no kind", col("W"), evalRow(), api.Value{Kind: 9, Int: 4, Text: "w"}, api.OK},
		{"a Bool column as it is", col("P"), []api.Value{{}, {}, {Kind: 3, Int: 7, Text: "odd"}}, api.Value{Kind: 3, Int: 7, Text: "odd"}, api.OK},
		{"a text of a row that is too long", col("B"), []api.Value{{}, texted(strings.Repeat("x", 99))}, texted(strings.Repeat("x", 99)), api.OK},
		{"minus", op("-", col("A")), evalRow(), integer(-5), api.OK},
		{"minus the greatest", op("-", num(greatest)), nil, integer(-greatest), api.OK},
		{"minus the least", op("-", num(least)), nil, api.Value{}, api.ErrOverflow},
		{"minus 0", op("-", num(0)), nil, integer(0), api.OK},
		{"a difference", op("-", num(2), col("A")), evalRow(), integer(-3), api.OK},
		{"numbers with texts", op("+", col("A"), col("A")), []api.Value{{Kind: 1, Int: 4, Text: "odd"}}, integer(8), api.OK},

		{"no row", col("A"), nil, api.Value{}, api.ErrColumn},
		{"a short row", col("C"), evalRow()[:4], api.Value{}, api.ErrColumn},
		{"a row that just has it", col("C"), evalRow()[:5], integer(greatest), api.OK},
		{"a text for a number", col("A"), wrongKind, api.Value{}, api.ErrColumn},
		{"no kind for a number", col("A"), []api.Value{{Int: 4}}, api.Value{}, api.ErrColumn},
		{"a number for a Bool", col("P"), []api.Value{{}, {}, integer(1)}, api.Value{}, api.ErrColumn},
		{"a Bool for a number", col("A"), []api.Value{boolean(1)}, api.Value{}, api.ErrColumn},
		{"other columns may be wrong", op("+", col("C"), num(0)), wrongKind, integer(greatest), api.OK},

		{"the left error first", op("+", over, lost), wrongKind, api.Value{}, api.ErrOverflow},
		{"the right error first", op("+", lost, over), wrongKind, api.Value{}, api.ErrColumn},
		{"errors of comparisons", op("<", lost, over), wrongKind, api.Value{}, api.ErrColumn},
		{"operands ahead of the operator", op("+", col("C"), lost), wrongKind, api.Value{}, api.ErrColumn},
		{"AND reckons both", op("AND", no, op("=", over, num(1))), evalRow(), api.Value{}, api.ErrOverflow},
		{"OR reckons both", op("OR", yes, op("=", over, num(1))), evalRow(), api.Value{}, api.ErrOverflow},
		{"AND's left error", op("AND", op("=", over, num(1)), op("=", lost, num(1))), wrongKind, api.Value{}, api.ErrOverflow},
		{"OR's left error", op("OR", op("=", lost, num(1)), op("=", over, num(1))), wrongKind, api.Value{}, api.ErrColumn},
		{"NOT's error", op("NOT", op("=", over, num(1))), evalRow(), api.Value{}, api.ErrOverflow},
	}
	for _, c := range cases {
		if got, e := Eval(must(t, c.e, evalScope()), c.row); got != c.want || e != c.no {
			t.Errorf("%s: %v %v, want %v %v", c.name, got, e, c.want, c.no)
		}
	}
}

// P17.4: what fits in 64 bits, and what doesn't, at all edges.
func TestNumbers(t *testing.T) {
	var edges []int64
	for _, n := range []int64{0, 2, 3, 5, 7, 1 << 31, 1 << 32, 3037000499, 3037000500, greatest / 2, greatest / 3, 1 << 62, least / 2, greatest, least} {
		edges = append(edges, n-1, n, n+1, -n-1, -n, -n+1)
	}
	x := dice(17)
	for range 100 {
		edges = append(edges, int64(x)>>x.below(64))
		x.below(2)
	}
	seen := map[api.Errno]int{}
	for _, o := range []string{"+", "-", "*"} {
		term := must(t, op(o, col("A"), col("C")), []Column{column("T", "A", 1), column("T", "C", 1)})
		for _, a := range edges {
			for _, b := range edges {
				want, no := exact(o, a, b)
				seen[no]++
				if got, e := Eval(term, []api.Value{integer(a), integer(b)}); got != want || e != no {
					t.Fatalf("%d %s %d: %v %v, want %v %v", a, o, b, got, e, want, no)
				}
			}
		}
	}
	if seen[api.OK] < 5000 || seen[api.ErrOverflow] < 5000 {
		t.Errorf("not all answers were seen often: %v", seen)
	}
}

// exact reckons with numbers of any size.
func exact(o string, a, b int64) (api.Value, api.Errno) {
	x, y, z := big.NewInt(a), big.NewInt(b), new(big.Int)
	switch o {
	case "+":
		z.Add(x, y)
	case "-":
		z.Sub(x, y)
	case "*":
		z.Mul(x, y)
	}
	if !z.IsInt64() {
		return api.Value{}, api.ErrOverflow
	}
	return integer(z.Int64()), api.OK
}

// P17.4: comparisons are as layer 2 orders values.
func TestComparisons(t *testing.T) {
	numbers := []api.Value{integer(least), integer(-1), integer(0), integer(1), integer(2), integer(10), integer(greatest), {Kind: 1, Int: 1, Text: "a"}, {Kind: 1, Int: 1, Text: "b"}}
	texts := []api.Value{texted(""), texted("\x00"), texted("a"), texted("a\x00"), texted("ab"), texted("b"), texted("B"), texted("é"), texted("\xff"), texted("10"), texted("9"), {Kind: 2, Int: -1, Text: "z"}, {Kind: 2, Int: 1, Text: "a"}}
	for _, values := range [][]api.Value{numbers, texts} {
		kind := values[0].Kind
		scope := []Column{column("T", "A", kind), column("T", "B", kind)}
		for _, o := range []string{"=", "<>", "<=", ">=", "<", ">"} {
			term := must(t, op(o, col("A"), col("B")), scope)
			for _, a := range values {
				for _, b := range values {
					row := []api.Value{a, b}
					order := codec.Compare(row[:1], row[1:])
					so := strings.ContainsRune(o, '=') && order == 0 || strings.ContainsRune(o, '<') && order < 0 || strings.ContainsRune(o, '>') && order > 0
					want := boolean(0)
					if so {
						want = boolean(1)
					}
					if got, e := Eval(term, row); got != want || e != api.OK || Holds(row, term) != so {
						t.Errorf("%v %s %v: %v %v, want %v", a, o, b, got, e, want)
					}
				}
			}
		}
	}
}

// P17.4: columns of kind Bool have values besides true and false.
func TestTruth(t *testing.T) {
	scope := []Column{column("T", "A", 3), column("T", "B", 3)}
	numbers := []int64{0, 1, 2, -1, greatest, least}
	term := func(e api.Expr) Term { return must(t, e, scope) }
	and, or, not := term(op("AND", col("A"), col("B"))), term(op("OR", col("A"), col("B"))), term(op("NOT", col("A")))
	as := func(so bool) api.Value {
		if so {
			return boolean(1)
		}
		return boolean(0)
	}
	for _, a := range numbers {
		for _, b := range numbers {
			row := []api.Value{{Kind: 3, Int: a, Text: "odd"}, boolean(b)}
			for i, c := range []struct {
				t    Term
				want bool
			}{{and, a == 1 && b == 1}, {or, a == 1 || b == 1}, {not, a == 0}} {
				if v, e := Eval(c.t, row); v != as(c.want) || e != api.OK || Holds(row, c.t) != c.want {
					t.Errorf("%d of %d and %d: %v %v, want %v", i, a, b, v, e, c.want)
				}
			}
			if Holds(row, term(col("A"))) != (a == 1) {
				t.Errorf("a Bool of %d", a)
			}
		}
	}
}

// P17.4
func TestHolds(t *testing.T) {
	scope := evalScope()
	term := func(e api.Expr) Term { return must(t, e, scope) }
	yes, no := term(op("=", col("A"), num(5))), term(op("<>", col("B"), txt("x")))
	one, over, far := term(num(1)), term(op("=", op("+", col("C"), num(1)), num(0))), Move(term(col("P")), 9)
	cases := []struct {
		name  string
		row   []api.Value
		terms []Term
		want  bool
	}{
		{"no terms", evalRow(), nil, true},
		{"no terms and no row", nil, nil, true},
		{"a true one", evalRow(), []Term{yes}, true},
		{"a false one", evalRow(), []Term{no}, false},
		{"all true", evalRow(), []Term{yes, term(col("P")), yes}, true},
		{"the last false", evalRow(), []Term{yes, yes, no}, false},
		{"the first false", evalRow(), []Term{no, yes, yes}, false},
		{"the middle false", evalRow(), []Term{yes, term(col("Q")), yes}, false},
		{"a number 1", evalRow(), []Term{one}, false},
		{"a text", evalRow(), []Term{term(col("B"))}, false},
		{"a column of no kind", []api.Value{{}, {}, {}, {}, {}, {Kind: 9, Int: 1}}, []Term{term(col("W"))}, false},
		{"an error", evalRow(), []Term{over}, false},
		{"an error behind a true one", evalRow(), []Term{yes, over}, false},
		{"an error ahead of a true one", evalRow(), []Term{far, yes}, false},
		{"no row", nil, []Term{yes}, false},
		{"NOT of an error", evalRow(), []Term{term(op("NOT", op("=", op("+", col("C"), num(1)), num(0))))}, false},
		{"an error hidden in an OR", evalRow(), []Term{term(op("OR", col("P"), op("=", op("+", col("C"), num(1)), num(0))))}, false},
	}
	for _, c := range cases {
		if got := Holds(c.row, c.terms...); got != c.want {
			t.Errorf("%s: %v", c.name, got)
		}
	}
}

// thrown is an expression of any form, mostly with kinds that fit.
func (x *dice) thrown(kind, depth int) api.Expr {
	if x.below(40) == 0 {
		kind = 1 + x.below(3)
	}
	if depth == 0 || x.below(5) == 0 {
		return x.leaf(kind)
	}
	switch kind {
	case 1:
		if o := pick(x, "+", "-", "*", "-1"); o != "-1" {
			return op(o, x.thrown(1, depth-1), x.thrown(1, depth-1))
		}
		return op("-", x.thrown(1, depth-1))
	case 3:
		switch o := pick(x, "AND", "OR", "NOT", "=", "<>", "<=", ">=", "<", ">"); o {
		case "AND", "OR":
			return op(o, x.thrown(3, depth-1), x.thrown(3, depth-1))
		case "NOT":
			return op(o, x.thrown(3, depth-1))
		default:
			k := 1 + x.below(2)
			return op(o, x.thrown(k, depth-1), x.thrown(k, depth-1))
		}
	}
	if x.below(40) == 0 {
		return op(pick(x, operators()...), x.leaf(1), x.leaf(2), x.leaf(3))
	}
	return x.leaf(kind)
}

func (x *dice) leaf(kind int) api.Expr {
	if x.below(60) == 0 {
		return pick(x, col("Z"), colOf("V", "A"), colOf("U", "A"), txt(strings.Repeat("x", 65)))
	}
	switch kind {
	case 1:
		return pick(x, col("A"), col("C"), num(int64(x.below(5))-2), num(pick[int64](x, greatest, least, 1<<32)))
	case 2:
		return pick(x, col("B"), txt(""), txt("x"), txt("y"))
	}
	return pick(x, col("P"), colOf("U", "Q"))
}

// model is what Bind (the kind and its error) and Eval (the value and its error) answer, by the chapter.
type model struct {
	kind   int
	bound  api.Errno
	value  api.Value
	reckon api.Errno
}

func reckoned(e api.Expr, scope []Column, row []api.Value) model {
	switch e.Op {
	case "number":
		return model{kind: 1, value: integer(e.Int)}
	case "text":
		if len(e.Text) > 64 {
			return model{bound: api.ErrLong}
		}
		return model{kind: 2, value: texted(e.Text)}
	case "name":
		place, no := Find(scope, e.Of, e.Text)
		switch {
		case no != api.OK:
			return model{bound: no}
		case place >= len(row) || row[place].Kind != scope[place].Kind:
			return model{kind: scope[place].Kind, reckon: api.ErrColumn}
		}
		return model{kind: scope[place].Kind, value: row[place]}
	}
	var args []model
	kinds, first := "", api.OK
	for _, arg := range e.Args {
		m := reckoned(arg, scope, row)
		if m.bound != api.OK {
			return m
		}
		args, kinds, first = append(args, m), kinds+string(rune('0'+m.kind)), cmp.Or(first, m.reckon)
	}
	out := model{kind: wanted(e.Op, kinds), reckon: first}
	if out.kind == 0 {
		return model{bound: api.ErrType}
	}
	if first == api.OK {
		out.value, out.reckon = operated(e.Op, args)
	}
	return out
}

func operated(o string, args []model) (api.Value, api.Errno) {
	a := args[0].value
	if len(args) == 1 && o == "-" {
		return exact("-", 0, a.Int)
	}
	so := false
	if len(args) == 1 {
		so = a.Int == 0
	} else {
		b := args[1].value
		order := codec.Compare([]api.Value{a}, []api.Value{b})
		switch o {
		case "+", "-", "*":
			return exact(o, a.Int, b.Int)
		case "AND":
			so = a.Int == 1 && b.Int == 1
		case "OR":
			so = a.Int == 1 || b.Int == 1
		default:
			so = strings.ContainsRune(o, '=') && order == 0 || strings.ContainsRune(o, '<') && order < 0 || strings.ContainsRune(o, '>') && order > 0
		}
	}
	if so {
		return boolean(1), api.OK
	}
	return boolean(0), api.OK
}

// named is the places of the names of an expression, rising.
func named(e api.Expr, scope []Column) []int {
	var out []int
	if e.Op == "name" {
		place, _ := Find(scope, e.Of, e.Text)
		return []int{place}
	}
	for _, arg := range e.Args {
		out = append(out, named(arg, scope)...)
	}
	slices.Sort(out)
	return slices.Compact(out)
}

// P17.3 to P17.5, by thrown expressions and rows, held against the model.
func TestThrown(t *testing.T) {
	x := dice(174)
	scope := evalScope()
	seen := map[string]int{}
	for range 60000 {
		e := x.thrown(1+x.below(3), 1+x.below(5))
		row := x.row()
		want := reckoned(e, scope, row)
		term, no := Bind(e, scope)
		if no != want.bound || term.Kind() != want.kind {
			t.Fatalf("Bind(%v): %d %v, want %d %v", e, term.Kind(), no, want.kind, want.bound)
		}
		seen["bound: "+no.Error()]++
		if no != api.OK {
			continue
		}
		v, no := Eval(term, row)
		if v != want.value || no != want.reckon {
			t.Fatalf("Eval(%v) of %v: %v %v, want %v %v", e, row, v, no, want.value, want.reckon)
		}
		seen["reckoned: "+no.Error()]++
		holds := no == api.OK && v.Kind == 3 && v.Int == 1
		parts := Parts(term)
		if Holds(row, term) != holds || Holds(row, parts...) != holds && term.Kind() == 3 {
			t.Fatalf("Holds of %v and %v: %v", e, row, !holds)
		}
		if holds {
			seen["holds"]++
		}
		if places := Columns(term); !slices.Equal(places, named(e, scope)) {
			t.Fatalf("Columns(%v): %v", e, places)
		}
		by := x.below(4)
		moved := Move(term, by)
		if w, no := Eval(moved, append(make([]api.Value, by), row...)); w != want.value || no != want.reckon || moved.Kind() != want.kind {
			t.Fatalf("%v, moved by %d: %v %v", e, by, w, no)
		}
	}
	for _, what := range []string{"bound: errno 0", "bound: errno 2", "bound: errno 160", "bound: errno 161", "bound: errno 170", "reckoned: errno 0", "reckoned: errno 161", "reckoned: errno 171", "holds"} {
		if seen[what] < 100 {
			t.Errorf("%s was seen too seldom: %v", what, seen)
		}
	}
}

// row is a row for evalScope, now and then a short or a wrong one.
func (x *dice) row() []api.Value {
	row := []api.Value{
		integer(pick[int64](x, -1, 0, 1, 5, greatest, least)), texted(pick(x, "", "x", "y")), boolean(int64(x.below(3))),
		boolean(int64(x.below(2))), integer(pick[int64](x, -7, 0, 3, greatest)), {Kind: 9},
	}
	if x.below(10) == 0 {
		row[x.below(len(row))] = pick(x, api.Value{}, integer(1), texted("x"), boolean(1))
	}
	if x.below(10) == 0 {
		return row[:x.below(len(row))]
	}
	return row
}
