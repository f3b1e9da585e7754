package bind

import (
	"math"
	"reflect"
	"slices"
	"strings"
	"testing"

	"annals/api"
	"annals/catalog"
)

const (
	least    = math.MinInt64
	greatest = math.MaxInt64
)

// dice answers numbers that look thrown, the same ones each time.
type dice uint64

func (x *dice) below(n int) int {
	*x = *x*6364136223846793005 + 1442695040888963407
	return int(uint64(*x) >> 33 % uint64(n))
}

func pick[T any](x *dice, from ...T) T { return from[x.below(len(from))] }

func num(n int64) api.Expr { return api.Expr{Op: "number", Int: n} }

func txt(s string) api.Expr { return api.Expr{Op: "text", Text: s} }

func col(name string) api.Expr { return api.Expr{Op: "name", Text: name} }

func colOf(of, name string) api.Expr { return api.Expr{Op: "name", Of: of, Text: name} }

func op(op string, args ...api.Expr) api.Expr { return api.Expr{Op: op, Args: args} }

func integer(n int64) api.Value { return api.Value{Kind: api.Int, Int: n} }

func texted(s string) api.Value { return api.Value{Kind: api.Text, Text: s} }

func boolean(n int64) api.Value { return api.Value{Kind: 3, Int: n} }

func column(table, name string, kind int) Column {
	return Column{Table: table, Column: api.Column{Name: name, Kind: kind}}
}

func isZero(t Term) bool { return reflect.DeepEqual(t, Term{}) }

// must is the term of an expression that has one.
func must(t *testing.T, e api.Expr, scope []Column) Term {
	t.Helper()
	term, no := Bind(e, scope)
	if no != api.OK {
		t.Fatalf("Bind(%v): %v", e, no)
	}
	return term
}

// operators is all of them, and what is none.
func operators() []string {
	return []string{"OR", "AND", "NOT", "=", "<>", "<=", ">=", "<", ">", "+", "-", "*", "", "or", "And", "not", "==", "!=", "/", "Number", "NAME", "TEXT", "% ", "\xff", "+ "}
}

// P17.1
func TestScope(t *testing.T) {
	first := catalog.Table{Id: 7, Name: "T", Columns: []api.Column{{Name: "A", Kind: api.Int}, {Name: "B", Kind: api.Text}}, Keys: []string{"B"}, Indexed: true}
	second := catalog.Table{Name: "", Columns: []api.Column{{Name: "", Kind: -9}, {Name: "A", Kind: Bool}, {Name: "\xff", Kind: math.MaxInt}}}
	a, b := column("T", "A", api.Int), column("T", "B", api.Text)
	x, y, z := column("", "", -9), column("", "A", 3), column("", "\xff", math.MaxInt)
	cases := []struct {
		name   string
		tables []catalog.Table
		want   []Column
	}{
		{"nothing", nil, nil},
		{"no columns", []catalog.Table{{Name: "T"}}, nil},
		{"one table", []catalog.Table{first}, []Column{a, b}},
		{"two tables", []catalog.Table{first, second}, []Column{a, b, x, y, z}},
		{"the other way", []catalog.Table{second, first}, []Column{x, y, z, a, b}},
		{"one of them twice, one without columns", []catalog.Table{first, {Name: "U"}, second, first}, []Column{a, b, x, y, z, a, b}},
	}
	for _, c := range cases {
		if got := Scope(c.tables...); !slices.Equal(got, c.want) {
			t.Errorf("%s: %v, want %v", c.name, got, c.want)
		}
	}
}

// P17.2
func TestFind(t *testing.T) {
	scope := []Column{column("T", "A", 1), column("T", "B", 2), column("U", "A", 1), column("U", "C", 2), column("V", "D", 1), column("V", "D", 1), column("", "E", 1), column("", "", 1)}
	cases := []struct {
		of, name string
		want     int
		e        api.Errno
	}{
		{"", "B", 1, api.OK}, {"", "C", 3, api.OK}, {"", "E", 6, api.OK}, {"", "", 7, api.OK},
		{"T", "A", 0, api.OK}, {"U", "A", 2, api.OK}, {"T", "B", 1, api.OK}, {"U", "C", 3, api.OK},
		{"", "A", 0, api.ErrName}, {"", "D", 0, api.ErrName}, {"V", "D", 0, api.ErrName},
		{"W", "A", 0, api.ErrTable}, {"W", "Z", 0, api.ErrTable}, {"t", "A", 0, api.ErrTable}, {"A", "A", 0, api.ErrTable}, {"W", "D", 0, api.ErrTable}, {"\xff", "E", 0, api.ErrTable},
		{"", "Z", 0, api.ErrColumn}, {"", "b", 0, api.ErrColumn}, {"", "T", 0, api.ErrColumn}, {"", "T.A", 0, api.ErrColumn},
		{"T", "C", 0, api.ErrColumn}, {"U", "B", 0, api.ErrColumn}, {"U", "D", 0, api.ErrColumn}, {"T", "E", 0, api.ErrColumn}, {"T", "", 0, api.ErrColumn},
	}
	for _, c := range cases {
		if got, e := Find(scope, c.of, c.name); got != c.want || e != c.e {
			t.Errorf("Find(%q, %q): %d %v, want %d %v", c.of, c.name, got, e, c.want, c.e)
		}
	}
	if n, e := Find(nil, "", "A"); n != 0 || e != api.ErrColumn {
		t.Errorf("Find of no columns: %d %v", n, e)
	}
	if n, e := Find(nil, "T", "A"); n != 0 || e != api.ErrTable {
		t.Errorf("Find of no columns of a table: %d %v", n, e)
	}
	if n, e := Find(Scope(catalog.Table{Name: "T"}), "T", "A"); n != 0 || e != api.ErrTable {
		t.Errorf("Find in a table without columns: %d %v", n, e)
	}
}

// P17.3
func TestLeaves(t *testing.T) {
	scope := []Column{column("T", "A", 1), column("T", "B", 2), column("U", "A", 3), column("U", "C", -7), column("U", "D", 0)}
	wrong := []api.Expr{col("Z"), op("AND", num(1)), txt(strings.Repeat("x", 65))}
	longest := strings.Repeat("é", 32)
	cases := []struct {
		name string
		e    api.Expr
		kind int
		no   api.Errno
	}{
		{"a number", num(5), 1, api.OK},
		{"the least", num(least), 1, api.OK},
		{"a number with other fields", api.Expr{Op: "number", Text: strings.Repeat("x", 99), Of: "W", Args: wrong}, 1, api.OK},
		{"a text", txt("x"), 2, api.OK},
		{"an empty text", txt(""), 2, api.OK},
		{"64 bytes", txt(longest), 2, api.OK},
		{"64 bytes of any kind", txt(strings.Repeat("\x00", 63) + "\xff"), 2, api.OK},
		{"a text with other fields", api.Expr{Op: "text", Int: 9, Text: "x", Of: "W", Args: wrong}, 2, api.OK},
		{"65 bytes", txt(longest + "x"), 0, api.ErrLong},
		{"65 bytes with args", api.Expr{Op: "text", Text: longest + "x", Args: wrong}, 0, api.ErrLong},
		{"a column", col("B"), 2, api.OK},
		{"a table's column", colOf("T", "A"), 1, api.OK},
		{"a Bool column", colOf("U", "A"), 3, api.OK},
		{"a column of no kind", col("C"), -7, api.OK},
		{"a column of kind 0", col("D"), 0, api.OK},
		{"a name with other fields", api.Expr{Op: "name", Int: 9, Text: "B", Args: wrong}, 2, api.OK},
		{"two columns", col("A"), 0, api.ErrName},
		{"no table", colOf("W", "A"), 0, api.ErrTable},
		{"no column", col("Z"), 0, api.ErrColumn},
		{"a table's column that it hasn't", colOf("T", "C"), 0, api.ErrColumn},
		{"a long name", col(longest + "x"), 0, api.ErrColumn},
		{"a name with args that have other errors", api.Expr{Op: "name", Text: "Z", Args: []api.Expr{txt(longest + "x")}}, 0, api.ErrColumn},
		{"the zero expression", api.Expr{}, 0, api.ErrType},
		{"a text's word in capitals", api.Expr{Op: "TEXT", Text: longest + "x"}, 0, api.ErrType},
	}
	for _, c := range cases {
		term, no := Bind(c.e, scope)
		if no != c.no || term.Kind() != c.kind {
			t.Errorf("%s: %d %v, want %d %v", c.name, term.Kind(), no, c.kind, c.no)
		}
		if no != api.OK && !isZero(term) {
			t.Errorf("%s: a term beside an error: %v", c.name, term)
		}
	}
}

// wanted is the kind of an operator by the chapter: 0, if it takes no operands of these kinds.
func wanted(op string, kinds string) int {
	table := map[string]string{"OR": "33>3", "AND": "33>3", "NOT": "3>3", "+": "11>1", "*": "11>1", "-": "1>1 11>1"}
	for _, o := range []string{"=", "<>", "<=", ">=", "<", ">"} {
		table[o] = "11>3 22>3"
	}
	for _, rule := range strings.Fields(table[op]) {
		if from, to, _ := strings.Cut(rule, ">"); from == kinds {
			return int(to[0] - '0')
		}
	}
	return 0
}

// P17.3: every operator with operands of every kind, and with none, or too many.
func TestKinds(t *testing.T) {
	scope := []Column{column("T", "K0", 0), column("T", "K1", 1), column("T", "K2", 2), column("T", "K3", 3), column("T", "K4", 4), column("T", "K5", 1<<32+1)}
	lists := []string{""}
	for range 3 {
		for _, list := range lists {
			for _, k := range "012345" {
				lists = append(lists, list+string(k))
			}
		}
		slices.Sort(lists)
		lists = slices.Compact(lists)
	}
	right := 0
	for _, o := range operators() {
		for _, kinds := range lists {
			var args []api.Expr
			for _, k := range kinds {
				args = append(args, col("K"+string(k)))
			}
			want, no := wanted(o, kinds), api.OK
			if want == 0 {
				no = api.ErrType
			} else {
				right++
			}
			term, e := Bind(op(o, args...), scope)
			if term.Kind() != want || e != no || e != api.OK && !isZero(term) {
				t.Fatalf("%q of the kinds %q: %d %v, want %d %v", o, kinds, term.Kind(), e, want, no)
			}
		}
	}
	if right != 3+2+12+2 {
		t.Errorf("%d that are right", right)
	}
}

// P17.3: the first operand's error from the left, ahead of what the operator asks.
func TestBindsFirstError(t *testing.T) {
	scope := []Column{column("T", "A", 1), column("T", "B", 2), column("U", "B", 2)}
	long, two, table, none := txt(strings.Repeat("x", 65)), col("B"), colOf("W", "A"), col("Z")
	deep := op("+", num(1), op("-", long))
	cases := []struct {
		name string
		e    api.Expr
		want api.Errno
	}{
		{"left ahead of right", op("+", long, none), api.ErrLong},
		{"right ahead of left", op("+", none, long), api.ErrColumn},
		{"the right one", op("=", col("A"), two), api.ErrName},
		{"a deep one ahead", op("AND", deep, table), api.ErrLong},
		{"one ahead of a deep one", op("AND", table, deep), api.ErrTable},
		{"kinds of the left ahead of the right's error", op("AND", op("+", txt("x"), num(1)), none), api.ErrType},
		{"the right's error ahead of both kinds", op("AND", num(1), none), api.ErrColumn},
		{"the third operand's", op("+", num(1), num(2), table), api.ErrTable},
		{"the second of NOT's", op("NOT", num(1), none), api.ErrColumn},
		{"of no operator", op("/", num(1), two), api.ErrName},
		{"of the empty operator", op("", none), api.ErrColumn},
		{"three right ones", op("+", num(1), num(2), num(3)), api.ErrType},
		{"comparison of unlike kinds", op("=", col("A"), txt("x")), api.ErrType},
	}
	for _, c := range cases {
		if term, e := Bind(c.e, scope); e != c.want || !isZero(term) || term.Kind() != 0 {
			t.Errorf("%s: %v %v, want %v", c.name, term, e, c.want)
		}
	}
}

// P17.5
func TestParts(t *testing.T) {
	var scope []Column
	for _, name := range []string{"A", "B", "C", "D", "E"} {
		scope = append(scope, column("T", name, 3))
	}
	a, b, c, d, e := col("A"), col("B"), col("C"), col("D"), col("E")
	cases := []struct {
		name string
		e    api.Expr
		want [][]int // the columns of each part
	}{
		{"a name", a, [][]int{{0}}},
		{"a number", num(4), [][]int{{}}},
		{"an AND", op("AND", b, a), [][]int{{1}, {0}}},
		{"from the left", op("AND", op("AND", op("AND", a, b), c), d), [][]int{{0}, {1}, {2}, {3}}},
		{"from the right", op("AND", a, op("AND", b, op("AND", c, d))), [][]int{{0}, {1}, {2}, {3}}},
		{"in the middle", op("AND", op("AND", e, b), op("AND", c, a)), [][]int{{4}, {1}, {2}, {0}}},
		{"the same twice", op("AND", a, a), [][]int{{0}, {0}}},
		{"an OR", op("OR", op("AND", a, b), c), [][]int{{0, 1, 2}}},
		{"a NOT", op("NOT", op("AND", a, b)), [][]int{{0, 1}}},
		{"what is within an OR stays", op("AND", op("OR", a, op("AND", d, c)), op("NOT", op("AND", b, e))), [][]int{{0, 2, 3}, {1, 4}}},
	}
	for _, x := range cases {
		var got [][]int
		for _, part := range Parts(must(t, x.e, scope)) {
			got = append(got, append([]int{}, Columns(part)...))
		}
		if !reflect.DeepEqual(got, x.want) {
			t.Errorf("%s: %v, want %v", x.name, got, x.want)
		}
	}
	whole := must(t, op("OR", a, b), scope)
	if parts := Parts(whole); len(parts) != 1 || !reflect.DeepEqual(parts[0], whole) || parts[0].Kind() != Bool {
		t.Errorf("what is no AND: %v", parts)
	}
}

// P17.5
func TestColumnsAndMove(t *testing.T) {
	var scope []Column
	for _, name := range []string{"A", "B", "C", "D"} {
		scope = append(scope, column("T", name, 1))
	}
	sum := must(t, op("+", op("*", col("D"), col("B")), op("-", op("+", col("D"), num(7)))), scope)
	cases := []struct {
		name string
		t    Term
		want []int
	}{
		{"none", must(t, op("+", num(3), num(4)), scope), nil},
		{"one", must(t, col("C"), scope), []int{2}},
		{"each once, rising", sum, []int{1, 3}},
		{"moved", Move(sum, 4), []int{5, 7}},
		{"not moved", Move(sum, 0), []int{1, 3}},
		{"moved back", Move(Move(sum, 1000), -1000), []int{1, 3}},
		{"moved ahead of all rows", Move(sum, -2), []int{-1, 1}},
		{"moved far", Move(sum, math.MaxInt-3), []int{math.MaxInt - 2, math.MaxInt}},
		{"moved far ahead", Move(sum, math.MinInt), []int{math.MinInt + 1, math.MinInt + 3}},
		{"moved round and back", Move(Move(sum, math.MaxInt), -math.MaxInt), []int{1, 3}},
		{"numbers don't move", Move(must(t, num(3), scope), 5), nil},
	}
	for _, c := range cases {
		if got := Columns(c.t); !slices.Equal(got, c.want) {
			t.Errorf("%s: %v, want %v", c.name, got, c.want)
		}
	}
	row := []api.Value{integer(1), integer(10), integer(2), integer(100)}
	if v, e := Eval(sum, row); v != integer(893) || e != api.OK {
		t.Errorf("as it was: %v %v", v, e)
	}
	moved := Move(sum, 2)
	if v, e := Eval(moved, append([]api.Value{texted("x"), texted("y")}, row...)); v != integer(893) || e != api.OK || moved.Kind() != api.Int {
		t.Errorf("moved: %v %v", v, e)
	}
	for _, by := range []int{-2, -4, 1, 4, math.MaxInt, math.MinInt, math.MaxInt - 3} {
		if v, e := Eval(Move(sum, by), row); v != (api.Value{}) || e != api.ErrColumn {
			t.Errorf("moved by %d out of the row: %v %v", by, v, e)
		}
	}
	if v, e := Eval(Move(must(t, num(3), scope), math.MinInt), nil); v != integer(3) || e != api.OK {
		t.Errorf("a number, moved: %v %v", v, e)
	}
}

// P2, rule 4: what is handed in is neither changed nor kept, and what is answered shares memory with nothing.
func TestNothingIsShared(t *testing.T) {
	table := catalog.Table{Name: "T", Columns: []api.Column{{Name: "A", Kind: 1}, {Name: "B", Kind: 3}, {Name: "C", Kind: 3}}[:2]}
	scope, other := Scope(table, table), Scope(table, table)
	clear(other[:cap(other)])
	if scope[3] != column("T", "B", 3) || table.Columns[:3][2].Name != "C" || table.Columns[0].Name != "A" {
		t.Fatalf("answers of Scope share memory: %v %v", scope, table)
	}
	clear(table.Columns[:3])
	if scope[0] != column("T", "A", 1) || scope[1] != column("T", "B", 3) {
		t.Fatalf("Scope keeps what was handed in: %v", scope)
	}
	scope = scope[:2]
	build := func() api.Expr {
		return op("AND", op("AND", col("B"), op("=", col("A"), num(5))), op("NOT", op("<", col("A"), num(3))))
	}
	e := build()
	term := must(t, e, scope)
	if !reflect.DeepEqual(e, build()) {
		t.Fatalf("Bind changes what is handed in: %v", e)
	}
	again := must(t, build(), []Column{column("T", "A", 1), column("T", "B", 3)})
	clear(e.Args[0].Args)
	clear(e.Args)
	clear(scope)
	row := []api.Value{integer(5), boolean(1), texted("spare")}[:2]
	look := func(when string) {
		t.Helper()
		if !reflect.DeepEqual(term, again) || !Holds(row, term) || !slices.Equal(Columns(term), []int{0, 1}) || len(Parts(term)) != 3 {
			t.Fatalf("%s: the term is changed", when)
		}
		if row[0] != integer(5) || row[1] != boolean(1) || row[:3][2] != texted("spare") {
			t.Fatalf("%s: the row is changed: %v", when, row[:3])
		}
	}
	look("what was handed in is changed")
	parts := Parts(term)
	clear(parts[:cap(parts)])
	places := Columns(term)
	clear(places[:cap(places)])
	look("answers are changed")
	moved := Move(term, 3)
	parts = Parts(moved)
	moved = Move(moved, -1)
	look("moved")
	if !slices.Equal(Columns(moved), []int{2, 3}) || !slices.Equal(Columns(parts[0]), []int{4}) {
		t.Errorf("moved again: %v %v", Columns(moved), Columns(parts[0]))
	}
	terms := []Term{term, again, again}[:2]
	if !Holds(row, terms...) || !reflect.DeepEqual(terms[:3], []Term{term, again, again}) {
		t.Error("Holds changes its terms")
	}
}

// P1: expressions of 2^16 parts within one another, and ones with very many operands.
func TestDeepAndWide(t *testing.T) {
	const n = 1<<16 - 2
	scope := []Column{column("T", "A", 1), column("T", "B", 3)}
	row := []api.Value{integer(1), boolean(1)}
	left, right, minus, wrong := col("B"), col("B"), col("A"), col("Z")
	for range n {
		left, right = op("AND", left, col("B")), op("AND", col("B"), right)
		minus, wrong = op("-", minus), op("NOT", wrong)
	}
	for _, e := range []api.Expr{left, right} {
		term := Move(must(t, e, scope), 0)
		if !Holds(row, term) || len(Parts(term)) != n+1 || !slices.Equal(Columns(term), []int{1}) || !Holds(row, Parts(term)...) {
			t.Error("a deep AND")
		}
		if v, e := Eval(term, nil); v != (api.Value{}) || e != api.ErrColumn {
			t.Errorf("a deep AND of no row: %v %v", v, e)
		}
	}
	if v, e := Eval(must(t, minus, scope), row); v != integer(1) || e != api.OK {
		t.Errorf("very many minus signs: %v %v", v, e)
	}
	if term, e := Bind(wrong, scope); !isZero(term) || e != api.ErrColumn {
		t.Errorf("a deep error: %v", e)
	}
	wide := op("AND", slices.Repeat([]api.Expr{col("B")}, 1<<18)...)
	if term, e := Bind(wide, scope); !isZero(term) || e != api.ErrType {
		t.Errorf("very many operands: %v", e)
	}
}
