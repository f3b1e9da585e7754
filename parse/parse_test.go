package parse

import (
	"reflect"
	"strconv"
	"strings"
	"testing"

	"annals/api"
)

// words are those of P15.1 that no name may be.
const words = "CREATE TABLE INDEX ON NO OVERLAP INT TEXT INSERT INTO VALUES FROM TO FOREVER UPDATE SET FOR WHERE DELETE BEGIN COMMIT ROLLBACK SELECT COALESCE COUNT SUM UNION EXCEPT AS OF AT DURING ORDER BY AND OR NOT"

const forever = 1099511627776

// dice answers numbers that look thrown, the same ones each time.
type dice uint64

func (x *dice) below(n int) int {
	*x = *x*6364136223846793005 + 1442695040888963407
	return int(uint64(*x) >> 33 % uint64(n))
}

func number(n int64) api.Expr { return api.Expr{Op: "number", Int: n} }

func quoted(s string) api.Expr { return api.Expr{Op: "text", Text: s} }

func name(s string) api.Expr { return api.Expr{Op: "name", Text: s} }

func of(table, s string) api.Expr { return api.Expr{Op: "name", Of: table, Text: s} }

func op(op string, args ...api.Expr) api.Expr { return api.Expr{Op: op, Args: args} }

func one(e api.Expr) []api.Expr { return []api.Expr{e} }

func during(from, to int64) []api.Period { return []api.Period{{From: from, To: to}} }

// all is the question for everything in a table.
func all(table string) api.Query { return api.Query{All: true, Tables: []string{table}} }

// reads: is a text read as this tree?
func reads(t *testing.T, text string, want api.Stmt) {
	t.Helper()
	if x, f := Parse(text); f != (api.Fault{}) || !reflect.DeepEqual(x, want) {
		t.Errorf("Parse(%q): %+v, %v, want %+v", text, x, f, want)
	}
}

// refuses: has a text this fault, and no tree?
func refuses(t *testing.T, text string, code api.Errno, at int) {
	t.Helper()
	x, f := Parse(text)
	if f != (api.Fault{Code: code, At: at}) || !reflect.DeepEqual(x, api.Stmt{}) {
		t.Errorf("Parse(%q): %+v, %v, want %v at %d", text, x, f, code, at)
	}
}

// P15.2
func TestStatements(t *testing.T) {
	whole := api.Period{From: 0, To: forever}
	a := api.Column{Name: "A", Kind: api.Int}
	b := api.Column{Name: "B", Kind: api.Text}
	cases := []struct {
		text string
		want api.Stmt
	}{
		{"create table t (a int)", api.Stmt{Kind: "CREATE", Table: "T", Columns: []api.Column{a}}},
		{"create table t (a int, b text, a int)", api.Stmt{Kind: "CREATE", Table: "T", Columns: []api.Column{a, b, a}}},
		{"create table t (b text) no overlap (b)", api.Stmt{Kind: "CREATE", Table: "T", Columns: []api.Column{b}, Keys: []string{"B"}}},
		{"create table t (b text, a int) no overlap (a, c, a)", api.Stmt{Kind: "CREATE", Table: "T", Columns: []api.Column{b, a}, Keys: []string{"A", "C", "A"}}},
		{"create index on t", api.Stmt{Kind: "INDEX", Table: "T"}},
		{"insert into t values (1) from 2 to 3", api.Stmt{Kind: "INSERT", Table: "T", Values: one(number(1)), Period: api.Period{From: 2, To: 3}}},
		{"insert into t values (-1, 'x', a or b) from 0 to forever", api.Stmt{
			Kind: "INSERT", Table: "T", Values: []api.Expr{op("-", number(1)), quoted("x"), op("OR", name("A"), name("B"))}, Period: whole,
		}},
		{"update t set a = 1", api.Stmt{Kind: "UPDATE", Table: "T", Sets: []api.Set{{Column: "A", Value: number(1)}}, Period: whole}},
		{"update t set a = b = c, b = 'y' for 3 to 4 where a", api.Stmt{
			Kind: "UPDATE", Table: "T", Sets: []api.Set{{Column: "A", Value: op("=", name("B"), name("C"))}, {Column: "B", Value: quoted("y")}},
			Period: api.Period{From: 3, To: 4}, Where: one(name("A")),
		}},
		{"update t set a = 1 where 2", api.Stmt{Kind: "UPDATE", Table: "T", Sets: []api.Set{{Column: "A", Value: number(1)}}, Period: whole, Where: one(number(2))}},
		{"update t set a = 1 for 0 to 9", api.Stmt{Kind: "UPDATE", Table: "T", Sets: []api.Set{{Column: "A", Value: number(1)}}, Period: api.Period{From: 0, To: 9}}},
		{"delete from t", api.Stmt{Kind: "DELETE", Table: "T", Period: whole}},
		{"delete from t for 0 to forever", api.Stmt{Kind: "DELETE", Table: "T", Period: whole}},
		{"delete from t for 5 to forever where t.a", api.Stmt{Kind: "DELETE", Table: "T", Period: api.Period{From: 5, To: forever}, Where: one(of("T", "A"))}},
		{"delete from t where a", api.Stmt{Kind: "DELETE", Table: "T", Period: whole, Where: one(name("A"))}},
		{"begin", api.Stmt{Kind: "BEGIN"}},
		{"commit", api.Stmt{Kind: "COMMIT"}},
		{"rollback", api.Stmt{Kind: "ROLLBACK"}},
		{"select * from t", api.Stmt{Kind: "SELECT", Query: []api.Query{all("T")}}},
		{"select count from t", api.Stmt{Kind: "SELECT", Query: []api.Query{{Count: true, Tables: []string{"T"}}}}},
		{"select sum a from t", api.Stmt{Kind: "SELECT", Query: []api.Query{{Sum: "A", Tables: []string{"T"}}}}},
		{"select a from t", api.Stmt{Kind: "SELECT", Query: []api.Query{{Items: one(name("A")), Tables: []string{"T"}}}}},
		{"select coalesce t.a, b, u.t from t, u where 1", api.Stmt{Kind: "SELECT", Query: []api.Query{{
			Coalesce: true, Items: []api.Expr{of("T", "A"), name("B"), of("U", "T")}, Tables: []string{"T", "U"}, Where: one(number(1)),
		}}}},
		{"select coalesce * from t, t", api.Stmt{Kind: "SELECT", Query: []api.Query{{Coalesce: true, All: true, Tables: []string{"T", "T"}}}}},
		{"select coalesce count from t", api.Stmt{Kind: "SELECT", Query: []api.Query{{Coalesce: true, Count: true, Tables: []string{"T"}}}}},
		{"select coalesce sum a from t", api.Stmt{Kind: "SELECT", Query: []api.Query{{Coalesce: true, Sum: "A", Tables: []string{"T"}}}}},
		{"select * from t union select * from u", api.Stmt{Kind: "SELECT", Query: []api.Query{all("T"), all("U")}, Ops: []string{"UNION"}}},
		{"select * from t except select * from u union select * from v except select * from w", api.Stmt{
			Kind: "SELECT", Query: []api.Query{all("T"), all("U"), all("V"), all("W")}, Ops: []string{"EXCEPT", "UNION", "EXCEPT"},
		}},
		{"select * from t where a union select * from u where b as of 3", api.Stmt{Kind: "SELECT", Query: []api.Query{
			{All: true, Tables: []string{"T"}, Where: one(name("A"))}, {All: true, Tables: []string{"U"}, Where: one(name("B"))},
		}, Ops: []string{"UNION"}, AsOf: []int64{3}}},
		{"select * from t as of 0", api.Stmt{Kind: "SELECT", Query: []api.Query{all("T")}, AsOf: []int64{0}}},
		{"select * from t as of 999999999999999999", api.Stmt{Kind: "SELECT", Query: []api.Query{all("T")}, AsOf: []int64{999999999999999999}}},
		{"select * from t at 5", api.Stmt{Kind: "SELECT", Query: []api.Query{all("T")}, During: during(5, 6)}},
		{"select * from t during 5 to 7", api.Stmt{Kind: "SELECT", Query: []api.Query{all("T")}, During: during(5, 7)}},
		{"select * from t during 0 to forever", api.Stmt{Kind: "SELECT", Query: []api.Query{all("T")}, During: during(0, forever)}},
		{"select * from t order by a", api.Stmt{Kind: "SELECT", Query: []api.Query{all("T")}, Order: []string{"A"}}},
		{"select * from t as of 1 at 2 order by c, a, c", api.Stmt{Kind: "SELECT", Query: []api.Query{all("T")}, AsOf: []int64{1}, During: during(2, 3), Order: []string{"C", "A", "C"}}},
		{"select * from t as of 1 during 2 to 4 order by a", api.Stmt{Kind: "SELECT", Query: []api.Query{all("T")}, AsOf: []int64{1}, During: during(2, 4), Order: []string{"A"}}},
	}
	for _, c := range cases {
		reads(t, c.text, c.want)
		reads(t, c.text+";", c.want)
		reads(t, "\n\t"+strings.ToUpper(c.text)+" \n;\t", upper(c.want))
		refuses(t, c.text+";;", api.ErrSyntax, len(c.text)+1)
		refuses(t, c.text+" ; "+c.text, api.ErrSyntax, len(c.text)+3)
		refuses(t, c.text+" )", api.ErrSyntax, len(c.text)+1)
		refuses(t, ";"+c.text, api.ErrSyntax, 0)
	}
}

// upper is a statement whose text was put in capitals: quoted texts are too.
func upper(x api.Stmt) api.Stmt {
	for _, v := range x.Values {
		if v.Op == "text" {
			x.Values = []api.Expr{x.Values[0], quoted("X"), x.Values[2]}
		}
	}
	for _, s := range x.Sets {
		if s.Value.Op == "text" {
			x.Sets = []api.Set{x.Sets[0], {Column: s.Column, Value: quoted("Y")}}
		}
	}
	return x
}

// places are statements with a place for a name, marked by @.
func places() []string {
	return []string{
		"create table @ (a int)", "create table t (@ int)", "create table t (a int, @ text)", "create table t (a int) no overlap (@)", "create table t (a int) no overlap (a, @)",
		"create index on @", "insert into @ values (1) from 1 to 2", "insert into t values (@) from 1 to 2", "update @ set a = 1", "update t set @ = 1", "update t set a = 1, @ = 1",
		"delete from @", "delete from t where @", "select sum @ from t", "select b.@ from t", "select b, c.@ from t",
		"select a from @", "select a from t, @", "select a from t where b.@", "select a from t where 1 + @", "select a from t where - @", "select a from t order by @", "select a from t order by a, @",
		"select a from t union select a from @", "select a, @ from t", "select a, @.a from t", "select a from t where 1 = @.a",
	}
}

// P15.1: what a name is, at each place where one may stand.
func TestNames(t *testing.T) {
	if got := len(strings.Fields(words)); got != 37 {
		t.Fatalf("%d words", got)
	}
	longest := strings.Repeat("n", 24)
	for _, place := range places() {
		at := strings.Index(place, "@")
		put := func(s string) string { return strings.Replace(place, "@", s, 1) }
		for _, right := range []string{
			"x", "_", "n1", longest, "_2345678901234567890_234", "number", "name", "kind", "period", "expr", "item", "query", "what", "statement", "all",
			"create_", "selects", "co", "ors", "an", "index1", "integer", "forevers", "counts", "desc", "null", "true", "is", "in", "group", "drop", "limit", "E", "T",
		} {
			if _, f := Parse(put(right)); f != (api.Fault{}) {
				t.Errorf("Parse(%q): %v", put(right), f)
			}
		}
		for _, wrong := range []string{longest + "n", strings.Repeat("N", 25), strings.Repeat("n", 1000), "", "=", ".", "*", ",", ";"} {
			if wrong == "" && strings.Contains(place, "@.") {
				continue
			}
			refuses(t, put(wrong), api.ErrSyntax, next(put(wrong), at))
		}
		for _, word := range strings.Fields(words) {
			// NOT may stand ahead of a whole expression, so of what is behind it.
			if word == "NOT" && (strings.Contains(place, "(@)") && strings.Contains(place, "values") || strings.HasSuffix(place, "where @")) {
				continue
			}
			refuses(t, put(word), api.ErrSyntax, at)
			refuses(t, put(strings.ToLower(word)), api.ErrSyntax, at)
		}
	}
}

// next is the place of the first token from a place on.
func next(text string, at int) int {
	return len(text) - len(strings.TrimLeft(text[at:], " "))
}

// P15.1: numbers and texts are no names, and no name is one of these, where it isn't an expression.
func TestNamesAreWords(t *testing.T) {
	for _, place := range places() {
		at := strings.Index(place, "@")
		within := strings.Contains(place, "where") || strings.Contains(place, "values (@")
		if within && !strings.Contains(place, ".@") && !strings.Contains(place, "@.") {
			continue
		}
		for _, wrong := range []string{"1", "'x'", "''", "(x)", "-x"} {
			text := strings.Replace(place, "@", wrong, 1)
			where := at
			if strings.Contains(place, "= @.") && wrong != "(x)" && wrong != "-x" {
				where = strings.Index(text, ".")
			} else if strings.Contains(place, "= @.") {
				continue
			}
			refuses(t, text, api.ErrSyntax, where)
		}
	}
}

// P15.1: the edges of periods, wherever one stands; P15.2: those of AT.
func TestPeriods(t *testing.T) {
	heads := []string{"insert into t values (1) from ", "update t set a = 1 for ", "delete from t for ", "select * from t during ", "select * from t as of 9 during "}
	cases := []struct {
		period   string
		from, to int64 // of a wrong one 0
	}{
		{"3 to 4", 3, 4}, {"0 to 1", 0, 1}, {"0 to 1099511627776", 0, forever}, {"0 to forever", 0, forever}, {"007 to 0010", 7, 10},
		{"1099511627775 to 1099511627776", forever - 1, forever}, {"1099511627775 to forever", forever - 1, forever},
		{"3 to 3", 0, 0}, {"4 to 3", 0, 0}, {"0 to 0", 0, 0}, {"1 to 0", 0, 0},
		{"0 to 1099511627777", 0, 0}, {"3 to 999999999999999999", 0, 0}, {"1099511627776 to forever", 0, 0}, {"1099511627776 to 1099511627776", 0, 0},
		{"1099511627776 to 1099511627777", 0, 0}, {"1099511627777 to forever", 0, 0}, {"1099511627777 to 1099511627776", 0, 0}, {"999999999999999998 to 999999999999999999", 0, 0},
	}
	for _, head := range heads {
		for _, c := range cases {
			for _, tail := range []string{"", ";"} {
				x, f := Parse(head + c.period + tail)
				want := api.Period{From: c.from, To: c.to}
				if c.to == 0 {
					refuses(t, head+c.period+tail, api.ErrPeriod, len(head))
				} else if f != (api.Fault{}) || x.Period != want && !reflect.DeepEqual(x.During, []api.Period{want}) {
					t.Errorf("%q: %+v %v", head+c.period, x, f)
				}
			}
		}
		// A wrong period is told ahead of what is wrong behind it, a wrong token within it ahead of the period.
		refuses(t, head+"3 to 3 to", api.ErrPeriod, len(head))
		refuses(t, head+"3 to 4 to", api.ErrSyntax, len(head)+7)
		refuses(t, head+"1099511627777 to", api.ErrSyntax, len(head)+16)
		refuses(t, head+"1099511627777 to x", api.ErrSyntax, len(head)+17)
		refuses(t, head+"1099511627777 ; 3", api.ErrSyntax, len(head)+14)
		refuses(t, head+"-1 to 3", api.ErrSyntax, len(head))
		refuses(t, head+"1 to -3", api.ErrSyntax, len(head)+5)
		refuses(t, head+"forever to 3", api.ErrSyntax, len(head))
		refuses(t, head+"1 to 'forever'", api.ErrSyntax, len(head)+5)
		refuses(t, head+"1, 3", api.ErrSyntax, len(head)+1)
		refuses(t, head+"1 to 1 + 3", api.ErrPeriod, len(head))
		refuses(t, head+"1 to 2 + 3", api.ErrSyntax, len(head)+7)
	}
	reads(t, "select * from t at 0", api.Stmt{Kind: "SELECT", Query: []api.Query{all("T")}, During: during(0, 1)})
	reads(t, "select * from t at 1099511627775", api.Stmt{Kind: "SELECT", Query: []api.Query{all("T")}, During: during(forever-1, forever)})
	for _, wrong := range []string{"1099511627776", "1099511627777", "999999999999999999", "1099511627776 to", "1099511627776 order x"} {
		refuses(t, "select * from t at "+wrong, api.ErrPeriod, 19)
	}
	refuses(t, "select * from t at forever", api.ErrSyntax, 19)
	refuses(t, "select * from t at 1 to 2", api.ErrSyntax, 21)
	refuses(t, "select * from t at 1 during 1 to 2", api.ErrSyntax, 21)
	refuses(t, "select * from t during 1 to 2 at 1", api.ErrSyntax, 30)
	refuses(t, "delete from t for 1 to 2 for 1 to 2", api.ErrSyntax, 25)
	refuses(t, "update t set a = 1 for 2 to 1 where", api.ErrPeriod, 23)
	refuses(t, "select * from t as of forever", api.ErrSyntax, 22)
	refuses(t, "select * from t as of -1", api.ErrSyntax, 22)
}

// lisp shows how an expression binds.
func lisp(e api.Expr) string {
	switch e.Op {
	case "number":
		return strconv.FormatInt(e.Int, 10)
	case "text":
		return "'" + e.Text + "'"
	case "name":
		if e.Of != "" {
			return e.Of + "." + e.Text
		}
		return e.Text
	}
	out := "(" + e.Op
	for _, arg := range e.Args {
		out += " " + lisp(arg)
	}
	return out + ")"
}

// P15.3
func TestExpressions(t *testing.T) {
	cases := []struct{ text, want string }{
		{"1", "1"}, {"007", "7"}, {"999999999999999999", "999999999999999999"}, {"'It''s'", "'It's'"}, {"''", "''"}, {"a", "A"}, {"t.a", "T.A"}, {"t . a", "T.A"},
		{"'select'", "'select'"}, {"'('", "'('"},
		{"-1", "(- 1)"}, {"--1", "(- (- 1))"}, {"-a", "(- A)"}, {"-'x'", "(- 'x')"}, {"-(a)", "(- A)"}, {"-t.a", "(- T.A)"}, {"- - -a", "(- (- (- A)))"},
		{"(1)", "1"}, {"((a))", "A"}, {"(a or b)", "(OR A B)"},

		{"a or b or c", "(OR (OR A B) C)"}, {"a and b and c", "(AND (AND A B) C)"}, {"a + b + c", "(+ (+ A B) C)"}, {"a - b - c", "(- (- A B) C)"}, {"a * b * c", "(* (* A B) C)"},
		{"a - b + c", "(+ (- A B) C)"}, {"a + b - c", "(- (+ A B) C)"}, {"a or (b or c)", "(OR A (OR B C))"}, {"a - (b - c)", "(- A (- B C))"}, {"a * (b * c)", "(* A (* B C))"},

		{"a or b and c", "(OR A (AND B C))"}, {"a and b or c", "(OR (AND A B) C)"}, {"(a or b) and c", "(AND (OR A B) C)"}, {"a or b and c or d", "(OR (OR A (AND B C)) D)"},
		{"not a and b", "(AND (NOT A) B)"}, {"not a or b", "(OR (NOT A) B)"}, {"not (a and b)", "(NOT (AND A B))"}, {"a and not b and c", "(AND (AND A (NOT B)) C)"}, {"a or not b or c", "(OR (OR A (NOT B)) C)"},
		{"not not a", "(NOT (NOT A))"}, {"not not a and b", "(AND (NOT (NOT A)) B)"}, {"not a = b", "(NOT (= A B))"}, {"(not a) = b", "(= (NOT A) B)"}, {"a = (not b)", "(= A (NOT B))"},
		{"not not a < b", "(NOT (NOT (< A B)))"}, {"not a + b", "(NOT (+ A B))"}, {"not -a", "(NOT (- A))"},

		{"a = b", "(= A B)"}, {"a <> b", "(<> A B)"}, {"a <= b", "(<= A B)"}, {"a >= b", "(>= A B)"}, {"a < b", "(< A B)"}, {"a > b", "(> A B)"},
		{"a = b and c = d", "(AND (= A B) (= C D))"}, {"(a = b) = c", "(= (= A B) C)"}, {"a = (b = c)", "(= A (= B C))"}, {"a < b + c", "(< A (+ B C))"}, {"a + b < c", "(< (+ A B) C)"},
		{"a = b or c", "(OR (= A B) C)"}, {"a < b and not c >= d or e", "(OR (AND (< A B) (NOT (>= C D))) E)"},

		{"a + b * c", "(+ A (* B C))"}, {"a * b + c", "(+ (* A B) C)"}, {"(a + b) * c", "(* (+ A B) C)"}, {"a - b * c", "(- A (* B C))"}, {"1 + 2 * 3", "(+ 1 (* 2 3))"},
		{"-a + b", "(+ (- A) B)"}, {"-a * b", "(* (- A) B)"}, {"a - -b", "(- A (- B))"}, {"a--b", "(- A (- B))"}, {"a * -b", "(* A (- B))"}, {"a + -b * c", "(+ A (* (- B) C))"}, {"-(a + b)", "(- (+ A B))"},
		{"a -1", "(- A 1)"}, {"a <-1", "(< A (- 1))"}, {"1-1-1", "(- (- 1 1) 1)"},
		{"a=1+2*3 and(b)or not'x'<>c", "(OR (AND (= A (+ 1 (* 2 3))) B) (NOT (<> 'x' C)))"},
	}
	for _, c := range cases {
		x, f := Parse("delete from t where " + c.text)
		if f != (api.Fault{}) || len(x.Where) != 1 || lisp(x.Where[0]) != c.want {
			t.Errorf("%q: %v %v, want %s", c.text, x.Where, f, c.want)
		}
		y, f := Parse("insert into t values (" + c.text + ") from 1 to 2")
		if f != (api.Fault{}) || !reflect.DeepEqual(y.Values, x.Where) {
			t.Errorf("%q as a value: %v %v", c.text, y.Values, f)
		}
	}
}

// P15.3 and P15.4
func TestWrongExpressions(t *testing.T) {
	const head = "delete from t where "
	cases := []struct {
		text string
		at   int
	}{
		{"", 0}, {"a b", 2}, {"1 2", 2}, {"a 'x'", 2}, {"a = b = c", 6}, {"a < b > c", 6}, {"a = b and c <= d <> e", 17}, {"a = not b", 4}, {"a + not b", 4}, {"- not a", 2}, {"a * not b", 4},
		{"not", 3}, {"not and", 4}, {"a and", 5}, {"a or or b", 5}, {"and a", 0}, {"a not b", 2}, {"a and not", 9}, {"+ a", 0}, {"a + + b", 4}, {"a * * b", 4}, {"= a", 0}, {"a =", 3}, {"a = = b", 4}, {"a < = b", 4},
		{"(", 1}, {"()", 1}, {"(a", 2}, {"(a b)", 3}, {"a)", 1}, {"(a))", 3}, {"((a)", 4}, {"(a, b)", 2}, {"a, b", 1}, {"-", 1}, {"-)", 1}, {"a -", 3}, {"- - ", 4},
		{"t.", 2}, {"t.1", 2}, {"t.a.b", 3}, {".a", 0}, {"t..a", 2}, {"1.a", 1}, {"'t'.a", 3}, {"t.'a'", 2}, {"t.*", 2}, {"*", 0}, {"a.b c", 4}, {"(t).a", 3}, {"t.(a)", 2},
		{"count", 0}, {"sum a", 0}, {"a is b", 2}, {"a between", 2}, {"forever", 0}, {"a = forever", 4}, {"select", 0},
	}
	for _, c := range cases {
		refuses(t, head+c.text, api.ErrSyntax, len(head)+c.at)
	}
}

// P15.3: 32 deep is right, one deeper isn't, whatever takes it there.
func TestDepth(t *testing.T) {
	heads := []string{"delete from t where ", "delete from t where a = 1 and ", "select a from t where b or ", "update t set a = ", "insert into t values (", "insert into t values ((1), ", "insert into t values (1, - - 1, (("}
	for _, head := range heads {
		tail, used := "", 0
		if strings.HasPrefix(head, "insert") {
			tail = ") from 1 to 2"
		}
		if strings.HasSuffix(head, "((") {
			tail, used = "))"+tail, 2
		}
		for _, c := range []struct{ open, close string }{{"(", ")"}, {"-", ""}, {"- ", ""}, {"not ", ""}, {"(not ", ")"}, {"-(", ")"}, {"(-(", "))"}, {"not -(", ")"}, {"(a + ", ")"}, {"-(1 * ", ")"}, {"(not a and not ", ")"}} {
			// How deep one step takes what is behind it: the tokens that take it deeper, but for a NOT whose operand ends ahead of the next.
			deep := strings.Count(c.open, "(") + strings.Count(c.open, "-") + strings.Count(c.open, "not") - strings.Count(c.open, "not a")
			for steps := range 36 {
				text := head + strings.Repeat(c.open, steps) + "b" + strings.Repeat(c.close, steps) + tail
				_, f := Parse(text)
				if used+steps*deep <= 32 && f != (api.Fault{}) || used+steps*deep > 32 && f.Code != api.ErrDeep {
					t.Errorf("%q: %v, and it is %d deep", text, f, used+steps*deep)
				}
			}
		}
	}
}

// P15.3: where ErrDeep is told, and how it stands to other faults.
func TestDeepPlaces(t *testing.T) {
	const head = "delete from t where "
	n := len(head)
	open32, open33 := strings.Repeat("(", 32), strings.Repeat("(", 33)
	not32, not33 := strings.Repeat("not ", 32), strings.Repeat("not ", 33)
	minus32, minus33 := strings.Repeat("-", 32), strings.Repeat("-", 33)
	close32 := strings.Repeat(")", 32)
	for _, right := range []string{
		open32 + "a" + close32, not32 + "a", minus32 + "a", not32 + "a = b and " + not32 + "a", minus32 + "a + " + minus32 + "b * " + minus32 + "c",
		open32 + "a" + close32 + " + " + open32 + "a" + close32, not32 + "a or " + minus32 + "b = " + open32 + "c" + close32,
		"(" + strings.Repeat("(-a) + ", 100) + strings.Repeat("-", 31) + "a)", strings.Repeat("not not -(a) and ", 100) + "b", strings.Repeat("a + ", 500) + "1",
	} {
		if _, f := Parse(head + right); f != (api.Fault{}) {
			t.Errorf("%q: %v", right, f)
		}
	}
	cases := []struct {
		text string
		code api.Errno
		at   int
	}{
		{open33 + "a)" + close32, api.ErrDeep, 33}, {open33 + "  a", api.ErrDeep, 35}, {open33, api.ErrDeep, 33}, {open33 + " ", api.ErrDeep, 34}, {open33 + "(", api.ErrDeep, 33}, {open33 + ")", api.ErrDeep, 33}, {open33 + "from", api.ErrDeep, 33},
		{minus33 + "a", api.ErrDeep, 33}, {minus33, api.ErrDeep, 33}, {minus33 + "-a", api.ErrDeep, 33}, {minus33 + "not", api.ErrDeep, 33}, {strings.Repeat("-", 1000), api.ErrDeep, 33},
		{not33 + "a", api.ErrDeep, 132}, {not33, api.ErrDeep, 132}, {not33 + "not a", api.ErrDeep, 132}, {not33 + ")", api.ErrDeep, 132}, {strings.TrimSpace(not33), api.ErrDeep, 131},
		{open32 + "-a", api.ErrDeep, 33}, {open32 + "not a", api.ErrDeep, 36}, {open32 + "a + -", api.ErrDeep, 37}, {open32 + "a + (b)", api.ErrDeep, 37}, {open32 + "a and not b", api.ErrDeep, 42},
		{open32, api.ErrSyntax, 32}, {not32, api.ErrSyntax, 128}, {minus32, api.ErrSyntax, 32}, {minus32 + "not", api.ErrSyntax, 32}, {minus32 + "+", api.ErrSyntax, 32}, {open32 + ")", api.ErrSyntax, 32}, {open32 + "a b", api.ErrSyntax, 34},
		{open32 + "a" + close32 + ")", api.ErrSyntax, 65}, {"a b " + open33 + "a", api.ErrSyntax, 2}, {"a) " + open33 + "a", api.ErrSyntax, 1},
		{open32 + "a" + close32 + " = " + open33 + "a", api.ErrDeep, 101},
	}
	for _, c := range cases {
		refuses(t, head+c.text, c.code, n+c.at)
	}
	refuses(t, "insert into t values ("+open33+"1", api.ErrDeep, 22+33)
	reads(t, "insert into t values ("+open32+"1"+close32+") from 1 to 2", api.Stmt{Kind: "INSERT", Table: "T", Values: one(number(1)), Period: api.Period{From: 1, To: 2}})
	refuses(t, "delete from t for 2 to 1 where "+open33, api.ErrPeriod, 18)
	refuses(t, "insert into t values ("+open33+"1)"+close32+") from 2 to 1", api.ErrDeep, 22+33)
}

// P15.4: layer 14's fault is told ahead of all others.
func TestFaultsOfTokens(t *testing.T) {
	refuses(t, "select a from t where !", api.ErrToken, 22)
	refuses(t, "begin begin 1a", api.ErrToken, 12)
	refuses(t, "insert into t values (1) from 3 to 3 'x", api.ErrToken, 37)
	refuses(t, "delete from t where "+strings.Repeat("(", 33)+"!", api.ErrToken, 53)
	refuses(t, "begin"+strings.Repeat(" ", 4092), api.ErrLong, 4096)
	refuses(t, strings.Repeat("!", 5000), api.ErrLong, 4096)
	reads(t, "begin"+strings.Repeat(" ", 4091), api.Stmt{Kind: "BEGIN"})
	refuses(t, "begin begin"+strings.Repeat(" ", 4085), api.ErrSyntax, 6)
	refuses(t, "delete from"+strings.Repeat(" ", 4085), api.ErrSyntax, 4096)
}

// P15.4
func TestFaults(t *testing.T) {
	cases := []struct {
		text string
		at   int
	}{
		{"", 0}, {" \n", 2}, {";", 0}, {" ;", 1}, {"x", 0}, {"1", 0}, {"'begin'", 0}, {"table", 0}, {"explain select", 0}, {"(select a from t)", 0}, {"index on t", 0},
		{"begin x", 6}, {"begin begin", 6}, {"begin transaction", 6}, {"commit 1", 7}, {"rollback to", 9}, {"begin ; ;", 8},
		{"create", 6}, {"create t", 7}, {"create table", 12}, {"create table t", 14}, {"create table t a int", 15}, {"create table t ()", 16}, {"create table t (a)", 17}, {"create table t (a int", 21}, {"create table t (a int,)", 22},
		{"create table t (a int b text)", 22}, {"create table t (int a)", 16}, {"create table t (a 'int')", 18}, {"create table t (a number)", 18}, {"create table t (a int) no", 25}, {"create table t (a int) overlap (a)", 23},
		{"create table t (a int) no overlap", 33}, {"create table t (a int) no overlap a", 34}, {"create table t (a int) no overlap ()", 35}, {"create table t (a int) no overlap (a", 36}, {"create table t (a int) no overlap (a,)", 37},
		{"create table t (a int) no overlap (a int)", 37}, {"create table t (a int) no overlap (t.a)", 36}, {"create table t (a int) no overlap (a) no overlap (a)", 38}, {"create table t.u (a int)", 14},
		{"create index", 12}, {"create index t", 13}, {"create index on", 15}, {"create index on t (a)", 18}, {"create index on t, u", 17},
		{"insert t", 7}, {"insert into", 11}, {"insert into t", 13}, {"insert into t (a) values (1)", 14}, {"insert into t values", 20}, {"insert into t values 1", 21}, {"insert into t values ()", 22}, {"insert into t values (1", 23},
		{"insert into t values (1,)", 24}, {"insert into t values (1 2)", 24}, {"insert into t values (1)", 24}, {"insert into t values (1), (2)", 24}, {"insert into t values (1) for 1 to 2", 25}, {"insert into t values (1) from", 29},
		{"insert into t values (1) from 1", 31}, {"insert into t values (1) from 1 to", 34}, {"insert into t values (1) from 1 to 2 where a", 37}, {"insert into t values (1) where", 25}, {"insert into t values (*) from 1 to 2", 22},
		{"update", 6}, {"update t", 8}, {"update t a = 1", 9}, {"update t set", 12}, {"update t set a", 14}, {"update t set a 1", 15}, {"update t set a <> 1", 15}, {"update t set a =", 16}, {"update t set a = 1,", 19}, {"update t set a = 1, where", 20},
		{"update t set t.a = 1", 14}, {"update t set a = 1 b = 2", 19}, {"update t set a = 1 where", 24}, {"update t set a = 1 where a for 1 to 2", 27}, {"update t set a = 1 for", 22}, {"update t set a = 1 from 1 to 2", 19}, {"update t set (a) = 1", 13}, {"update t, u set a = 1", 8},
		{"update t set a = 1 = 2 = 3", 23}, {"update t set a = *", 17},
		{"delete", 6}, {"delete t", 7}, {"delete from", 11}, {"delete from t, u", 13}, {"delete from t a", 14}, {"delete from t for", 17}, {"delete from t from 1 to 2", 14}, {"delete from t where", 19}, {"delete from t where a for 1 to 2", 22}, {"delete * from t", 7},
		{"delete from t where a where b", 22}, {"delete from t as of 1", 14}, {"delete from t order by a", 14},
		{"select", 6}, {"select from t", 7}, {"select a", 8}, {"select a,", 9}, {"select a, from t", 10}, {"select a b from t", 9}, {"select a t", 9}, {"select a from", 13}, {"select a from t,", 16}, {"select a from t, u, v", 18}, {"select a from t u", 16},
		{"select *, a from t", 8}, {"select a, * from t", 10}, {"select t.* from t", 9}, {"select count, a from t", 12}, {"select a, count from t", 10}, {"select count a from t", 13}, {"select count * from t", 13}, {"select count(a) from t", 12}, {"select count(*) from t", 12},
		{"select sum from t", 11}, {"select sum t.a from t", 12}, {"select sum a, b from t", 12}, {"select sum (a) from t", 11}, {"select sum * from t", 11}, {"select a + 1 from t", 9}, {"select 1 from t", 7}, {"select 'a' from t", 7}, {"select (a) from t", 7}, {"select -a from t", 7},
		{"select coalesce from t", 16}, {"select coalesce coalesce a from t", 16}, {"select a coalesce from t", 9}, {"select * coalesce from t", 9}, {"coalesce select a from t", 0},
		{"select a from t where", 21}, {"select a from t where a where b", 24}, {"select a from t where a, b", 23}, {"select a from (select a from t)", 14}, {"select a from t.u", 15}, {"select a from t for 1 to 2", 16}, {"select a from t from u", 16},
		{"select a from t union", 21}, {"select a from t union u", 22}, {"select a from t union union select", 22}, {"select a from t union all select a from u", 22}, {"select a from t intersect select a from u", 16}, {"select a from t union (select a from t)", 22},
		{"select a from t as", 18}, {"select a from t as u", 19}, {"select a from t as of", 21}, {"select a from t as of x", 22}, {"select a from t as of 1 2", 24}, {"select a from t as of 1 as of 2", 24}, {"select a from t as of 1 union select a from t", 24}, {"select a from t of 1", 16},
		{"select a from t at", 18}, {"select a from t at x", 19}, {"select a from t at 1 as of 2", 21}, {"select a from t at 1 at 2", 21}, {"select a from t at 1 union select a from t", 21}, {"select a from t at 1 where b", 21}, {"select a from t during", 22}, {"select a from t during 1", 24},
		{"select a from t during 1 to", 27}, {"select a from t during 1 to 2 as of 3", 30}, {"select a from t as of 3 where a", 24},
		{"select a from t order", 21}, {"select a from t order a", 22}, {"select a from t order by", 24}, {"select a from t order by a,", 27}, {"select a from t order by t.a", 26}, {"select a from t order by 1", 25}, {"select a from t order by a b", 27}, {"select a from t order by a at 1", 27},
		{"select a from t order by a desc", 27}, {"select a from t order by a where b", 27}, {"select a from t by a", 16}, {"select a from t order by a order by b", 27}, {"select a from t order by *", 25},
		{"select a from t ; x", 18}, {"select a ; from t", 9},
	}
	for _, c := range cases {
		refuses(t, c.text, api.ErrSyntax, c.at)
	}
}

// P2, rule 4: no answer shares memory with another, nor one list of an answer with another.
func TestAnswersShareNothing(t *testing.T) {
	texts := []string{
		"create table t (a int, b text, c int) no overlap (a, b, c)", "insert into t values (a + b, -c, 1, 2) from 3 to 4",
		"update t set a = a + b, b = -c, c = 3 where a = b and not c", "select a, t.b, c from t, u where a or b union select a from t as of 1 at 2 order by a, b, c",
	}
	for _, text := range texts {
		a, _ := Parse(text)
		b, _ := Parse(text)
		want := Print(b)
		spoil(a)
		c, _ := Parse(text)
		if Print(b) != want || !reflect.DeepEqual(b, c) {
			t.Errorf("%q: %+v, %+v", text, b, c)
		}
	}
	x, _ := Parse("insert into t values (a, b + c * d, e) from 3 to 4")
	for i := range x.Values {
		x.Values[i].Args = append(x.Values[i].Args, number(1))
	}
	if got := lisp(op("", x.Values...)); got != "( A (+ B (* C D) 1) E)" {
		t.Error(got)
	}
}

// spoil overwrites all that a statement has, with the spare room.
func spoil(x api.Stmt) {
	clear(x.Columns[:cap(x.Columns)])
	clear(x.Keys[:cap(x.Keys)])
	for _, s := range x.Sets {
		spoilExprs(s.Value.Args)
	}
	clear(x.Sets[:cap(x.Sets)])
	spoilExprs(x.Values)
	spoilExprs(x.Where)
	for _, q := range x.Query {
		spoilExprs(q.Items)
		spoilExprs(q.Where)
		clear(q.Tables[:cap(q.Tables)])
	}
	clear(x.Query[:cap(x.Query)])
	clear(x.Ops[:cap(x.Ops)])
	clear(x.AsOf[:cap(x.AsOf)])
	clear(x.During[:cap(x.During)])
	clear(x.Order[:cap(x.Order)])
}

func spoilExprs(list []api.Expr) {
	for _, e := range list {
		spoilExprs(e.Args)
	}
	clear(list[:cap(list)])
}
