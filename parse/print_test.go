package parse

import (
	"math"
	"reflect"
	"slices"
	"strings"
	"testing"

	"annals/api"
	"annals/lex"
)

// P15.5
func TestText(t *testing.T) {
	a, b, c := name("A"), name("B"), name("C")
	cases := []struct {
		e    api.Expr
		want string
	}{
		{number(0), "0"}, {number(7), "7"}, {number(999999999999999999), "999999999999999999"}, {number(forever), "1099511627776"},
		{quoted(""), "''"}, {quoted("it's"), "'it''s'"}, {quoted("aB\n\xff"), "'aB\n\xff'"}, {a, "A"}, {of("T", "A"), "T.A"},
		{op("-", number(1)), "-1"}, {op("-", op("-", a)), "--A"}, {op("-", quoted("x")), "-'x'"}, {op("-", of("T", "A")), "-T.A"}, {op("-", op("+", a, b)), "-(A + B)"}, {op("-", op("*", a, b)), "-(A * B)"}, {op("-", op("NOT", a)), "-(NOT A)"}, {op("-", op("=", a, b)), "-(A = B)"}, {op("-", op("-", a, b)), "-(A - B)"},
		{op("NOT", a), "NOT A"}, {op("NOT", op("NOT", a)), "NOT NOT A"}, {op("NOT", op("-", a)), "NOT -A"}, {op("NOT", op("=", a, b)), "NOT A = B"}, {op("NOT", op("AND", a, b)), "NOT (A AND B)"}, {op("NOT", op("OR", a, b)), "NOT (A OR B)"}, {op("NOT", op("+", a, b)), "NOT A + B"}, {op("NOT", op("*", a, b)), "NOT A * B"},
		{op("OR", op("OR", a, b), c), "A OR B OR C"}, {op("OR", a, op("OR", b, c)), "A OR (B OR C)"}, {op("OR", op("AND", a, b), c), "A AND B OR C"}, {op("OR", a, op("AND", b, c)), "A OR B AND C"}, {op("OR", op("NOT", a), op("NOT", b)), "NOT A OR NOT B"},
		{op("AND", op("AND", a, b), c), "A AND B AND C"}, {op("AND", a, op("AND", b, c)), "A AND (B AND C)"}, {op("AND", op("OR", a, b), c), "(A OR B) AND C"}, {op("AND", a, op("OR", b, c)), "A AND (B OR C)"}, {op("AND", op("NOT", a), op("NOT", b)), "NOT A AND NOT B"},
		{op("=", op("=", a, b), c), "(A = B) = C"}, {op("=", a, op("<", b, c)), "A = (B < C)"}, {op("<>", op("NOT", a), b), "(NOT A) <> B"}, {op("<=", a, op("NOT", b)), "A <= (NOT B)"}, {op(">=", op("OR", a, b), c), "(A OR B) >= C"}, {op("<", a, op("AND", b, c)), "A < (B AND C)"}, {op(">", op("+", a, b), op("-", b, c)), "A + B > B - C"}, {op("<", a, op("-", b)), "A < -B"},
		{op("+", op("+", a, b), c), "A + B + C"}, {op("+", a, op("+", b, c)), "A + (B + C)"}, {op("-", op("+", a, b), c), "A + B - C"}, {op("-", a, op("-", b, c)), "A - (B - C)"}, {op("+", op("*", a, b), c), "A * B + C"}, {op("+", a, op("*", b, c)), "A + B * C"}, {op("-", a, op("-", b)), "A - -B"}, {op("+", op("-", a), b), "-A + B"}, {op("+", op("=", a, b), c), "(A = B) + C"}, {op("+", a, op("NOT", b)), "A + (NOT B)"},
		{op("*", op("*", a, b), c), "A * B * C"}, {op("*", a, op("*", b, c)), "A * (B * C)"}, {op("*", op("+", a, b), c), "(A + B) * C"}, {op("*", a, op("-", b, c)), "A * (B - C)"}, {op("*", op("-", a), op("-", b)), "-A * -B"}, {op("*", a, op("NOT", b)), "A * (NOT B)"}, {op("*", op(">", a, b), c), "(A > B) * C"},
	}
	for _, c := range cases {
		if got := Text(c.e); got != c.want {
			t.Errorf("Text of %s: %q, want %q", lisp(c.e), got, c.want)
		}
	}
}

// P15.5
func TestPrint(t *testing.T) {
	cases := []struct{ text, want string }{
		{"select a from t where a = 1 + 2 * 3", "SELECT A FROM T WHERE A = 1 + 2 * 3"},
		{"create table t(a int)", "CREATE TABLE T (A INT)"},
		{"create table t(a int,b text,c int)no overlap(c,a);", "CREATE TABLE T (A INT, B TEXT, C INT) NO OVERLAP (C, A)"},
		{"create index\non t ;", "CREATE INDEX ON T"},
		{"insert into t values(1)from 2 to 3", "INSERT INTO T VALUES (1) FROM 2 TO 3"},
		{"insert into t values((1),('x''y'),-(a),(a)+(b),not(a))from 0 to forever", "INSERT INTO T VALUES (1, 'x''y', -A, A + B, NOT A) FROM 0 TO FOREVER"},
		{"insert into t values (1099511627776) from 0007 to 1099511627776", "INSERT INTO T VALUES (1099511627776) FROM 7 TO FOREVER"},
		{"update t set a=1", "UPDATE T SET A = 1"},
		{"update t set a=b=c,b=-1 for 0 to 9", "UPDATE T SET A = B = C, B = -1 FOR 0 TO 9"},
		{"update t set a=1 for 0 to 1099511627776 where a", "UPDATE T SET A = 1 WHERE A"},
		{"update t set a=1 for 1 to forever where a", "UPDATE T SET A = 1 FOR 1 TO FOREVER WHERE A"},
		{"delete from t", "DELETE FROM T"}, {"delete from t for 0 to 1", "DELETE FROM T FOR 0 TO 1"}, {"delete from t for 1 to forever", "DELETE FROM T FOR 1 TO FOREVER"},
		{"delete from t for 0 to forever where t.a or b", "DELETE FROM T WHERE T.A OR B"}, {"delete from t for 3 to 4 where(a)", "DELETE FROM T FOR 3 TO 4 WHERE A"},
		{"begin;", "BEGIN"}, {"commit", "COMMIT"}, {"Rollback", "ROLLBACK"},
		{"select*from t", "SELECT * FROM T"}, {"select count from t,u", "SELECT COUNT FROM T, U"}, {"select sum a from t where 1", "SELECT SUM A FROM T WHERE 1"}, {"select coalesce a,t . b from t", "SELECT COALESCE A, T.B FROM T"},
		{"select coalesce*from t", "SELECT COALESCE * FROM T"}, {"select coalesce count from t", "SELECT COALESCE COUNT FROM T"}, {"select coalesce sum a from t", "SELECT COALESCE SUM A FROM T"},
		{"select a from t where a union select coalesce b from u,v except select * from w as of 007 during 1 to 2 order by a,b", "SELECT A FROM T WHERE A UNION SELECT COALESCE B FROM U, V EXCEPT SELECT * FROM W AS OF 7 DURING 1 TO 2 ORDER BY A, B"},
		{"select * from t at 5", "SELECT * FROM T DURING 5 TO 6"}, {"select * from t at 1099511627775", "SELECT * FROM T DURING 1099511627775 TO FOREVER"}, {"select * from t during 0 to forever", "SELECT * FROM T DURING 0 TO FOREVER"},
		{"select * from t as of 1099511627776", "SELECT * FROM T AS OF 1099511627776"}, {"select * from t as of 0 order by a", "SELECT * FROM T AS OF 0 ORDER BY A"},
	}
	for _, c := range cases {
		x, f := Parse(c.text)
		if f != (api.Fault{}) || Print(x) != c.want {
			t.Errorf("%q: %v, printed %q, want %q", c.text, f, Print(x), c.want)
		}
	}
}

// thrownExpr is an expression of any shape that can be read.
func thrownExpr(x *dice, room int) api.Expr {
	if room == 0 || x.below(5) == 0 {
		return []api.Expr{number(int64(x.below(20))), quoted("it's"), name("A"), of("T", "B"), number(999999999999999999)}[x.below(5)]
	}
	ops := strings.Fields("OR AND = <> <= >= < > + - * OR AND + - * NOT NOT neg neg")
	switch o := ops[x.below(len(ops))]; o {
	case "NOT":
		return op("NOT", thrownExpr(x, room-1))
	case "neg":
		return op("-", thrownExpr(x, room-1))
	default:
		return op(o, thrownExpr(x, room-1), thrownExpr(x, room-1))
	}
}

// full is an expression with brackets round every operand, so that it hangs on no binding.
func full(e api.Expr) string {
	switch {
	case e.Op == "number" || e.Op == "text" || e.Op == "name":
		return Text(e)
	case len(e.Args) == 1:
		return e.Op + " (" + full(e.Args[0]) + ")"
	}
	return "(" + full(e.Args[0]) + ")" + e.Op + "(" + full(e.Args[1]) + ")"
}

// read is an expression's tree; false, if it has a fault.
func read(text string) (api.Expr, bool) {
	x, f := Parse("delete from t where " + text)
	if f != (api.Fault{}) || len(x.Where) != 1 {
		return api.Expr{}, false
	}
	return x.Where[0], true
}

// P15.3 and P15.5: an expression's text is read again as it, and with any pair of brackets left out it isn't any more.
func TestBracketsThatAreNeeded(t *testing.T) {
	x := dice(155)
	pairs := 0
	for range 6000 {
		e := thrownExpr(&x, x.below(6))
		if got, ok := read(full(e)); !ok || !reflect.DeepEqual(got, e) {
			t.Fatalf("%q is read as %s, not as %s", full(e), lisp(got), lisp(e))
		}
		text := Text(e)
		if got, ok := read(text); !ok || !reflect.DeepEqual(got, e) {
			t.Fatalf("Text of %s: %q, which is read as %s", lisp(e), text, lisp(got))
		}
		for _, less := range withoutPairs(text) {
			pairs++
			if got, ok := read(less); ok && reflect.DeepEqual(got, e) {
				t.Fatalf("Text of %s: %q, but %q is enough", lisp(e), text, less)
			}
		}
	}
	if pairs < 5000 {
		t.Errorf("%d pairs of brackets", pairs)
	}
}

// withoutPairs is a text without each of its pairs of brackets.
func withoutPairs(text string) []string {
	var out []string
	var open []int
	tokens, _ := lex.Tokens(text)
	for _, token := range tokens {
		switch {
		case token.Kind == lex.Sign && token.Text == "(":
			open = append(open, token.At)
		case token.Kind == lex.Sign && token.Text == ")":
			from := open[len(open)-1]
			open = open[:len(open)-1]
			out = append(out, text[:from]+text[from+1:token.At]+text[token.At+1:])
		}
	}
	return out
}

// P15.5: what is printed is read again as the same tree, and printed alike; as deep as can be, too.
func TestPrintIsReadAgain(t *testing.T) {
	m := newModel()
	x := dice(5)
	right := 0
	for range 20000 {
		s, f := Parse(joined(&x, m.thrown(&x, m.rules["whole"], 8+x.below(6))))
		if f != (api.Fault{}) {
			continue
		}
		right++
		text := Print(s)
		again, f := Parse(text)
		if f != (api.Fault{}) || !reflect.DeepEqual(again, s) || Print(again) != text {
			t.Fatalf("%+v is printed as %q, which is read as %+v, %v", s, text, again, f)
		}
		if strings.Contains(text, "  ") || strings.TrimSpace(text) != text || strings.Contains(text, " ,") || strings.Contains(text, "( ") || strings.Contains(text, " )") {
			t.Fatalf("blanks in %q", text)
		}
	}
	if right < 5000 {
		t.Errorf("only %d statements were right", right)
	}
	for _, deepest := range []string{strings.Repeat("(a+", 32) + "b" + strings.Repeat(")", 32), strings.Repeat("not ", 32) + "a", strings.Repeat("-", 32) + "a", strings.Repeat("-(a*", 16) + "b" + strings.Repeat(")", 16)} {
		e, ok := read(deepest)
		if got, again := read(Text(e)); !ok || !again || !reflect.DeepEqual(got, e) {
			t.Errorf("%q: %q", deepest, Text(e))
		}
	}
}

// P1: trees that no text is read as are printed somehow.
func TestTreesOfAnyShape(t *testing.T) {
	x := dice(51)
	ops := append(strings.Fields("number text name OR AND NOT = <> <= >= < > + - * x ( number"), "", "\xff", "and")
	var wild func(room int) api.Expr
	wild = func(room int) api.Expr {
		e := api.Expr{Op: ops[x.below(len(ops))], Int: []int64{0, -1, math.MinInt64, math.MaxInt64}[x.below(4)], Text: []string{"", "a", "'", "\x00\xff"}[x.below(4)], Of: []string{"", "t."}[x.below(2)]}
		for range x.below(5) {
			if room > 0 {
				e.Args = append(e.Args, wild(room-1))
			}
		}
		return e
	}
	exprs := func() []api.Expr {
		var out []api.Expr
		for range x.below(4) {
			out = append(out, wild(3))
		}
		return out
	}
	names := func() []string { return []string{"", "a", "B", "select"}[:x.below(5)] }
	periods := func() []api.Period {
		return []api.Period{{}, {From: -1, To: math.MinInt64}, {From: forever, To: forever}}[:x.below(4)]
	}
	kinds := strings.Fields("CREATE INDEX INSERT UPDATE DELETE SELECT BEGIN COMMIT ROLLBACK select x")
	for range 5000 {
		s := api.Stmt{
			Kind: append(kinds, "")[x.below(len(kinds)+1)], Table: "T", Columns: []api.Column{{}, {Name: "a", Kind: -1}, {Name: "b", Kind: 9}}[:x.below(4)], Keys: names(), Values: exprs(),
			Where: exprs(), Ops: names(), AsOf: []int64{-1, math.MinInt64}[:x.below(3)], During: periods(), Order: names(),
		}
		for range x.below(4) {
			s.Sets = append(s.Sets, api.Set{Column: "a", Value: wild(3)})
			s.Query = append(s.Query, api.Query{Coalesce: x.below(2) == 0, All: x.below(3) == 0, Count: x.below(3) == 0, Sum: "ab"[:x.below(3)], Items: exprs(), Tables: names(), Where: exprs()})
		}
		before := Print(s)
		if Print(s) != before {
			t.Fatalf("%+v is printed in two ways", s)
		}
		Text(wild(4))
	}
	if Print(api.Stmt{}) != Print(api.Stmt{}) || Text(api.Expr{}) != Text(api.Expr{}) {
		t.Error("the zero ones are printed in two ways")
	}
}

// P1: as many parts within one another as the document allows.
func TestNestedParts(t *testing.T) {
	const parts = 1 << 16
	for _, shape := range []func(e api.Expr) api.Expr{
		func(e api.Expr) api.Expr { return op("NOT", e) },
		func(e api.Expr) api.Expr { return op("-", e) },
		func(e api.Expr) api.Expr { return op("+", e, number(1)) },
		func(e api.Expr) api.Expr { return op("+", number(1), e) },
		func(e api.Expr) api.Expr { return op("=", e, name("A")) },
		func(e api.Expr) api.Expr { return op("x", e) },
	} {
		e := op("NOT", number(1))
		for range parts - 2 {
			e = shape(e)
		}
		if got := Text(e); len(got) < parts-2 {
			t.Errorf("%d bytes", len(got))
		}
	}
	many := api.Stmt{Kind: "SELECT", Query: slices.Repeat([]api.Query{all("T")}, parts), Ops: slices.Repeat([]string{"UNION"}, parts)}
	if got := Print(many); strings.Count(got, "UNION SELECT * FROM T") != parts-1 {
		t.Error("many queries")
	}
}

// P2, rule 4: a tree that is printed stays as it was.
func TestPrintChangesNothing(t *testing.T) {
	const text = "select a, t.b from t, u where a + b * -c = 1 or not b union select sum a from t as of 1 at 2 order by a, b"
	a, _ := Parse(text)
	b, _ := Parse(text)
	Print(a)
	Text(a.Query[0].Where[0])
	if !reflect.DeepEqual(a, b) {
		t.Errorf("%+v", a)
	}
}
