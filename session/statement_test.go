package session

import (
	"math"
	"slices"
	"strings"
	"testing"

	"annals/api"
)

// told0 is the versions of table 0.
func told0(e *Engine) []string {
	var out []string
	for _, x := range e.store.History(0) {
		out = append(out, shownItem(x))
	}
	return out
}

// P22.4
func TestCreate(t *testing.T) {
	e := newEngine(t, 100, 60, 4)
	long := strings.Repeat("n", 24)
	many := func(n, size int) string {
		var list []string
		for i := range n {
			list = append(list, strings.Repeat("c", size-1)+string(rune('a'+i))+" int")
		}
		return "(" + strings.Join(list, ", ") + ")"
	}
	say(t, e,
		step{1, "create table t (a int)", "0"},
		step{1, "create table t (b text)", "!162"},
		step{1, "create table u (a int, a text)", "!162"},
		step{1, "create table u (a int) no overlap (a, a)", "!162"},
		step{1, "create table u (a int) no overlap (b)", "!161"},
		step{1, "create table u " + many(9, 1), "!1"},
		step{1, "create table t " + many(9, 1), "!1"},
		step{1, "create table u (a int, b text) no overlap (b, a)", "0"},
		step{1, "create table x " + many(8, 1), "0"},
		// Ahead of the columns 57 bytes and the name's; of each 12 and its name's: 184 in all, and 185.
		step{1, "create table " + long[:11] + " " + many(4, 17), "0"},
		step{1, "create table " + long[:12] + " " + many(4, 17), "!2"},
		step{1, "select * from " + long[:12], "!160"},
		step{1, "create table " + long + " " + many(8, 24), "!2"},
		step{1, "create table " + long + " (" + long + " int)", "0"},
		step{1, "create table " + long + "n (a int)", "!150@13"},
		step{1, "select * from " + long[:11], "0"},
	)
	if len(e.manager.Active()) != 0 || e.store.Last() != 5 {
		t.Errorf("behind that: %v %d", e.manager.Active(), e.store.Last())
	}
	want := []string{"1 T 0 1 A 1 0- since 1 until 0", "2 U 0 2 A 1 B 2 B A 0- since 2 until 0"}
	if got := told0(e); len(got) != 5 || !slices.Equal(got[:2], want) {
		t.Errorf("table 0: %q", got)
	}
	wide, _ := e.tables.Find(strings.ToUpper(long[:11]))
	if wide.Id != 4 || len(wide.Columns) != 4 {
		t.Errorf("the fourth table: %v", wide)
	}
}

// P22.4 to P22.6: a fact that can't be written is refused by the statement, not only by a commit, and so ahead of a clock that is at its end.
func TestTooLongAtOnce(t *testing.T) {
	long := "'" + strings.Repeat("x", 64) + "'"
	e := begun(t, "create table w (a text, b text, c text)", "insert into w values ("+long+", "+long+", '') from 0 to 9")
	say(t, e,
		step{1, "begin", "0"},
		step{1, "insert into w values (" + long + ", " + long + ", " + long + ") from 0 to 9", "!2"},
		step{1, "update w set c = a for 3 to 5", "!2"},
		step{1, "update w set c = 'y' for 3 to 5", "1"},
		step{1, "update w set c = a for 5 to 6", "!2"},
		step{1, "select c from w", "3:  0-3,  5-9, y 3-5"},
		step{1, "commit", "0"},
		step{1, "select c from w", "3:  0-3,  5-9, y 3-5"},
	)
	e.Tick(api.Forever)
	say(t, e,
		step{1, "create table v (" + strings.Repeat("x", 24) + " int, " + strings.Repeat("y", 24) + " int, " + strings.Repeat("z", 24) + " int, " + strings.Repeat("w", 24) + " int)", "!2"},
		step{1, "create table v (a int)", "!3"},
		step{1, "create table w (a int)", "!162"},
		step{1, "create index on v", "!160"},
	)
}

// P22.4: an index is one version that ends, and one that begins.
func TestIndex(t *testing.T) {
	e := begun(t, "create table t (a int)", "create table u (a int) no overlap (a)", "insert into u values (1) from 0 to 9")
	say(t, e,
		step{1, "begin", "0"},
		step{2, "create index on v", "!160"},
		step{2, "create index on u", "0"},
		step{2, "create index on u", "!162"},
		step{1, "insert into u values (2) from 0 to 9", "1"},
		step{1, "select * from u, t", "0"},
		step{1, "commit", "0"},
		step{2, "create index on t", "0"},
		step{2, "select * from u", "2: 1 0-9, 2 0-9"},
	)
	want := []string{
		"1 T 0 1 A 1 0- since 1 until 6", "2 U 0 1 A 1 A 0- since 2 until 4", "2 U 1 1 A 1 A 0- since 4 until 0", "1 T 1 1 A 1 0- since 6 until 0",
	}
	if got := told0(e); !slices.Equal(got, want) {
		t.Errorf("table 0: %q, want %q", got, want)
	}
	for _, name := range []string{"T", "U"} {
		if x, bad := e.tables.Find(name); !x.Indexed || bad != api.OK {
			t.Errorf("%v %v", x, bad)
		}
	}
}

// P22.5
func TestInsert(t *testing.T) {
	long := strings.Repeat("x", 64)
	e := begun(t, "create table t (a int, b text)", "create table w (a text, b text, c text)")
	say(t, e,
		step{1, "insert into v values (1, 'x') from 0 to 1", "!160"},
		step{1, "insert into v values (1 + 'x', z) from 0 to 1", "!160"},
		step{1, "insert into t values (a, 'x') from 0 to 1", "!161"},
		step{1, "insert into t values (t.a, 'x') from 0 to 1", "!160"},
		step{1, "insert into t values (1 + 'x') from 0 to 1", "!170"},
		step{1, "insert into t values ('" + long + "y') from 0 to 1", "!2"},
		step{1, "insert into t values (999999999999999999 * 10) from 0 to 1", "!171"},
		// Value by value: what goes wrong with the first counts, be it bound or reckoned out.
		step{1, "insert into t values (999999999999999999 * 10, a) from 0 to 1", "!171"},
		step{1, "insert into t values (a, 999999999999999999 * 10) from 0 to 1", "!161"},
		step{1, "insert into t values (1, -'x', b) from 0 to 1", "!170"},
		step{1, "insert into t values ('y') from 0 to 1", "!1"},
		step{1, "insert into t values ('y', 1, 2) from 0 to 1", "!1"},
		step{1, "insert into t values ('y', 'x') from 0 to 1", "!170"},
		step{1, "insert into t values (1, 2) from 0 to 1", "!170"},
		step{1, "insert into t values (1 = 1, 'x') from 0 to 1", "!170"},
		step{1, "insert into t values (1, not 1 = 1) from 0 to 1", "!170"},
		step{1, "insert into t values (1, 'x') from 5 to 5", "!40@35"},
		step{1, "insert into w values ('" + long + "', '" + long + "', '" + long[:21] + "') from 0 to 1", "!2"},
		step{1, "insert into w values ('" + long + "', '" + long + "', '" + long[:20] + "') from 0 to 1", "1"},
		step{1, "select count from w", "1: 1 0-1"},
		step{1, "insert into t values (2 * 3 + 1, 'it''s') from 0 to forever", "1"},
		step{1, "insert into t values (-(4 - 9), '') from 1099511627775 to 1099511627776", "1"},
		step{1, "insert into t values (-999999999999999999, '" + long + "') from 3 to 4", "1"},
		step{1, "select * from t", "3: -999999999999999999 " + long + " 3-4, 5  1099511627775-, 7 it's 0-"},
	)
	if e.store.Last() != 6 || len(e.manager.Active()) != 0 {
		t.Errorf("the last stamp: %d", e.store.Last())
	}
}

// P22.6: the errors of UPDATE and DELETE, in their order.
func TestChangeErrors(t *testing.T) {
	long := strings.Repeat("x", 64)
	e := begun(t, "create table t (a int, b text)", "insert into t values (999999999999999999, 'x') from 0 to 9",
		"create table w (a text, b text, c text)", "insert into w values ('"+long+"', '"+long+"', '') from 0 to 9", "insert into w values ('', '', 'short') from 0 to 9")
	say(t, e,
		step{1, "update v set a = 1", "!160"},
		step{1, "update v set c = 1 where d", "!160"},
		step{1, "update t set c = 1", "!161"},
		step{1, "update t set c = 'x' + 1, a = 1 where d", "!161"},
		step{1, "update t set a = 1, a = 2", "!162"},
		step{1, "update t set a = 1, b = 'x', a = c", "!162"},
		step{1, "update t set a = 'x', a = 2", "!170"},
		step{1, "update t set a = d", "!161"},
		step{1, "update t set a = v.a", "!160"},
		step{1, "update t set a = 1 + b", "!170"},
		step{1, "update t set b = '" + long + "y'", "!2"},
		step{1, "update t set a = b", "!170"},
		step{1, "update t set b = a", "!170"},
		step{1, "update t set a = a = 1", "!170"},
		step{1, "update t set a = b, c = 1", "!170"},
		step{1, "update t set a = 1 where c", "!161"},
		step{1, "update t set a = 1 where a", "!170"},
		step{1, "update t set a = 1 where b", "!170"},
		step{1, "update t set a = 1 where 1 + b = 2", "!170"},
		step{1, "update t set a = b where c", "!170"},
		step{1, "update t set a = a * 10", "!171"},
		step{1, "update t set a = a * 10 where c", "!161"},
		step{1, "update t set a = a * 10 for 9 to 12", "0"},
		step{1, "update t set a = a * 10 where b = 'y'", "0"},
		// What overflows in WHERE doesn't hold.
		step{1, "update t set a = 1 where a * 10 > 0", "0"},
		step{1, "update t set a = 1 where not a * 10 > 0", "0"},
		step{1, "update w set c = a", "!2"},
		step{1, "update w set c = a for 3 to 5", "!2"},
		step{1, "update w set c = a where c <> ''", "1"},
		step{1, "select c from w", "2:  0-9,  0-9"},
		step{1, "delete from v", "!160"},
		step{1, "delete from v where c", "!160"},
		step{1, "delete from t where c", "!161"},
		step{1, "delete from t where w.a = ''", "!160"},
		step{1, "delete from t where a + 1", "!170"},
		step{1, "delete from t where a and a", "!170"},
		step{1, "delete from t where a = '" + long + "y'", "!2"},
		step{1, "select * from t", "1: 999999999999999999 x 0-9"},
	)
	history(t, e, "T", "999999999999999999 x 0-9 since 2 until 0")
}

// P22.6: what changes do.
func TestChanges(t *testing.T) {
	e := begun(t, "create table t (a int, b text)", "insert into t values (1, 'x') from 0 to 9", "insert into t values (2, 'y') from 5 to forever", "insert into t values (1, 'x') from 0 to 9")
	say(t, e,
		step{1, "update t set a = 3, b = 'z' for 3 to 6 where t.a = 1", "2"},
		step{1, "select * from t", "7: 1 x 0-3, 1 x 0-3, 1 x 6-9, 1 x 6-9, 2 y 5-, 3 z 3-6, 3 z 3-6"},
		step{1, "update t set b = 'w', a = -a where b = 'y' and a = 2", "1"},
		step{1, "delete from t for 2 to 7 where a > 0", "6"},
		step{1, "select * from t", "5: -2 w 5-, 1 x 0-2, 1 x 0-2, 1 x 7-9, 1 x 7-9"},
		step{1, "delete from t for 20 to 30 where a < 0", "1"},
		step{1, "delete from t for 30 to forever", "1"},
		step{1, "delete from t for 40 to 50", "0"},
		step{1, "delete from t where 1 = 1 and a = 1", "4"},
		step{1, "select * from t", "1: -2 w 5-20"},
		step{1, "delete from t", "1"},
		step{1, "delete from t", "0"},
		step{1, "select * from t as of 5", "7: 1 x 0-3, 1 x 0-3, 1 x 6-9, 1 x 6-9, 2 y 5-, 3 z 3-6, 3 z 3-6"},
	)
}

// P22.7: the errors of SELECT, in their order.
func TestSelectErrors(t *testing.T) {
	e := begun(t, "create table t (a int, b text)", "create table u (a int, c int)",
		"insert into t values (999999999999999999 * 9, 'x') from 0 to 9", "insert into t values (999999999999999999 * 9, 'y') from 8 to 10")
	const right, sums = "select a from t union ", "select sum a from t "
	say(t, e,
		step{1, "select * from v", "!160"},
		step{1, "select c, 'x' from v", "!150@10"},
		step{1, "select c from v, w where d", "!160"},
		step{1, "select c from t, w where d", "!160"},
		step{1, "select c from t where d", "!161"},
		step{1, "select d from t", "!161"},
		step{1, "select v.a from t", "!160"},
		step{1, "select u.a from t", "!160"},
		step{1, "select t.d from t", "!161"},
		step{1, "select b, a from t, u", "!173"},
		step{1, "select d, a from t, u", "!161"},
		step{1, "select a, d from t, u", "!173"},
		step{1, "select t.a from t, t", "!173"},
		step{1, "select v.a, d from t", "!160"},
		step{1, "select d, v.a from t", "!161"},
		step{1, "select sum d from t", "!161"},
		step{1, "select sum a from t, u", "!173"},
		step{1, "select sum b from t", "!170"},
		step{1, "select sum b from t where d", "!170"},
		step{1, "select a from t where d", "!161"},
		step{1, "select a from t where a", "!170"},
		step{1, "select t.a from t, u where a = 1", "!173"},
		step{1, "select b from t, u where t.a = b", "!170"},
		// Query by query, and what doesn't match behind all else of its own.
		step{1, right + "select b from t", "!170"},
		step{1, right + "select a, a from t", "!170"},
		step{1, right + "select * from t", "!170"},
		step{1, right + "select * from v", "!160"},
		step{1, right + "select b from t where d", "!161"},
		step{1, right + "select b, d from t where a", "!161"},
		step{1, right + "select b from t union select * from v", "!170"},
		step{1, right + "select sum b from t", "!170"},
		step{1, right + "select d from t union select b from t", "!161"},
		step{1, "select d from t except select * from v", "!161"},
		step{1, "select * from t except select * from u", "!170"},
		step{1, "select b, a from t except select * from t", "!170"},
		step{1, "select count from t union select b from t", "!170"},
		// ORDER BY behind all queries.
		step{1, "select a from t order by b", "!161"},
		step{1, "select a from t order by d, a", "!161"},
		step{1, "select a from t order by a, d", "!161"},
		step{1, "select a, a from t order by a", "!173"},
		step{1, "select a, a from t order by d, a", "!161"},
		step{1, "select a, a from t order by a, d", "!173"},
		step{1, "select * from t, u order by a", "!173"},
		step{1, "select * from t, u order by b, c", "0"},
		step{1, "select t.a, u.a from t, u order by a", "!173"},
		step{1, "select * from t, t order by b", "!173"},
		step{1, "select count from t order by a", "!161"},
		step{1, "select sum a from t order by a", "!161"},
		step{1, "select a from t order by d", "!161"},
		step{1, "select a from t union select b from t order by d", "!170"},
		step{1, "select count from t union select a from t order by a", "!161"},
		step{1, "select a from t union select c from u order by c", "!161"},
		step{1, "select a from t union select c from u order by a at 3", "!150@49"},
		// The sums last of all.
		step{1, sums, "!171"},
		step{1, sums + "union select * from t", "!170"},
		step{1, sums + "order by a", "!161"},
		step{1, sums + "at 8", "!171"},
		step{1, sums + "at 7", "1: 8999999999999999991 7-8"},
		step{1, sums + "where b = 'y'", "1: 8999999999999999991 8-10"},
		step{1, "select count from t union select sum a from t", "!171"},
		step{1, "select sum c from u except select sum a from t", "!171"},
		step{1, sums + "as of 3", "1: 8999999999999999991 0-9"},
		step{1, "select sum a from t where a * 9 > 0", "0"},
	)
}

// asked is a database with a few facts to be asked about.
func asked(t *testing.T) *Engine {
	t.Helper()
	return begun(t, "create table t (a int, b text)", "create table u (c int)",
		"insert into t values (1, 'x') from 0 to 5", "insert into t values (1, 'x') from 5 to 9", "insert into t values (1, 'y') from 3 to 12",
		"insert into t values (4, 'x') from 8 to forever", "insert into u values (4) from 0 to 10", "insert into u values (1) from 4 to 6")
}

// P22.8: what is asked of one table.
func TestAnswers(t *testing.T) {
	say(t, asked(t),
		step{1, "select * from t", "3: 1 x 0-9, 1 y 3-12, 4 x 8-"},
		step{1, "select a from t", "3: 1 0-12, 1 3-9, 4 8-"},
		step{1, "select coalesce a from t", "2: 1 0-12, 4 8-"},
		step{1, "select b, t.a, b from t at 8", "3: x 1 x 8-9, x 4 x 8-9, y 1 y 8-9"},
		step{1, "select * from t during 4 to 6", "2: 1 x 4-6, 1 y 4-6"},
		step{1, "select * from t at 1099511627775", "1: 4 x 1099511627775-"},
		step{1, "select * from t where a = 1 and b = 'x' or a = 4", "2: 1 x 0-9, 4 x 8-"},
		step{1, "select * from t where a = 5", "0"},
		step{1, "select * from t where 1 = 1", "3: 1 x 0-9, 1 y 3-12, 4 x 8-"},
		step{1, "select * from t where 1 = 2", "0"},
		step{1, "select count from t", "5: 1 0-3, 1 12-, 2 3-8, 2 9-12, 3 8-9"},
		step{1, "select coalesce count from t at 4", "1: 2 4-5"},
		step{1, "select count from t where a = 7", "0"},
		step{1, "select sum a from t", "5: 1 0-3, 2 3-8, 4 12-, 5 9-12, 6 8-9"},
		step{1, "select sum a from t where b = 'x'", "3: 1 0-8, 4 9-, 5 8-9"},
		step{1, "select sum c from u where c > 9", "0"},
	)
}

// P22.8: what is asked of two tables, and of two that are one.
func TestJoins(t *testing.T) {
	say(t, asked(t),
		step{1, "select * from t, u where a = c", "3: 1 x 1 4-6, 1 y 1 4-6, 4 x 4 8-10"},
		step{1, "select * from u, t where a = c at 8", "1: 4 4 x 8-9"},
		step{1, "select c, t.b from t, u where t.a <> u.c during 4 to 5", "2: 4 x 4-5, 4 y 4-5"},
		step{1, "select count from t, u", "6: 1 0-3, 2 3-4, 2 6-8, 2 9-10, 3 8-9, 4 4-6"},
		step{1, "select sum c from t, u at 5", "1: 10 5-6"},
		step{1, "select * from u, u", "4: 1 1 4-6, 1 4 4-6, 4 1 4-6, 4 4 0-10"},
		step{1, "select count from t, t at 8", "1: 9 8-9"},
		step{1, "select coalesce b from t, u where c > 0", "2: x 0-10, y 3-10"},
	)
}

// P22.8: UNION and EXCEPT, from the left.
func TestUnionAndExcept(t *testing.T) {
	say(t, asked(t),
		step{1, "select a from t union select c from u", "5: 1 0-12, 1 3-9, 1 4-6, 4 0-, 4 8-10"},
		step{1, "select a from t except select c from u", "4: 1 0-12, 1 3-4, 1 6-9, 4 10-"},
		step{1, "select c from u except select c from u union select c from u at 4", "2: 1 4-5, 4 4-5"},
		step{1, "select c from u union select c from u except select c from u at 4", "2: 1 4-5, 4 4-5"},
		step{1, "select c from u except select a from t union select c from u at 4", "3: 1 4-5, 4 4-5, 4 4-5"},
		step{1, "select c from u union select c from u except select a from t at 4", "2: 4 4-5, 4 4-5"},
		step{1, "select coalesce c from u union select coalesce c from u at 4", "4: 1 4-5, 1 4-5, 4 4-5, 4 4-5"},
		step{1, "select count from u except select sum c from u at 4", "1: 2 4-5"},
		step{1, "select count from t at 4 union select count from u", "!150@25"},
		step{1, "select * from u except select * from u", "0"},
	)
}

// P22.8: ORDER BY, by the names of the first query's answer.
func TestOrder(t *testing.T) {
	say(t, asked(t),
		step{1, "select * from t order by b", "3: 1 x 0-9, 4 x 8-, 1 y 3-12"},
		step{1, "select * from t order by b, a", "3: 1 x 0-9, 4 x 8-, 1 y 3-12"},
		step{1, "select * from t order by a, b", "3: 1 x 0-9, 1 y 3-12, 4 x 8-"},
		step{1, "select b, a from t order by a", "3: x 1 0-9, y 1 3-12, x 4 8-"},
		step{1, "select b, a from t order by a, a, b", "3: x 1 0-9, y 1 3-12, x 4 8-"},
		step{1, "select a from t union select c from u order by a", "5: 1 0-12, 1 3-9, 1 4-6, 4 0-, 4 8-10"},
		step{1, "select b, c from t, u at 5 order by c", "4: x 1 5-6, y 1 5-6, x 4 5-6, y 4 5-6"},
		step{1, "select coalesce b from t as of 4 during 2 to 20 order by b", "1: x 2-9"},
	)
}

// P22.8: AS OF tells what was there then, but nothing from behind the snapshot, and nothing of what the transaction itself has done.
func TestAsOf(t *testing.T) {
	e := begun(t, "create table t (a int)", "insert into t values (1) from 0 to 9", "update t set a = 2 for 3 to 5", "delete from t where a = 2")
	say(t, e,
		step{1, "select * from t as of 0", "0"},
		step{1, "select * from t as of 1", "0"},
		step{1, "select * from t as of 2", "1: 1 0-9"},
		step{1, "select * from t as of 3", "3: 1 0-3, 1 5-9, 2 3-5"},
		step{1, "select * from t as of 3 at 4", "1: 2 4-5"},
		step{1, "select * from t as of 4", "2: 1 0-3, 1 5-9"},
		step{1, "select * from t as of 999999999999999999", "2: 1 0-3, 1 5-9"},
		step{1, "select * from t, t as of 3 at 4", "1: 2 2 4-5"},
		step{1, "select * from t union select * from t as of 2", "2: 1 0-9, 1 0-9"},
		step{1, "begin", "0"},
		step{2, "delete from t", "2"},
		step{2, "insert into t values (7) from 0 to 1", "1"},
		step{1, "select * from t as of 5", "2: 1 0-3, 1 5-9"},
		step{1, "insert into t values (8) from 0 to 1", "1"},
		step{1, "update t set a = 9 for 0 to 4", "2"},
		step{1, "select * from t", "3: 1 5-9, 9 0-1, 9 0-3"},
		step{1, "select * from t as of 6", "2: 1 0-3, 1 5-9"},
		step{1, "select * from t as of 4", "2: 1 0-3, 1 5-9"},
		step{1, "select * from t as of 2", "1: 1 0-9"},
		step{1, "rollback", "0"},
		step{1, "select * from t as of 5", "0"},
		step{1, "select * from t as of 6", "1: 7 0-1"},
	)
}

// P22.8: whichever plan the oracle picks, the answer is the same.
func TestOracles(t *testing.T) {
	e := asked(t)
	for range 3 {
		for _, text := range []string{
			"select * from t, u", "select * from t, u where a = c", "select b, c from t, u where a = 1 and c < 4 and a <> c during 2 to 9 order by c",
			"select count from u, u where 1 = 1 at 5", "select sum a from t where b = 'x' and a < 9 during 3 to 10", "select * from u, t as of 6 during 0 to 100",
			"select a from t union select sum c from u, t where a + c > 2 except select coalesce c from u",
		} {
			want := shown(e.Exec(1, text, -1))
			for _, oracle := range []int{0, 1, 2, 3, 4, 5, 6, 7, 8, 9, 10, 15, 31, 32, 33, 63, 1000, math.MaxInt, -2, math.MinInt} {
				if got := shown(e.Exec(1, text, oracle)); got != want {
					t.Errorf("%s by %d: %s, want %s", text, oracle, got, want)
				}
			}
		}
		if e.Exec(1, "create index on u", 0).Code != api.OK {
			e.Exec(1, "create index on t", 0)
		}
	}
	say(t, e, step{1, "create index on t", "!162"})
}

// P2, rule 4: lists that are handed in aren't changed, and what is answered shares memory with nothing.
func TestNothingIsShared(t *testing.T) {
	e := begun(t, "create table t (a int, b text)", "insert into t values (1, 'x') from 0 to 9", "insert into t values (1, 'x') from 0 to 9", "begin", "insert into t values (2, 'y') from 0 to 9")
	for _, text := range []string{
		"select * from t", "select a from t", "select count from t", "select sum a from t", "select coalesce b from t order by b", "select * from t, t", "select a from t union select a from t",
		"select * from t order by b", "select * from t as of 3", "select b from t except select b from t where a = 7",
	} {
		got, other := e.Exec(0, text, -1), e.Exec(0, text, -1)
		want := shown(other)
		for i := range got.Facts {
			if left := (Result{Facts: got.Facts[i:], Rows: got.Rows - i}); i > 0 && !strings.HasSuffix(want, strings.SplitN(shown(left), ": ", 2)[1]) {
				t.Errorf("%s: rows of one answer share memory: %s", text, shown(left))
			}
			clear(got.Facts[i].Row[:cap(got.Facts[i].Row)])
		}
		clear(got.Facts[:cap(got.Facts)])
		if shown(other) != want || shown(e.Exec(0, text, -1)) != want {
			t.Errorf("%s: answers share memory", text)
		}
	}
	list, _ := e.History("T")
	for i := range list {
		clear(list[i].Fact.Row[:cap(list[i].Fact.Row)])
	}
	clear(list[:cap(list)])
	history(t, e, "T", "1 x 0-9 since 2 until 0", "1 x 0-9 since 3 until 0")
	keep := []bool{true, false, true, true}[:2]
	e.Crash(keep, 0, 1)
	if !slices.Equal(keep[:4], []bool{true, false, true, true}) {
		t.Error("Crash changes its list")
	}
	keep[0] = false
	history(t, e, "T", "1 x 0-9 since 2 until 0", "1 x 0-9 since 3 until 0")
}

// thrown is a statement of which perhaps some words are others, or missing, or with bytes behind it.
func (x *dice) thrown() string {
	right := []string{
		"begin", "commit", "rollback", "begin", "commit",
		"create table t ( a int , c int )", "create table u ( a int , b text ) no overlap ( b )", "create index on t", "create index on u",
		"insert into t values ( 7 , 1 + 2 ) from 0 to 9", "insert into u values ( 1 , 'x' ) from 0 to forever", "insert into u values ( - 1 , 'y' ) from 3 to 5",
		"update t set a = a * 999999999999999999 , c = - c for 1 to 7 where a = 7", "update u set b = 'z' for 1 to 2", "update u set a = 0 where b = 'x' or a < 1",
		"delete from u where a = 1", "delete from t for 0 to 7", "select * from t , u where t.a < u.a and b = 'x'", "select count from u", "select sum a from t where a > 1 at 3",
		"select a from t union select a from u", "select coalesce b from u except select b from u as of 3 during 1 to 7 order by b", "select * from u order by b , a",
	}
	words := strings.Fields(strings.Join(right, " ") + " nothing v . ; <> <= >= ? 1099511627776 '' not")
	list := strings.Fields(right[x.below(len(right))])
	for range max(x.below(6)-3, 0) {
		at := x.below(len(list))
		switch x.below(3) {
		case 0:
			list[at] = words[x.below(len(words))]
		case 1:
			list = slices.Insert(list, at, words[x.below(len(words))])
		case 2:
			list = append(list[:at], list[min(at+1, len(list)-1):]...)
		}
		list = append(list, "")
	}
	out := []byte(strings.Join(list, " "))
	for range max(x.below(40)-30, 0) {
		out = append(out, byte(x.below(256)))
	}
	return string(out)
}

// P1: every text, of every session, comes to something; and if that is an error, nothing is different.
func TestAnyTexts(t *testing.T) {
	x := dice(221)
	done := map[api.Errno]int{}
	for range 40 {
		e := newEngine(t, 40, 20, 2)
		for i := range 150 {
			text := x.thrown()
			before := e.store.History(-1)
			r := e.Exec([]int{1, 2, -1, math.MinInt}[x.below(4)], text, x.below(50)-9)
			done[r.Code]++
			if r.Code != api.OK && (len(r.Facts) != 0 || r.Rows != 0 || len(e.store.History(-1)) != len(before)) {
				t.Fatalf("%s: %v", text, r)
			}
			if i%50 == 49 {
				e.Crash([]bool{true}, x.below(5)-2, x.below(300)-20)
			}
			e.Tick(int64(x.below(5) - 2))
			e.History(text)
		}
	}
	if done[api.OK] < 1000 || done[api.ErrSyntax] < 500 || len(done) < 12 {
		t.Errorf("%v", done)
	}
}

// What is kept from call to call: nothing of transactions that are over.
func TestNothingIsLeft(t *testing.T) {
	e := begun(t, "create table t (a int)")
	for i := range 50 {
		say(t, e, step{i, "begin", "0"}, step{i, "insert into t values (1) from 0 to 1", "1"}, step{i, []string{"commit", "rollback"}[i%2], "0"})
	}
	if len(e.sessions) != 0 || len(e.manager.Active()) != 0 {
		t.Errorf("%d sessions, %v", len(e.sessions), e.manager.Active())
	}
}
