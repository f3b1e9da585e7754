package session

import (
	"math"
	"slices"
	"strconv"
	"strings"
	"testing"

	"annals/api"
	"annals/catalog"
	"annals/heap"
	"annals/store"
)

// step is what a session says, and what comes of it: how many rows, the facts behind a colon; or the error behind a !, and its place behind an @, if it isn't 0.
type step struct {
	who        int
	text, want string
}

func newEngine(t *testing.T, sectors, logs, frames int) *Engine {
	t.Helper()
	e, bad := New(sectors, logs, frames)
	if e == nil || bad != api.OK {
		t.Fatalf("New(%d, %d, %d): %v", sectors, logs, frames, bad)
	}
	return e
}

// begun is a database to which session 0 has said some statements, all of which went well.
func begun(t *testing.T, texts ...string) *Engine {
	t.Helper()
	e := newEngine(t, 160, 120, 4)
	for _, text := range texts {
		if r := e.Exec(0, text, -1); r.Code != api.OK {
			t.Fatalf("%s: %v", text, r)
		}
	}
	return e
}

func shownPeriod(p api.Period) string {
	if p.To == api.Forever {
		return strconv.FormatInt(p.From, 10) + "-"
	}
	return strconv.FormatInt(p.From, 10) + "-" + strconv.FormatInt(p.To, 10)
}

func shownFact(f api.Fact) string {
	var words []string
	for _, v := range f.Row {
		if v.Kind == api.Int {
			words = append(words, strconv.FormatInt(v.Int, 10))
		} else {
			words = append(words, v.Text)
		}
	}
	return strings.Join(append(words, shownPeriod(f.Period)), " ")
}

func shown(r Result) string {
	if r.Code != api.OK {
		out := "!" + strconv.Itoa(int(r.Code))
		if r.At != 0 {
			out += "@" + strconv.Itoa(r.At)
		}
		if r.Rows != 0 || len(r.Facts) != 0 {
			out += " with rows"
		}
		return out
	}
	out := strconv.Itoa(r.Rows)
	if r.At != 0 {
		out += " with a place"
	}
	var facts []string
	for _, f := range r.Facts {
		facts = append(facts, shownFact(f))
	}
	if len(facts) > 0 {
		out += ": " + strings.Join(facts, ", ")
	}
	return out
}

func say(t *testing.T, e *Engine, steps ...step) {
	t.Helper()
	for _, s := range steps {
		if got := shown(e.Exec(s.who, s.text, -1)); got != s.want {
			t.Errorf("%d %s: %s, want %s", s.who, s.text, got, s.want)
		}
	}
}

func shownItem(x store.Item) string {
	return shownFact(x.Fact) + " since " + strconv.FormatInt(x.Since, 10) + " until " + strconv.FormatInt(x.Until, 10)
}

// history: are these the versions of a table, in the order of their places?
func history(t *testing.T, e *Engine, table string, want ...string) {
	t.Helper()
	list, bad := e.History(table)
	var got []string
	for _, x := range list {
		got = append(got, shownItem(x))
	}
	if bad != api.OK || !slices.Equal(got, want) {
		t.Errorf("History(%s): %q %v, want %q", table, got, bad, want)
	}
}

// P22.1
func TestNew(t *testing.T) {
	for _, c := range [][3]int{
		{0, 1, 1}, {-1, 1, 1}, {api.MaxSectors + 1, 1, 1}, {math.MaxInt, 1, 1}, {math.MinInt, 1, 1},
		{8, 0, 1}, {8, -1, 1}, {8, 8, 1}, {8, 9, 1}, {1, 1, 1}, {8, math.MaxInt, 1}, {8, math.MinInt, 1},
		{8, 4, 0}, {8, 4, -1}, {8, 4, api.MaxSectors + 1}, {8, 4, math.MaxInt}, {8, 4, math.MinInt},
	} {
		if e, bad := New(c[0], c[1], c[2]); e != nil || bad != api.ErrRange {
			t.Errorf("New(%d, %d, %d): %v %v", c[0], c[1], c[2], e, bad)
		}
	}
	for _, c := range [][3]int{{2, 1, 1}, {8, 7, 4096}, {api.MaxSectors, 4000, 1}} {
		e := newEngine(t, c[0], c[1], c[2])
		say(t, e, step{1, "select * from t", "!160"}, step{1, "commit", "!221"}, step{1, "begin", "0"})
		if e.manager.Last() != 0 || e.manager.Now() != 0 {
			t.Errorf("the clock: %d %d", e.manager.Last(), e.manager.Now())
		}
	}
}

// P22.1: History, by the very name.
func TestHistory(t *testing.T) {
	e := begun(t, "create table t (a int)", "create table u (a text)", "insert into t values (7) from 3 to 9", "insert into u values ('x') from 0 to forever", "delete from t for 4 to 5")
	history(t, e, "T", "7 3-9 since 3 until 5", "7 3-4 since 5 until 0", "7 5-9 since 5 until 0")
	history(t, e, "U", "x 0- since 4 until 0")
	for _, name := range []string{"", "t", "V", "T ", " T", "T;", "'T'", "0", "1", "\x00", strings.Repeat("T", 5000)} {
		if list, bad := e.History(name); len(list) != 0 || bad != api.ErrTable {
			t.Errorf("History(%q): %v %v", name, list, bad)
		}
	}
	say(t, e, step{1, "begin", "0"}, step{1, "insert into t values (8) from 0 to 1", "1"}, step{1, "delete from t", "3"})
	history(t, e, "T", "7 3-9 since 3 until 5", "7 3-4 since 5 until 0", "7 5-9 since 5 until 0")
}

// The chapter's example, and that of the whole.
func TestExample(t *testing.T) {
	e := newEngine(t, 60, 40, 4)
	say(t, e,
		step{1, "CREATE TABLE t (a INT) NO OVERLAP (a)", "0"},
		step{1, "INSERT INTO t VALUES (7) FROM 3 TO 9", "1"},
		step{1, "INSERT INTO t VALUES (7) FROM 8 TO 12", "!210"},
		step{1, "SELECT * FROM t AT 4", "1: 7 4-5"},
	)
}

// P22.1, P12.1: stamps follow the clock.
func TestTick(t *testing.T) {
	e := begun(t, "create table t (a int)", "insert into t values (1) from 0 to 1")
	e.Tick(10)
	e.Tick(-5)
	e.Tick(0)
	e.Tick(math.MinInt64)
	say(t, e, step{1, "insert into t values (2) from 0 to 1", "1"}, step{1, "insert into t values (3) from 0 to 1", "1"})
	history(t, e, "T", "1 0-1 since 2 until 0", "2 0-1 since 10 until 0", "3 0-1 since 11 until 0")
	say(t, e,
		step{1, "select * from t as of 1", "0"},
		step{1, "select * from t as of 2", "1: 1 0-1"},
		step{1, "select * from t as of 9", "1: 1 0-1"},
		step{1, "select * from t as of 10", "2: 1 0-1, 2 0-1"},
	)
	e.Tick(math.MaxInt64)
	say(t, e,
		step{1, "insert into t values (4) from 0 to 1", "!3"},
		step{1, "create table u (a int)", "!3"},
		step{1, "create index on t", "!3"},
		step{1, "select count from t", "1: 3 0-1"},
		step{1, "update t set a = 5 where a = 9", "0"},
		step{1, "select * from u", "!160"},
	)
	e.Crash(nil, -1, 0)
	say(t, e, step{1, "create index on t", "0"}, step{1, "insert into t values (4) from 0 to 1", "1"})
	history(t, e, "T", "1 0-1 since 2 until 0", "2 0-1 since 10 until 0", "3 0-1 since 11 until 0", "4 0-1 since 13 until 0")
}

func sameTables(a, b catalog.Table) bool {
	return a.Id == b.Id && a.Name == b.Name && slices.Equal(a.Columns, b.Columns) && slices.Equal(a.Keys, b.Keys) && a.Indexed == b.Indexed
}

// P22.1: behind a crash what was committed is there, no session is in a transaction, and the clock is at the last stamp.
func TestCrash(t *testing.T) {
	for _, c := range []struct {
		keep     []bool
		tear, at int
	}{
		{nil, -1, 0}, {[]bool{true, false, true}, 1, 100}, {slices.Repeat([]bool{true}, 100), 0, 256}, {nil, 0, 0}, {nil, math.MaxInt, math.MinInt}, {nil, math.MinInt, math.MaxInt},
	} {
		e := newEngine(t, 100, 60, 1)
		say(t, e,
			step{1, "create table t (a int, b text) no overlap (b, a)", "0"},
			step{1, "create table u (c int)", "0"},
			step{1, "create index on u", "0"},
			step{1, "create index on t", "0"},
			step{1, "insert into t values (1, 'x') from 0 to 9", "1"},
			step{1, "begin", "0"},
			step{1, "insert into t values (2, 'y') from 0 to 9", "1"},
			step{2, "begin", "0"},
			step{2, "delete from t", "1"},
			step{3, "update t set b = 'z' for 3 to 5", "1"},
		)
		want := e.tables.Tables()
		e.Tick(50)
		e.Crash(c.keep, c.tear, c.at)
		if got := e.tables.Tables(); len(got) != 2 || !slices.EqualFunc(got, want, sameTables) {
			t.Errorf("tables: %v, want %v", got, want)
		}
		say(t, e,
			step{1, "commit", "!221"},
			step{2, "rollback", "!221"},
			step{2, "select * from t", "3: 1 x 0-3, 1 x 5-9, 1 z 3-5"},
			step{1, "insert into t values (1, 'x') from 8 to 20", "!210"},
			step{1, "create table t (a int)", "!162"},
			step{1, "create index on u", "!162"},
			step{1, "create table v (a int)", "0"},
			step{1, "insert into v values (5) from 0 to 1", "1"},
		)
		history(t, e, "T", "1 x 0-9 since 5 until 6", "1 x 0-3 since 6 until 0", "1 x 5-9 since 6 until 0", "1 z 3-5 since 6 until 0")
		history(t, e, "V", "5 0-1 since 8 until 0")
		e.Crash(c.keep, c.tear, c.at)
		e.Crash(nil, -1, 0)
		history(t, e, "V", "5 0-1 since 8 until 0")
		if v, bad := e.tables.Find("V"); v.Id != 3 || bad != api.OK {
			t.Errorf("V: %v %v", v, bad)
		}
	}
}

// P22.1, P22.9: many tables, created in turns with what changes them.
func TestCrashOfManyTables(t *testing.T) {
	e := newEngine(t, 200, 160, 2)
	for i := range 16 {
		name := "t" + strconv.Itoa(i)
		say(t, e, step{1, "create table " + name + " (a int)", "0"}, step{2, "insert into " + name + " values (" + strconv.Itoa(i) + ") from 0 to 1", "1"})
		if i%3 == 0 {
			say(t, e, step{1, "create index on t" + strconv.Itoa(i/2), "0"})
		}
	}
	say(t, e, step{1, "create table more (a int)", "!3"})
	e.Crash(nil, -1, 0)
	for i, x := range e.tables.Tables() {
		if x.Id != i+1 || x.Name != "T"+strconv.Itoa(i) || x.Indexed != slices.Contains([]int{0, 1, 3, 4, 6, 7}, i) {
			t.Errorf("table %d: %v", i, x)
		}
		say(t, e, step{1, "select * from " + x.Name, "1: " + strconv.Itoa(i) + " 0-1"})
	}
	say(t, e, step{1, "create table more (a int)", "!3"}, step{1, "create table t3 (a int)", "!162"})
}

// P22.2: the fault of the text.
func TestFaults(t *testing.T) {
	e := begun(t, "create table t (a int)", "begin")
	say(t, e,
		step{0, "", "!150"},
		step{0, "selec", "!150"},
		step{0, "select a from t where", "!150@21"},
		step{0, "select * from t ?", "!140@16"},
		step{0, "insert into t values (1) from 9 to 3", "!40@30"},
		step{0, "select * from t at 1099511627776", "!40@19"},
		step{0, "begin begin", "!150@6"},
		step{0, strings.Repeat(" ", 4097), "!2@4096"},
		step{0, "select * from t where " + strings.Repeat("(", 33) + "1", "!151@55"},
		step{0, "select a, from t", "!150@10"},
		step{0, "commit;", "0"},
		step{0, "commit ; ;", "!150@9"},
	)
}

// P22.2
func TestTransactions(t *testing.T) {
	e := newEngine(t, 100, 60, 4)
	say(t, e,
		step{1, "commit", "!221"},
		step{1, "rollback", "!221"},
		step{1, "create table t (a int)", "0"},
		step{1, "begin", "0"},
		step{1, "begin", "!220"},
		step{2, "begin", "0"},
		step{-7, "rollback", "!221"},
		step{math.MaxInt, "begin", "0"},
		step{math.MinInt, "begin", "0"},
		step{math.MinInt, "begin", "!220"},
		step{1, "create table u (a int)", "!220"},
		step{1, "create table t (a int, a int)", "!220"},
		step{1, "create index on t", "!220"},
		step{1, "create index on nothing", "!220"},
		step{1, "insert into t values (1) from 0 to 5", "1"},
		step{2, "insert into t values (2) from 0 to 5", "1"},
		step{1, "commit", "0"},
		step{1, "commit", "!221"},
		step{1, "rollback", "!221"},
		step{2, "select * from t", "1: 2 0-5"},
		step{2, "rollback", "0"},
		step{2, "rollback", "!221"},
		step{2, "commit", "!221"},
		step{2, "select * from t", "1: 1 0-5"},
		step{math.MaxInt, "select * from t", "0"},
		step{math.MaxInt, "commit", "0"},
		step{math.MaxInt, "select * from t", "1: 1 0-5"},
		step{math.MinInt, "commit", "0"},
		step{3, "create index on t", "0"},
	)
	history(t, e, "T", "1 0-5 since 2 until 0")
	if len(e.sessions) != 0 || len(e.manager.Active()) != 0 {
		t.Errorf("in transactions: %v, %v", e.sessions, e.manager.Active())
	}
}

// P22.2: a statement with an error has changed nothing, and its transaction goes on.
func TestErrorsChangeNothing(t *testing.T) {
	e := begun(t, "create table t (a int, b text)", "insert into t values (1, 'x') from 0 to 9", "insert into t values (999999999999999999 * 9 + 223372036854775814, 'y') from 0 to 9")
	wrong := []step{
		{1, "insert into t values (1) from 0 to 9", "!1"},
		{1, "insert into nothing values (1) from 0 to 9", "!160"},
		{1, "update t set a = a + 3 for 3 to 5", "!171"},
		{1, "update t set a = 'x'", "!170"},
		{1, "delete from t where a", "!170"},
		{1, "select sum a from t", "!171"},
		{1, "select c from t", "!161"},
		{1, "select", "!150@6"},
		{1, "begin", "!220"},
		{1, "create table u (a int)", "!220"},
	}
	say(t, e, step{1, "begin", "0"}, step{1, "insert into t values (3, 'z') from 1 to 2", "1"}, step{1, "delete from t where a = 1", "1"})
	seen := step{1, "select * from t", "2: 3 z 1-2, 9223372036854775805 y 0-9"}
	for _, s := range wrong {
		say(t, e, s, seen)
	}
	say(t, e, step{1, "commit", "0"}, seen)
	history(t, e, "T", "1 x 0-9 since 2 until 4", "9223372036854775805 y 0-9 since 3 until 0", "3 z 1-2 since 4 until 0")
	for _, s := range wrong[:7] {
		say(t, e, s, seen)
	}
	if len(e.sessions) != 0 || len(e.manager.Active()) != 0 || e.manager.Last() != 4 {
		t.Errorf("in transactions: %v, %v", e.sessions, e.manager.Active())
	}
}

// P22.3: a transaction sees what was there when it began, and what it has done.
func TestSnapshot(t *testing.T) {
	e := begun(t, "create table t (a int)", "insert into t values (1) from 0 to 9", "insert into t values (2) from 0 to 9")
	say(t, e,
		step{1, "begin", "0"},
		step{2, "insert into t values (3) from 0 to 9", "1"},
		step{2, "delete from t where a = 1", "1"},
		step{2, "select * from t", "2: 2 0-9, 3 0-9"},
		step{1, "select * from t", "2: 1 0-9, 2 0-9"},
		step{1, "insert into t values (4) from 0 to 9", "1"},
		step{1, "update t set a = a * 10 for 3 to 5 where a = 2 or a = 4", "2"},
		step{1, "select * from t", "7: 1 0-9, 2 0-3, 2 5-9, 4 0-3, 4 5-9, 20 3-5, 40 3-5"},
		step{1, "update t set a = 99 where a > 9", "2"},
		step{1, "delete from t for 0 to 4 where a = 99", "2"},
		step{1, "select * from t", "7: 1 0-9, 2 0-3, 2 5-9, 4 0-3, 4 5-9, 99 4-5, 99 4-5"},
		step{2, "select * from t", "2: 2 0-9, 3 0-9"},
		step{2, "create table u (a int)", "0"},
		step{1, "select * from u", "0"},
		step{2, "insert into u values (5) from 0 to 1", "1"},
		step{1, "select * from u", "0"},
		step{1, "insert into u values (6) from 0 to 1", "1"},
		step{1, "select * from u", "1: 6 0-1"},
		step{1, "commit", "0"},
		step{1, "select * from t", "7: 2 0-3, 2 5-9, 3 0-9, 4 0-3, 4 5-9, 99 4-5, 99 4-5"},
		step{1, "select * from u", "2: 5 0-1, 6 0-1"},
	)
}

// P22.3: what is begun stands behind all others, in the order in which it was; so it comes to the store.
func TestOrderOfWhatIsDone(t *testing.T) {
	e := begun(t, "create table t (a int)", "create table u (a int)", "insert into t values (1) from 0 to 9", "insert into t values (2) from 0 to 9", "insert into t values (3) from 0 to 9")
	say(t, e,
		step{1, "begin", "0"},
		step{1, "insert into u values (10) from 0 to 9", "1"},
		step{1, "insert into t values (11) from 0 to 9", "1"},
		step{1, "insert into u values (12) from 0 to 9", "1"},
		step{1, "delete from t where a = 3", "1"},
		step{1, "update t set a = a + 20 for 4 to 9", "3"},
		step{1, "update u set a = a + 5 where a = 10", "1"},
		step{1, "delete from t where a = 1", "1"},
	)
	x := e.sessions[1]
	var order []string
	for _, p := range x.begun {
		order = append(order, strconv.Itoa(p.Table)+" "+shownFact(p.Fact))
	}
	if want := []string{"2 12 0-9", "1 21 4-9", "1 2 0-4", "1 22 4-9", "1 11 0-4", "1 31 4-9", "2 15 0-9"}; !slices.Equal(order, want) {
		t.Errorf("begun: %q, want %q", order, want)
	}
	all, _ := e.History("T")
	if want := []heap.Rid{all[2].Rid, all[0].Rid, all[1].Rid}; !slices.Equal(x.ended, want) {
		t.Errorf("ended: %v, want %v", x.ended, want)
	}
	say(t, e, step{1, "commit", "0"})
	history(t, e, "T", "1 0-9 since 3 until 6", "2 0-9 since 4 until 6", "3 0-9 since 5 until 6", "21 4-9 since 6 until 0", "2 0-4 since 6 until 0", "22 4-9 since 6 until 0", "11 0-4 since 6 until 0", "31 4-9 since 6 until 0")
	history(t, e, "U", "12 0-9 since 6 until 0", "15 0-9 since 6 until 0")
}

// P22.3: of two that end the same version the first to commit wins.
func TestConflict(t *testing.T) {
	e := begun(t, "create table t (a int)", "insert into t values (1) from 0 to 9", "insert into t values (2) from 0 to 9")
	say(t, e,
		step{1, "begin", "0"},
		step{2, "begin", "0"},
		step{3, "begin", "0"},
		step{4, "begin", "0"},
		step{1, "update t set a = 5 where a = 1", "1"},
		step{2, "delete from t for 8 to 9", "2"},
		step{2, "insert into t values (6) from 0 to 1", "1"},
		step{3, "update t set a = 7 where a = 2", "1"},
		step{4, "insert into t values (8) from 0 to 1", "1"},
		step{1, "commit", "0"},
		step{2, "commit", "!120"},
		step{2, "commit", "!221"},
		step{3, "commit", "0"},
		step{4, "commit", "0"},
		step{5, "select * from t", "3: 5 0-9, 7 0-9, 8 0-1"},
	)
	history(t, e, "T", "1 0-9 since 2 until 4", "2 0-9 since 3 until 5", "5 0-9 since 4 until 0", "7 0-9 since 5 until 0", "8 0-1 since 6 until 0")
	// Behind a rollback, and behind one that was refused, there is nothing to be across.
	say(t, e,
		step{1, "begin", "0"},
		step{2, "begin", "0"},
		step{1, "delete from t", "3"},
		step{2, "delete from t where a = 5", "1"},
		step{1, "rollback", "0"},
		step{2, "commit", "0"},
	)
}

// P22.3: only what has ended or begun in the end is written.
func TestWritesNothing(t *testing.T) {
	e := begun(t, "create table t (a int)", "insert into t values (1) from 0 to 9")
	say(t, e,
		step{1, "begin", "0"},
		step{1, "insert into t values (2) from 0 to 9", "1"},
		step{1, "update t set a = 3 where a = 2", "1"},
		step{1, "delete from t where a = 3", "1"},
		step{2, "delete from t where a = 1", "1"},
		step{1, "commit", "0"},
		step{1, "begin", "0"},
		step{1, "commit", "0"},
		step{1, "delete from t", "0"},
		step{1, "update t set a = 1", "0"},
		step{1, "select * from t", "0"},
	)
	if e.manager.Last() != 3 || e.store.Last() != 3 {
		t.Errorf("the last stamp: %d, %d", e.manager.Last(), e.store.Last())
	}
	say(t, e, step{1, "insert into t values (4) from 0 to 9", "1"})
	history(t, e, "T", "1 0-9 since 2 until 3", "4 0-9 since 4 until 0")
}

// P22.3: key columns are looked at when a transaction is committed, against what is there by then.
func TestOverlap(t *testing.T) {
	e := begun(t, "create table t (a int, b text) no overlap (b)", "create table u (a int)", "insert into t values (1, 'x') from 0 to 5")
	say(t, e,
		step{1, "insert into t values (2, 'x') from 4 to 9", "!210"},
		step{1, "insert into t values (2, 'x') from 5 to 9", "1"},
		step{1, "insert into t values (1, 'y') from 0 to 5", "1"},
		step{1, "update t set b = 'x' where b = 'y'", "!210"},
		step{1, "update t set b = 'x' for 5 to 6", "1"},
		step{1, "update t set a = a + 1", "4"},
		step{1, "begin", "0"},
		step{2, "begin", "0"},
		step{1, "insert into t values (3, 'z') from 0 to 9", "1"},
		step{2, "insert into t values (4, 'z') from 8 to 10", "1"},
		step{2, "insert into u values (4) from 8 to 10", "1"},
		step{1, "commit", "0"},
		step{2, "select * from t where b = 'z'", "1: 4 z 8-10"},
		step{2, "commit", "!210"},
		step{2, "rollback", "!221"},
		step{2, "select * from t where b = 'z'", "1: 3 z 0-9"},
		step{2, "select * from u", "0"},
		// Two of its own.
		step{1, "begin", "0"},
		step{1, "insert into t values (3, 'w') from 0 to 9", "1"},
		step{1, "insert into t values (3, 'w') from 0 to 1", "1"},
		step{1, "commit", "!210"},
		// What would clash ends in the same transaction, or is taken away again.
		step{1, "begin", "0"},
		step{1, "insert into t values (5, 'z') from 4 to 6", "1"},
		step{1, "delete from t for 4 to 6 where a = 3 and b = 'z'", "1"},
		step{1, "commit", "0"},
		step{1, "begin", "0"},
		step{1, "insert into t values (6, 'z') from 0 to 1", "1"},
		step{1, "delete from t where a = 6", "1"},
		step{1, "insert into u values (6) from 0 to 1", "1"},
		step{1, "insert into u values (6) from 0 to 1", "1"},
		step{1, "commit", "0"},
		step{1, "select * from t where b = 'z'", "3: 3 z 0-4, 3 z 6-9, 5 z 4-6"},
		step{1, "select * from u", "2: 6 0-1, 6 0-1"},
	)
}

// P22.3: a conflict counts ahead of an overlap, and both ahead of a store that is full.
func TestOrderOfCommitErrors(t *testing.T) {
	e := begun(t, "create table t (a int) no overlap (a)", "insert into t values (1) from 0 to 9", "insert into t values (2) from 0 to 9")
	say(t, e,
		step{1, "begin", "0"},
		step{1, "insert into t values (2) from 0 to 9", "1"},
		step{1, "delete from t where a = 1", "1"},
		step{3, "begin", "0"},
		step{3, "insert into t values (2) from 0 to 9", "1"},
		step{2, "delete from t where a = 1", "1"},
		step{1, "commit", "!120"},
	)
	e.Tick(api.Forever)
	say(t, e, step{3, "commit", "!3"})
	for _, c := range []struct{ period, want string }{{"29 to 40", "!210"}, {"30 to 40", "!3"}} {
		e = newEngine(t, 12, 3, 2)
		say(t, e, step{1, "create table t (a int) no overlap (a)", "0"}, step{1, "begin", "0"})
		for i := range 30 {
			say(t, e, step{1, "insert into t values (7) from " + strconv.Itoa(i) + " to " + strconv.Itoa(i+1), "1"})
		}
		say(t, e, step{1, "insert into t values (7) from " + c.period, "1"}, step{1, "commit", c.want}, step{1, "select * from t", "0"})
	}
}

// P22.3: a store that is full: the transaction has never been.
func TestFull(t *testing.T) {
	e := newEngine(t, 40, 4, 2)
	say(t, e, step{1, "create table t (a int)", "0"})
	n := 0
	for r := (Result{}); r.Code == api.OK; n++ {
		r = e.Exec(1, "insert into t values (7) from 3 to 9", -1)
		if r.Code != api.OK && shown(r) != "!3" {
			t.Fatal(shown(r))
		}
	}
	n--
	// Four sectors have 1024 bytes; the table takes 27 + 9 + 4 + 9 + 9 + 4 + 9 bytes and 45, a fact 36 and 45.
	if want := (1024 - 71 - 45) / 81; n != want {
		t.Errorf("%d facts, want %d", n, want)
	}
	last := e.store.Last()
	full := strconv.Itoa(n) + ": " + strings.TrimSuffix(strings.Repeat("7 3-9, ", n), ", ")
	say(t, e,
		step{1, "select * from t", full},
		step{1, "create table u (a int)", "!3"},
		step{1, "create index on t", "!3"},
		step{1, "select * from u", "!160"},
		step{1, "delete from t", "!3"},
		step{1, "begin", "0"},
		step{1, "delete from t", strconv.Itoa(n)},
		step{1, "commit", "!3"},
		step{1, "commit", "!221"},
		step{1, "select * from t", full},
	)
	if list, _ := e.History("T"); len(list) != n || e.store.Last() != last || e.manager.Last() != last || len(e.manager.Active()) != 0 {
		t.Errorf("behind all that: %d versions, %d %d", len(list), e.store.Last(), e.manager.Last())
	}
	e.Crash(nil, -1, 0)
	say(t, e, step{1, "select * from t", full})
}
