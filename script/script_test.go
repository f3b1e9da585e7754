package script

import (
	"math"
	"slices"
	"strings"
	"testing"

	"annals/api"
	"annals/session"
)

// turn is a line, and the answers to it, with a / between them.
type turn struct{ line, want string }

func newDriver(t *testing.T) *Driver {
	t.Helper()
	d, bad := New(200, 120, 16)
	if d == nil || bad != api.OK {
		t.Fatalf("New: %v", bad)
	}
	return d
}

func say(t *testing.T, d *Driver, turns ...turn) {
	t.Helper()
	for _, x := range turns {
		if got := strings.Join(d.Line(x.line), "/"); got != x.want {
			t.Errorf("%q: %q, want %q", x.line, got, x.want)
		}
	}
}

// The chapter's examples, and that of the whole.
func TestExamples(t *testing.T) {
	say(t, newDriver(t),
		turn{"1 create table t (a int)", "ok 0"},
		turn{"1 insert into t values (7) from 3 to forever", "ok 1"},
		turn{"2 select * from t", "row 7 from 3 to forever/ok 1"},
		turn{"history T", "version 7 from 3 to forever since 2/ok"},
		turn{"", "error 230"},
	)
}

// P23.1
func TestNew(t *testing.T) {
	for _, c := range [][3]int{
		{200, 120, 16}, {2, 1, 1}, {8, 7, 4096}, {api.MaxSectors, 4000, 1},
		{0, 1, 1}, {-1, 1, 1}, {api.MaxSectors + 1, 1, 1}, {math.MaxInt, 1, 1}, {math.MinInt, 1, 1},
		{8, 0, 1}, {8, -1, 1}, {8, 8, 1}, {8, 9, 1}, {1, 1, 1}, {8, math.MaxInt, 1}, {8, math.MinInt, 1},
		{8, 4, 0}, {8, 4, -1}, {8, 4, api.MaxSectors + 1}, {8, 4, math.MaxInt}, {8, 4, math.MinInt},
	} {
		e, want := session.New(c[0], c[1], c[2])
		d, bad := New(c[0], c[1], c[2])
		if bad != want || (d == nil) != (e == nil) {
			t.Errorf("New(%d, %d, %d): %v %v, want %v", c[0], c[1], c[2], d, bad, want)
		}
		if d != nil && d.oracle != -1 {
			t.Errorf("the oracle of a new driver is %d", d.oracle)
		}
	}
	say(t, newDriver(t), turn{"1 select * from t", "error 160 0"}, turn{"1 commit", "error 221 0"}, turn{"history T", "error 160"})
}

// P23.1: a database of just these sizes: for how many facts there is room hangs on the log and on the pages.
func TestSizes(t *testing.T) {
	room := func(sectors, logs, frames int) int {
		d, bad := New(sectors, logs, frames)
		if bad != api.OK {
			t.Fatalf("New: %v", bad)
		}
		d.Line("1 create table t (a int)")
		for n := 0; ; n++ {
			if got := d.Line("1 insert into t values (1) from 0 to 1"); !slices.Equal(got, []string{"ok 1"}) {
				if !slices.Equal(got, []string{"error 3 0"}) {
					t.Errorf("at the end of the room: %q", got)
				}
				return n
			}
		}
	}
	if a, b, c := room(60, 10, 1), room(60, 20, 1), room(22, 20, 1); a == 0 || b <= a || c == 0 || c >= b {
		t.Errorf("room for %d, %d, %d", a, b, c)
	}
}

// P23.1: what a session says.
func TestStatements(t *testing.T) {
	say(t, newDriver(t),
		turn{"1 create table t (a int, b text)", "ok 0"},
		turn{"1 insert into t values (1, 'x') from 0 to 9", "ok 1"},
		turn{"1 insert into t values (2, 'y') from 3 to forever", "ok 1"},
		turn{"1 select * from t", "row 1 'x' from 0 to 9/row 2 'y' from 3 to forever/ok 2"},
		turn{"1 select * from t;", "row 1 'x' from 0 to 9/row 2 'y' from 3 to forever/ok 2"},
		turn{"1 select b from t at 1", "row 'x' from 1 to 2/ok 1"},
		turn{"1 select * from t where a = 3", "ok 0"},
		turn{"1 select * from t order by b, c", "error 161 0"},
		turn{"1 update t set a = a + 1 for 4 to 5", "ok 2"},
		turn{"1 select count from t at 4", "row 2 from 4 to 5/ok 1"},
		turn{"1 delete from t where a = 3", "ok 1"},
		turn{"1 delete from t where a = 33", "ok 0"},
		turn{"1 begin", "ok 0"},
		turn{"1 begin", "error 220 0"},
		turn{"1 rollback", "ok 0"},
		turn{"1 commit", "error 221 0"},
		turn{"1 create index on t", "ok 0"},
		turn{"1 create index on t", "error 162 0"},
	)
}

// P23.1: the text is all that stands behind the first blank, and places are told from there on.
func TestTextOfStatements(t *testing.T) {
	d := newDriver(t)
	say(t, d,
		turn{"1 ", "error 150 0"},
		turn{"1  ", "error 150 1"},
		turn{"1   ", "error 150 2"},
		turn{"1 selec", "error 150 0"},
		turn{"1  selec", "error 150 1"},
		turn{"-22   selec", "error 150 2"},
		turn{"1 1 selec", "error 150 0"},
		turn{"1 history T", "error 150 0"},
		turn{"1 tick 1", "error 150 0"},
		turn{"1 -", "error 150 0"},
		turn{"1 select a from t where", "error 150 21"},
		turn{"1 select a from t where ", "error 150 22"},
		turn{"1 select * from t ?", "error 140 16"},
		turn{"1 \x00", "error 140 0"},
		turn{"1 begin \xff", "error 140 6"},
		turn{"1 begin\r", "error 140 5"},
		turn{"1 insert into t values (1) from 9 to 3", "error 40 30"},
		turn{"1 select * from t where " + strings.Repeat("(", 33) + "1", "error 151 55"},
		turn{"1 " + strings.Repeat(" ", 4096), "error 150 4096"},
		turn{"1 " + strings.Repeat(" ", 4097), "error 2 4096"},
		turn{"1 " + strings.Repeat("x", 1<<20), "error 2 4096"},
		turn{"1 \tbegin\t ", "ok 0"},
		turn{"1 \nCOMMIT\n;", "ok 0"},
		turn{"1 create   table t (a text)", "ok 0"},
		turn{"1 insert into t values ('  a  b ') from 0 to 1", "ok 1"},
		turn{"1 insert into t values ('\n') from 0 to 1", "ok 1"},
		turn{"1 select * from t", "row '\n' from 0 to 1/row '  a  b ' from 0 to 1/ok 2"},
	)
}

// P23.1: sessions by their numbers, however these are written.
func TestSessions(t *testing.T) {
	d := newDriver(t)
	say(t, d,
		turn{"1 begin", "ok 0"},
		turn{"001 begin", "error 220 0"},
		turn{"000000001 begin", "error 220 0"},
		turn{"-1 begin", "ok 0"},
		turn{"-000000001 begin", "error 220 0"},
		turn{"10 begin", "ok 0"},
		turn{"0 begin", "ok 0"},
		turn{"-0 begin", "error 220 0"},
		turn{"000000000 begin", "error 220 0"},
		turn{"999999999 begin", "ok 0"},
		turn{"-999999999 begin", "ok 0"},
		turn{"123456789 begin", "ok 0"},
		turn{"2 commit", "error 221 0"},
	)
	for _, who := range []int{1, -1, 10, 0, 999999999, -999999999, 123456789} {
		if r := d.Exec(who, "rollback", -1); r.Code != api.OK {
			t.Errorf("session %d: %v", who, r.Code)
		}
	}
}

// P23.1
func TestHistory(t *testing.T) {
	say(t, newDriver(t),
		turn{"1 create table t (a int, b text)", "ok 0"},
		turn{"history T", "ok"},
		turn{"1 insert into t values (-7, 'it''s') from 3 to 9", "ok 1"},
		turn{"1 insert into t values (8, '') from 0 to forever", "ok 1"},
		turn{"history T", "version -7 'it''s' from 3 to 9 since 2/version 8 '' from 0 to forever since 3/ok"},
		turn{"1 delete from t for 4 to 5 where a < 0", "ok 1"},
		turn{"history T", "version -7 'it''s' from 3 to 9 since 2 until 4/version 8 '' from 0 to forever since 3/version -7 'it''s' from 3 to 4 since 4/version -7 'it''s' from 5 to 9 since 4/ok"},
		turn{"history t", "error 160"},
		turn{"history U", "error 160"},
		turn{"history ", "error 160"},
		turn{"history 1", "error 160"},
		turn{"history \xff\x00", "error 160"},
		turn{"history T\t", "error 160"},
		turn{"history " + strings.Repeat("T", 5000), "error 160"},
		turn{"history", "error 230"},
		turn{"history T ", "error 230"},
		turn{"history  T", "error 230"},
		turn{"history T U", "error 230"},
		turn{" history T", "error 230"},
		turn{"History T", "error 230"},
		turn{"history\tT", "error 230"},
	)
}

// P23.1: crashes, of which the end of every transaction tells; what is no crash ends none.
func TestCrash(t *testing.T) {
	d := newDriver(t)
	say(t, d, turn{"1 create table t (a int) no overlap (a)", "ok 0"}, turn{"1 insert into t values (7) from 3 to 9", "ok 1"})
	for _, line := range []string{
		"crash - 0 0", "crash  0 0", "crash 0 0 0", "crash 1 0 0", "crash 01 0 0", "crash 0110 -1 300", "crash - -1 -5", "crash - 000000001 0", "crash  999999999 -999999999", "crash - -0 -0",
		"crash " + strings.Repeat("10", 1<<20) + " 3 7",
	} {
		say(t, d, turn{"2 begin", "ok 0"}, turn{"2 delete from t", "ok 1"}, turn{line, "ok"}, turn{"2 commit", "error 221 0"})
	}
	say(t, d, turn{"3 begin", "ok 0"})
	for _, line := range []string{
		"crash", "crash ", "crash -", "crash - 0", "crash 01 0", "crash 0 0", "crash  0", "crash - 0 0 ", "crash - 0 0 0", "crash - 0  0", " crash - 0 0", "crash -  0 0",
		"crash 2 0 0", "crash 0x1 0 0", "crash 012 0 0", "crash -- 0 0", "crash -0 0 0", "crash 1- 0 0", "crash \xff 0 0", "crash 1\x00 0 0", "crash ٠ 0 0", "crash + 0 0", "crash 1\t 0 0",
		"crash -  ", "crash - 0 ", "crash -  0", "crash - x 0", "crash - 0 x", "crash - - 0", "crash - 0 -", "crash - +1 0", "crash - 0 +1", "crash - 1234567890 0", "crash - 0 1234567890", "crash - 0 -0000000000", "crash - --1 0",
		"crash - 1.0 0", "crash - 0 0\t", "crash - 0 0\r", "Crash - 0 0", "CRASH - 0 0", "crash\t- 0 0", "crash - ٣ 0", "crash - 0 ٣", "crash     ",
	} {
		say(t, d, turn{line, "error 230"})
	}
	say(t, d,
		turn{"3 delete from t", "ok 1"},
		turn{"3 commit", "ok 0"},
		turn{"history T", "version 7 from 3 to 9 since 2 until 3/ok"},
		turn{"crash 1 0 100", "ok"},
		turn{"history T", "version 7 from 3 to 9 since 2 until 3/ok"},
		turn{"1 insert into t values (7) from 3 to 9", "ok 1"},
		turn{"1 insert into t values (7) from 8 to 10", "error 210 0"},
	)
}

// P23.1: which writes are kept, by a word.
func TestFlags(t *testing.T) {
	for word, want := range map[string][]bool{
		"": {}, "-": {false}, "0": {false}, "1": {true}, "01": {false, true}, "110": {true, true, false},
	} {
		if got, ok := flags(word); !ok || !slices.Equal(got, want) {
			t.Errorf("flags(%q): %v %v, want %v", word, got, ok, want)
		}
	}
	for _, word := range []string{"--", "-0", "0-", "2", "0120", "\xff", "1\xff", "o", "٠"} {
		if got, ok := flags(word); ok || len(got) != 0 {
			t.Errorf("flags(%q): %v", word, got)
		}
	}
}

// P23.1: numbers, by words.
func TestNumber(t *testing.T) {
	for word, want := range map[string]int{
		"0": 0, "-0": 0, "00": 0, "7": 7, "-7": -7, "10": 10, "007": 7, "-007": -7, "123456789": 123456789, "-987654321": -987654321, "000000009": 9, "999999999": 999999999,
	} {
		if got, ok := number(word); !ok || got != want {
			t.Errorf("number(%q): %d %v, want %d", word, got, ok, want)
		}
	}
	for _, word := range []string{
		"", "-", "--1", "-+1", "+1", "1-", "1-1", "a", "1a", "a1", "1.", "1_0", "0x1", "1e1", " 1", "1 ", "\t1", "1\n", "1\x00", "/", ":", "1/", "1:",
		"0000000000", "1000000000", "-1000000000", "12345678901234567890123", "٣", "1٣", "\xff", "1\xff", "−1", "²",
	} {
		if got, ok := number(word); ok || got != 0 {
			t.Errorf("number(%q): %d %v", word, got, ok)
		}
	}
}

// P23.1: stamps follow the clock.
func TestTick(t *testing.T) {
	d := newDriver(t)
	say(t, d,
		turn{"1 create table t (a int)", "ok 0"},
		turn{"tick 10", "ok"},
		turn{"tick -5", "ok"},
		turn{"tick 0", "ok"},
		turn{"tick -999999999", "ok"},
		turn{"1 insert into t values (1) from 0 to 1", "ok 1"},
		turn{"tick 007", "ok"},
		turn{"1 insert into t values (2) from 0 to 1", "ok 1"},
		turn{"tick 999999999", "ok"},
		turn{"crash - 0 0", "ok"},
		turn{"1 insert into t values (3) from 0 to 1", "ok 1"},
		turn{"tick 999999999", "ok"},
		turn{"1 insert into t values (4) from 0 to 1", "ok 1"},
	)
	for _, line := range []string{
		"tick", "tick ", "tick x", "tick -", "tick --1", "tick +1", "tick 1.5", "tick 1000000000", "tick 0000000001", "tick 1 ", "tick  1", "tick 1 1", " tick 1", "Tick 1", "tick\t1", "tick 1\r", "ticks 1", "tick1",
	} {
		say(t, d, turn{line, "error 230"})
	}
	say(t, d,
		turn{"1 insert into t values (5) from 0 to 1", "ok 1"},
		turn{"history T", "version 1 from 0 to 1 since 10/version 2 from 0 to 1 since 17/version 3 from 0 to 1 since 18/version 4 from 0 to 1 since 1000000016/version 5 from 0 to 1 since 1000000017/ok"},
	)
}

// P23.1: the oracle is the driver's; whatever it is, answers are the same.
func TestPlan(t *testing.T) {
	d := newDriver(t)
	say(t, d,
		turn{"1 create table t (a int)", "ok 0"},
		turn{"1 create table u (b int)", "ok 0"},
		turn{"1 insert into t values (1) from 0 to 9", "ok 1"},
		turn{"1 insert into t values (2) from 3 to 5", "ok 1"},
		turn{"1 insert into u values (1) from 4 to forever", "ok 1"},
	)
	for _, c := range []struct {
		word   string
		oracle int
	}{{"0", 0}, {"3", 3}, {"-7", -7}, {"000000012", 12}, {"999999999", 999999999}, {"-0", 0}, {"-1", -1}, {"17", 17}} {
		say(t, d,
			turn{"plan " + c.word, "ok"},
			turn{"1 select * from t, u where a >= b during 0 to 8", "row 1 1 from 4 to 8/row 2 1 from 4 to 5/ok 2"},
		)
		if d.oracle != c.oracle {
			t.Errorf("plan %s: the oracle is %d", c.word, d.oracle)
		}
	}
	say(t, d, turn{"crash - 0 0", "ok"}, turn{"tick 4", "ok"})
	for _, line := range []string{"plan", "plan ", "plan x", "plan -", "plan +1", "plan 1000000000", "plan 1 ", "plan  1", "plan 1 2", " plan 1", "Plan 1", "plan\t1"} {
		say(t, d, turn{line, "error 230"})
	}
	if d.oracle != 17 {
		t.Errorf("the oracle is %d", d.oracle)
	}
	other := newDriver(t)
	if other.oracle != -1 {
		t.Errorf("the oracle of another driver is %d", other.oracle)
	}
}

// P23.1: whatever the oracle is, joins are answered alike.
func TestPlansTellTheSame(t *testing.T) {
	text := "1 create table t (a int, b text)\n1 create table u (c int)\n1 create index on u\n"
	for i := range 12 {
		n := string(rune('0' + i%10))
		text += "1 insert into t values (" + n + ", 'x') from " + n + " to 20\n1 insert into u values (" + n + ") from 0 to 5" + n + "\n"
	}
	ask := "\n1 select * from t, u where a < c and c < 7 during 3 to 9 order by c\n1 select sum c from u, t where a <> c and b = 'x'\n1 select * from u, u at 4\n"
	want, bad := Run(text + "plan -1" + ask)
	if bad != api.OK || !strings.Contains(want, "row") {
		t.Fatalf("%q %v", want, bad)
	}
	for _, oracle := range []string{"0", "1", "2", "3", "5", "8", "13", "21", "34", "55", "999999999"} {
		if got, _ := Run(text + "plan " + oracle + ask); got != want {
			t.Errorf("plan %s: %q, want %q", oracle, got, want)
		}
	}
}

// P23.1: what is no command.
func TestOtherLines(t *testing.T) {
	d := newDriver(t)
	for _, line := range []string{
		"", " ", "  ", "\t", "\n", "\r", "1", "-1", "0", "999999999", "-", "- begin", "--1 begin", "+1 begin", "1a begin", "a begin", "1000000000 begin", "-1000000000 begin", "0000000001 begin",
		" 1 begin", "  1 begin", "\t1 begin", "1\tbegin", "1\nbegin", "1,begin", "1; begin", "begin", "select * from t", "commit;", "ok", "error 230", "row 1", "help", "exec 1 begin",
		"\x00", "\xff", "\xff begin", "é", "1\xff begin", "٣ begin", "−1 begin", "1.5 begin", "0x1 begin", "tickplan 1", "1crash", strings.Repeat(" ", 1<<20), strings.Repeat("1", 1<<20), strings.Repeat("1 ", 1<<10)[1:],
	} {
		say(t, d, turn{line, "error 230"})
	}
	say(t, d, turn{"1 begin", "ok 0"}, turn{"1000000000 begin", "error 230"}, turn{"0 begin", "ok 0"})
}

// P23.2
func TestFact(t *testing.T) {
	number := func(n int64) api.Value { return api.Value{Kind: api.Int, Int: n} }
	text := func(s string) api.Value { return api.Value{Kind: api.Text, Text: s} }
	during := func(from, to int64) api.Period { return api.Period{From: from, To: to} }
	for _, c := range []struct {
		row    []api.Value
		period api.Period
		want   string
	}{
		{[]api.Value{number(7)}, during(3, api.Forever), "7 from 3 to forever"},
		{[]api.Value{number(0)}, during(0, 1), "0 from 0 to 1"},
		{[]api.Value{number(-12), number(math.MaxInt64), number(math.MinInt64)}, during(1, 2), "-12 9223372036854775807 -9223372036854775808 from 1 to 2"},
		{[]api.Value{number(api.Forever)}, during(api.Forever-1, api.Forever), "1099511627776 from 1099511627775 to forever"},
		{[]api.Value{number(1)}, during(0, api.Forever-1), "1 from 0 to 1099511627775"},
		{[]api.Value{text("")}, during(0, 9), "'' from 0 to 9"},
		{[]api.Value{text("it's"), number(1), text("'")}, during(0, 9), "'it''s' 1 '''' from 0 to 9"},
		{[]api.Value{text(" a  b "), text("\x00\n\xff")}, during(0, 9), "' a  b ' '\x00\n\xff' from 0 to 9"},
		{[]api.Value{text("1"), text("from"), text("é")}, during(0, 9), "'1' 'from' 'é' from 0 to 9"},
	} {
		if got := fact(api.Fact{Row: c.row, Period: c.period}); got != c.want {
			t.Errorf("%v %v: %q, want %q", c.row, c.period, got, c.want)
		}
	}
}

// P23.2, in rows and in versions.
func TestFactsAreTold(t *testing.T) {
	say(t, newDriver(t),
		turn{"1 create table t (a int, b text, c text)", "ok 0"},
		turn{"1 insert into t values (-999999999999999999 * 9 - 223372036854775808 - 9, 'it''s', '\xff \x00') from 1099511627775 to forever", "ok 1"},
		turn{"1 insert into t values (0, '''', '') from 0 to 1099511627775", "ok 1"},
		turn{"1 select * from t", "row -9223372036854775808 'it''s' '\xff \x00' from 1099511627775 to forever/row 0 '''' '' from 0 to 1099511627775/ok 2"},
		turn{"1 select c, b, c from t at 0", "row '' '''' '' from 0 to 1/ok 1"},
		turn{"history T", "version -9223372036854775808 'it''s' '\xff \x00' from 1099511627775 to forever since 2/version 0 '''' '' from 0 to 1099511627775 since 3/ok"},
	)
}

// The driver's calls are those of the engine, too.
func TestCallsOfEngine(t *testing.T) {
	d := newDriver(t)
	if r := d.Exec(1, "create table t (a int)", 0); r.Code != api.OK {
		t.Errorf("Exec: %v", r)
	}
	d.Tick(5)
	say(t, d, turn{"1 insert into t values (7) from 0 to 1", "ok 1"}, turn{"2 begin", "ok 0"})
	if list, bad := d.History("T"); len(list) != 1 || list[0].Since != 5 || bad != api.OK {
		t.Errorf("History: %v %v", list, bad)
	}
	d.Crash(nil, -1, 0)
	say(t, d, turn{"2 commit", "error 221 0"}, turn{"history T", "version 7 from 0 to 1 since 5/ok"})
}

// P2, rule 4: an answer is new memory.
func TestAnswersAreNew(t *testing.T) {
	d := newDriver(t)
	say(t, d, turn{"1 create table t (a int)", "ok 0"}, turn{"1 insert into t values (7) from 0 to 1", "ok 1"})
	for _, line := range []string{"1 select * from t", "1 selec", "history T", "history U", "tick 0", "plan 0", "crash - 0 0", "crash x 0 0", ""} {
		one, other := d.Line(line), d.Line(line)
		want := strings.Join(other, "/")
		clear(one[:cap(one)])
		if strings.Join(other, "/") != want {
			t.Errorf("%q: two answers share memory", line)
		}
		say(t, d, turn{line, want})
	}
}
