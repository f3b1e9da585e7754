package script

import (
	"math"
	"reflect"
	"regexp"
	"slices"
	"strconv"
	"strings"
	"testing"

	"annals/api"
	"annals/session"
)

// P23.3: all lines of a text; behind the last line end there is one more.
func TestRun(t *testing.T) {
	for _, c := range []struct{ text, want string }{
		{"", "error 230\n"},
		{"\n", "error 230\nerror 230\n"},
		{"\n\n", "error 230\nerror 230\nerror 230\n"},
		{"tick 1", "ok\n"},
		{"tick 1\n", "ok\nerror 230\n"},
		{"\ntick 1", "error 230\nok\n"},
		{"tick 1\r\ntick 1", "error 230\nok\n"},
		{"tick 1\rtick 1", "error 230\n"},
		{"1 begin\n1 begin\n1 commit", "ok 0\nerror 220 0\nok 0\n"},
		{"1 select *\nfrom t", "error 150 8\nerror 230\n"},
		{"\xff\n1 \xff", "error 230\nerror 140 0\n"},
		{"1 create table t (a int)\n1 insert into t values (7) from 3 to forever\n2 select * from t\nhistory T", "ok 0\nok 1\nrow 7 from 3 to forever\nok 1\nversion 7 from 3 to forever since 2\nok\n"},
	} {
		for _, size := range [][]int{nil, {}, {200, 120, 16}, {20, 12, 1}} {
			if got, bad := Run(c.text, size...); got != c.want || bad != api.OK {
				t.Errorf("Run(%q, %v): %q %v, want %q", c.text, size, got, bad, c.want)
			}
		}
	}
}

// P23.3: the errors, in their order.
func TestRunErrors(t *testing.T) {
	long := strings.Repeat("\n", 65537)
	for _, c := range []struct {
		text string
		size []int
		want api.Errno
	}{
		{long, nil, api.ErrLong},
		{long + long, []int{200, 120, 16}, api.ErrLong},
		{long, []int{1}, api.ErrLong},
		{long, []int{0, 0, 0}, api.ErrLong},
		{"", []int{200}, api.ErrRange},
		{"", []int{200, 120}, api.ErrRange},
		{"", []int{200, 120, 16, 1}, api.ErrRange},
		{"", []int{200, 120, 16, 200, 120, 16}, api.ErrRange},
		{"", make([]int, 1<<20), api.ErrRange},
		{"", []int{0, 0, 0}, api.ErrRange},
		{"", []int{200, 200, 16}, api.ErrRange},
		{"", []int{200, 120, 0}, api.ErrRange},
		{"", []int{math.MaxInt, math.MinInt, 1}, api.ErrRange},
		{"tick 1", []int{4097, 120, 16}, api.ErrRange},
	} {
		if got, bad := Run(c.text, c.size...); got != "" || bad != c.want {
			t.Errorf("Run of %d bytes, %d sizes: %q %v, want %v", len(c.text), len(c.size), got, bad, c.want)
		}
	}
}

// P23.3: the longest text.
func TestLongestText(t *testing.T) {
	if MaxText != 65536 {
		t.Errorf("MaxText is %d", MaxText)
	}
	for _, c := range []struct{ text, want string }{
		{strings.Repeat("\n", 65536), strings.Repeat("error 230\n", 65537)},
		{strings.Repeat("tick 1\n\n", 8192), strings.Repeat("ok\nerror 230\n", 8192) + "error 230\n"},
		{"1 " + strings.Repeat("x", 65534), "error 2 4096\n"},
		{strings.Repeat(" ", 65536), "error 230\n"},
	} {
		if got, bad := Run(c.text); len(c.text) != MaxText || got != c.want || bad != api.OK {
			t.Errorf("Run of %d bytes: %d bytes, %v", len(c.text), len(got), bad)
		}
	}
}

// fill is a script that lays as many facts as its text has room for, and what fits of them.
func fill(t *testing.T, size ...int) int {
	t.Helper()
	text := "1 create table t (a int)"
	for len(text) < MaxText-100 {
		text += "\n1 insert into t values (1) from 0 to 1"
	}
	got, bad := Run(text, size...)
	if bad != api.OK || !strings.HasPrefix(got, "ok 0\nok 1\n") {
		t.Fatalf("Run: %v", bad)
	}
	return strings.Count(got, "ok 1\n")
}

// P23.3: a script without sizes has just 200, 120 and 16.
func TestSizesOfRun(t *testing.T) {
	none := fill(t)
	if told := fill(t, 200, 120, 16); none != told {
		t.Errorf("facts: %d without sizes, %d with them", none, told)
	}
	// With a page less, or a sector of the log less where that is what ends first, there is less room.
	for _, size := range [][]int{{199, 120, 16}, {200, 121, 16}, {200, 100, 16}} {
		if n := fill(t, size...); n >= none {
			t.Errorf("facts: %d without sizes, %d with %v", none, n, size)
		}
	}
}

// P23.3 and P2: each run is of a new driver, and what is handed in stays as it is.
func TestRunsKeepNothing(t *testing.T) {
	sizes := []int{60, 40, 2, 7, 8}
	for range 3 {
		got, bad := Run("1 create table t (a int)\nplan 5\n1 begin\ntick 9", sizes[:3]...)
		if got != "ok 0\nok\nok 0\nok\n" || bad != api.OK {
			t.Errorf("Run: %q %v", got, bad)
		}
		if !slices.Equal(sizes, []int{60, 40, 2, 7, 8}) {
			t.Errorf("sizes: %v", sizes)
		}
		if got, bad := Run("", sizes...); got != "" || bad != api.ErrRange {
			t.Errorf("Run of five sizes: %q %v", got, bad)
		}
	}
}

// dice answers numbers that look thrown, the same ones each time.
type dice uint64

func (x *dice) below(n int) int {
	*x = *x*6364136223846793005 + 1442695040888963407
	return int(uint64(*x) >> 33 % uint64(n))
}

func pick(x *dice, list ...string) string { return list[x.below(len(list))] }

// throwNumber is a number, or nearly one.
func (x *dice) throwNumber() string {
	if x.below(6) == 0 {
		return pick(x, "", "-", "--1", "+1", "1000000000", "0000000001", "-0000000001", "1a", "1.0", "x", "٣", "\xff", "1\t", "1\r", "01-")
	}
	return pick(x, "0", "1", "2", "3", "-1", "-0", "007", "-000000002", "12", "300", "-50", "000000001")
}

func (x *dice) throwStatement() string {
	n := strconv.Itoa(x.below(6))
	period := n + " to " + pick(x, "7", "9", "forever", "2")
	return pick(x,
		"begin", "commit", "commit;", "rollback", "create table t (a int, b text)", "create table u (b text, c int) no overlap (c)", "create index on t", "create index on u",
		"insert into t values ("+n+", 'it''s') from "+period, "insert into t values (-"+n+", 'x y') from "+period, "insert into u values ('"+n+"', "+n+") from "+period, "insert into u values ('', 0) from "+period,
		"update t set a = a + 1 for "+period, "update u set b = 'z\x00\xff' where c < "+n, "delete from t where a = "+n, "delete from u for "+period,
		"select * from t", "select * from u", "select * from t, u where a <= c", "select count from t", "select sum a from t as of "+n, "select b from t union select b from u order by b", "select b from t except select b from u",
		"select", "selec", "", " ", "select * from t ?", "select * from v", "select a from u", "insert into t values (1) from 0 to 1",
	)
}

// throwLine is a line, or nearly one.
func (x *dice) throwLine() string {
	blank := pick(x, " ", " ", " ", " ", " ", " ", " ", " ", " ", " ", "  ", "\t", "")
	out := ""
	switch x.below(14) {
	case 0:
		out = pick(x, "", " ", "1", "-3", "begin", "history", "crash", "tick", "plan", "Tick 1", "nothing 1", "\x00", "\xff \xfe")
	case 1:
		out = "tick" + blank + x.throwNumber()
	case 2:
		out = "plan" + blank + x.throwNumber()
	case 3:
		out = "crash" + blank + pick(x, "", "-", "0", "1", "0101", "111111", "2", "--", "01x", "\xff") + " " + x.throwNumber() + " " + x.throwNumber()
	case 4, 5:
		out = "history" + blank + pick(x, "T", "T", "U", "t", "", "V", "1", "\xff")
	default:
		out = pick(x, "1", "1", "2", "-1", x.throwNumber()) + blank + x.throwStatement()
	}
	if x.below(30) == 0 {
		out = pick(x, " "+out, out+" ", out+" 1", out+"\r")
	}
	return out
}

// second reads lines by patterns, for an engine of its own.
type second struct {
	*session.Engine
	oracle int
}

const figures = `(-?[0-9]{1,9})`

var patterns = map[string]*regexp.Regexp{
	"statement": regexp.MustCompile(`(?s)^` + figures + ` (.*)$`),
	"history":   regexp.MustCompile(`(?s)^history ([^ ]*)$`),
	"crash":     regexp.MustCompile(`^crash ([01]*|-) ` + figures + ` ` + figures + `$`),
	"tick":      regexp.MustCompile(`^tick ` + figures + `$`),
	"plan":      regexp.MustCompile(`^plan ` + figures + `$`),
}

func (s *second) answer(t *testing.T, line string) (string, string) {
	t.Helper()
	kind, parts := "none", []string{}
	for name, p := range patterns {
		if found := p.FindStringSubmatch(line); found != nil {
			kind, parts = name, found[1:]
		}
	}
	at := func(i int) int {
		n, err := strconv.Atoi(parts[i])
		if err != nil {
			t.Fatalf("%q isn't a number", parts[i])
		}
		return n
	}
	switch kind {
	case "statement":
		return s.statement(at(0), parts[1])
	case "history":
		return s.history(parts[0])
	case "crash":
		keep := []bool{}
		for _, b := range []byte(parts[0]) {
			keep = append(keep, b == '1')
		}
		s.Crash(keep, at(1), at(2))
	case "tick":
		s.Tick(int64(at(0)))
	case "plan":
		s.oracle = at(0)
	default:
		return kind, "error 230\n"
	}
	return kind, "ok\n"
}

func (s *second) statement(who int, text string) (string, string) {
	r := s.Exec(who, text, s.oracle)
	if r.Code != api.OK {
		return "refused", "error " + strconv.Itoa(int(r.Code)) + " " + strconv.Itoa(r.At) + "\n"
	}
	out := ""
	for _, f := range r.Facts {
		out += "row" + shown(f) + "\n"
	}
	return "done", out + "ok " + strconv.Itoa(r.Rows) + "\n"
}

func (s *second) history(table string) (string, string) {
	list, bad := s.History(table)
	if bad != api.OK {
		return "no history", "error " + strconv.Itoa(int(bad)) + "\n"
	}
	out := ""
	for _, v := range list {
		out += "version" + shown(v.Fact) + " since " + strconv.FormatInt(v.Since, 10)
		if v.Until > 0 {
			out += " until " + strconv.FormatInt(v.Until, 10)
		}
		out += "\n"
	}
	return "history", out + "ok\n"
}

// shown is a fact with a blank ahead of each word.
func shown(f api.Fact) string {
	out := ""
	for _, v := range f.Row {
		if v.Kind == api.Int {
			out += " " + strconv.FormatInt(v.Int, 10)
		} else {
			out += " '" + strings.Join(strings.Split(v.Text, "'"), "''") + "'"
		}
	}
	to := strconv.FormatInt(f.Period.To, 10)
	return out + " from " + strconv.FormatInt(f.Period.From, 10) + " to " + strings.Replace(to, "1099511627776", "forever", 1)
}

// P23.1 to P23.3 with scripts of any lines: Run, Line and a reading by patterns agree. And P1: every line comes to something.
func TestThrownScripts(t *testing.T) {
	x := dice(23)
	count := map[string]int{}
	for range 150 {
		sizes := []int{80, 50, 1 + x.below(5)}
		d, bad := New(sizes[0], sizes[1], sizes[2])
		e, worse := session.New(sizes[0], sizes[1], sizes[2])
		if bad != api.OK || worse != api.OK {
			t.Fatalf("New: %v %v", bad, worse)
		}
		s := &second{e, -1}
		list := []string{"1 create table t (a int, b text)", "2 create table u (b text, c int)"}
		for range 80 {
			list = append(list, x.throwLine())
		}
		all := ""
		for _, line := range list {
			kind, want := s.answer(t, line)
			count[kind]++
			answers := d.Line(line)
			if got := strings.Join(answers, "\n") + "\n"; got != want || len(answers) == 0 {
				t.Fatalf("%q: %q, want %q", line, got, want)
			}
			if kind == "crash" && !reflect.DeepEqual(d.Engine, s.Engine) {
				t.Fatalf("%q: behind it the databases aren't alike", line)
			}
			if d.oracle != s.oracle {
				t.Fatalf("%q: the oracle is %d, want %d", line, d.oracle, s.oracle)
			}
			all += want
		}
		if got, bad := Run(strings.Join(list, "\n"), sizes...); got != all || bad != api.OK {
			t.Fatalf("Run(%q): %q %v, want %q", list, got, bad, all)
		}
	}
	for what, least := range map[string]int{"done": 1500, "refused": 1000, "none": 800, "history": 300, "no history": 200, "crash": 100, "tick": 300, "plan": 300} {
		if count[what] < least {
			t.Errorf("%s: only %d times", what, count[what])
		}
	}
}

// P1: any bytes.
func TestAnyBytes(t *testing.T) {
	x := dice(231)
	d := newDriver(t)
	for range 20000 {
		line := make([]byte, x.below(12))
		for i := range line {
			line[i] = byte(x.below(256))
			if x.below(2) == 0 {
				line[i] = " 01-9tick"[x.below(9)]
			}
		}
		if answers := d.Line(string(line)); len(answers) != 1 {
			t.Fatalf("%q: %q", line, answers)
		}
		text := string(line) + "\n" + string(line)
		if got, bad := Run(text, 2, 1, 1); bad != api.OK || strings.Count(got, "\n") != 1+strings.Count(text, "\n") {
			t.Fatalf("Run(%q): %q %v", text, got, bad)
		}
	}
}

// P23.3: lines are told one by one, and no more of them than are asked for, each time anew.
func TestLines(t *testing.T) {
	for _, text := range []string{"", "a", "a\n", "\n", "a\nb", "\n\na\n\n", "\xff\n\x00"} {
		all := lines(text)
		for range 2 {
			if got, want := slices.Collect(all), strings.Split(text, "\n"); !slices.Equal(got, want) {
				t.Errorf("lines of %q: %q", text, got)
			}
		}
		for line := range all {
			if want, _, _ := strings.Cut(text, "\n"); line != want {
				t.Errorf("the first line of %q: %q", text, line)
			}
			break
		}
	}
}

// The whole, in one script: sessions in turns, a conflict, an overlap, a crash in the midst of a transaction, and what was known when.
func TestWhole(t *testing.T) {
	turns := []turn{
		{"1 create table staff (name text, room int) no overlap (name)", "ok 0"},
		{"1 create table rooms (room int, floor text)", "ok 0"},
		{"1 insert into rooms values (7, 'first') from 0 to forever", "ok 1"},
		{"1 insert into rooms values (9, 'top') from 5 to forever", "ok 1"},
		{"tick 10", "ok"},
		{"1 begin", "ok 0"},
		{"1 insert into staff values ('Ann', 7) from 1 to forever", "ok 1"},
		{"2 select * from staff", "ok 0"},
		{"1 commit", "ok 0"},
		{"2 select * from staff", "row 'Ann' 7 from 1 to forever/ok 1"},
		{"2 insert into staff values ('Ann', 9) from 20 to 30", "error 210 0"},
		{"1 begin", "ok 0"},
		{"2 begin", "ok 0"},
		{"1 update staff set room = 9 for 6 to 8 where name = 'Ann'", "ok 1"},
		{"2 delete from staff for 3 to 4", "ok 1"},
		{"1 commit", "ok 0"},
		{"2 select * from staff", "row 'Ann' 7 from 1 to 3/row 'Ann' 7 from 4 to forever/ok 2"},
		{"2 commit", "error 120 0"},
		{"plan 5", "ok"},
		{"3 select name, floor from staff, rooms where staff.room = rooms.room", "row 'Ann' 'first' from 1 to 6/row 'Ann' 'first' from 8 to forever/row 'Ann' 'top' from 6 to 8/ok 3"},
		{"3 begin", "ok 0"},
		{"3 delete from staff", "ok 3"},
		{"crash 1101 2 100", "ok"},
		{"3 commit", "error 221 0"},
		{"3 select room from staff as of 10 at 7", "row 7 from 7 to 8/ok 1"},
		{"3 select room from staff at 7", "row 9 from 7 to 8/ok 1"},
		{"3 select coalesce name from staff", "row 'Ann' from 1 to forever/ok 1"},
		{"history STAFF", "version 'Ann' 7 from 1 to forever since 10 until 11/version 'Ann' 7 from 1 to 6 since 11/version 'Ann' 7 from 8 to forever since 11/version 'Ann' 9 from 6 to 8 since 11/ok"},
	}
	say(t, newDriver(t), turns...)
	var text, want []string
	for _, x := range turns {
		text, want = append(text, x.line), append(want, strings.ReplaceAll(x.want, "/", "\n")+"\n")
	}
	if got, bad := Run(strings.Join(text, "\n")); got != strings.Join(want, "") || bad != api.OK {
		t.Errorf("Run: %q %v", got, bad)
	}
}
