package session

import (
	"cmp"
	"math/big"
	"slices"
	"strconv"
	"strings"
	"testing"

	"annals/api"
	"annals/bag"
	"annals/exec"
)

// dice answers numbers that look thrown, the same ones each time.
type dice uint64

func (x *dice) below(n int) int {
	*x = *x*6364136223846793005 + 1442695040888963407
	return int(uint64(*x) >> 33 % uint64(n))
}

func pick[T any](x *dice, list ...T) T { return list[x.below(len(list))] }

// instants is all at which thrown facts begin or end, and some more: what is told at these is told at all others.
func instants() []int64 { return []int64{0, 1, 2, 3, 4, 5, 6, 7, 8, api.Forever - 1} }

func (x *dice) throwPeriod() (api.Period, string) {
	from, to := x.below(8), 1+x.below(8)
	from, to = min(from, to-1), max(from+1, to)
	if x.below(5) == 0 {
		return api.Period{From: int64(from), To: api.Forever}, strconv.Itoa(from) + " TO FOREVER"
	}
	return api.Period{From: int64(from), To: int64(to)}, strconv.Itoa(from) + " TO " + strconv.Itoa(to)
}

// known is a version in the model: a row with the stamps between which it is there.
type known struct {
	api.Fact
	since, until int64
}

// side is a table in the model.
type side struct {
	name    string
	columns []api.Column
	keys    []int
	indexed bool
	all     []*known
}

// deed is a transaction in the model.
type deed struct {
	snapshot int64
	ended    map[*known]bool
	begun    map[*side][]api.Fact
}

// model is a database told another way: each question is asked instant by instant, and conflicts and overlaps are found by looking at all pairs.
type model struct {
	tables    []*side
	now, last int64
	deeds     map[int]*deed
}

func (m *model) begin() *deed {
	return &deed{snapshot: m.last, ended: map[*known]bool{}, begun: map[*side][]api.Fact{}}
}

func (k *known) at(stamp int64) bool { return k.since <= stamp && (k.until == 0 || stamp < k.until) }

func (d *deed) sees(s *side) []api.Fact {
	var out []api.Fact
	for _, k := range s.all {
		if k.at(d.snapshot) && !d.ended[k] {
			out = append(out, k.Fact)
		}
	}
	return append(out, d.begun[s]...)
}

func (m *model) commit(d *deed) api.Errno {
	writes := len(d.ended) > 0
	for _, list := range d.begun {
		writes = writes || len(list) > 0
	}
	if !writes {
		return api.OK
	}
	for k := range d.ended {
		if k.until != 0 {
			return api.ErrConflict
		}
	}
	for s, list := range d.begun {
		if len(list) > 0 && m.clash(d, s) {
			return api.ErrOverlap
		}
	}
	m.last = max(m.now, m.last+1)
	for k := range d.ended {
		k.until = m.last
	}
	for s, list := range d.begun {
		for _, f := range list {
			s.all = append(s.all, &known{f, m.last, 0})
		}
	}
	return api.OK
}

// clash: would two rows of a table be alike in its key columns at an instant?
func (m *model) clash(d *deed, s *side) bool {
	if len(s.keys) == 0 {
		return false
	}
	list := slices.Clone(d.begun[s])
	for _, k := range s.all {
		if k.until == 0 && !d.ended[k] {
			list = append(list, k.Fact)
		}
	}
	for _, at := range instants() {
		seen := map[string]bool{}
		for _, row := range rowsAt(list, at) {
			key := ""
			for _, k := range s.keys {
				key += strconv.Quote(row[k].Text) + strconv.FormatInt(row[k].Int, 10) + " "
			}
			if seen[key] {
				return true
			}
			seen[key] = true
		}
	}
	return false
}

func rowsAt(list []api.Fact, at int64) [][]api.Value {
	var out [][]api.Value
	for _, f := range list {
		if f.Period.From <= at && at < f.Period.To {
			out = append(out, f.Row)
		}
	}
	return out
}

// thing is an expression: its text, and what it comes to for a row; false: an overflow.
type thing struct {
	text string
	eval func(row []api.Value) (api.Value, bool)
}

// name is a column that may be named, at its place in a row.
type name struct {
	text  string
	place int
	kind  int
}

func constant(text string, v api.Value) thing {
	return thing{text, func([]api.Value) (api.Value, bool) { return v, true }}
}

func number(n int64) api.Value { return api.Value{Kind: api.Int, Int: n} }

func truth(so bool) api.Value {
	if so {
		return api.Value{Kind: 3, Int: 1}
	}
	return api.Value{Kind: 3}
}

func both(a thing, op string, b thing, made func(a, b api.Value) (api.Value, bool)) thing {
	return thing{"(" + a.text + " " + op + " " + b.text + ")", func(row []api.Value) (api.Value, bool) {
		x, ok := a.eval(row)
		y, fine := b.eval(row)
		if !ok || !fine {
			return api.Value{}, false
		}
		return made(x, y)
	}}
}

func named(x *dice, names []name, kind int) (thing, bool) {
	var fit []name
	for _, n := range names {
		if n.kind == kind {
			fit = append(fit, n)
		}
	}
	if len(fit) == 0 {
		return thing{}, false
	}
	n := pick(x, fit...)
	return thing{n.text, func(row []api.Value) (api.Value, bool) { return row[n.place], true }}, true
}

func (x *dice) throwInt(names []name, deep int) thing {
	if n, ok := named(x, names, api.Int); ok && x.below(2) == 0 {
		return n
	}
	if deep == 0 || x.below(2) == 0 {
		if x.below(6) == 0 {
			return constant("(999999999999999999 * 9)", number(999999999999999999*9))
		}
		n := pick[int64](x, 0, 1, 2, 3)
		if x.below(4) == 0 {
			return constant("-"+strconv.FormatInt(n, 10), number(-n))
		}
		return constant(strconv.FormatInt(n, 10), number(n))
	}
	op := pick(x, "+", "-", "*")
	return both(x.throwInt(names, deep-1), op, x.throwInt(names, deep-1), func(a, b api.Value) (api.Value, bool) {
		p, q, n := big.NewInt(a.Int), big.NewInt(b.Int), new(big.Int)
		switch op {
		case "+":
			n.Add(p, q)
		case "-":
			n.Sub(p, q)
		case "*":
			n.Mul(p, q)
		}
		return number(n.Int64()), n.IsInt64()
	})
}

func (x *dice) throwText(names []name) thing {
	if n, ok := named(x, names, api.Text); ok && x.below(2) == 0 {
		return n
	}
	s := pick(x, "", "x", "y", "it's", "zz")
	return constant("'"+strings.ReplaceAll(s, "'", "''")+"'", api.Value{Kind: api.Text, Text: s})
}

func (x *dice) throwBool(names []name, deep int) thing {
	if deep > 0 && x.below(3) == 0 {
		if x.below(4) == 0 {
			a := x.throwBool(names, deep-1)
			return thing{"NOT (" + a.text + ")", func(row []api.Value) (api.Value, bool) {
				v, ok := a.eval(row)
				return truth(v.Int == 0), ok
			}}
		}
		op := pick(x, "AND", "OR")
		return both(x.throwBool(names, deep-1), op, x.throwBool(names, deep-1), func(a, b api.Value) (api.Value, bool) {
			return truth(a.Int+b.Int == 2 || op == "OR" && a.Int+b.Int == 1), true
		})
	}
	a, b := x.throwInt(names, 1), x.throwInt(names, 1)
	if x.below(3) == 0 {
		a, b = x.throwText(names), x.throwText(names)
	}
	op := pick(x, "=", "<>", "<=", ">=", "<", ">")
	return both(a, op, b, func(a, b api.Value) (api.Value, bool) {
		n := cmp.Or(cmp.Compare(a.Int, b.Int), strings.Compare(a.Text, b.Text))
		return truth(strings.Contains(op, string("<=>"[n+1])) && op != "<>" || op == "<>" && n != 0), true
	})
}

func (t thing) holds(row []api.Value) bool {
	v, ok := t.eval(row)
	return ok && v.Int == 1
}

// throwWhere is none or one condition, and its text with the word ahead.
func (x *dice) throwWhere(names []name) (thing, string) {
	if x.below(3) == 0 {
		return constant("", truth(true)), ""
	}
	t := x.throwBool(names, 2)
	return t, " WHERE " + t.text
}

// names is how the columns of tables may be named.
func names(tables ...*side) []name {
	var out []name
	place := 0
	for _, s := range tables {
		for _, c := range s.columns {
			times := 0
			for _, o := range tables {
				times += len(slices.DeleteFunc(slices.Clone(o.columns), func(d api.Column) bool { return d.Name != c.Name }))
			}
			if times == 1 {
				out = append(out, name{c.Name, place, c.Kind})
			}
			if len(tables) == 1 || tables[0] != tables[1] {
				out = append(out, name{s.name + "." + c.Name, place, c.Kind})
			}
			place++
		}
	}
	return out
}

// part is one query of a question: its text, the kinds and names of its answer's columns, and its rows at an instant; false: an overflow.
type part struct {
	text  string
	kinds []int
	names []string
	rows  func(d *deed, asOf int64, at int64) ([][]api.Value, bool)
}

// base is the rows of which a query asks something.
func base(tables []*side, where thing) func(d *deed, asOf, at int64) [][]api.Value {
	return func(d *deed, asOf, at int64) [][]api.Value {
		sides := [][][]api.Value{}
		for _, s := range tables {
			facts := d.sees(s)
			if asOf >= 0 {
				facts = nil
				for _, k := range s.all {
					if k.at(min(asOf, d.snapshot)) {
						facts = append(facts, k.Fact)
					}
				}
			}
			sides = append(sides, rowsAt(facts, at))
		}
		joined := sides[0]
		if len(sides) == 2 {
			joined = nil
			for _, a := range sides[0] {
				for _, b := range sides[1] {
					joined = append(joined, slices.Concat(a, b))
				}
			}
		}
		return slices.DeleteFunc(joined, func(row []api.Value) bool { return !where.holds(row) })
	}
}

// throwPart is a query; of these kinds of columns, if some are asked for and it finds such.
func (x *dice) throwPart(m *model, kinds []int) (part, bool) {
	tables := []*side{pick(x, m.tables...)}
	if x.below(3) == 0 {
		tables = append(tables, pick(x, m.tables...))
	}
	list := names(tables...)
	where, wheres := x.throwWhere(list)
	rows := base(tables, where)
	p, what := part{}, ""
	places := []int{}
	way := x.below(5)
	if sum, ok := named(x, slices.DeleteFunc(slices.Clone(list), func(n name) bool { return strings.Contains(n.text, ".") }), api.Int); ok && way == 0 {
		what, p.kinds, p.names = "SUM "+sum.text, []int{api.Int}, []string{""}
		p.rows = func(d *deed, asOf, at int64) ([][]api.Value, bool) {
			n, all := new(big.Int), rows(d, asOf, at)
			for _, row := range all {
				v, _ := sum.eval(row)
				n.Add(n, big.NewInt(v.Int))
			}
			if len(all) == 0 {
				return nil, true
			}
			return [][]api.Value{{number(n.Int64())}}, n.IsInt64()
		}
	} else if way == 1 {
		what, p.kinds, p.names = "COUNT", []int{api.Int}, []string{""}
		p.rows = func(d *deed, asOf, at int64) ([][]api.Value, bool) {
			n := len(rows(d, asOf, at))
			if n == 0 {
				return nil, true
			}
			return [][]api.Value{{number(int64(n))}}, true
		}
	} else if way == 2 && kinds == nil {
		what = "*"
		for _, s := range tables {
			for _, c := range s.columns {
				p.kinds, p.names = append(p.kinds, c.Kind), append(p.names, c.Name)
			}
		}
		p.rows = func(d *deed, asOf, at int64) ([][]api.Value, bool) { return rows(d, asOf, at), true }
	} else {
		items := []string{}
		wanted := kinds
		if wanted == nil {
			wanted = pick(x, []int{1}, []int{2}, []int{1, 2}, []int{1, 1})
		}
		for _, kind := range wanted {
			fit := slices.DeleteFunc(slices.Clone(list), func(n name) bool { return n.kind != kind })
			if len(fit) == 0 {
				return part{}, false
			}
			n := pick(x, fit...)
			items, places = append(items, n.text), append(places, n.place)
			p.kinds, p.names = append(p.kinds, n.kind), append(p.names, n.text[strings.Index(n.text, ".")+1:])
		}
		what = strings.Join(items, ", ")
		p.rows = func(d *deed, asOf, at int64) ([][]api.Value, bool) {
			var out [][]api.Value
			for _, row := range rows(d, asOf, at) {
				var picked []api.Value
				for _, place := range places {
					picked = append(picked, row[place])
				}
				out = append(out, picked)
			}
			return out, true
		}
	}
	coalesce := ""
	if x.below(4) == 0 {
		coalesce = "COALESCE "
		plain := p.rows
		p.rows = func(d *deed, asOf, at int64) ([][]api.Value, bool) {
			all, ok := plain(d, asOf, at)
			var out [][]api.Value
			for _, row := range all {
				if !has(out, row) {
					out = append(out, row)
				}
			}
			return out, ok
		}
	}
	from := tables[0].name
	if len(tables) == 2 {
		from += ", " + tables[1].name
	}
	p.text = "SELECT " + coalesce + what + " FROM " + from + wheres
	return p, kinds == nil || slices.Equal(p.kinds, kinds)
}

func has(list [][]api.Value, row []api.Value) bool {
	return slices.ContainsFunc(list, func(other []api.Value) bool { return slices.Equal(other, row) })
}

// throw is a SELECT: its text, by which columns it is sorted, and what must be told at an instant; false: an overflow.
type throw struct {
	text  string
	order []int
	rows  func(d *deed, at int64) ([][]api.Value, bool)
}

func (x *dice) throwQuestion(m *model) throw {
	first, ok := x.throwPart(m, nil)
	for !ok {
		first, ok = x.throwPart(m, nil)
	}
	parts, ops := []part{first}, []string{""}
	out := throw{text: first.text}
	for range x.below(3) {
		if p, ok := x.throwPart(m, first.kinds); ok {
			op := pick(x, "UNION", "EXCEPT")
			parts, ops = append(parts, p), append(ops, op)
			out.text += " " + op + " " + p.text
		}
	}
	asOf := int64(-1)
	if x.below(3) == 0 {
		asOf = int64(x.below(int(m.last) + 3))
		out.text += " AS OF " + strconv.FormatInt(asOf, 10)
	}
	during := api.Period{From: 0, To: api.Forever}
	switch x.below(4) {
	case 0:
		p, text := x.throwPeriod()
		during = p
		out.text += " DURING " + text
	case 1:
		at := int64(x.below(9))
		during = api.Period{From: at, To: at + 1}
		out.text += " AT " + strconv.FormatInt(at, 10)
	}
	if x.below(3) == 0 {
		word := " ORDER BY "
		for i, n := range first.names {
			if n != "" && len(slices.DeleteFunc(slices.Clone(first.names), func(o string) bool { return o != n })) == 1 {
				out.order = slices.Insert(out.order, 0, i)
			}
		}
		for _, i := range out.order {
			out.text += word + first.names[i]
			word = ", "
		}
	}
	out.rows = func(d *deed, at int64) ([][]api.Value, bool) {
		var sum [][]api.Value
		fine := true
		if at < during.From || at >= during.To {
			return nil, true
		}
		for i, p := range parts {
			rows, ok := p.rows(d, asOf, at)
			fine = fine && ok
			for _, row := range rows {
				place := slices.IndexFunc(sum, func(other []api.Value) bool { return slices.Equal(other, row) })
				switch {
				case ops[i] != "EXCEPT":
					sum = append(sum, row)
				case place >= 0:
					sum = slices.Delete(sum, place, place+1)
				}
			}
		}
		return sum, fine
	}
	return out
}

// asks: is the answer to a question, by some plan, what the model says at each instant?
func (m *model) asks(t *testing.T, e *Engine, who int, d *deed, x *dice) string {
	t.Helper()
	q := x.throwQuestion(m)
	r := e.Exec(who, q.text, x.below(40)-8)
	want := api.OK
	for _, at := range instants() {
		if _, ok := q.rows(d, at); !ok {
			want = api.ErrOverflow
		}
	}
	if r.Code != want || r.At != 0 || r.Rows != len(r.Facts) || want != api.OK && r.Rows != 0 {
		t.Fatalf("%s: %s, want %v", q.text, shown(r), want)
	}
	if want != api.OK {
		return "overflow"
	}
	for _, at := range instants() {
		rows, _ := q.rows(d, at)
		sum := []api.Fact{}
		for _, row := range rows {
			sum = append(sum, api.Fact{Row: row, Period: api.Period{From: at, To: at + 1}})
		}
		if got, want := bag.Slice(r.Facts, at), bag.Slice(sum, at); !slices.EqualFunc(got, want, slices.Equal) {
			t.Fatalf("%s: %s, at %d: %v, want %v", q.text, shown(r), at, got, want)
		}
	}
	formed := bag.Normal(r.Facts)
	if len(q.order) > 0 {
		formed = exec.Sort(formed, q.order...)
	}
	if shown(Result{Facts: formed, Rows: len(formed)}) != shown(r) {
		t.Fatalf("%s: %s isn't as it should be told", q.text, shown(r))
	}
	if len(formed) == 0 {
		return "none"
	}
	return "facts"
}

// changes does an INSERT, UPDATE or DELETE to a deed: its text, the error, and how many rows it concerns.
func (m *model) changes(d *deed, x *dice) (string, api.Errno, int) {
	s := pick(x, m.tables...)
	p, period := x.throwPeriod()
	if x.below(2) == 0 {
		f := api.Fact{Period: p}
		var list []string
		ok := true
		for _, c := range s.columns {
			v := x.throwText(nil)
			if c.Kind == api.Int {
				v = x.throwInt(nil, x.below(2))
			}
			value, fine := v.eval(nil)
			ok = ok && fine
			f.Row, list = append(f.Row, value), append(list, v.text)
		}
		text := "INSERT INTO " + s.name + " VALUES (" + strings.Join(list, ", ") + ") FROM " + period
		if !ok {
			return text, api.ErrOverflow, 0
		}
		d.begun[s] = append(slices.Clone(d.begun[s]), f)
		return text, api.OK, 1
	}
	where, wheres := x.throwWhere(names(s))
	within := " FOR " + period
	if x.below(3) == 0 {
		p, within = api.Period{From: 0, To: api.Forever}, ""
	}
	sets := map[int]thing{}
	var list []string
	text := "DELETE FROM " + s.name + within + wheres
	if x.below(3) > 0 {
		for i, c := range s.columns {
			v := x.throwText(names(s))
			if c.Kind == api.Int {
				v = x.throwInt(names(s), 1+x.below(2))
			}
			if x.below(2) == 0 || i == len(s.columns)-1 && len(list) == 0 {
				sets[i] = v
				list = append(list, c.Name+" = "+v.text)
			}
		}
		text = "UPDATE " + s.name + " SET " + strings.Join(list, ", ") + within + wheres
	}
	code, rows := m.change(d, s, p, where, sets)
	return text, code, rows
}

func (m *model) change(d *deed, s *side, p api.Period, where thing, sets map[int]thing) (api.Errno, int) {
	var added []api.Fact
	var ended []*known
	var kept []api.Fact
	ok, rows := true, 0
	does := func(f api.Fact) bool {
		from, to := max(f.Period.From, p.From), min(f.Period.To, p.To)
		if from >= to || !where.holds(f.Row) {
			return false
		}
		rows++
		for _, rest := range []api.Period{{From: f.Period.From, To: from}, {From: to, To: f.Period.To}} {
			if rest.From < rest.To {
				added = append(added, api.Fact{Row: f.Row, Period: rest})
			}
		}
		if len(sets) > 0 {
			row := slices.Clone(f.Row)
			for i, v := range sets {
				value, fine := v.eval(f.Row)
				ok = ok && fine
				row[i] = value
			}
			added = append(added, api.Fact{Row: row, Period: api.Period{From: from, To: to}})
		}
		return true
	}
	for _, k := range s.all {
		if k.at(d.snapshot) && !d.ended[k] && does(k.Fact) {
			ended = append(ended, k)
		}
	}
	for _, f := range d.begun[s] {
		if !does(f) {
			kept = append(kept, f)
		}
	}
	if !ok {
		return api.ErrOverflow, 0
	}
	for _, k := range ended {
		d.ended[k] = true
	}
	d.begun[s] = append(kept, added...)
	return api.OK, rows
}

// agree: is the history of every table the model's, and does no row overlap another at any stamp?
func (m *model) agree(t *testing.T, e *Engine) {
	t.Helper()
	for _, s := range m.tables {
		list, bad := e.History(s.name)
		var got, want []string
		for i, x := range list {
			got = append(got, shownItem(x))
			if a := list[max(i-1, 0)].Rid; i > 0 && cmp.Or(cmp.Compare(a.Page, x.Rid.Page), cmp.Compare(a.Slot, x.Rid.Slot)) >= 0 {
				t.Fatalf("History(%s) isn't in the order of places", s.name)
			}
		}
		for _, k := range s.all {
			want = append(want, shownFact(k.Fact)+" since "+strconv.FormatInt(k.since, 10)+" until "+strconv.FormatInt(k.until, 10))
		}
		slices.Sort(got)
		slices.Sort(want)
		if bad != api.OK || !slices.Equal(got, want) {
			t.Fatalf("History(%s): %q %v, want %q", s.name, got, bad, want)
		}
		for stamp := range m.last + 1 {
			d := &deed{snapshot: stamp}
			if there := (&side{keys: s.keys, all: s.all}); m.clash(&deed{begun: map[*side][]api.Fact{there: d.sees(s)}, ended: all(s)}, there) {
				t.Fatalf("rows of %s overlap at %d", s.name, stamp)
			}
		}
	}
}

func all(s *side) map[*known]bool {
	out := map[*known]bool{}
	for _, k := range s.all {
		out[k] = true
	}
	return out
}

func newModel(t *testing.T, e *Engine) *model {
	t.Helper()
	say(t, e,
		step{0, "create table t (a int, b text) no overlap (a)", "0"},
		step{0, "create table u (a int, c int)", "0"},
		step{0, "create table v (b text, d int, e text) no overlap (e, d)", "0"},
	)
	a, b, c, d, e2 := api.Column{Name: "A", Kind: 1}, api.Column{Name: "B", Kind: 2}, api.Column{Name: "C", Kind: 1}, api.Column{Name: "D", Kind: 1}, api.Column{Name: "E", Kind: 2}
	return &model{last: 3, deeds: map[int]*deed{}, tables: []*side{
		{name: "T", columns: []api.Column{a, b}, keys: []int{0}},
		{name: "U", columns: []api.Column{a, c}},
		{name: "V", columns: []api.Column{b, d, e2}, keys: []int{2, 1}},
	}}
}

// step is one statement, tick or crash, in database and model.
func (m *model) step(t *testing.T, e *Engine, x *dice, count map[string]int) {
	t.Helper()
	who := x.below(3)
	d, active := m.deeds[who]
	same := func(what, text string, want Result) {
		t.Helper()
		if r := e.Exec(who, text, -1); shown(r) != shown(want) {
			t.Fatalf("%s: %s, want %s", text, shown(r), shown(want))
		}
		count[what+" "+strconv.Itoa(int(want.Code))]++
	}
	switch n := x.below(24); {
	case n < 2:
		if active {
			same("BEGIN", "begin", Result{Code: api.ErrActive})
			return
		}
		m.deeds[who] = m.begin()
		same("BEGIN", "begin", Result{})
	case n < 4:
		text, code := pick(x, "commit", "commit", "rollback"), api.ErrInactive
		if active {
			code = api.OK
			if text == "commit" {
				code = m.commit(d)
			}
		}
		delete(m.deeds, who)
		same(text, text, Result{Code: code})
	case n < 13:
		if !active {
			d = m.begin()
		}
		text, code, rows := m.changes(d, x)
		if !active && code == api.OK {
			code = m.commit(d)
		}
		if code != api.OK {
			rows = 0
		}
		same(text[:6], text, Result{Code: code, Rows: rows})
	case n < 22:
		if !active {
			d = m.begin()
		}
		count[m.asks(t, e, who, d, x)]++
	case n < 23:
		by := int64(x.below(6) - 2)
		e.Tick(by)
		m.now = max(m.now, m.now+by)
	default:
		m.rarely(t, e, x, same, active, count)
	}
}

func (m *model) rarely(t *testing.T, e *Engine, x *dice, same func(what, text string, want Result), active bool, count map[string]int) {
	t.Helper()
	if x.below(2) == 0 {
		s, want := pick(x, m.tables...), Result{}
		switch {
		case active:
			want.Code = api.ErrActive
		case s.indexed:
			want.Code = api.ErrTwice
		default:
			s.indexed = true
			m.last = max(m.now, m.last+1)
		}
		same("INDEX", "create index on "+s.name, want)
		return
	}
	keep := make([]bool, x.below(20))
	for i := range keep {
		keep[i] = x.below(2) == 0
	}
	e.Crash(keep, x.below(20)-2, x.below(300)-20)
	m.now, m.deeds = m.last, map[int]*deed{}
	count["crash"]++
	m.agree(t, e)
}

// P22.1 to P22.9 over many steps of three sessions, with crashes between them: database and model agree throughout.
func TestAgreesWithModel(t *testing.T) {
	count := map[string]int{}
	for seed := range 100 {
		x := dice(seed)
		e := newEngine(t, 260, 200, 1+x.below(9))
		m := newModel(t, e)
		m.now = 0
		for range 120 {
			m.step(t, e, &x, count)
		}
		m.agree(t, e)
	}
	for what, least := range map[string]int{
		"BEGIN 0": 100, "BEGIN 220": 50, "commit 0": 50, "commit 120": 10, "commit 210": 5, "commit 221": 20, "rollback 0": 30, "rollback 221": 20,
		"INSERT 0": 300, "INSERT 171": 5, "INSERT 210": 10, "UPDATE 0": 300, "UPDATE 171": 5, "UPDATE 210": 20, "DELETE 0": 300,
		"INDEX 0": 20, "INDEX 220": 10, "INDEX 162": 5, "crash": 50, "facts": 500, "none": 500, "overflow": 10,
	} {
		if count[what] < least {
			t.Errorf("%s: only %d times", what, count[what])
		}
	}
}
