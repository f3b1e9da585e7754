package catalog

import (
	"math"
	"reflect"
	"slices"
	"strconv"
	"strings"
	"testing"

	"annals/api"
)

// dice answers numbers that look thrown, the same ones each time.
type dice uint64

func (x *dice) below(n int) int {
	*x = *x*6364136223846793005 + 1442695040888963407
	return int(uint64(*x) >> 33 % uint64(n))
}

// columns are columns of these names, the first an Int, the next a Text, and so on.
func columns(names ...string) []api.Column {
	var out []api.Column
	for i, name := range names {
		out = append(out, api.Column{Name: name, Kind: api.Int + i%2})
	}
	return out
}

func integer(n int64) api.Value { return api.Value{Kind: api.Int, Int: n} }

func texted(s string) api.Value { return api.Value{Kind: api.Text, Text: s} }

// same: are two tables alike, an empty list and none being alike too?
func same(a, b Table) bool {
	return a.Id == b.Id && a.Name == b.Name && a.Indexed == b.Indexed && slices.Equal(a.Columns, b.Columns) && slices.Equal(a.Keys, b.Keys)
}

func isZero(t Table) bool { return reflect.DeepEqual(t, Table{}) }

var (
	longest  = strings.Repeat("n", 24)
	tooLong  = strings.Repeat("n", 25)
	eight    = []string{"a", "b", "c", "d", "e", "f", "g", "h"}
	nine     = append(slices.Clone(eight), "i")
	anyBytes = "\x00\xff '"
)

// P16.1
func TestCheck(t *testing.T) {
	wrongKind := func(kind int) []api.Column { return []api.Column{{Name: "A", Kind: api.Int}, {Name: "B", Kind: kind}} }
	cases := []struct {
		name string
		t    Table
		want api.Errno
	}{
		{"one column", Table{Name: "T", Columns: columns("A")}, api.OK},
		{"a key", Table{Name: "T", Columns: columns("A"), Keys: []string{"A"}}, api.OK},
		{"a table and a column of one name", Table{Name: "A", Columns: columns("A", "B"), Keys: []string{"B", "A"}}, api.OK},
		{"eight columns", Table{Name: "T", Columns: columns(eight...), Keys: eight}, api.OK},
		{"names of 24 bytes", Table{Name: longest, Columns: columns(longest, "a"), Keys: []string{longest}}, api.OK},
		{"names of any bytes", Table{Name: anyBytes, Columns: columns(anyBytes, "SELECT", " "), Keys: []string{anyBytes}}, api.OK},
		{"capitals matter", Table{Name: "T", Columns: columns("a", "A")}, api.OK},
		{"Id and Indexed don't matter", Table{Id: -7, Name: "T", Columns: columns("A"), Indexed: true}, api.OK},
		{"a great Id", Table{Id: math.MaxInt, Name: "T", Columns: columns("A")}, api.OK},

		{"no name", Table{Columns: columns("A")}, api.ErrName},
		{"a long name", Table{Name: tooLong, Columns: columns("A")}, api.ErrName},
		{"a name of 24 characters, but more bytes", Table{Name: strings.Repeat("é", 13), Columns: columns("A")}, api.ErrName},
		{"a column without a name", Table{Name: "T", Columns: columns("A", "")}, api.ErrName},
		{"a column with a long name", Table{Name: "T", Columns: columns(tooLong)}, api.ErrName},
		{"no columns", Table{Name: "T"}, api.ErrRange},
		{"no columns, but a list", Table{Name: "T", Columns: []api.Column{}}, api.ErrRange},
		{"nine columns", Table{Name: "T", Columns: columns(nine...)}, api.ErrRange},
		{"no kind", Table{Name: "T", Columns: wrongKind(0)}, api.ErrKind},
		{"kind 3", Table{Name: "T", Columns: wrongKind(3)}, api.ErrKind},
		{"kind -1", Table{Name: "T", Columns: wrongKind(-1)}, api.ErrKind},
		{"kind 2^32 + 1", Table{Name: "T", Columns: wrongKind(1<<32 + 1)}, api.ErrKind},
		{"two columns of one name", Table{Name: "T", Columns: columns("A", "B", "A")}, api.ErrTwice},
		{"two columns of one name and kind", Table{Name: "T", Columns: []api.Column{{Name: "A", Kind: 1}, {Name: "A", Kind: 1}}}, api.ErrTwice},
		{"a key told twice", Table{Name: "T", Columns: columns("A", "B"), Keys: []string{"A", "B", "A"}}, api.ErrTwice},
		{"a key that is no column", Table{Name: "T", Columns: columns("A"), Keys: []string{"B"}}, api.ErrColumn},
		{"a key without a name", Table{Name: "T", Columns: columns("A"), Keys: []string{""}}, api.ErrColumn},
		{"a long key", Table{Name: "T", Columns: columns("A"), Keys: []string{"A", tooLong}}, api.ErrColumn},
		{"the table's name as a key", Table{Name: "T", Columns: columns("A"), Keys: []string{"T"}}, api.ErrColumn},
		{"a key in small letters", Table{Name: "T", Columns: columns("A"), Keys: []string{"a"}}, api.ErrColumn},

		{"the zero table", Table{}, api.ErrName},
		{"a name ahead of the count", Table{Columns: nil}, api.ErrName},
		{"the ninth column's name ahead of the count", Table{Name: "T", Columns: columns(append(slices.Clone(eight), "")...)}, api.ErrName},
		{"a column's name ahead of kinds", Table{Name: "T", Columns: []api.Column{{Name: "A"}, {Name: "", Kind: 1}}}, api.ErrName},
		{"the count ahead of kinds", Table{Name: "T", Columns: slices.Repeat([]api.Column{{Name: "A"}}, 9)}, api.ErrRange},
		{"the count ahead of names told twice", Table{Name: "T", Columns: slices.Repeat(columns("A"), 9)}, api.ErrRange},
		{"the count ahead of keys", Table{Name: "T", Keys: []string{"A", "A"}}, api.ErrRange},
		{"kinds ahead of names told twice", Table{Name: "T", Columns: []api.Column{{Name: "A"}, {Name: "A"}}}, api.ErrKind},
		{"kinds ahead of keys", Table{Name: "T", Columns: []api.Column{{Name: "A"}}, Keys: []string{"B", "B"}}, api.ErrKind},
		{"columns told twice ahead of wrong keys", Table{Name: "T", Columns: columns("A", "A"), Keys: []string{"B"}}, api.ErrTwice},
		{"wrong keys told twice", Table{Name: "T", Columns: columns("A"), Keys: []string{"B", "C", "B"}}, api.ErrTwice},
		{"a wrong key, then one told twice", Table{Name: "T", Columns: columns("A"), Keys: []string{"B", "A", "A"}}, api.ErrTwice},
	}
	for _, c := range cases {
		if got := Check(c.t); got != c.want {
			t.Errorf("%s: %v, want %v", c.name, got, c.want)
		}
		// Create tells the same, and what is right by Check goes in.
		n, e := New().Create(c.t.Name, c.t.Columns, c.t.Keys...)
		if e != c.want || (e == api.OK) != (n == 1) || n > 1 {
			t.Errorf("%s: Create: %d %v, want %v", c.name, n, e, c.want)
		}
	}
}

// P1: very many columns and keys.
func TestCheckOfMany(t *testing.T) {
	var names []string
	for i := range 300000 {
		names = append(names, strconv.Itoa(i*7919%1000003))
	}
	if e := Check(Table{Name: "T", Columns: columns("1"), Keys: names}); e != api.ErrColumn {
		t.Errorf("many keys: %v", e)
	}
	if e := Check(Table{Name: "T", Columns: columns("1"), Keys: append(names, names[7])}); e != api.ErrTwice {
		t.Errorf("many keys, one of them twice: %v", e)
	}
	if e := Check(Table{Name: "T", Columns: columns(names...)}); e != api.ErrRange {
		t.Errorf("many columns: %v", e)
	}
	if e := Check(Table{Name: "T", Columns: columns(append(names, "")...)}); e != api.ErrName {
		t.Errorf("many columns, the last without a name: %v", e)
	}
	if _, e := Read(Row(Table{Id: 1, Name: "T", Columns: columns("1"), Keys: names})); e != api.ErrForm {
		t.Errorf("a long row: %v", e)
	}
}

// P16.1
func TestColumn(t *testing.T) {
	x := Table{Name: "T", Columns: columns("A", "B", "a", "B", ""), Keys: []string{"B", "T", "a", "B", "", "A", "AB"}}
	for name, want := range map[string]int{"A": 0, "B": 1, "a": 2, "": 4, "T": -1, "AB": -1, "b": -1, "\xff": -1} {
		if got := x.Column(name); got != want {
			t.Errorf("Column(%q): %d, want %d", name, got, want)
		}
	}
	if got := x.Places(); !slices.Equal(got, []int{1, -1, 2, 1, 4, 0, -1}) {
		t.Errorf("Places: %v", got)
	}
	if (Table{}).Column("") != -1 || len(Table{}.Places()) != 0 || len(Table{Columns: columns("A")}.Places()) != 0 {
		t.Error("a table without columns or keys")
	}
}

// P16.2 and P16.3
func TestCatalog(t *testing.T) {
	c := New()
	if len(c.Tables()) != 0 {
		t.Error("a new catalog has tables")
	}
	if x, e := c.Find("T"); !isZero(x) || e != api.ErrTable {
		t.Errorf("Find in a new catalog: %v %v", x, e)
	}
	if e := c.Index("T"); e != api.ErrTable {
		t.Errorf("Index in a new catalog: %v", e)
	}
	if n, e := c.Create("T", columns("A", "B"), "B", "A"); n != 1 || e != api.OK {
		t.Errorf("the first: %d %v", n, e)
	}
	if n, e := c.Create("t", columns("A")); n != 2 || e != api.OK {
		t.Errorf("the second: %d %v", n, e)
	}
	first := Table{Id: 1, Name: "T", Columns: columns("A", "B"), Keys: []string{"B", "A"}}
	second := Table{Id: 2, Name: "t", Columns: columns("A")}
	if x, e := c.Find("T"); !same(x, first) || e != api.OK {
		t.Errorf("Find: %v %v", x, e)
	}
	if x, e := c.Find("t"); !same(x, second) || e != api.OK {
		t.Errorf("Find: %v %v", x, e)
	}
	if n, e := c.Create("T", columns("C")); n != 0 || e != api.ErrTwice {
		t.Errorf("the first again: %d %v", n, e)
	}
	if n, e := c.Create("T", columns("C"), "D"); n != 0 || e != api.ErrColumn {
		t.Errorf("the first again, with a wrong key: %d %v", n, e)
	}
	if e := c.Index("t"); e != api.OK {
		t.Errorf("Index: %v", e)
	}
	second.Indexed = true
	if e := c.Index("t"); e != api.ErrTwice {
		t.Errorf("Index again: %v", e)
	}
	for _, name := range []string{"", "U", "\xff", tooLong} {
		if e := c.Index(name); e != api.ErrTable {
			t.Errorf("Index(%q): %v", name, e)
		}
		if x, e := c.Find(name); !isZero(x) || e != api.ErrTable {
			t.Errorf("Find(%q): %v %v", name, x, e)
		}
	}
	if got := c.Tables(); !slices.EqualFunc(got, []Table{first, second}, same) {
		t.Errorf("Tables: %v", got)
	}
}

// filled is a catalog with as many tables as there may be.
func filled(t *testing.T) *Catalog {
	c := New()
	for i := range 16 {
		// Names fall, so that they stand otherwise than the numbers.
		if n, e := c.Create(strings.Repeat("Z", 17-i), columns("A"), "A"); n != i+1 || e != api.OK {
			t.Fatalf("the table %d: %d %v", i+1, n, e)
		}
	}
	return c
}

// P16.2: sixteen tables, and no more; which error is told first.
func TestFullCatalog(t *testing.T) {
	if MaxTables != 16 {
		t.Error("MaxTables")
	}
	c := filled(t)
	before := c.Tables()
	for i, x := range before {
		if x.Id != i+1 || x.Name != strings.Repeat("Z", 17-i) {
			t.Errorf("the table %d: %v", i+1, x)
		}
	}
	for _, wrong := range []struct {
		name    string
		columns []api.Column
		want    api.Errno
	}{
		{"Y", columns("A"), api.ErrFull}, {"ZZ", columns("A"), api.ErrTwice}, {"ZZ", nil, api.ErrRange}, {"Y", columns(""), api.ErrName}, {"", columns("A"), api.ErrName},
	} {
		if n, e := c.Create(wrong.name, wrong.columns); n != 0 || e != wrong.want {
			t.Errorf("Create(%q) in a full catalog: %d %v, want %v", wrong.name, n, e, wrong.want)
		}
	}
	if !slices.EqualFunc(c.Tables(), before, same) {
		t.Error("a refused Create has changed something")
	}
	if c.Index("ZZ") != api.OK {
		t.Error("Index in a full catalog")
	}
}

// P16.3
func TestFork(t *testing.T) {
	c := New()
	c.Create("T", columns("A"), "A")
	c.Create("U", columns("A"))
	c.Index("U")
	d := c.Fork()
	if !slices.EqualFunc(c.Tables(), d.Tables(), same) {
		t.Errorf("the fork has %v", d.Tables())
	}
	if n, e := d.Create("V", columns("B")); n != 3 || e != api.OK {
		t.Errorf("Create in the fork: %d %v", n, e)
	}
	if n, e := c.Create("W", columns("C", "D")); n != 3 || e != api.OK {
		t.Errorf("Create in the first: %d %v", n, e)
	}
	if d.Index("T") != api.OK || d.Index("U") != api.ErrTwice || c.Index("W") != api.OK {
		t.Error("Index")
	}
	want := []Table{{Id: 1, Name: "T", Columns: columns("A"), Keys: []string{"A"}}, {Id: 2, Name: "U", Columns: columns("A"), Indexed: true}, {Id: 3, Name: "W", Columns: columns("C", "D"), Indexed: true}}
	if !slices.EqualFunc(c.Tables(), want, same) {
		t.Errorf("the first has %v", c.Tables())
	}
	want[0].Indexed = true
	want[2] = Table{Id: 3, Name: "V", Columns: columns("B")}
	if !slices.EqualFunc(d.Tables(), want, same) {
		t.Errorf("the fork has %v", d.Tables())
	}
	if f := New().Fork(); len(f.Tables()) != 0 {
		t.Error("the fork of a new one has tables")
	}
	full := filled(t).Fork()
	if n, e := full.Create("Y", columns("A")); n != 0 || e != api.ErrFull {
		t.Errorf("Create in the fork of a full one: %d %v", n, e)
	}
}

// P16.2 and P16.3, with calls as the dice fall, held against lists.
func TestThrownCalls(t *testing.T) {
	x := dice(16)
	for range 200 {
		catalogs := []*Catalog{New()}
		lists := [][]Table{nil}
		for range 80 {
			i := x.below(len(catalogs))
			c, list := catalogs[i], slices.Clone(lists[i])
			name := strings.Repeat("n", x.below(20))
			at := slices.IndexFunc(list, func(t Table) bool { return t.Name == name })
			switch x.below(6) {
			case 0, 1, 2:
				cols, keys := columns(nine[:x.below(10)]...), nine[:x.below(3)]
				want := Check(Table{Name: name, Columns: cols, Keys: keys})
				switch {
				case want != api.OK:
				case at >= 0:
					want = api.ErrTwice
				case len(list) == 16:
					want = api.ErrFull
				default:
					list = append(list, Table{Id: len(list) + 1, Name: name, Columns: cols, Keys: keys})
				}
				n, e := c.Create(name, cols, keys...)
				if e != want || e == api.OK && n != len(list) || e != api.OK && n != 0 {
					t.Fatalf("Create(%q): %d %v, want %v", name, n, e, want)
				}
			case 3, 4:
				want := api.OK
				switch {
				case at < 0:
					want = api.ErrTable
				case list[at].Indexed:
					want = api.ErrTwice
				default:
					list[at].Indexed = true
				}
				if e := c.Index(name); e != want {
					t.Fatalf("Index(%q): %v, want %v", name, e, want)
				}
			default:
				if len(catalogs) < 4 {
					catalogs, lists = append(catalogs, c.Fork()), append(lists, list)
				}
			}
			lists[i] = list
			for j, c := range catalogs {
				if got := c.Tables(); !slices.EqualFunc(got, lists[j], same) {
					t.Fatalf("Tables: %v, want %v", got, lists[j])
				}
			}
		}
	}
}

// P16.4
func TestRow(t *testing.T) {
	cases := []struct {
		t    Table
		want []api.Value
	}{
		{Table{Id: 1, Name: "T", Columns: columns("A"), Keys: []string{"A"}}, []api.Value{integer(1), texted("T"), integer(0), integer(1), texted("A"), integer(1), texted("A")}},
		{Table{Id: 16, Name: "U", Columns: columns("A", "B"), Indexed: true}, []api.Value{integer(16), texted("U"), integer(1), integer(2), texted("A"), integer(1), texted("B"), integer(2)}},
		{Table{Id: 2, Name: "U", Columns: columns("A", "B"), Keys: []string{"B", "A"}}, []api.Value{integer(2), texted("U"), integer(0), integer(2), texted("A"), integer(1), texted("B"), integer(2), texted("B"), texted("A")}},
		{Table{}, []api.Value{integer(0), texted(""), integer(0), integer(0)}},
		{Table{Id: math.MinInt, Name: tooLong, Columns: []api.Column{{Name: "\xff", Kind: -9}}, Keys: []string{"x", "x", ""}}, []api.Value{integer(math.MinInt), texted(tooLong), integer(0), integer(1), texted("\xff"), integer(-9), texted("x"), texted("x"), texted("")}},
	}
	for _, c := range cases {
		if got := Row(c.t); !slices.Equal(got, c.want) {
			t.Errorf("Row of %v: %v, want %v", c.t, got, c.want)
		}
	}
}

// P16.4: each right table is read again.
func TestReadOfRows(t *testing.T) {
	for id := 1; id <= 16; id++ {
		for n := 1; n <= 8; n++ {
			for _, keys := range [][]string{nil, eight[:1], eight[:n], {eight[n-1]}} {
				for _, indexed := range []bool{false, true} {
					x := Table{Id: id, Name: longest, Columns: columns(eight[:n]...), Keys: keys, Indexed: indexed}
					if got, e := Read(Row(x)); e != api.OK || !same(got, x) {
						t.Errorf("Read of the row of %v: %v %v", x, got, e)
					}
				}
			}
		}
	}
}

// P16.4: what is no row of a right table.
func TestWrongRows(t *testing.T) {
	right := Table{Id: 3, Name: "T", Columns: columns("A", "B", "C"), Keys: []string{"B", "C"}, Indexed: true}
	row := Row(right)
	wrong := func(what string, row []api.Value) {
		t.Helper()
		if x, e := Read(row); !isZero(x) || e != api.ErrForm {
			t.Errorf("%s: %v %v", what, x, e)
		}
	}
	wrong("nothing", nil)
	for n := range row {
		// Without its last keys it is the row of a table with fewer.
		if n < 10 {
			wrong("a row that is cut", row[:n])
		} else if x, e := Read(row[:n]); e != api.OK || len(x.Keys) != n-10 {
			t.Errorf("a row without the last keys: %v %v", x, e)
		}
	}
	for _, behind := range []api.Value{integer(1), texted("B"), texted("D"), texted(""), {}, {Kind: 3, Text: "A"}, {Kind: api.Int, Text: "A"}} {
		wrong("a value behind it", append(slices.Clone(row), behind))
	}
	if x, e := Read(append(slices.Clone(row), texted("A"))); e != api.OK || !slices.Equal(x.Keys, []string{"B", "C", "A"}) {
		t.Errorf("a key behind it: %v %v", x, e)
	}
	for i, v := range row {
		for _, w := range []api.Value{
			{}, {Kind: 3, Int: v.Int, Text: v.Text}, {Kind: -1, Int: v.Int, Text: v.Text}, {Kind: v.Kind, Int: v.Int, Text: v.Text + tooLong}, {Kind: 3 - v.Kind, Int: v.Int, Text: v.Text}, {Kind: v.Kind, Int: v.Int + 1<<32, Text: v.Text},
			{Kind: v.Kind, Int: v.Int + math.MinInt64, Text: v.Text}, {Kind: v.Kind, Int: -1, Text: v.Text}, {Kind: api.Int, Int: v.Int + 1, Text: v.Text + "x"}, {Kind: api.Text, Int: v.Int + 1, Text: v.Text},
		} {
			changed := slices.Clone(row)
			changed[i] = w
			wrong("the value "+strconv.Itoa(i)+" changed", changed)
		}
	}
	at := func(i int, v api.Value) []api.Value {
		changed := slices.Clone(row)
		changed[i] = v
		return changed
	}
	for _, n := range []int64{0, -1, 17, 18, math.MaxInt64, math.MinInt64, 1 << 32, 1<<32 + 3} {
		wrong("the Id "+strconv.FormatInt(n, 10), at(0, integer(n)))
	}
	for _, n := range []int64{2, -1, 256, math.MaxInt64, 1<<32 + 1} {
		wrong("Indexed "+strconv.FormatInt(n, 10), at(2, integer(n)))
	}
	for _, n := range []int64{0, 1, 2, 4, 5, 8, 9, -1, -3, math.MaxInt64, math.MinInt64, 1 << 62, 1<<63 - 2, 1<<32 + 3} {
		wrong(strconv.FormatInt(n, 10)+" columns", at(3, integer(n)))
	}
	wrong("no name", at(1, texted("")))
	wrong("a long name", at(1, texted(tooLong)))
	wrong("two columns of one name", at(4, texted("B")))
	wrong("a key twice", at(11, texted("B")))
	wrong("a key that is no column", at(11, texted("D")))
	wrong("kind 3", at(5, integer(3)))
	wrong("nine columns", Row(Table{Id: 1, Name: "T", Columns: columns(nine...)}))
	wrong("no columns", Row(Table{Id: 1, Name: "T"}))
	wrong("no columns, but keys", Row(Table{Id: 1, Name: "T", Keys: []string{"A"}}))
}

// P16.4, with rows of any values: what Read answers is right, and has that row.
func TestThrownRows(t *testing.T) {
	x := dice(164)
	values := []api.Value{integer(0), integer(1), integer(1), integer(2), integer(3), texted("A"), texted("B"), texted("C"), texted("D"), texted(""), {}, {Kind: api.Int, Text: "A"}}
	read := 0
	for range 200000 {
		row := []api.Value{integer(1), texted("T"), integer(int64(x.below(2))), integer(int64(x.below(3)))}
		for i := range 2 * int(row[3].Int) {
			row = append(row, values[(i+1)%2*5+x.below(4)])
		}
		for range x.below(3) {
			row = append(row, values[5+x.below(5)])
		}
		if x.below(4) == 0 {
			row[x.below(len(row))] = values[x.below(len(values))]
		}
		got, e := Read(row)
		if e == api.OK {
			read++
		}
		if e == api.OK && (got.Id < 1 || got.Id > 16 || Check(got) != api.OK || !slices.Equal(Row(got), row)) || e != api.OK && (e != api.ErrForm || !isZero(got)) {
			t.Fatalf("Read(%v): %v %v", row, got, e)
		}
	}
	if read < 1000 {
		t.Errorf("%d rows were right", read)
	}
}

// P2, rule 4: what is handed in is neither changed nor kept, and answers share nothing with it, each other or what is kept.
func TestMemory(t *testing.T) {
	cols := append(make([]api.Column, 0, 20), columns("A", "B", "C")...)
	keys := append(make([]string, 0, 20), "C", "A")
	want := Table{Id: 1, Name: "T", Columns: columns("A", "B", "C"), Keys: []string{"C", "A"}}
	c := New()
	if _, e := c.Create("T", cols, keys...); e != api.OK {
		t.Fatal(e)
	}
	if !slices.Equal(cols, want.Columns) || !slices.Equal(keys, want.Keys) || !slices.Equal(keys[:3], []string{"C", "A", ""}) {
		t.Error("Create has changed what it was handed")
	}
	clear(cols[:20])
	clear(keys[:20])
	fork := c.Fork()
	found, _ := c.Find("T")
	other, _ := c.Find("T")
	list := c.Tables()
	for _, x := range []Table{found, list[0]} {
		clear(x.Columns[:cap(x.Columns)])
		clear(x.Keys[:cap(x.Keys)])
	}
	clear(list[:cap(list)])
	again, _ := c.Find("T")
	forked, _ := fork.Find("T")
	for i, x := range []Table{other, again, forked, c.Tables()[0], fork.Tables()[0]} {
		if !same(x, want) {
			t.Errorf("%d: %v", i, x)
		}
	}
	row := append(make([]api.Value, 0, 40), Row(want)...)
	kept := slices.Clone(row)
	x, _ := Read(row)
	clear(row[:40])
	second, _ := Read(kept)
	clear(second.Columns[:cap(second.Columns)])
	clear(second.Keys[:cap(second.Keys)])
	if !same(x, want) || !slices.Equal(kept, Row(want)) {
		t.Errorf("Read: %v, %v", x, kept)
	}
	first := Row(want)
	clear(first[:cap(first)])
	places := want.Places()
	clear(places[:cap(places)])
	if !same(x, want) || !slices.Equal(Row(want), kept) || !slices.Equal(want.Places(), []int{2, 0}) {
		t.Error("Row or Places shares memory")
	}
	unsorted := []string{"B", "A"}
	if e := Check(Table{Name: "T", Columns: columns("B", "A"), Keys: unsorted}); e != api.OK || unsorted[0] != "B" {
		t.Errorf("Check: %v, and the keys are %v", e, unsorted)
	}
}

// P2, rule 3: a refused call has changed nothing, and none but Index and Create changes anything.
func TestRefusedCalls(t *testing.T) {
	c := New()
	c.Create("T", columns("A"), "A")
	c.Create("U", columns("A"))
	c.Index("T")
	before := c.Tables()
	c.Create("T", columns("B"))
	c.Create("V", nil)
	c.Create("V", columns("A"), "B")
	c.Create("", columns("A"))
	c.Index("T")
	c.Index("V")
	c.Find("V")
	c.Fork().Index("U")
	if !slices.EqualFunc(c.Tables(), before, same) {
		t.Errorf("%v, want %v", c.Tables(), before)
	}
	if n, e := c.Create("V", columns("A")); n != 3 || e != api.OK {
		t.Errorf("the third: %d %v", n, e)
	}
}
