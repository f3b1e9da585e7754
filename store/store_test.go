package store

import (
	"math"
	"reflect"
	"slices"
	"strings"
	"testing"

	"annals/api"
	"annals/codec"
	"annals/disk"
	"annals/heap"
	"annals/trail"
	"annals/wal"
)

const forever = api.Forever

func text(s string) api.Value { return api.Value{Kind: api.Text, Text: s} }

func fact(from, to int64, row ...api.Value) api.Fact {
	return api.Fact{Row: row, Period: api.Period{From: from, To: to}}
}

func newDisk(t *testing.T, sectors int) *disk.Disk {
	t.Helper()
	d, e := disk.New(sectors)
	if e != api.OK {
		t.Fatalf("disk.New(%d): %v", sectors, e)
	}
	return d
}

func reopened(t *testing.T, d *disk.Disk, logs, frames int) *Store {
	t.Helper()
	s, e := Open(d, logs, frames)
	if s == nil || e != api.OK {
		t.Fatalf("Open(%d, %d): %v", logs, frames, e)
	}
	return s
}

func fresh(t *testing.T, sectors, logs, frames int) (*disk.Disk, *Store) {
	t.Helper()
	d := newDisk(t, sectors)
	return d, reopened(t, d, logs, frames)
}

func expect(t *testing.T, what string, got, want api.Errno) {
	t.Helper()
	if got != want {
		t.Errorf("%s: %v, want %v", what, got, want)
	}
}

func sameFacts(a, b api.Fact) bool { return slices.Equal(a.Row, b.Row) && a.Period == b.Period }

func sameItems(a, b []Item) bool {
	return slices.EqualFunc(a, b, func(x, y Item) bool {
		return x.Rid == y.Rid && sameFacts(x.Fact, y.Fact) && x.Since == y.Since && x.Until == y.Until
	})
}

func items(t *testing.T, what string, got []Item, want ...Item) {
	t.Helper()
	if !sameItems(got, want) {
		t.Errorf("%s: %v, want %v", what, got, want)
	}
}

// bytesOf is what codec makes of some values, whether a store would or not.
func bytesOf(t *testing.T, values ...api.Value) []byte {
	t.Helper()
	b, e := codec.Encode(values...)
	if e != api.OK {
		t.Fatalf("Encode of %v: %v", values, e)
	}
	return b
}

// found is what a disk tells of all its sectors.
func found(d *disk.Disk) [][]byte {
	var out [][]byte
	for i := range d.Sectors() {
		b, _ := d.Read(i)
		out = append(out, b)
	}
	return out
}

// sameDisks: do two disks tell the same, now and behind a crash that loses what is pending?
func sameDisks(a, b *disk.Disk) bool {
	if a.Pending() != b.Pending() || !reflect.DeepEqual(found(a), found(b)) {
		return false
	}
	f, g := a.Fork(), b.Fork()
	f.Crash(nil, -1, 0)
	g.Crash(nil, -1, 0)
	return reflect.DeepEqual(found(f), found(g))
}

// heaped: a disk with a heap of versions with these data, added by one transaction with a stamp.
func heaped(t *testing.T, stamp int64, data ...[]byte) *disk.Disk {
	t.Helper()
	d := newDisk(t, 20)
	h, _, e := heap.Open(d, 12, 3)
	if e != api.OK {
		t.Fatal(e)
	}
	txn := h.Begin()
	for _, b := range data {
		if _, e := h.Add(txn, b); e != api.OK {
			t.Fatalf("Add of %v: %v", b, e)
		}
	}
	if e := h.Commit(txn, stamp); e != api.OK {
		t.Fatal(e)
	}
	return d
}

// said is what the log of a disk says.
func said(t *testing.T, d *disk.Disk, logs int) []trail.Entry {
	t.Helper()
	_, records, _ := wal.Open(d.Fork(), 0, logs)
	var out []trail.Entry
	for _, r := range records {
		e, bad := trail.Decode(r.Data)
		if bad != api.OK {
			t.Fatalf("the log has %v: %v", r, bad)
		}
		out = append(out, e)
	}
	return out
}

// P21.1: how a fact lies in the heap, and that it is read from there.
func TestFactsAsVersions(t *testing.T) {
	d, s := fresh(t, 20, 12, 3)
	parts := []Part{
		{0, fact(0, forever, number(1), text("T"), number(-1))},
		{7, fact(3, 9)},
		{math.MaxInt, fact(forever-1, forever, text("a\x00b"), text(""), number(math.MinInt64), number(math.MaxInt64))},
	}
	expect(t, "Write", s.Write(4, nil, parts...), api.OK)
	h, _, e := heap.Open(d.Fork(), 12, 1)
	if e != api.OK {
		t.Fatal(e)
	}
	got := h.All()
	if len(got) != len(parts) {
		t.Fatalf("versions: %v", got)
	}
	for i, p := range parts {
		head := []api.Value{number(int64(p.Table)), number(p.Fact.Period.From), number(p.Fact.Period.To)}
		if want := bytesOf(t, append(head, p.Fact.Row...)...); !slices.Equal(got[i].Data, want) || got[i].Begin != 1 || got[i].End != 0 {
			t.Errorf("the version of %v: %v, want %v", p, got[i], want)
		}
	}
	made := heaped(t, 9, got[1].Data, got[0].Data)
	r := reopened(t, made, 12, 1)
	items(t, "what a heap tells", r.History(-1),
		Item{heap.Rid{Page: 0, Slot: 0}, parts[1].Fact, 9, 0}, Item{heap.Rid{Page: 0, Slot: 1}, parts[0].Fact, 9, 0})
	items(t, "of one table", r.History(7), Item{heap.Rid{Page: 0, Slot: 0}, parts[1].Fact, 9, 0})
	if r.Last() != 9 {
		t.Errorf("Last: %d", r.Last())
	}
}

// P21.1: heap.Open's errors.
func TestOpenAsHeap(t *testing.T) {
	for _, c := range []struct{ logs, frames int }{
		{0, 1}, {-1, 1}, {8, 1}, {9, 1}, {4, 0}, {4, -1}, {4, api.MaxSectors + 1}, {math.MaxInt, 1}, {math.MinInt, 1}, {4, math.MaxInt}, {4, math.MinInt},
	} {
		d := newDisk(t, 8)
		d.Write(2, slices.Repeat([]byte{7}, api.SectorSize))
		before := d.Fork()
		if s, e := Open(d, c.logs, c.frames); s != nil || e != api.ErrRange {
			t.Errorf("Open(%d, %d): %v %v", c.logs, c.frames, s, e)
		}
		if !sameDisks(d, before) {
			t.Errorf("Open(%d, %d) was refused and changed the disk", c.logs, c.frames)
		}
	}
	for _, c := range []struct{ logs, frames int }{{1, 1}, {7, api.MaxSectors}, {4, 2}} {
		if s := reopened(t, newDisk(t, 8), c.logs, c.frames); s.Last() != 0 || len(s.History(-1)) != 0 {
			t.Errorf("Open(%d, %d): %d %v", c.logs, c.frames, s.Last(), s.History(-1))
		}
	}
	d := newDisk(t, 8)
	l, _, _ := wal.Open(d, 0, 4)
	l.Append([]byte("no entry"))
	l.Flush()
	if s, e := Open(d, 4, 1); s != nil || e != api.ErrForm {
		t.Errorf("Open of a log that says nothing: %v %v", s, e)
	}
}

// P21.1: ErrForm, if a version isn't that of a fact.
func TestOpenForm(t *testing.T) {
	right := bytesOf(t, number(0), number(3), number(9), text("x"))
	for _, c := range []struct {
		name string
		data []byte
	}{
		{"nothing", nil},
		{"no values", []byte("abc")},
		{"a number alone", bytesOf(t, number(1))},
		{"without an end", bytesOf(t, number(1), number(3))},
		{"a table below 0", bytesOf(t, number(-1), number(3), number(9))},
		{"the least table", bytesOf(t, number(math.MinInt64), number(3), number(9))},
		{"a table that is a text", bytesOf(t, text("1"), number(3), number(9))},
		{"a beginning that is a text", bytesOf(t, number(1), text(""), number(9))},
		{"an end that is a text", bytesOf(t, number(1), number(3), text("9"))},
		{"an empty period", bytesOf(t, number(1), number(3), number(3), number(7))},
		{"a period turned about", bytesOf(t, number(1), number(9), number(3))},
		{"a period from below 0", bytesOf(t, number(1), number(-1), number(3))},
		{"a period beyond the end of time", bytesOf(t, number(1), number(3), number(forever+1))},
		{"something behind", append(slices.Clone(right), 1)},
		{"a text that isn't ended", right[:len(right)-1]},
		{"no kind", append(slices.Clone(right), 3)},
	} {
		for _, list := range [][][]byte{{c.data}, {right, c.data}, {c.data, right}} {
			d := heaped(t, 5, list...)
			d.Write(3, slices.Repeat([]byte{7}, api.SectorSize))
			before := d.Fork()
			if s, e := Open(d, 12, 2); s != nil || e != api.ErrForm {
				t.Errorf("%s: %v %v", c.name, s, e)
			}
			if !sameDisks(d, before) {
				t.Errorf("%s: refused, and the disk changed", c.name)
			}
		}
	}
	reopened(t, heaped(t, 5, right), 12, 2)
}

// P21.1: an ended version counts, one of a lost transaction doesn't.
func TestOpenFormOfOthers(t *testing.T) {
	d := heaped(t, 5, []byte("no fact"))
	h, _, _ := heap.Open(d, 12, 2)
	txn := h.Begin()
	expect(t, "End", h.End(txn, heap.Rid{}), api.OK)
	expect(t, "Commit", h.Commit(txn, 6), api.OK)
	if s, e := Open(d, 12, 2); s != nil || e != api.ErrForm {
		t.Errorf("Open with a wrong version that has ended: %v %v", s, e)
	}
	right := bytesOf(t, number(1), number(3), number(9))
	d = heaped(t, 5, right)
	h, _, _ = heap.Open(d, 12, 2)
	lost := h.Begin()
	if _, e := h.Add(lost, []byte("no fact")); e != api.OK {
		t.Fatal(e)
	}
	expect(t, "End", h.End(lost, heap.Rid{}), api.OK)
	next := h.Begin()
	expect(t, "Commit", h.Commit(next, 6), api.OK)
	s := reopened(t, d, 12, 2)
	items(t, "History", s.History(-1), Item{heap.Rid{}, fact(3, 9), 5, 0})
	expect(t, "Write that ends what a lost one had ended", s.Write(7, []heap.Rid{{}}), api.OK)
	items(t, "History", s.History(-1), Item{heap.Rid{}, fact(3, 9), 5, 7})
}

// P21.1: Last, also of an empty transaction and of the stamp 0, which a heap takes.
func TestLast(t *testing.T) {
	d, s := fresh(t, 20, 12, 3)
	for _, stamp := range []int64{1, 2, 9, forever} {
		expect(t, "Write", s.Write(stamp, nil), api.OK)
		if s.Last() != stamp || reopened(t, d.Fork(), 12, 1).Last() != stamp {
			t.Errorf("Last behind %d: %d", stamp, s.Last())
		}
	}
	right := bytesOf(t, number(1), number(3), number(9))
	s = reopened(t, heaped(t, 0, right), 12, 2)
	if s.Last() != 0 || s.Write(0, nil) != api.ErrRange {
		t.Errorf("Last of the stamp 0: %d", s.Last())
	}
	items(t, "See at 0", s.See(1, 0), Item{heap.Rid{}, fact(3, 9), 0, 0})
	items(t, "See below", s.See(1, -1))
	expect(t, "Write", s.Write(1, []heap.Rid{{}}), api.OK)
	items(t, "See behind", s.See(1, 1))
}

// P21.2
func TestCheck(t *testing.T) {
	_, s := fresh(t, 20, 12, 3)
	long := strings.Repeat("x", 64)
	full := []api.Value{text(long), text(long), text(long[:20])}
	for _, c := range []struct {
		name  string
		table int
		f     api.Fact
		want  api.Errno
	}{
		{"a fact", 1, fact(3, 9, number(7)), api.OK},
		{"of the first table", 0, fact(0, forever), api.OK},
		{"of the last table", math.MaxInt, fact(forever-1, forever, text("x")), api.OK},
		{"a table below 0", -1, fact(3, 9), api.ErrRange},
		{"far below", math.MinInt, fact(3, 9), api.ErrRange},
		{"below 0, without a period", -1, fact(9, 3), api.ErrRange},
		{"no instants", 1, fact(3, 3), api.ErrPeriod},
		{"turned about", 1, fact(9, 3), api.ErrPeriod},
		{"from below 0", 1, fact(-1, 3), api.ErrPeriod},
		{"beyond the end of time", 1, fact(3, forever+1), api.ErrPeriod},
		{"far numbers", 1, fact(math.MinInt64, math.MaxInt64), api.ErrPeriod},
		{"without a period, and of a wrong value", 1, fact(3, 3, api.Value{}), api.ErrPeriod},
		{"no kind", 1, fact(3, 9, api.Value{}), api.ErrKind},
		{"a third kind", 1, fact(3, 9, number(1), api.Value{Kind: 3}), api.ErrKind},
		{"a number with a text", 1, fact(3, 9, api.Value{Kind: 1, Text: "x"}), api.ErrKind},
		{"a text with a number", 1, fact(3, 9, api.Value{Kind: 2, Int: 1}), api.ErrKind},
		{"a long text", 1, fact(3, 9, text(long+"x")), api.ErrLong},
		{"a long text ahead of no kind", 1, fact(3, 9, text(long+"x"), api.Value{}), api.ErrLong},
		{"no kind ahead of a long text", 1, fact(3, 9, api.Value{}, text(long+"x")), api.ErrKind},
		{"184 bytes", 1, fact(3, 9, full...), api.OK},
		{"185 bytes", 1, fact(3, 9, full[0], full[1], text(long[:21])), api.ErrLong},
		{"184 bytes with noughts", 1, fact(3, 9, full[0], full[1], text(strings.Repeat("\x00", 10))), api.OK},
		{"186 bytes with noughts", 1, fact(3, 9, full[0], full[1], text(strings.Repeat("\x00", 11))), api.ErrLong},
		{"too many numbers", 1, fact(3, 9, slices.Repeat([]api.Value{number(1)}, 18)...), api.ErrLong},
		{"many numbers", 1, fact(3, 9, slices.Repeat([]api.Value{number(1)}, 17)...), api.OK},
		{"too many, and the last of no kind", 1, fact(3, 9, append(slices.Repeat([]api.Value{number(1)}, 100000), api.Value{})...), api.ErrKind},
	} {
		expect(t, "Check of "+c.name, s.Check(c.table, c.f), c.want)
		expect(t, "Write of "+c.name, s.Write(s.Last()+1, nil, Part{c.table, c.f}), c.want)
	}
}

// P21.3: the errors, and their order.
func TestWriteErrors(t *testing.T) {
	d, s := fresh(t, 20, 12, 1)
	right, wrong := Part{1, fact(3, 9, number(7))}, Part{1, fact(3, 9, api.Value{})}
	expect(t, "Write", s.Write(3, nil, right, Part{1, fact(0, 1)}, Part{2, fact(0, 1)}), api.OK)
	expect(t, "Write", s.Write(5, []heap.Rid{{Slot: 1}}), api.OK)
	s.History(-1)
	here := []heap.Rid{{}}
	for _, c := range []struct {
		name  string
		stamp int64
		ended []heap.Rid
		added []Part
		want  api.Errno
	}{
		{"a wrong fact", 6, nil, []Part{wrong}, api.ErrKind},
		{"a wrong fact behind a right one", 6, nil, []Part{right, wrong}, api.ErrKind},
		{"the first of two wrong ones", 6, nil, []Part{right, {-1, fact(3, 9)}, wrong}, api.ErrRange},
		{"the first of two others", 6, nil, []Part{{1, fact(9, 3)}, {-1, fact(3, 9)}}, api.ErrPeriod},
		{"a wrong fact ahead of a wrong stamp", 5, []heap.Rid{{Page: 9}}, []Part{wrong}, api.ErrKind},
		{"the last stamp", 5, nil, []Part{right}, api.ErrRange},
		{"an earlier stamp", 4, nil, nil, api.ErrRange},
		{"the stamp 0", 0, nil, []Part{right}, api.ErrRange},
		{"a stamp below 0", -1, nil, nil, api.ErrRange},
		{"the least stamp", math.MinInt64, nil, nil, api.ErrRange},
		{"a stamp beyond the end of time", forever + 1, nil, nil, api.ErrRange},
		{"the greatest stamp", math.MaxInt64, nil, nil, api.ErrRange},
		{"a wrong stamp ahead of a wrong place", 5, []heap.Rid{{Page: 9}}, nil, api.ErrRange},
		{"a place without a version", 6, []heap.Rid{{Slot: 3}}, nil, api.ErrMissing},
		{"a page without versions", 6, []heap.Rid{{Page: 1}}, nil, api.ErrMissing},
		{"no page", 6, []heap.Rid{{Page: 8}}, nil, api.ErrMissing},
		{"a page below 0", 6, []heap.Rid{{Page: -1}}, nil, api.ErrMissing},
		{"a slot below 0", 6, []heap.Rid{{Slot: -1}}, nil, api.ErrMissing},
		{"far places", 6, []heap.Rid{{Page: math.MaxInt, Slot: math.MinInt}}, nil, api.ErrMissing},
		{"a place of one that has ended", 6, []heap.Rid{{Slot: 1}}, []Part{right}, api.ErrMissing},
		{"a right place and a wrong one", 6, []heap.Rid{{}, {Slot: 1}}, nil, api.ErrMissing},
		{"a place twice", 6, []heap.Rid{{}, {}}, nil, api.ErrMissing},
		{"a place twice, with another between", 6, []heap.Rid{{}, {Slot: 2}, {}}, nil, api.ErrMissing},
		{"the place of what would begin", 6, []heap.Rid{{Slot: 3}}, []Part{right}, api.ErrMissing},
		{"too much", 6, here, slices.Repeat([]Part{right}, 1000), api.ErrFull},
		{"a wrong place ahead of too much", 6, []heap.Rid{{Slot: 1}}, slices.Repeat([]Part{right}, 1000), api.ErrMissing},
		{"a wrong fact behind too much", 6, here, append(slices.Repeat([]Part{right}, 1000), wrong), api.ErrKind},
	} {
		before, history, commits := d.Fork(), aside(t, d), s.Commits()
		expect(t, c.name, s.Write(c.stamp, c.ended, c.added...), c.want)
		if !sameDisks(d, before) || s.Last() != 5 || !slices.Equal(s.Commits(), commits) {
			t.Errorf("%s: refused, and something changed", c.name)
		}
		if again := aside(t, d); !sameItems(again, history) {
			t.Errorf("%s: refused, and the history is %v, not %v", c.name, again, history)
		}
	}
	items(t, "History", s.History(-1),
		Item{heap.Rid{}, right.Fact, 3, 0}, Item{heap.Rid{Slot: 1}, fact(0, 1), 3, 5}, Item{heap.Rid{Slot: 2}, fact(0, 1), 3, 0})
	expect(t, "Write behind all these", s.Write(6, here, right), api.OK)
	if c := s.Commits(); c[len(c)-1].Txn != 3 {
		t.Errorf("refused calls used up numbers: %v", c)
	}
}

// aside is what lies on a disk, read from a fork of it, so that the frames of its store stay as they are.
func aside(t *testing.T, d *disk.Disk) []Item {
	t.Helper()
	return reopened(t, d.Fork(), 12, 1).History(-1)
}

// P21.3: a refused call pushes no page out of its frame.
func TestRefusedLeavesFrames(t *testing.T) {
	d, s := fresh(t, 20, 12, 1)
	big := fact(3, 9, text(strings.Repeat("x", 64)), text(strings.Repeat("y", 64)))
	for i := range 4 {
		expect(t, "Write", s.Write(int64(i+1), nil, Part{1, big}), api.OK)
	}
	before := d.Fork()
	expect(t, "Write of a wrong place", s.Write(9, []heap.Rid{{Page: 0}, {Page: 1}, {Page: 2}, {Page: 2}}), api.ErrMissing)
	expect(t, "Write of too much", s.Write(9, []heap.Rid{{Page: 0}, {Page: 1}}, slices.Repeat([]Part{{1, big}}, 9)...), api.ErrFull)
	expect(t, "Check", s.Check(1, big), api.OK)
	s.Last()
	if !sameDisks(d, before) {
		t.Error("a refused Write changed the disk")
	}
}

// P21.3: one transaction, the ends first, in their order, then the facts in theirs.
func TestWriteOrder(t *testing.T) {
	d, s := fresh(t, 20, 12, 3)
	var parts []Part
	for i := range 5 {
		parts = append(parts, Part{i, fact(int64(i), 9, number(int64(i)))})
	}
	expect(t, "Write", s.Write(3, nil, parts...), api.OK)
	expect(t, "Write", s.Write(8, []heap.Rid{{Slot: 3}, {Slot: 0}, {Slot: 1}}, parts[4], parts[2]), api.OK)
	data := func(p Part) []byte {
		return bytesOf(t, append([]api.Value{number(int64(p.Table)), number(p.Fact.Period.From), number(p.Fact.Period.To)}, p.Fact.Row...)...)
	}
	want := []trail.Entry{
		{Kind: trail.Add, Txn: 1, Slot: 0, Data: data(parts[0])},
		{Kind: trail.Add, Txn: 1, Slot: 1, Data: data(parts[1])},
		{Kind: trail.Add, Txn: 1, Slot: 2, Data: data(parts[2])},
		{Kind: trail.Add, Txn: 1, Slot: 3, Data: data(parts[3])},
		{Kind: trail.Add, Txn: 1, Page: 1, Data: data(parts[4])},
		{Kind: trail.Commit, Txn: 1, Stamp: 3},
		{Kind: trail.End, Txn: 2, Slot: 3},
		{Kind: trail.End, Txn: 2, Slot: 0},
		{Kind: trail.End, Txn: 2, Slot: 1},
		{Kind: trail.Add, Txn: 2, Page: 1, Slot: 1, Data: data(parts[4])},
		{Kind: trail.Add, Txn: 2, Page: 1, Slot: 2, Data: data(parts[2])},
		{Kind: trail.Commit, Txn: 2, Stamp: 8},
	}
	same := func(a, b trail.Entry) bool {
		return slices.Equal(a.Data, b.Data) && a.Kind == b.Kind && a.Txn == b.Txn && a.Page == b.Page && a.Slot == b.Slot && a.Stamp == b.Stamp
	}
	if got := said(t, d, 12); !slices.EqualFunc(got, want, same) {
		t.Errorf("the log says %v, want %v", got, want)
	}
}

// P21.3: ErrFull just where the heap's Fits says no.
func TestWriteFull(t *testing.T) {
	seen := map[api.Errno]int{}
	for _, c := range []struct{ sectors, logs int }{{9, 1}, {9, 2}, {9, 3}, {12, 10}, {30, 4}} {
		for added := range 25 {
			for ends := range 3 {
				_, s := fresh(t, c.sectors, c.logs, 2)
				if s.Write(1, nil, Part{1, fact(3, 9)}, Part{1, fact(3, 9)}) != api.OK {
					continue
				}
				var parts []Part
				var sizes []int
				for i := range added {
					p := Part{1, fact(3, 9, text(strings.Repeat("x", i*7%30)))}
					parts, sizes = append(parts, p), append(sizes, 27+3+i*7%30)
				}
				want := api.OK
				if !s.Fits(ends, sizes...) {
					want = api.ErrFull
				}
				seen[want]++
				expect(t, "Write", s.Write(2, []heap.Rid{{}, {Slot: 1}}[:ends], parts...), want)
				if got := len(s.History(1)) - 2; want == api.OK && got != added || want != api.OK && got != 0 {
					t.Errorf("%v: %d facts more of %d", want, got, added)
				}
			}
		}
	}
	if seen[api.OK] < 20 || seen[api.ErrFull] < 20 {
		t.Errorf("%v", seen)
	}
}

// P21.4, and the chapter's examples.
func TestSee(t *testing.T) {
	d, s := fresh(t, 20, 12, 3)
	one, two := fact(3, 9, number(7)), fact(0, forever, text("x"))
	expect(t, "Write", s.Write(3, nil, Part{1, one}, Part{2, two}), api.OK)
	expect(t, "Write", s.Write(5, []heap.Rid{{}}, Part{1, two}), api.OK)
	a, b, c := Item{heap.Rid{}, one, 3, 5}, Item{heap.Rid{Slot: 1}, two, 3, 0}, Item{heap.Rid{Slot: 2}, two, 5, 0}
	for range 2 {
		items(t, "History of 1", s.History(1), a, c)
		items(t, "History of 2", s.History(2), b)
		items(t, "History of 3", s.History(3))
		items(t, "History of 0", s.History(0))
		items(t, "History of all", s.History(-1), a, b, c)
		items(t, "History far below", s.History(math.MinInt), a, b, c)
		items(t, "History far above", s.History(math.MaxInt))
		for _, x := range []struct {
			table int
			stamp int64
			want  []Item
		}{
			{1, 2, nil}, {1, 3, []Item{a}}, {1, 4, []Item{a}}, {1, 5, []Item{c}}, {1, 6, []Item{c}}, {1, math.MaxInt64, []Item{c}}, {1, 0, nil}, {1, math.MinInt64, nil},
			{2, 2, nil}, {2, 3, []Item{b}}, {2, 9, []Item{b}},
			{-1, 2, nil}, {-1, 4, []Item{a, b}}, {-1, 5, []Item{b, c}}, {3, 9, nil},
		} {
			items(t, "See", s.See(x.table, x.stamp), x.want...)
		}
		d.Crash(nil, -1, 0)
		s = reopened(t, d, 12, 1)
	}
}

// The heap's Fits and Flush are the store's.
func TestPromoted(t *testing.T) {
	d, s := fresh(t, 20, 12, 9)
	if !s.Fits(0, 27) || s.Fits(0, heap.MaxData+1) || s.Fits(-1) {
		t.Error("Fits")
	}
	expect(t, "Write", s.Write(1, nil, Part{1, fact(3, 9)}), api.OK)
	before, _ := d.Read(12)
	s.Flush()
	if after, _ := d.Read(12); slices.Equal(before, after) || d.Pending() != 0 {
		t.Error("Flush")
	}
}

// A log may have used up the numbers of transactions: Write is refused then, and nothing has changed.
func TestNoNumbersLeft(t *testing.T) {
	d := newDisk(t, 20)
	l, _, _ := wal.Open(d, 0, 12)
	b, e := trail.Encode(trail.Entry{Kind: trail.Commit, Txn: math.MaxInt64, Stamp: 3})
	if e != api.OK {
		t.Fatal(e)
	}
	l.Append(b)
	l.Flush()
	s := reopened(t, d, 12, 2)
	for range 3 {
		if e := s.Write(9, nil, Part{1, fact(3, 9)}); e == api.OK || s.Last() != 3 || len(s.History(-1)) != 0 {
			t.Errorf("Write: %v, %d, %v", e, s.Last(), s.History(-1))
		}
	}
}

// P2, rule 4: what is handed in is neither changed nor kept, and what is answered shares memory with nothing.
func TestNothingIsShared(t *testing.T) {
	_, s := fresh(t, 20, 12, 3)
	row := []api.Value{number(7), text("x"), number(99)}[:2]
	parts := []Part{{1, fact(3, 9, row...)}, {1, fact(0, 1, number(5))}, {9, fact(9, 10)}}[:2]
	parts[0].Fact.Row = row
	ended := []heap.Rid{{}, {Page: 5}}[:1]
	expect(t, "Check", s.Check(1, parts[0].Fact), api.OK)
	expect(t, "Write", s.Write(1, nil, parts...), api.OK)
	expect(t, "Write", s.Write(2, ended, parts...), api.OK)
	if row[:3][2] != number(99) || parts[:3][2].Table != 9 || ended[:2][1] != (heap.Rid{Page: 5}) || !slices.Equal(row, []api.Value{number(7), text("x")}) || ended[0] != (heap.Rid{}) {
		t.Error("Write changes what it is given")
	}
	clear(row)
	clear(parts)
	clear(ended)
	a, b := fact(3, 9, number(7), text("x")), fact(0, 1, number(5))
	want := []Item{{heap.Rid{}, a, 1, 2}, {heap.Rid{Slot: 1}, b, 1, 0}, {heap.Rid{Slot: 2}, a, 2, 0}, {heap.Rid{Slot: 3}, b, 2, 0}}
	for _, ask := range []func() []Item{func() []Item { return s.History(1) }, func() []Item { return s.See(1, 1) }} {
		got, other := ask(), ask()
		wanted := want
		if len(got) == 2 {
			wanted = want[:2]
		}
		for i := range got {
			items(t, "what is left", got[i:], wanted[i:]...)
			clear(got[i].Fact.Row[:cap(got[i].Fact.Row)])
		}
		clear(got[:cap(got)])
		items(t, "another answer", other, wanted...)
		items(t, "a new answer", ask(), wanted...)
	}
}
