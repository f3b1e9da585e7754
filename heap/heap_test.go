package heap

import (
	"bytes"
	"math"
	"reflect"
	"slices"
	"testing"

	"annals/api"
	"annals/disk"
	"annals/page"
	"annals/trail"
	"annals/wal"
)

// dice answers numbers that look thrown, the same ones each time.
type dice uint64

func (x *dice) below(n int) int {
	*x = *x*6364136223846793005 + 1442695040888963407
	return int(uint64(*x) >> 33 % uint64(n))
}

func newDisk(t *testing.T, sectors int) *disk.Disk {
	t.Helper()
	d, e := disk.New(sectors)
	if e != api.OK {
		t.Fatalf("disk.New(%d): %v", sectors, e)
	}
	return d
}

func reopened(t *testing.T, d *disk.Disk, logs, frames int) (*Heap, trail.Report) {
	t.Helper()
	h, r, e := Open(d, logs, frames)
	if h == nil || e != api.OK {
		t.Fatalf("Open(%d, %d): %v, %v", logs, frames, h, e)
	}
	return h, r
}

func fresh(t *testing.T, sectors, logs, frames int) (*disk.Disk, *Heap) {
	t.Helper()
	d := newDisk(t, sectors)
	h, _ := reopened(t, d, logs, frames)
	return d, h
}

func expect(t *testing.T, what string, got, want api.Errno) {
	t.Helper()
	if got != want {
		t.Errorf("%s: %v, want %v", what, got, want)
	}
}

func added(t *testing.T, h *Heap, txn int64, data []byte, at Rid) {
	t.Helper()
	if r, e := h.Add(txn, data); e != api.OK || r != at {
		t.Fatalf("Add(%d, %d bytes): %v, %v; want %v", txn, len(data), r, e, at)
	}
}

func refused(t *testing.T, h *Heap, txn int64, data []byte, want api.Errno) {
	t.Helper()
	if r, e := h.Add(txn, data); e != want || r != (Rid{}) {
		t.Errorf("Add(%d, %d bytes): %v, %v; want %v", txn, len(data), r, e, want)
	}
}

func some(n int) []byte { return bytes.Repeat([]byte{'s'}, n) }

func sameVersions(a, b []Version) bool {
	return slices.EqualFunc(a, b, func(v, w Version) bool {
		return v.Rid == w.Rid && v.Begin == w.Begin && v.End == w.End && bytes.Equal(v.Data, w.Data)
	})
}

func all(t *testing.T, h *Heap, want ...Version) {
	t.Helper()
	if got := h.All(); !sameVersions(got, want) {
		t.Errorf("All: %v, want %v", got, want)
	}
}

// found is what a disk tells of all its sectors.
func found(d *disk.Disk) [][]byte {
	var out [][]byte
	for i := range d.Sectors() {
		b, _ := d.Read(i)
		out = append(out, b)
	}
	return out
}

// sameDisks: do two disks tell the same, now and behind crashes that lose or keep what is pending?
func sameDisks(a, b *disk.Disk) bool {
	if a.Pending() != b.Pending() || !reflect.DeepEqual(found(a), found(b)) {
		return false
	}
	for kept := range a.Pending() + 1 {
		keep := slices.Repeat([]bool{true}, kept)
		f, g := a.Fork(), b.Fork()
		f.Crash(keep, -1, 0)
		g.Crash(keep, -1, 0)
		if !reflect.DeepEqual(found(f), found(g)) {
			return false
		}
	}
	return true
}

// logged: a disk whose log has these records, durable.
func logged(t *testing.T, sectors, logs int, records ...[]byte) *disk.Disk {
	t.Helper()
	d := newDisk(t, sectors)
	l, _, _ := wal.Open(d, 0, logs)
	for _, r := range records {
		if _, e := l.Append(r); e != api.OK {
			t.Fatalf("Append of %v: %v", r, e)
		}
	}
	l.Flush()
	return d
}

func encoded(t *testing.T, entries ...trail.Entry) [][]byte {
	t.Helper()
	var out [][]byte
	for _, e := range entries {
		b, bad := trail.Encode(e)
		if bad != api.OK {
			t.Fatalf("Encode of %v: %v", e, bad)
		}
		out = append(out, b)
	}
	return out
}

// P8.1
func TestOpenRefusesNumbers(t *testing.T) {
	cases := []struct{ sectors, logs, frames int }{
		{8, 0, 1}, {8, -1, 1}, {8, math.MinInt, 1}, {8, 8, 1}, {8, 9, 1}, {8, math.MaxInt, 1},
		{8, 4, 0}, {8, 4, -1}, {8, 4, math.MinInt}, {8, 4, 4097}, {8, 4, math.MaxInt},
		{1, 1, 1}, {1, 0, 1}, {2, 2, 1},
	}
	for _, c := range cases {
		d := newDisk(t, c.sectors)
		d.Write(0, bytes.Repeat([]byte{1}, api.SectorSize))
		before := d.Fork()
		h, r, e := Open(d, c.logs, c.frames)
		if h != nil || e != api.ErrRange || !reflect.DeepEqual(r, trail.Report{}) {
			t.Errorf("Open(%d of %d, %d): %v, %v, %v", c.logs, c.sectors, c.frames, h, r, e)
		}
		if !sameDisks(d, before) {
			t.Errorf("Open(%d of %d, %d) has changed the disk", c.logs, c.sectors, c.frames)
		}
	}
	for _, c := range []struct{ sectors, logs, frames int }{{2, 1, 1}, {8, 7, 4096}, {8, 1, 1}, {4096, 4095, 2}, {4096, 1, 4096}} {
		_, h := fresh(t, c.sectors, c.logs, c.frames)
		all(t, h)
		if h.Fits(0, 0) != true || h.Begin() != 1 || len(h.Commits()) != 0 {
			t.Errorf("Open(%d of %d, %d): no empty heap", c.logs, c.sectors, c.frames)
		}
	}
}

// P8.1: whatever lies in the sectors of pages.
func TestOpenMakesPagesWithoutRecords(t *testing.T) {
	short := page.New()
	short.Add([]byte("x"))
	old := page.New()
	old.Add(recordOf(1, []byte("old")))
	for _, frames := range []int{1, 2, 3, 4} {
		d := newDisk(t, 6)
		d.Write(2, bytes.Repeat([]byte{9}, api.SectorSize))
		d.Write(3, short.Bytes())
		d.Write(4, old.Bytes())
		d.Sync()
		d.Write(5, old.Bytes())
		h, r := reopened(t, d, 2, frames)
		if !reflect.DeepEqual(r, trail.Report{}) {
			t.Errorf("the report: %v", r)
		}
		all(t, h)
		a := h.Begin()
		all(t, h)
		added(t, h, a, []byte("new"), Rid{0, 0})
		expect(t, "End", h.End(a, Rid{1, 0}), api.ErrMissing)
		h.Flush()
		d.Crash(nil, -1, 0)
		for i := 2; i < 6; i++ {
			b, _ := d.Read(i)
			p, e := page.Open(b)
			if e != api.OK || (i > 2 && (p.Count() != 0 || p.Mark() != 0)) {
				t.Errorf("sector %d: %v", i, e)
			}
		}
	}
}

// P8.1 and P8.3: how versions lie on pages, and the pages' marks.
func TestPagesOnTheDisk(t *testing.T) {
	for _, frames := range []int{1, 2, 8} {
		d, h := fresh(t, 8, 4, frames)
		a := h.Begin()
		added(t, h, a, some(150), Rid{0, 0})        // the log ends at 170
		added(t, h, a, some(184), Rid{1, 0})        // 374
		added(t, h, a, []byte("abc"), Rid{0, 1})    // 397
		expect(t, "Commit", h.Commit(a, 5), api.OK) // 422
		b := h.Begin()
		expect(t, "End", h.End(b, Rid{0, 0}), api.OK) // 442
		added(t, h, b, nil, Rid{0, 2})                // 462
		expect(t, "End", h.End(b, Rid{1, 0}), api.OK) // 482
		h.Flush()
		want := func(mark int64, records ...string) []byte {
			p := page.New()
			p.SetMark(mark)
			for _, r := range records {
				p.Add([]byte(r))
			}
			return p.Bytes()
		}
		one, two, none := "\x00\x00\x00\x00\x00\x00\x00\x01", "\x00\x00\x00\x00\x00\x00\x00\x02", "\x00\x00\x00\x00\x00\x00\x00\x00"
		pages := [][]byte{
			want(462, one+two+string(some(150)), one+none+"abc", two+none),
			want(482, one+two+string(some(184))),
			want(0),
			want(0),
		}
		check := func(when string) {
			t.Helper()
			if got := found(d)[4:]; !reflect.DeepEqual(got, pages) {
				t.Errorf("%d frames, %s: %v, want %v", frames, when, got, pages)
			}
		}
		check("behind Flush")
		d.Crash(nil, -1, 0)
		check("behind a crash")
		for i := range 4 {
			d.Write(4+i, bytes.Repeat([]byte{7}, api.SectorSize))
		}
		d.Sync()
		h, _ = reopened(t, d, 4, frames)
		h.Flush()
		check("behind another Open")
		expect(t, "Abort", h.Abort(h.Begin()), api.OK)
		h.Flush()
		check("behind an Abort")
	}
}

// P8.3 and P8.4: what the log says.
func TestLogOnTheDisk(t *testing.T) {
	d, h := fresh(t, 8, 4, 2)
	a, b := h.Begin(), h.Begin()
	added(t, h, b, []byte("bee"), Rid{0, 0})
	added(t, h, a, []byte("ay"), Rid{0, 1})
	expect(t, "End", h.End(a, Rid{0, 1}), api.OK)
	expect(t, "Abort", h.Abort(b), api.OK)
	expect(t, "Commit", h.Commit(a, 0), api.OK)
	c := h.Begin()
	added(t, h, c, nil, Rid{0, 2})
	d.Crash(nil, -1, 0)
	_, records, _ := wal.Open(d.Fork(), 0, 4)
	want := []trail.Entry{
		{Kind: trail.Add, Txn: 2, Data: []byte("bee")},
		{Kind: trail.Add, Txn: 1, Slot: 1, Data: []byte("ay")},
		{Kind: trail.End, Txn: 1, Slot: 1},
		{Kind: trail.Commit, Txn: 1},
	}
	if len(records) != len(want) {
		t.Fatalf("%d records", len(records))
	}
	for i, b := range encoded(t, want...) {
		if !bytes.Equal(records[i].Data, b) {
			t.Errorf("record %d: %v, want %v", i, records[i].Data, b)
		}
	}
	h, r := reopened(t, d, 4, 2)
	report := trail.Report{Commits: []trail.Stamped{{Txn: 1, Stamp: 0}}, Losers: []int64{2}, Pages: []trail.Touched{{Page: 0, First: 23, Last: 65}}, Last: 2}
	if !reflect.DeepEqual(r, report) {
		t.Errorf("the report: %v, want %v", r, report)
	}
	all(t, h, Version{Rid{0, 1}, 1, 1, []byte("ay")})
}

// P8.1
func TestOpenRefusesLogs(t *testing.T) {
	add := func(txn int64, at, slot, size int) trail.Entry {
		return trail.Entry{Kind: trail.Add, Txn: txn, Page: at, Slot: slot, Data: some(size)}
	}
	end := func(txn int64, at, slot int) trail.Entry {
		return trail.Entry{Kind: trail.End, Txn: txn, Page: at, Slot: slot}
	}
	commit := func(txn, stamp int64) trail.Entry {
		return trail.Entry{Kind: trail.Commit, Txn: txn, Stamp: stamp}
	}
	cases := []struct {
		name    string
		records [][]byte
		want    api.Errno
	}{
		{"right", encoded(t, add(1, 0, 0, 1), end(2, 0, 0), add(2, 3, 0, 1), commit(2, 5), end(9, 3, 0), end(9, 3, 0)), api.OK},
		{"stamps that fall, and two of one", encoded(t, commit(3, 9), commit(2, 4), commit(3, 1)), api.OK},
		{"no kind", [][]byte{{9}}, api.ErrForm},
		{"short", [][]byte{{1, 0}}, api.ErrForm},
		{"trailing", [][]byte{append(encoded(t, commit(1, 2))[0], 0)}, api.ErrForm},
		{"no transaction", [][]byte{make([]byte, 17), {3, 16: 0}}, api.ErrForm},
		{"no transaction, of the right kind", [][]byte{{3, 16: 0}}, api.ErrForm},
		{"data of 201", [][]byte{append(encoded(t, add(1, 0, 0, 200))[0], 0)}, api.ErrForm},
		{"wrong behind right ones", append(encoded(t, add(1, 0, 0, 1), commit(1, 5)), []byte{0}), api.ErrForm},
		{"wrong ahead of right ones", append([][]byte{{0}}, encoded(t, add(1, 0, 0, 1), commit(1, 5))...), api.ErrForm},
		{"last page", encoded(t, add(1, 3, 0, 1)), api.OK},
		{"add beyond the last page", encoded(t, add(1, 4, 0, 1)), api.ErrForm},
		{"add far beyond the last page", encoded(t, add(1, 65535, 0, 1)), api.ErrForm},
		{"end beyond the last page", encoded(t, end(1, 4, 0)), api.ErrForm},
		{"slot passed over", encoded(t, add(1, 0, 1, 1)), api.ErrForm},
		{"slot passed over behind another", encoded(t, add(1, 0, 0, 1), add(1, 0, 2, 1)), api.ErrForm},
		{"slot taken", encoded(t, add(1, 0, 0, 1), add(1, 0, 0, 1)), api.ErrForm},
		{"slot of another page", encoded(t, add(1, 0, 0, 1), add(1, 1, 1, 1)), api.ErrForm},
		{"slots of two pages", encoded(t, add(1, 0, 0, 1), add(1, 1, 0, 1), add(1, 0, 1, 1), add(1, 1, 1, 1)), api.OK},
		{"the greatest data", encoded(t, add(1, 0, 0, MaxData)), api.OK},
		{"data that is no record", encoded(t, add(1, 0, 0, MaxData+1)), api.ErrForm},
		{"the greatest data of an entry", encoded(t, add(1, 0, 0, api.MaxRecord)), api.ErrForm},
		{"a page that is full", encoded(t, add(1, 0, 0, 184), add(1, 0, 1, 25)), api.OK},
		{"a page that is too full", encoded(t, add(1, 0, 0, 184), add(1, 0, 1, 26)), api.ErrForm},
		{"end of nothing", encoded(t, end(1, 0, 0)), api.ErrForm},
		{"end ahead of the add", encoded(t, end(1, 0, 0), add(1, 0, 0, 1)), api.ErrForm},
		{"end behind the last slot", encoded(t, add(1, 0, 0, 1), end(1, 0, 1)), api.ErrForm},
		{"end far behind the last slot", encoded(t, add(1, 0, 0, 1), end(1, 0, 255)), api.ErrForm},
		{"end on another page", encoded(t, add(1, 0, 0, 1), end(1, 1, 0)), api.ErrForm},
	}
	for _, c := range cases {
		d := logged(t, 8, 4, c.records...)
		// Something behind the log, and something that is pending: what an Open of the log would wipe out and make durable.
		d.Write(3, bytes.Repeat([]byte{5}, api.SectorSize))
		d.Sync()
		d.Write(7, bytes.Repeat([]byte{6}, api.SectorSize))
		before := d.Fork()
		for _, frames := range []int{1, 3} {
			h, r, e := Open(d, 4, frames)
			if e != c.want || (h == nil) != (e != api.OK) {
				t.Errorf("%s: %v, %v, want %v", c.name, h, e, c.want)
			}
			if e != api.OK && (!reflect.DeepEqual(r, trail.Report{}) || !sameDisks(d, before)) {
				t.Errorf("%s: a report, or the disk is another one", c.name)
			}
		}
	}
}

// P8.1: what a log says that this package wouldn't have written.
func TestOpenOfAnyLog(t *testing.T) {
	d := logged(t, 8, 4, encoded(t,
		trail.Entry{Kind: trail.Add, Txn: 7, Page: 1, Data: []byte("x")},
		trail.Entry{Kind: trail.End, Txn: 40, Page: 1},
		trail.Entry{Kind: trail.Commit, Txn: 9, Stamp: 30},
		trail.Entry{Kind: trail.Add, Txn: 9, Page: 3, Data: []byte("y")},
		trail.Entry{Kind: trail.Commit, Txn: 7, Stamp: 20},
		trail.Entry{Kind: trail.Commit, Txn: 9, Stamp: 50},
	)...)
	h, r := reopened(t, d, 4, 1)
	want := trail.Report{
		Commits: []trail.Stamped{{Txn: 9, Stamp: 30}, {Txn: 7, Stamp: 20}},
		Losers:  []int64{40},
		Pages:   []trail.Touched{{Page: 1, First: 21, Last: 41}, {Page: 3, First: 87, Last: 87}},
		Last:    40,
	}
	if !reflect.DeepEqual(r, want) || !reflect.DeepEqual(h.Commits(), want.Commits) {
		t.Errorf("the report: %v, %v", r, h.Commits())
	}
	all(t, h, Version{Rid{1, 0}, 7, 0, []byte("x")}, Version{Rid{3, 0}, 9, 0, []byte("y")})
	for _, txn := range []int64{7, 9, 40, 0, 41} {
		expect(t, "Abort", h.Abort(txn), api.ErrTxn)
	}
	if a := h.Begin(); a != 41 {
		t.Errorf("Begin: %d", a)
	}
	added(t, h, 41, nil, Rid{0, 0})
	expect(t, "End", h.End(41, Rid{1, 0}), api.OK)
	expect(t, "Commit with 20", h.Commit(41, 20), api.ErrRange)
	expect(t, "Commit with 21", h.Commit(41, 21), api.OK)
}

// P1: behind the greatest number there is none that a log could say; whatever Begin answers, no call panics.
func TestBeginBehindTheGreatestNumber(t *testing.T) {
	d := logged(t, 8, 4, encoded(t, trail.Entry{Kind: trail.Commit, Txn: math.MaxInt64, Stamp: 3})...)
	h, _ := reopened(t, d, 4, 1)
	a := h.Begin()
	before := d.Fork()
	h.Add(a, []byte("x"))
	h.End(a, Rid{})
	h.Commit(a, 9)
	if len(h.Commits()) != 1 || !sameDisks(d, before) {
		t.Error("what can't be said is done")
	}
	all(t, h)
	expect(t, "Abort", h.Abort(a), api.OK)
}

// P8.2
func TestBegin(t *testing.T) {
	d, h := fresh(t, 8, 4, 2)
	for want := int64(1); want < 6; want++ {
		if got := h.Begin(); got != want {
			t.Fatalf("Begin: %d, want %d", got, want)
		}
	}
	expect(t, "Abort", h.Abort(5), api.OK)
	expect(t, "Commit", h.Commit(2, 7), api.OK)
	if got := h.Begin(); got != 6 {
		t.Errorf("Begin behind Abort: %d", got)
	}
	if h, _ := reopened(t, d.Fork(), 4, 2); h.Begin() != 3 {
		t.Error("Begin behind Open: not one more than the last in the log")
	}
	added(t, h, 4, nil, Rid{0, 0})
	expect(t, "Commit", h.Commit(1, 8), api.OK)
	if h, _ := reopened(t, d, 4, 2); h.Begin() != 5 || h.Begin() != 6 {
		t.Error("Begin behind Open: not one more than the last, though lost, in the log")
	}
}

// inactive: a heap with a transaction that is active, and the numbers of others that aren't.
func inactive(t *testing.T) (*disk.Disk, *Heap, int64, []int64) {
	t.Helper()
	d, h := fresh(t, 8, 4, 1)
	lostOne, kept := h.Begin(), h.Begin()
	added(t, h, lostOne, []byte("lost"), Rid{0, 0})
	added(t, h, kept, []byte("kept"), Rid{0, 1})
	expect(t, "Commit", h.Commit(kept, 5), api.OK)
	h, _ = reopened(t, d, 4, 1)
	aborted, second, live := h.Begin(), h.Begin(), h.Begin()
	expect(t, "Abort", h.Abort(aborted), api.OK)
	expect(t, "Commit", h.Commit(second, 6), api.OK)
	return d, h, live, []int64{0, -1, math.MinInt64, math.MaxInt64, live + 1, lostOne, kept, aborted, second}
}

// P8.3 and P8.4, rule 1: ErrTxn is ahead of all others.
func TestErrTxn(t *testing.T) {
	d, h, live, wrong := inactive(t)
	versions := h.All()
	before := d.Fork()
	for _, txn := range wrong {
		refused(t, h, txn, nil, api.ErrTxn)
		refused(t, h, txn, some(185), api.ErrTxn)
		expect(t, "End", h.End(txn, Rid{0, 1}), api.ErrTxn)
		expect(t, "End of nothing", h.End(txn, Rid{-1, 9}), api.ErrTxn)
		expect(t, "Commit", h.Commit(txn, 9), api.ErrTxn)
		expect(t, "Commit with a wrong stamp", h.Commit(txn, -9), api.ErrTxn)
		expect(t, "Abort", h.Abort(txn), api.ErrTxn)
	}
	if !sameDisks(d, before) || len(h.Commits()) != 2 {
		t.Error("what is refused has changed something")
	}
	all(t, h, versions...)
	added(t, h, live, nil, Rid{0, 2})
	expect(t, "End", h.End(live, Rid{0, 1}), api.OK)
	expect(t, "Commit", h.Commit(live, 9), api.OK)
	if h.Begin() != live+1 {
		t.Error("Begin")
	}
}

// P8.3: the page with the least number that has room, behind its others.
func TestAddFindsTheFirstRoom(t *testing.T) {
	for _, frames := range []int{1, 2, 8} {
		_, h := fresh(t, 16, 12, frames)
		a := h.Begin()
		added(t, h, a, some(184), Rid{0, 0}) // 42 left on page 0
		added(t, h, a, some(26), Rid{1, 0})  // 200 left on page 1
		added(t, h, a, some(184), Rid{2, 0})
		added(t, h, a, some(183), Rid{1, 1}) // none left on page 1
		added(t, h, a, some(25), Rid{0, 1})  // none left on page 0
		added(t, h, a, nil, Rid{2, 1})       // 25 left on page 2
		added(t, h, a, some(9), Rid{3, 0})   // 217 left on page 3
		added(t, h, a, some(8), Rid{2, 2})   // none left on page 2
		added(t, h, a, some(184), Rid{3, 1}) // 16 left on page 3: room for nothing
		refused(t, h, a, nil, api.ErrFull)
		refused(t, h, a, some(184), api.ErrFull)
		refused(t, h, a, some(185), api.ErrLong)
		if got := len(h.All()); got != 9 {
			t.Errorf("%d versions", got)
		}
		expect(t, "Abort", h.Abort(a), api.OK)
		refused(t, h, h.Begin(), nil, api.ErrFull)
	}
}

// P8.3: fourteen empty versions on a page, and no more.
func TestAddOfEmptyData(t *testing.T) {
	_, h := fresh(t, 8, 6, 1)
	a := h.Begin()
	for i := range 28 {
		added(t, h, a, []byte{}, Rid{i / 14, i % 14})
	}
	refused(t, h, a, nil, api.ErrFull)
	for i, v := range h.All() {
		if v.Rid != (Rid{i / 14, i % 14}) || v.Begin != a || v.End != 0 || len(v.Data) != 0 {
			t.Errorf("version %d: %v", i, v)
		}
	}
}

// P8.3: data of any bytes, of the greatest length, and of a byte more.
func TestAddKeepsData(t *testing.T) {
	_, h := fresh(t, 64, 32, 3)
	a := h.Begin()
	for i, n := range []int{MaxData, 183, 100} {
		data := make([]byte, n)
		for j := range data {
			data[j] = byte(255 - i - j)
		}
		added(t, h, a, data, Rid{i, 0})
		if l := h.All(); !bytes.Equal(l[i].Data, data) {
			t.Errorf("%d bytes: %v", n, l[i])
		}
	}
	for _, n := range []int{185, 200, 201, 1024, 100000} {
		refused(t, h, a, some(n), api.ErrLong)
	}
	if MaxData != 184 {
		t.Errorf("MaxData: %d", MaxData)
	}
}

// nearlyFull: a heap whose log has so many bytes left (46 at most), with a version at page 0, slot 0 that may be ended, and two active transactions.
func nearlyFull(t *testing.T, left int) (*disk.Disk, *Heap, int64, int64) {
	t.Helper()
	d, h := fresh(t, 12, 2, 1)
	first := h.Begin()
	added(t, h, first, []byte("x"), Rid{0, 0})
	expect(t, "Commit", h.Commit(first, 5), api.OK) // 46 used of 512
	a, b := h.Begin(), h.Begin()
	for _, n := range []int{180, 180, 46 - left} {
		if _, e := h.Add(a, some(n)); e != api.OK {
			t.Fatalf("Add of %d: %v", n, e)
		}
	}
	return d, h, a, b
}

// P8.3 and P8.4: a log that is full, byte by byte; ErrFull is behind all others, and leaves all as it was.
func TestFullLog(t *testing.T) {
	calls := []struct {
		name string
		cost int
		call func(h *Heap, txn int64) api.Errno
	}{
		{"Add", 20, func(h *Heap, txn int64) api.Errno { _, e := h.Add(txn, nil); return e }},
		{"Add of five", 25, func(h *Heap, txn int64) api.Errno { _, e := h.Add(txn, some(5)); return e }},
		{"End", 20, func(h *Heap, txn int64) api.Errno { return h.End(txn, Rid{0, 0}) }},
		{"Commit", 25, func(h *Heap, txn int64) api.Errno { return h.Commit(txn, 6) }},
	}
	for left := range 47 {
		for _, c := range calls {
			d, h, a, b := nearlyFull(t, left)
			versions := h.All()
			before := d.Fork()
			expect(t, "Commit with a wrong stamp", h.Commit(b, 5), api.ErrRange)
			expect(t, "End of nothing", h.End(b, Rid{9, 0}), api.ErrMissing)
			expect(t, "End of another's", h.End(b, Rid{0, 1}), api.ErrMissing)
			refused(t, h, b, some(185), api.ErrLong)
			if left >= c.cost {
				expect(t, c.name, c.call(h, b), api.OK)
				continue
			}
			expect(t, c.name, c.call(h, b), api.ErrFull)
			if !sameDisks(d, before) || len(h.Commits()) != 1 {
				t.Errorf("%s, %d left: a refused call has changed something", c.name, left)
			}
			all(t, h, versions...)
			expect(t, "Abort", h.Abort(b), api.OK)
			expect(t, "Abort", h.Abort(a), api.OK)
			all(t, h, Version{Rid{0, 0}, 1, 0, []byte("x")})
		}
	}
}

// P8.3 and P8.4: both ErrFulls at once, and ErrBusy ahead of ErrFull.
func TestFullLogAndPages(t *testing.T) {
	_, h := fresh(t, 3, 2, 1)
	a, b, c := h.Begin(), h.Begin(), h.Begin()
	added(t, h, a, some(184), Rid{0, 0})
	expect(t, "Commit", h.Commit(a, 1), api.OK) // 229 used of 512
	expect(t, "End", h.End(b, Rid{0, 0}), api.OK)
	refused(t, h, c, some(184), api.ErrFull)
	added(t, h, c, some(25), Rid{0, 1}) // 294
	refused(t, h, c, nil, api.ErrFull)
	for h.Fits(0) {
		expect(t, "Commit", h.Commit(h.Begin(), int64(2+len(h.Commits()))), api.OK)
	}
	refused(t, h, c, nil, api.ErrFull)
	expect(t, "End", h.End(c, Rid{0, 0}), api.ErrBusy)
	expect(t, "Abort", h.Abort(b), api.OK)
	for h.End(c, Rid{0, 0}) == api.OK {
		expect(t, "Abort", h.Abort(c), api.OK)
		c = h.Begin()
	}
	expect(t, "End", h.End(c, Rid{0, 0}), api.ErrFull)
}

// P8.4: all ways in which a version may stand to the transaction that is to end it.
func TestEnd(t *testing.T) {
	_, h := fresh(t, 16, 10, 1)
	kept, gone, me, other := h.Begin(), h.Begin(), h.Begin(), h.Begin()
	of := map[string]Rid{}
	add := func(txn int64, names ...string) {
		for _, name := range names {
			r, e := h.Add(txn, some(50))
			expect(t, "Add", e, api.OK)
			of[name] = r
		}
	}
	add(kept, "free", "ended by a later one", "ended by gone", "ended by other", "ended by itself")
	add(gone, "gone's", "gone's, ended by gone")
	add(me, "mine", "mine, ended by me")
	add(other, "other's", "other's, ended by other")
	expect(t, "End of an active one's", h.End(me, of["free"]), api.ErrMissing)
	expect(t, "End", h.End(kept, of["ended by itself"]), api.OK)
	expect(t, "Commit", h.Commit(kept, 1), api.OK)
	later := h.Begin()
	expect(t, "End", h.End(later, of["ended by a later one"]), api.OK)
	expect(t, "Commit", h.Commit(later, 2), api.OK)
	expect(t, "End", h.End(gone, of["ended by gone"]), api.OK)
	expect(t, "End", h.End(gone, of["gone's, ended by gone"]), api.OK)
	expect(t, "End, not lost yet", h.End(me, of["ended by gone"]), api.ErrBusy)
	expect(t, "Abort", h.Abort(gone), api.OK)
	expect(t, "End", h.End(other, of["ended by other"]), api.OK)
	expect(t, "End", h.End(other, of["other's, ended by other"]), api.OK)
	expect(t, "End", h.End(me, of["mine, ended by me"]), api.OK)

	versions := h.All()
	for name, want := range map[string]api.Errno{
		"ended by a later one":    api.ErrMissing,
		"ended by itself":         api.ErrMissing,
		"ended by other":          api.ErrBusy,
		"gone's":                  api.ErrMissing,
		"gone's, ended by gone":   api.ErrMissing,
		"other's":                 api.ErrMissing,
		"other's, ended by other": api.ErrMissing,
		"mine, ended by me":       api.ErrMissing,
	} {
		expect(t, "End of "+name, h.End(me, of[name]), want)
	}
	for _, r := range []Rid{{-1, 0}, {0, -1}, {6, 0}, {5, 0}, {0, 3}, {3, 2}, {math.MinInt, 0}, {math.MaxInt, 0}, {0, math.MinInt}, {0, math.MaxInt}, {math.MinInt, math.MaxInt}} {
		expect(t, "End of nothing", h.End(me, r), api.ErrMissing)
	}
	all(t, h, versions...)
	for name, then := range map[string]api.Errno{"free": api.ErrBusy, "ended by gone": api.ErrBusy, "mine": api.ErrMissing} {
		expect(t, "End of "+name, h.End(me, of[name]), api.OK)
		expect(t, "End of "+name+" once more", h.End(me, of[name]), api.ErrMissing)
		expect(t, "End of "+name+" by another", h.End(other, of[name]), then)
	}
	ends := map[Rid]int64{}
	for _, v := range h.All() {
		ends[v.Rid] = v.End
	}
	for name, want := range map[string]int64{"free": me, "ended by gone": me, "mine": me, "mine, ended by me": me, "ended by other": other, "ended by itself": kept, "ended by a later one": later, "other's": 0} {
		if end, ok := ends[of[name]]; !ok || end != want {
			t.Errorf("%s: ended by %d, want %d", name, end, want)
		}
	}
	if len(ends) != 9 {
		t.Errorf("%d versions, want 9", len(ends))
	}
}

// P8.4: a transaction that was lost by an Abort is as lost as one in the log.
func TestEndBehindOpen(t *testing.T) {
	d, h := fresh(t, 8, 4, 2)
	a, b := h.Begin(), h.Begin()
	added(t, h, a, []byte("x"), Rid{0, 0})
	added(t, h, a, []byte("y"), Rid{0, 1})
	added(t, h, b, []byte("z"), Rid{0, 2})
	expect(t, "End", h.End(a, Rid{0, 1}), api.OK)
	expect(t, "Commit", h.Commit(a, 1), api.OK)
	expect(t, "End", h.End(b, Rid{0, 0}), api.OK)
	h.Flush()
	h, _ = reopened(t, d, 4, 2)
	all(t, h, Version{Rid{0, 0}, a, 0, []byte("x")}, Version{Rid{0, 1}, a, a, []byte("y")})
	c := h.Begin()
	expect(t, "End of a lost one's", h.End(c, Rid{0, 2}), api.ErrMissing)
	expect(t, "End of what is ended", h.End(c, Rid{0, 1}), api.ErrMissing)
	expect(t, "End of what a lost one has ended", h.End(c, Rid{0, 0}), api.OK)
	all(t, h, Version{Rid{0, 0}, a, c, []byte("x")}, Version{Rid{0, 1}, a, a, []byte("y")})
	expect(t, "Abort", h.Abort(c), api.OK)
	all(t, h, Version{Rid{0, 0}, a, 0, []byte("x")}, Version{Rid{0, 1}, a, a, []byte("y")})
}

// P8.4
func TestCommitAsksForTheStamp(t *testing.T) {
	d, h := fresh(t, 16, 12, 1)
	stamped := func(stamp int64, wrong ...int64) {
		t.Helper()
		a := h.Begin()
		for _, s := range wrong {
			expect(t, "Commit with a wrong stamp", h.Commit(a, s), api.ErrRange)
		}
		expect(t, "Commit", h.Commit(a, stamp), api.OK)
		expect(t, "Commit once more", h.Commit(a, stamp+1), api.ErrTxn)
	}
	stamped(0, -1, math.MinInt64, api.Forever+1, math.MaxInt64)
	stamped(1, -1, 0, api.Forever+1)
	stamped(9, -1, 0, 1, api.Forever+1, math.MinInt64)
	stamped(10, 8, 9)
	h, _ = reopened(t, d, 12, 1)
	stamped(api.Forever, 0, 9, 10, api.Forever+1, math.MaxInt64)
	a := h.Begin()
	for _, s := range []int64{0, 11, api.Forever, api.Forever + 1} {
		expect(t, "Commit behind the end of time", h.Commit(a, s), api.ErrRange)
	}
	want := []trail.Stamped{{Txn: 1, Stamp: 0}, {Txn: 2, Stamp: 1}, {Txn: 3, Stamp: 9}, {Txn: 4, Stamp: 10}, {Txn: 5, Stamp: api.Forever}}
	if !slices.Equal(h.Commits(), want) {
		t.Errorf("Commits: %v", h.Commits())
	}
	if h, r := reopened(t, d, 12, 1); !slices.Equal(h.Commits(), want) || !slices.Equal(r.Commits, want) {
		t.Errorf("Commits behind Open: %v, %v", h.Commits(), r)
	}
}

// P8.5: the order of Commits, not of Begins.
func TestCommits(t *testing.T) {
	_, h := fresh(t, 8, 4, 1)
	if len(h.Commits()) != 0 {
		t.Error("Commits of nothing")
	}
	a, b, c := h.Begin(), h.Begin(), h.Begin()
	h.Commit(c, 3)
	h.Abort(b)
	h.Commit(a, 4)
	if got := h.Commits(); !slices.Equal(got, []trail.Stamped{{Txn: c, Stamp: 3}, {Txn: a, Stamp: 4}}) {
		t.Errorf("Commits: %v", got)
	}
}

// P8.4: nothing is written by an Abort.
func TestAbortWritesNothing(t *testing.T) {
	d, h := fresh(t, 8, 4, 1)
	a := h.Begin()
	added(t, h, a, []byte("x"), Rid{0, 0})
	before := d.Fork()
	expect(t, "Abort", h.Abort(a), api.OK)
	if !sameDisks(d, before) {
		t.Error("Abort has changed the disk")
	}
	all(t, h)
	b := h.Begin()
	added(t, h, b, []byte("y"), Rid{0, 1})
	all(t, h, Version{Rid{0, 1}, b, 0, []byte("y")})
	expect(t, "Commit", h.Commit(b, 1), api.OK)
	h, r := reopened(t, d, 4, 1)
	if !slices.Equal(r.Losers, []int64{a}) || !slices.Equal(r.Commits, []trail.Stamped{{Txn: b, Stamp: 1}}) || r.Last != b {
		t.Errorf("the report: %v", r)
	}
	all(t, h, Version{Rid{0, 1}, b, 0, []byte("y")})
}

// P8.5: what Fits says is what comes, of a heap that is filled more and more.
func TestFitsIsWhatComes(t *testing.T) {
	x := dice(3)
	yes, no, noLog := 0, 0, 0
	for range 1500 {
		logs := 1 + x.below(9)
		_, h := fresh(t, logs+1+x.below(5), logs, 1+x.below(3))
		a := h.Begin()
		var there []Rid
		for range x.below(15) {
			if r, e := h.Add(a, some(x.below(185))); e == api.OK {
				there = append(there, r)
			}
		}
		if x.below(2) == 0 {
			h.Commit(a, 1)
		}
		sizes := make([]int, x.below(8))
		for i := range sizes {
			sizes[i] = x.below(185)
		}
		ends := x.below(len(there) + 1)
		before := h.All()
		fits := h.Fits(ends, sizes...)
		all(t, h, before...)
		b := a
		if len(h.Commits()) > 0 {
			b = h.Begin()
		}
		came := true
		for i := range ends {
			if e := h.End(b, there[i]); e != api.OK {
				came, noLog = false, noLog+1
			}
		}
		for _, n := range sizes {
			_, e := h.Add(b, some(n))
			came = came && e == api.OK
		}
		came = h.Commit(b, 2) == api.OK && came
		if came != fits {
			t.Fatalf("Fits(%d, %v): %v, but what came is %v", ends, sizes, fits, came)
		}
		if fits {
			yes++
		} else {
			no++
		}
	}
	if yes < 300 || no < 300 || noLog < 30 {
		t.Errorf("yes %d, no %d, no room for an End %d: too few", yes, no, noLog)
	}
}

// P8.5: the edges of Fits.
func TestFits(t *testing.T) {
	_, h := fresh(t, 6, 3, 1) // 768 bytes of log, three pages
	cases := []struct {
		ends  int
		sizes []int
		want  bool
	}{
		{0, nil, true},
		{0, []int{}, true},
		{-1, nil, false},
		{math.MinInt, []int{1}, false},
		{37, nil, true}, // 740, and 25 of the Commit: 765
		{38, nil, false},
		{math.MaxInt, nil, false},
		{math.MaxInt, []int{184, 184, 184}, false},
		{math.MaxInt / 20, nil, false},
		{math.MaxInt/20 + 1, nil, false},
		{math.MaxInt/10 + 1, []int{0}, false},
		{0, []int{-1}, false},
		{0, []int{math.MinInt}, false},
		{0, []int{184}, true},
		{0, []int{185}, false},
		{0, []int{math.MaxInt}, false},
		{0, []int{0, 0, 185}, false},
		{0, []int{-1, 1}, false},
		{0, []int{184, 184, 184}, true},                // 612 and 25
		{6, []int{184, 184, 184}, true},                // 757
		{7, []int{184, 184, 184}, false},               // 777
		{0, []int{184, 184, 184, 25}, true},            // page 0 is full
		{0, []int{184, 184, 184, 26}, false},           // on no page
		{0, []int{25, 184, 184, 184}, true},            // in this order too
		{1, []int{100, 100, 100, 100, 100, 100}, true}, // two on each page; 765
		{2, []int{100, 100, 100, 100, 100, 100}, false},
		{0, []int{100, 100, 100, 100, 100, 100, 1}, false},
		{0, []int{10, 184, 184, 184, 10}, true},
		{0, []int{130, 130, 130, 130}, false}, // three pages of 243: one each
		{0, []int{120, 120, 120, 120, 120}, false},
	}
	for _, c := range cases {
		if got := h.Fits(c.ends, c.sizes...); got != c.want {
			t.Errorf("Fits(%d, %v): %v", c.ends, c.sizes, got)
		}
	}
	many := make([]int, 100000)
	if h.Fits(0, many...) {
		t.Error("Fits of very many")
	}
}

// P8.5: to the last byte of the log.
func TestFitsToTheLastByte(t *testing.T) {
	_, h := fresh(t, 9, 1, 1) // 256 bytes of log
	for n := range 185 {
		if got, want := h.Fits(0, n), 20+n+25 <= 256; got != want {
			t.Errorf("Fits(0, %d): %v", n, got)
		}
		if got, want := h.Fits(2, n), 40+20+n+25 <= 256; got != want {
			t.Errorf("Fits(2, %d): %v", n, got)
		}
		if got, want := h.Fits(0, n, 30), 20+n+50+25 <= 256; got != want {
			t.Errorf("Fits(0, %d, 30): %v", n, got)
		}
	}
	a := h.Begin()
	added(t, h, a, some(184), Rid{0, 0}) // 52 left
	if !h.Fits(0, 7) || h.Fits(0, 8) || !h.Fits(1) || h.Fits(2) {
		t.Error("Fits of what is left")
	}
}

// P8.5: Flush is the pool's: what is changed is durable, and the log ahead of it.
func TestFlush(t *testing.T) {
	for _, frames := range []int{1, 4} {
		d, h := fresh(t, 8, 4, frames)
		a := h.Begin()
		added(t, h, a, []byte("x"), Rid{0, 0})
		f := d.Fork()
		f.Crash(nil, -1, 0)
		if _, r := reopened(t, f, 4, 1); r.Last != 0 {
			t.Error("an Add is durable ahead of Flush")
		}
		h.Flush()
		if d.Pending() != 0 {
			t.Errorf("%d writes are pending behind Flush", d.Pending())
		}
		d.Crash(nil, -1, 0)
		b, _ := d.Read(4)
		p, e := page.Open(b)
		if e != api.OK || p.Count() != 1 {
			t.Errorf("page 0: %v", e)
		}
		h, r := reopened(t, d, 4, frames)
		if !slices.Equal(r.Losers, []int64{a}) {
			t.Errorf("the report: %v", r)
		}
		all(t, h)
	}
}

// The example of the chapter.
func TestExample(t *testing.T) {
	d, h := fresh(t, 8, 4, 2)
	if h.Begin() != 1 {
		t.Error("Begin")
	}
	added(t, h, 1, []byte("a"), Rid{0, 0})
	expect(t, "Commit", h.Commit(1, 5), api.OK)
	if h.Begin() != 2 {
		t.Error("Begin")
	}
	added(t, h, 2, []byte("b"), Rid{0, 1})
	d.Crash(nil, -1, 0)
	h, _ = reopened(t, d, 4, 2)
	all(t, h, Version{Rid{0, 0}, 1, 0, []byte("a")})
	if h.Begin() != 2 {
		t.Error("Begin behind the crash")
	}
}

// P2, rule 4.
func TestNothingIsShared(t *testing.T) {
	d, h := fresh(t, 8, 4, 1)
	a := h.Begin()
	room := []byte("datamore")
	added(t, h, a, room[:4], Rid{0, 0})
	clear(room[:4])
	added(t, h, a, []byte("more"), Rid{0, 1})
	expect(t, "Commit", h.Commit(a, 5), api.OK)
	if string(room) != "\x00\x00\x00\x00more" {
		t.Error("the spare room of what was handed in is changed")
	}
	want := []Version{{Rid{0, 0}, a, 0, []byte("data")}, {Rid{0, 1}, a, 0, []byte("more")}}
	v, w := h.All(), h.All()
	clear(v[0].Data[:cap(v[0].Data)])
	if string(v[1].Data) != "more" {
		t.Error("two lists of one answer share memory")
	}
	clear(v[:cap(v)])
	if !sameVersions(w, want) {
		t.Error("two answers of All share memory")
	}
	all(t, h, want...)
	for range 3 {
		c := h.Commits()
		e := h.Commits()
		clear(c[:cap(c)])
		if !slices.Equal(e, []trail.Stamped{{Txn: a, Stamp: 5}}) || !slices.Equal(h.Commits(), e) {
			t.Error("Commits shares memory")
		}
	}
	h, r := reopened(t, d, 4, 1)
	clear(r.Commits[:cap(r.Commits)])
	clear(r.Pages[:cap(r.Pages)])
	if !slices.Equal(h.Commits(), []trail.Stamped{{Txn: a, Stamp: 5}}) {
		t.Error("the report shares memory with the heap")
	}
	expect(t, "Commit", h.Commit(h.Begin(), 5), api.ErrRange)
	all(t, h, want...)
	sizes := []int{184, 3, 184, 0}
	h.Fits(0, sizes...)
	if !slices.Equal(sizes, []int{184, 3, 184, 0}) || !h.Fits(0, 184) || !h.Fits(0, 184) {
		t.Error("Fits changes what is handed in, or the heap")
	}
}

// P2, rule 3: two heaps are given the same, but one of them refuses calls in between; their disks tell the same at each step. With few frames a page that comes into one would push another one out.
func TestRefusedCallsChangeNothing(t *testing.T) {
	for _, frames := range []int{1, 2, 3} {
		x := dice(frames)
		d, h := fresh(t, 12, 6, frames)
		e, g := fresh(t, 12, 6, frames)
		a, b := h.Begin(), h.Begin()
		g.Begin()
		g.Begin()
		var there []Rid
		for step := range 60 {
			for page := range 7 {
				h.End(a, Rid{page, 14})
				h.End(b, Rid{page, 0}) // of another, or nothing
				h.End(77, Rid{page, 0})
			}
			h.Add(b, some(185))
			h.Add(0, nil)
			h.Commit(b, -1)
			h.Commit(-1, 8)
			h.Abort(-1)
			n := x.below(60)
			switch {
			case len(there) > 0 && x.below(3) == 0:
				r := there[x.below(len(there))]
				expect(t, "End", h.End(a, r), g.End(a, r))
				h.End(a, r)
				h.End(b, r)
			case step == 40:
				h.Flush()
				g.Flush()
			default:
				r, bad := h.Add(a, some(n))
				if s, worse := g.Add(a, some(n)); r != s || bad != worse {
					t.Fatalf("Add: %v, %v; %v, %v", r, bad, s, worse)
				}
				if bad == api.OK {
					there = append(there, r)
				}
			}
			if !sameDisks(d, e) {
				t.Fatalf("%d frames, step %d: a refused call can be told", frames, step)
			}
		}
		if !sameVersions(h.All(), g.All()) || !sameDisks(d, e) || h.Begin() != g.Begin() {
			t.Errorf("%d frames: a refused call can be told in the end", frames)
		}
	}
}

// P1: a crash under a heap that goes on may bring back anything; what it answers then isn't promised, but no call panics.
func TestCrashUnderAHeapThatGoesOn(t *testing.T) {
	short := page.New()
	short.Add([]byte("x"))
	short.Add(nil)
	for seed := range 60 {
		x := dice(seed)
		d := newDisk(t, 10)
		for i := 4; i < 10; i++ {
			d.Write(i, [][]byte{short.Bytes(), bytes.Repeat([]byte{3}, api.SectorSize), page.New().Bytes()}[x.below(3)])
		}
		d.Sync()
		h, _ := reopened(t, d, 4, 1+x.below(3))
		for range 60 {
			a := h.Begin()
			h.Add(a, some(x.below(185)))
			h.End(a, Rid{x.below(6), x.below(4)})
			if x.below(4) == 0 {
				d.Crash([]bool{x.below(2) == 0}, x.below(4), x.below(257))
			}
			h.All()
			h.Fits(1, 2, 3)
			if x.below(3) == 0 {
				h.Commit(a, int64(10+a))
			}
			if x.below(5) == 0 {
				h.Flush()
			}
		}
		Open(d, 4, 1)
	}
}
