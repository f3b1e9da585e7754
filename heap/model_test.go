package heap

import (
	"bytes"
	"reflect"
	"slices"
	"testing"

	"annals/api"
	"annals/disk"
	"annals/page"
	"annals/trail"
	"annals/wal"
)

// model is a heap told another way: all that was said, from the beginning on, and which transactions go on; what there is is reckoned anew each time.
type model struct {
	pages, room int // room: bytes of the log
	said        []trail.Entry
	live        []int64
	last        int64
}

func (m *model) isLive(txn int64) bool { return slices.Contains(m.live, txn) }

func (m *model) isKept(txn int64) bool {
	return slices.ContainsFunc(m.said, func(e trail.Entry) bool { return e.Kind == trail.Commit && e.Txn == txn })
}

func cost(e trail.Entry) int {
	if e.Kind == trail.Commit {
		return 25
	}
	return 20 + len(e.Data)
}

func (m *model) say(e trail.Entry) api.Errno {
	used := cost(e)
	for _, s := range m.said {
		used += cost(s)
	}
	if used > m.room {
		return api.ErrFull
	}
	m.said = append(m.said, e)
	return api.OK
}

// written: the versions of all transactions, with whatever has ended them last.
func (m *model) written() []Version {
	var out []Version
	for _, e := range m.said {
		at := Rid{e.Page, e.Slot}
		switch e.Kind {
		case trail.Add:
			out = append(out, Version{Rid: at, Begin: e.Txn, Data: e.Data})
		case trail.End:
			i := slices.IndexFunc(out, func(v Version) bool { return v.Rid == at })
			out[i].End = e.Txn
		}
	}
	slices.SortFunc(out, func(a, b Version) int {
		return (a.Rid.Page-b.Rid.Page)*1000 + a.Rid.Slot - b.Rid.Slot
	})
	return out
}

func (m *model) all() []Version {
	var out []Version
	for _, v := range m.written() {
		if !m.isLive(v.Begin) && !m.isKept(v.Begin) {
			continue
		}
		if !m.isLive(v.End) && !m.isKept(v.End) {
			v.End = 0
		}
		out = append(out, v)
	}
	return out
}

func (m *model) commits() []trail.Stamped {
	var out []trail.Stamped
	for _, e := range m.said {
		if e.Kind == trail.Commit {
			out = append(out, trail.Stamped{Txn: e.Txn, Stamp: e.Stamp})
		}
	}
	return out
}

func (m *model) begin() int64 {
	m.last++
	m.live = append(m.live, m.last)
	return m.last
}

func (m *model) leave(txn int64) {
	m.live = slices.DeleteFunc(slices.Clone(m.live), func(x int64) bool { return x == txn })
}

func (m *model) add(txn int64, data []byte) (Rid, api.Errno) {
	if !m.isLive(txn) {
		return Rid{}, api.ErrTxn
	}
	if len(data) > 184 {
		return Rid{}, api.ErrLong
	}
	for n := range m.pages {
		used, count := 13, 0
		for _, v := range m.written() {
			if v.Rid.Page == n {
				used += 17 + len(v.Data)
				count++
			}
		}
		if used+17+len(data) > 256 {
			continue
		}
		e := m.say(trail.Entry{Kind: trail.Add, Txn: txn, Page: n, Slot: count, Data: data})
		if e != api.OK {
			return Rid{}, e
		}
		return Rid{n, count}, api.OK
	}
	return Rid{}, api.ErrFull
}

func (m *model) end(txn int64, r Rid) api.Errno {
	if !m.isLive(txn) {
		return api.ErrTxn
	}
	all := m.all()
	i := slices.IndexFunc(all, func(v Version) bool { return v.Rid == r })
	if i < 0 || m.isLive(all[i].Begin) && all[i].Begin != txn || m.isKept(all[i].End) || all[i].End == txn {
		return api.ErrMissing
	}
	if all[i].End != 0 {
		return api.ErrBusy
	}
	return m.say(trail.Entry{Kind: trail.End, Txn: txn, Page: r.Page, Slot: r.Slot})
}

func (m *model) commit(txn, stamp int64) api.Errno {
	if !m.isLive(txn) {
		return api.ErrTxn
	}
	c := m.commits()
	if stamp < 0 || stamp > api.Forever || len(c) > 0 && stamp <= c[len(c)-1].Stamp {
		return api.ErrRange
	}
	if e := m.say(trail.Entry{Kind: trail.Commit, Txn: txn, Stamp: stamp}); e != api.OK {
		return e
	}
	m.leave(txn)
	return api.OK
}

func (m *model) abort(txn int64) api.Errno {
	if !m.isLive(txn) {
		return api.ErrTxn
	}
	m.leave(txn)
	return api.OK
}

func (m *model) marks() []int64 {
	var out []int64
	at := int64(0)
	for _, e := range m.said {
		at += int64(cost(e))
		out = append(out, at)
	}
	return out
}

// crash: of what was said the beginning is left that the disk's log has; it goes as far as the last Commit at least.
func (m *model) crash(t *testing.T, d *disk.Disk, logs int) {
	t.Helper()
	_, records, _ := wal.Open(d.Fork(), 0, logs)
	if len(records) > len(m.said) {
		t.Fatalf("the log has %d records, but %d were said", len(records), len(m.said))
	}
	for i, e := range m.said {
		if i >= len(records) {
			if e.Kind == trail.Commit {
				t.Fatalf("the Commit of %d isn't durable", e.Txn)
			}
			continue
		}
		if b, _ := trail.Encode(e); !bytes.Equal(b, records[i].Data) {
			t.Fatalf("record %d: %v, want %v", i, records[i].Data, b)
		}
	}
	m.said, m.live, m.last = m.said[:len(records)], nil, 0
	for _, e := range m.said {
		m.last = max(m.last, e.Txn)
	}
}

// players are a heap and its model, which are given the same.
type players struct {
	d            *disk.Disk
	h            *Heap
	m            *model
	logs, frames int
	count        map[string]int // how often what happened
}

func (p *players) same(t *testing.T, what string, got, want api.Errno) {
	t.Helper()
	if got != want {
		t.Fatalf("%s: %v, want %v", what, got, want)
	}
	p.count[what+" "+want.Error()]++
}

func (p *players) txn(x *dice) int64 {
	if len(p.m.live) == 0 || x.below(12) == 0 {
		return int64(x.below(int(p.m.last)+3) - 1)
	}
	return p.m.live[x.below(len(p.m.live))]
}

func (p *players) rid(x *dice) Rid {
	w := p.m.written()
	if len(w) == 0 || x.below(10) == 0 {
		return Rid{x.below(p.m.pages+2) - 1, x.below(5) - 1}
	}
	return w[x.below(len(w))].Rid
}

func (p *players) step(t *testing.T, x *dice) {
	t.Helper()
	switch x.below(16) {
	case 0, 1:
		if got, want := p.h.Begin(), p.m.begin(); got != want {
			t.Fatalf("Begin: %d, want %d", got, want)
		}
	case 2, 3, 4, 5:
		txn, data := p.txn(x), bytes.Repeat([]byte{byte(x.below(256))}, x.below(60))
		if x.below(10) == 0 {
			data = some(180 + x.below(8))
		}
		r, e := p.h.Add(txn, data)
		want, bad := p.m.add(txn, data)
		p.same(t, "Add", e, bad)
		if r != want {
			t.Fatalf("Add: %v, want %v", r, want)
		}
	case 6, 7, 8, 9:
		txn, r := p.txn(x), p.rid(x)
		p.same(t, "End", p.h.End(txn, r), p.m.end(txn, r))
	case 10, 11:
		stamp := int64(x.below(6) - 2)
		if c := p.m.commits(); len(c) > 0 {
			stamp += c[len(c)-1].Stamp
		}
		txn := p.txn(x)
		p.same(t, "Commit", p.h.Commit(txn, stamp), p.m.commit(txn, stamp))
	case 12:
		txn := p.txn(x)
		p.same(t, "Abort", p.h.Abort(txn), p.m.abort(txn))
	case 13:
		p.h.Flush()
		p.count["Flush"]++
	case 14:
		p.all(t)
	case 15:
		if x.below(3) == 0 {
			p.crash(t, x)
		}
	}
}

func (p *players) all(t *testing.T) {
	t.Helper()
	if got, want := p.h.All(), p.m.all(); !sameVersions(got, want) {
		t.Fatalf("All: %v, want %v", got, want)
	}
	if got, want := p.h.Commits(), p.m.commits(); !slices.Equal(got, want) {
		t.Fatalf("Commits: %v, want %v", got, want)
	}
}

func (p *players) crash(t *testing.T, x *dice) {
	t.Helper()
	kept := p.m.commits()
	keep := make([]bool, x.below(p.d.Pending()+3))
	for i := range keep {
		keep[i] = x.below(2) == 0
	}
	p.d.Crash(keep, x.below(p.d.Pending()+3)-2, x.below(257))
	p.m.crash(t, p.d, p.logs)
	if !slices.Equal(p.m.commits(), kept) {
		t.Fatal("a Commit is lost")
	}
	p.frames = 1 + x.below(4)
	var r trail.Report
	p.h, r = reopened(t, p.d, p.logs, p.frames)
	if want := trail.Analyse(p.m.said, p.m.marks()); !reflect.DeepEqual(r, want) {
		t.Fatalf("the report: %v, want %v", r, want)
	}
	p.count["crash"]++
	if len(r.Losers) > 0 {
		p.count["crash with losers"]++
	}
	p.all(t)
}

// logged: no page on the disk is ahead of what the log says there (layer 6, by the marks of P8.3).
func (p *players) logged(t *testing.T) {
	t.Helper()
	f := p.d.Fork()
	f.Crash(slices.Repeat([]bool{true}, f.Pending()), -1, 0)
	l, _, _ := wal.Open(f.Fork(), 0, p.logs)
	for i := p.logs; i < f.Sectors(); i++ {
		b, _ := f.Read(i)
		if on, e := page.Open(b); e == api.OK && on.Mark() > l.End() {
			t.Fatalf("page %d has the mark %d, but the log ends at %d", i-p.logs, on.Mark(), l.End())
		}
	}
}

// P8.1 to P8.6 over many steps, with crashes between them, in each of which heap and model must agree.
func TestAgreesWithModel(t *testing.T) {
	count := map[string]int{}
	for seed := range 150 {
		x := dice(seed)
		logs, pages, frames := 1+x.below(12), 1+x.below(5), 1+x.below(4)
		d, h := fresh(t, logs+pages, logs, frames)
		p := &players{d: d, h: h, m: &model{pages: pages, room: logs * 256}, logs: logs, frames: frames, count: count}
		for range 150 {
			p.step(t, &x)
			p.logged(t)
		}
		p.all(t)
	}
	for what, least := range map[string]int{
		"Add errno 0": 500, "Add errno 70": 20, "Add errno 2": 20, "Add errno 3": 100,
		"End errno 0": 100, "End errno 70": 20, "End errno 4": 100, "End errno 71": 30, "End errno 3": 20,
		"Commit errno 0": 100, "Commit errno 70": 20, "Commit errno 1": 50, "Commit errno 3": 20,
		"Abort errno 0": 50, "Abort errno 70": 10, "Flush": 100, "crash": 100, "crash with losers": 50,
	} {
		if count[what] < least {
			t.Errorf("%s: only %d times", what, count[what])
		}
	}
}

// P8.6: a Commit that is under way in a crash: whatever of the log's sectors has come to the disk, in whole or torn, all of the transaction is there, or nothing.
func TestCommitUnderWay(t *testing.T) {
	const logs, pages = 8, 6
	d, h := fresh(t, logs+pages, logs, 2)
	a := h.Begin()
	for range 4 {
		h.Add(a, some(60))
	}
	expect(t, "Commit", h.Commit(a, 3), api.OK)
	without := h.All()
	b := h.Begin()
	expect(t, "End", h.End(b, Rid{0, 0}), api.OK)
	expect(t, "End", h.End(b, Rid{1, 0}), api.OK)
	for i := range 5 {
		if _, e := h.Add(b, some(100+i)); e != api.OK {
			t.Fatal(e)
		}
	}
	before := d.Fork()
	expect(t, "Commit", h.Commit(b, 7), api.OK)
	with := h.All()
	var changed []int
	for i := range logs {
		x, _ := before.Read(i)
		y, _ := d.Read(i)
		if !bytes.Equal(x, y) {
			changed = append(changed, i)
		}
	}
	if len(changed) < 2 {
		t.Fatalf("the Commit writes %d sectors", len(changed))
	}
	seen := map[bool]int{}
	for set := range 1 << len(changed) {
		for tear := -1; tear < len(changed); tear++ {
			for at := 0; at <= 256; at += 7 {
				f := before.Fork()
				pending := f.Pending()
				keep := make([]bool, pending+len(changed))
				for i, n := range changed {
					s, _ := d.Read(n)
					f.Write(n, s)
					keep[pending+i] = set>>i&1 == 1
				}
				if tear < 0 {
					f.Crash(keep, -1, 0)
				} else {
					f.Crash(keep, pending+tear, at)
				}
				g, _ := reopened(t, f, logs, 1)
				got := g.All()
				whole := len(g.Commits()) == 2
				seen[whole]++
				if whole && !sameVersions(got, with) || !whole && (!sameVersions(got, without) || len(g.Commits()) != 1) {
					t.Fatalf("kept %b, torn %d at %d: %v", set, tear, at, got)
				}
			}
		}
	}
	if seen[true] < 5 || seen[false] < 100 {
		t.Errorf("%v", seen)
	}
}

// P8.6: a Commit that answered OK is there, however the pages' writes are lost, kept or torn.
func TestPagesMayBeLost(t *testing.T) {
	x := dice(5)
	for range 100 {
		d, h := fresh(t, 12, 6, 1)
		a := h.Begin()
		for range 5 {
			h.Add(a, some(20+x.below(150)))
		}
		h.End(a, Rid{0, 0})
		expect(t, "Commit", h.Commit(a, 1), api.OK)
		want := h.All()
		b := h.Begin()
		h.End(b, Rid{1, 0})
		h.Add(b, some(x.below(100)))
		h.All()
		keep := make([]bool, d.Pending())
		for i := range keep {
			keep[i] = x.below(2) == 0
		}
		d.Crash(keep, x.below(d.Pending()+1), x.below(257))
		g, _ := reopened(t, d, 6, 1)
		all(t, g, want...)
	}
}
