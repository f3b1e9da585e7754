package store

import (
	"cmp"
	"math"
	"slices"
	"strings"
	"testing"

	"annals/api"
	"annals/disk"
	"annals/heap"
)

// dice answers numbers that look thrown, the same ones each time.
type dice uint64

func (x *dice) below(n int) int {
	*x = *x*6364136223846793005 + 1442695040888963407
	return int(uint64(*x) >> 33 % uint64(n))
}

// model is a store told another way: all versions, in the order in which they were made, and how much room each page and the log have.
type model struct {
	pages  []int // bytes left
	log    int   // bytes left
	counts []int // versions on each page
	made   []Item
	tables []int // of those made
	last   int64
}

func modelOf(pages, logs int) *model {
	return &model{pages: slices.Repeat([]int{256 - 13}, pages), log: logs * 256, counts: make([]int, pages)}
}

func sizeOf(f api.Fact) int {
	n := 27
	for _, v := range f.Row {
		if v.Kind == api.Int {
			n += 9
			continue
		}
		n += 3 + len(v.Text) + strings.Count(v.Text, "\x00")
	}
	return n
}

func (m *model) openAt(r heap.Rid) int {
	return slices.IndexFunc(m.made, func(x Item) bool { return x.Rid == r && x.Until == 0 })
}

// write answers the error; facts are right but for their sizes and tables.
func (m *model) write(stamp int64, ended []heap.Rid, added []Part) api.Errno {
	for _, p := range added {
		if p.Table < 0 {
			return api.ErrRange
		}
		if sizeOf(p.Fact) > 184 {
			return api.ErrLong
		}
	}
	if stamp <= m.last || stamp > forever {
		return api.ErrRange
	}
	for i, r := range ended {
		if m.openAt(r) < 0 || slices.Contains(ended[:i], r) {
			return api.ErrMissing
		}
	}
	places, ok := m.room(len(ended), added)
	if !ok {
		return api.ErrFull
	}
	for _, r := range ended {
		m.made[m.openAt(r)].Until = stamp
	}
	for i, p := range added {
		m.made = append(m.made, Item{places[i], p.Fact, stamp, 0})
		m.tables = append(m.tables, p.Table)
	}
	m.last = stamp
	return api.OK
}

// room is where facts come to lie; they take the room only if all find it.
func (m *model) room(ends int, added []Part) ([]heap.Rid, bool) {
	pages, counts, log := slices.Clone(m.pages), slices.Clone(m.counts), m.log-20*ends-25
	var places []heap.Rid
	for _, p := range added {
		size := sizeOf(p.Fact)
		n := slices.IndexFunc(pages, func(left int) bool { return left >= size+17 })
		log -= 20 + size
		if n < 0 {
			return nil, false
		}
		places = append(places, heap.Rid{Page: n, Slot: counts[n]})
		pages[n] -= size + 17
		counts[n]++
	}
	if log < 0 {
		return nil, false
	}
	m.pages, m.counts, m.log = pages, counts, log
	return places, true
}

func (m *model) see(table int, there func(Item) bool) []Item {
	var out []Item
	for i, x := range m.made {
		if (table < 0 || m.tables[i] == table) && there(x) {
			out = append(out, x)
		}
	}
	slices.SortFunc(out, func(a, b Item) int {
		return cmp.Or(cmp.Compare(a.Rid.Page, b.Rid.Page), cmp.Compare(a.Rid.Slot, b.Rid.Slot))
	})
	return out
}

// agree: do store and model tell the same of all tables, at all stamps?
func agree(t *testing.T, s *Store, m *model) {
	t.Helper()
	if s.Last() != m.last {
		t.Fatalf("Last: %d, want %d", s.Last(), m.last)
	}
	for table := -1; table < 4; table++ {
		if got, want := s.History(table), m.see(table, func(Item) bool { return true }); !sameItems(got, want) {
			t.Fatalf("History(%d): %v, want %v", table, got, want)
		}
		for _, stamp := range []int64{math.MinInt64, 0, 1, 2, 3, 5, 9, m.last / 2, m.last - 2, m.last - 1, m.last, m.last + 1, forever, math.MaxInt64} {
			want := m.see(table, func(x Item) bool { return x.Since <= stamp && !(x.Until != 0 && x.Until <= stamp) })
			if got := s.See(table, stamp); !sameItems(got, want) {
				t.Fatalf("See(%d, %d): %v, want %v", table, stamp, got, want)
			}
		}
	}
}

func (x *dice) throwPart() Part {
	p := Part{Table: x.below(4), Fact: fact(int64(x.below(9)), 9+int64(x.below(9)))}
	for range x.below(4) {
		if x.below(2) == 0 {
			p.Fact.Row = append(p.Fact.Row, number(int64(x.below(9)-4)))
		} else {
			p.Fact.Row = append(p.Fact.Row, text(strings.Repeat([]string{"x", "\x00", "ab"}[x.below(3)], x.below(33))))
		}
	}
	switch x.below(40) {
	case 0:
		p.Table = -1
	case 1:
		p.Fact.Row = slices.Repeat([]api.Value{number(1)}, 17+x.below(2))
	}
	return p
}

func (x *dice) throwPlaces(m *model) []heap.Rid {
	var out []heap.Rid
	for range x.below(4) {
		if len(m.made) > 0 && x.below(12) > 0 {
			r := m.made[x.below(len(m.made))].Rid
			if m.openAt(r) >= 0 && !slices.Contains(out, r) || x.below(9) == 0 {
				out = append(out, r)
			}
		} else if x.below(6) == 0 {
			out = append(out, heap.Rid{Page: x.below(12) - 1, Slot: x.below(9) - 1})
		}
	}
	return out
}

func crash(d *disk.Disk, x *dice) {
	keep := make([]bool, x.below(d.Pending()+3))
	for i := range keep {
		keep[i] = x.below(2) == 0
	}
	d.Crash(keep, x.below(d.Pending()+3)-2, x.below(257))
}

// P21.3 and P21.4 over many steps, with crashes between them: store and model agree throughout.
func TestAgreesWithModel(t *testing.T) {
	count := map[api.Errno]int{}
	crashes := 0
	for seed := range 60 {
		x := dice(seed)
		logs, pages := 1+x.below(30), 1+x.below(12)
		d, s := fresh(t, logs+pages, logs, 1+x.below(4))
		m := modelOf(pages, logs)
		for range 40 {
			stamp := m.last + int64(x.below(4))
			if x.below(30) == 0 {
				stamp = []int64{forever + 1, -1, math.MaxInt64}[x.below(3)]
			}
			ended := x.throwPlaces(m)
			var added []Part
			for range x.below(4) {
				added = append(added, x.throwPart())
			}
			want := m.write(stamp, ended, added)
			if e := s.Write(stamp, ended, added...); e != want {
				t.Fatalf("Write(%d, %v, %v): %v, want %v", stamp, ended, added, e, want)
			}
			count[want]++
			if x.below(4) == 0 {
				agree(t, s, m)
			}
			if x.below(9) == 0 {
				crash(d, &x)
				s = reopened(t, d, logs, 1+x.below(4))
				crashes++
				agree(t, s, m)
			}
		}
		agree(t, s, m)
	}
	for e, least := range map[api.Errno]int{api.OK: 400, api.ErrRange: 200, api.ErrLong: 10, api.ErrMissing: 100, api.ErrFull: 200} {
		if count[e] < least {
			t.Errorf("%v: only %d times", e, count[e])
		}
	}
	if crashes < 150 {
		t.Errorf("only %d crashes", crashes)
	}
}
