package mvcc

import (
	"maps"
	"math"
	"slices"
	"strconv"
	"testing"

	"annals/api"
)

const (
	least    = math.MinInt64
	greatest = math.MaxInt64
	forever  = api.Forever
)

// dice answers numbers that look thrown, the same ones each time.
type dice uint64

func (x *dice) below(n int) int {
	*x = *x*6364136223846793005 + 1442695040888963407
	return int(uint64(*x) >> 33 % uint64(n))
}

// answers: does a call answer this number and this error?
func answers(t *testing.T, name string, n int64, e api.Errno, want int64, f api.Errno) {
	t.Helper()
	if n != want || e != f {
		t.Errorf("%s: %d %v, not %d %v", name, n, e, want, f)
	}
}

// times: are the clock and the last stamp these?
func times(t *testing.T, m *Manager, now, last int64) {
	t.Helper()
	if m.Now() != now || m.Last() != last {
		t.Errorf("Now %d, Last %d, not %d and %d", m.Now(), m.Last(), now, last)
	}
}

// begun is a new transaction that has written keys.
func begun(t *testing.T, m *Manager, keys ...string) int64 {
	t.Helper()
	n, _ := m.Begin()
	if e := m.Write(n, keys...); e != api.OK {
		t.Fatalf("Write: %v", e)
	}
	return n
}

// P12.1
func TestNew(t *testing.T) {
	cases := []struct{ last, begun, stamp, first int64 }{
		{0, 0, 0, 1},
		{5, 7, 5, 8},
		{-1, -1, 0, 1},
		{least, least, 0, 1},
		{forever - 1, 1 << 62, forever - 1, 1<<62 + 1},
		{forever, 1<<62 - 1, forever, 1 << 62},
		{forever + 1, 1<<62 + 1, forever, 1<<62 + 1},
		{greatest, greatest, forever, 1<<62 + 1},
		{1, greatest - 1, 1, 1<<62 + 1},
		{greatest, 0, forever, 1},
		{0, greatest, 0, 1<<62 + 1},
	}
	for _, c := range cases {
		m := New(c.last, c.begun)
		times(t, m, c.stamp, c.stamp)
		if l := m.Active(); len(l) != 0 {
			t.Errorf("New(%d, %d): active are %v", c.last, c.begun, l)
		}
		for _, n := range []int64{c.begun, c.first - 1, c.first} {
			if e := m.Abort(n); e != api.ErrTxn {
				t.Errorf("New(%d, %d): Abort(%d): %v", c.last, c.begun, n, e)
			}
		}
		if n, s := m.Begin(); n != c.first || s != c.stamp {
			t.Errorf("New(%d, %d): Begin: %d %d, not %d %d", c.last, c.begun, n, s, c.first, c.stamp)
		}
		if n, s := m.Begin(); n != c.first+1 || s != c.stamp {
			t.Errorf("New(%d, %d): Begin again: %d %d, not %d %d", c.last, c.begun, n, s, c.first+1, c.stamp)
		}
	}
}

// P12.1
func TestTick(t *testing.T) {
	cases := []struct{ last, n, want int64 }{
		{5, 10, 15},
		{5, 1, 6},
		{5, 0, 5},
		{5, -1, 5},
		{5, -5, 5},
		{5, least, 5},
		{5, greatest, forever},
		{forever - 1, greatest, forever},
		{forever, greatest, forever},
		{forever, 1, forever},
		{forever, -1, forever},
		{forever - 3, 2, forever - 1},
		{forever - 3, 3, forever},
		{forever - 3, 4, forever},
		{0, forever - 1, forever - 1},
		{0, forever, forever},
		{0, forever + 1, forever},
		{0, greatest, forever},
		{0, least, 0},
	}
	for _, c := range cases {
		m := New(c.last, 0)
		m.Tick(c.n)
		times(t, m, c.want, c.last)
		if _, s := m.Begin(); s != c.last {
			t.Errorf("Tick(%d): the snapshot is %d, not %d", c.n, s, c.last)
		}
	}
	m := New(5, 0)
	for i := range int64(10) {
		m.Tick(3)
		m.Tick(-2)
		times(t, m, 5+3*(i+1), 5)
	}
}

// P12.2
func TestBeginAndActive(t *testing.T) {
	m := New(5, 40)
	for i := range int64(30) {
		if n, s := m.Begin(); n != 41+i || s != 5 {
			t.Fatalf("Begin: %d %d", n, s)
		}
	}
	for _, n := range []int64{55, 41, 70, 56} {
		if e := m.Abort(n); e != api.OK {
			t.Fatalf("Abort(%d): %v", n, e)
		}
	}
	var want []int64
	for n := int64(41); n <= 70; n++ {
		if n != 55 && n != 41 && n != 70 && n != 56 {
			want = append(want, n)
		}
	}
	if got := m.Active(); !slices.Equal(got, want) {
		t.Errorf("Active: %v, not %v", got, want)
	}
	// The number of one that is gone isn't given again.
	if n, _ := m.Begin(); n != 71 {
		t.Errorf("Begin behind Abort: %d", n)
	}
}

// P12.2: a snapshot is the last stamp at the beginning, whatever comes later.
func TestSnapshot(t *testing.T) {
	m := New(5, 0)
	first, _ := m.Begin()
	m.Tick(100)
	second, _ := m.Begin()
	if s, e := m.Commit(begun(t, m, "a")); s != 105 || e != api.OK {
		t.Fatalf("Commit: %d %v", s, e)
	}
	third, s := m.Begin()
	if s != 105 {
		t.Errorf("Begin behind Commit: %d", s)
	}
	for _, c := range []struct{ n, want int64 }{{first, 5}, {second, 5}, {third, 105}} {
		s, e := m.Snapshot(c.n)
		answers(t, "Snapshot", s, e, c.want, api.OK)
	}
	m.Abort(second)
	for _, n := range []int64{second, 0, -1, third - 1, third + 1, least, greatest} {
		s, e := m.Snapshot(n)
		answers(t, "Snapshot of none", s, e, 0, api.ErrTxn)
	}
}

// P12.2, P12.3, P12.4: calls that name no active transaction.
func TestNotActive(t *testing.T) {
	m := New(5, 0)
	held := begun(t, m, "a")
	done := begun(t, m, "b")
	gone := begun(t, m, "c")
	if s, e := m.Commit(done); s != 6 || e != api.OK {
		t.Fatalf("Commit: %d %v", s, e)
	}
	if e := m.Abort(gone); e != api.OK {
		t.Fatalf("Abort: %v", e)
	}
	for _, n := range []int64{done, gone, 0, -1, 4, 99, least, greatest} {
		s, e := m.Snapshot(n)
		answers(t, "Snapshot", s, e, 0, api.ErrTxn)
		s, e = m.Check(n)
		answers(t, "Check", s, e, 0, api.ErrTxn)
		s, e = m.Commit(n)
		answers(t, "Commit", s, e, 0, api.ErrTxn)
		answers(t, "Write", 0, m.Write(n, "a", "b"), 0, api.ErrTxn)
		answers(t, "Write of nothing", 0, m.Write(n), 0, api.ErrTxn)
		answers(t, "Abort", 0, m.Abort(n), 0, api.ErrTxn)
		times(t, m, 5, 6)
		if l := m.Active(); !slices.Equal(l, []int64{held}) {
			t.Errorf("Active: %v", l)
		}
	}
	if s, e := m.Commit(held); s != 7 || e != api.OK {
		t.Errorf("Commit of the one that is active: %d %v", s, e)
	}
}

// P12.3, P12.4, and the example of the chapter.
func TestFirstWins(t *testing.T) {
	m := New(5, 0)
	a, b := begun(t, m, "b"), begun(t, m, "b")
	for range 3 {
		for _, n := range []int64{a, b} {
			s, e := m.Check(n)
			answers(t, "Check of both", s, e, 6, api.OK)
		}
	}
	s, e := m.Commit(a)
	answers(t, "Commit of the first", s, e, 6, api.OK)
	times(t, m, 5, 6)
	for range 3 {
		s, e = m.Check(b)
		answers(t, "Check of the second", s, e, 0, api.ErrConflict)
		if l := m.Active(); !slices.Equal(l, []int64{b}) {
			t.Errorf("Active behind Check: %v", l)
		}
	}
	s, e = m.Commit(b)
	answers(t, "Commit of the second", s, e, 0, api.ErrConflict)
	times(t, m, 5, 6)
	if l := m.Active(); len(l) != 0 {
		t.Errorf("Active behind the conflict: %v", l)
	}
	s, e = m.Commit(b)
	answers(t, "Commit of the second again", s, e, 0, api.ErrTxn)
	s, e = m.Commit(begun(t, m, "b"))
	answers(t, "Commit of one behind both", s, e, 7, api.OK)
}

// P12.3: which keys cross, and which stamps.
func TestConflict(t *testing.T) {
	cases := []struct {
		name         string
		ahead, other []string // what is committed ahead of the transaction's beginning, and across it
		keys         []string
		want         int64
		e            api.Errno
	}{
		{"nothing across", []string{"a"}, nil, []string{"a"}, 7, api.OK},
		{"other keys", nil, []string{"a"}, []string{"b"}, 7, api.OK},
		{"the same key", nil, []string{"a"}, []string{"a"}, 0, api.ErrConflict},
		{"one of several", nil, []string{"x", "a", "y"}, []string{"b", "c", "a"}, 0, api.ErrConflict},
		{"ahead and across", []string{"a"}, []string{"a"}, []string{"a"}, 0, api.ErrConflict},
		{"ahead alone", []string{"a"}, []string{"b"}, []string{"a"}, 8, api.OK},
		{"the empty key", nil, []string{""}, []string{""}, 0, api.ErrConflict},
		{"the empty key and another", nil, []string{"\x00"}, []string{""}, 7, api.OK},
		{"great and small letters", nil, []string{"A"}, []string{"a"}, 7, api.OK},
		{"any bytes", nil, []string{"\xff\x00"}, []string{"\xff\x00"}, 0, api.ErrConflict},
		{"the same key twice", nil, []string{"a", "a"}, []string{"b", "b"}, 7, api.OK},
		{"nothing written", nil, []string{"a"}, nil, 5, api.OK},
		{"nothing written, of another snapshot", []string{"a"}, []string{"a"}, nil, 6, api.OK},
	}
	for _, c := range cases {
		m := New(5, 0)
		if s, e := m.Commit(begun(t, m, c.ahead...)); e != api.OK {
			t.Fatalf("%s: Commit: %d %v", c.name, s, e)
		}
		n := begun(t, m, c.keys...)
		if s, e := m.Commit(begun(t, m, c.other...)); e != api.OK {
			t.Fatalf("%s: Commit across: %d %v", c.name, s, e)
		}
		s, e := m.Check(n)
		answers(t, c.name+": Check", s, e, c.want, c.e)
		s, e = m.Commit(n)
		answers(t, c.name+": Commit", s, e, c.want, c.e)
		if l := m.Active(); len(l) != 0 {
			t.Errorf("%s: active are %v", c.name, l)
		}
	}
}

// P12.2, P12.3: keys of several Writes count together, and those of a Write of nothing don't.
func TestWriteTwice(t *testing.T) {
	m := New(5, 0)
	n, _ := m.Begin()
	for range 3 {
		answers(t, "Write of nothing", 0, m.Write(n), 0, api.OK)
		answers(t, "Write of an empty list", 0, m.Write(n, []string{}...), 0, api.OK)
	}
	s, e := m.Check(n)
	answers(t, "Check behind Writes of nothing", s, e, 5, api.OK)
	m.Write(n, "a")
	s, e = m.Check(n)
	answers(t, "Check behind one key", s, e, 6, api.OK)
	m.Write(n, "b", "c")
	m.Write(n)
	across := begun(t, m, "a")
	s, e = m.Commit(across)
	answers(t, "Commit across", s, e, 6, api.OK)
	s, e = m.Check(n)
	answers(t, "Check", s, e, 0, api.ErrConflict)
}

// P12.3: a key that was written twice is still across those that began in between, when those that began ahead of both are gone.
func TestWrittenTwice(t *testing.T) {
	m := New(5, 0)
	old := begun(t, m)
	s, e := m.Commit(begun(t, m, "a", "b"))
	answers(t, "the first Commit", s, e, 6, api.OK)
	between, other := begun(t, m, "a"), begun(t, m, "b")
	s, e = m.Commit(begun(t, m, "a"))
	answers(t, "the second Commit", s, e, 7, api.OK)
	answers(t, "Abort of the oldest", 0, m.Abort(old), 0, api.OK)
	s, e = m.Commit(other)
	answers(t, "Commit of what was written ahead of it", s, e, 8, api.OK)
	s, e = m.Commit(between)
	answers(t, "Commit of what was written across it", s, e, 0, api.ErrConflict)
}

// P12.3: the clock, or one more than the last stamp; below Forever.
func TestStamps(t *testing.T) {
	cases := []struct {
		last, tick, want int64
		e                api.Errno
	}{
		{0, 0, 1, api.OK},
		{5, 0, 6, api.OK},
		{5, 1, 6, api.OK},
		{5, 2, 7, api.OK},
		{5, 100, 105, api.OK},
		{forever - 2, 0, forever - 1, api.OK},
		{forever - 2, 1, forever - 1, api.OK},
		{forever - 2, 2, 0, api.ErrFull},
		{forever - 1, 0, 0, api.ErrFull},
		{forever, 0, 0, api.ErrFull},
		{0, forever - 1, forever - 1, api.OK},
		{0, forever, 0, api.ErrFull},
		{0, greatest, 0, api.ErrFull},
		{greatest, greatest, 0, api.ErrFull},
	}
	for _, c := range cases {
		m := New(c.last, 0)
		n := begun(t, m, "a")
		m.Tick(c.tick)
		now, last := m.Now(), m.Last()
		s, e := m.Check(n)
		answers(t, "Check", s, e, c.want, c.e)
		times(t, m, now, last)
		s, e = m.Commit(n)
		answers(t, "Commit", s, e, c.want, c.e)
		if c.e == api.OK {
			times(t, m, now, c.want)
			continue
		}
		// Refused: it is as it was, and may still be given up.
		times(t, m, now, last)
		if l := m.Active(); !slices.Equal(l, []int64{n}) {
			t.Errorf("New(%d, 0), Tick(%d): active behind ErrFull are %v", c.last, c.tick, l)
		}
		s, e = m.Commit(n)
		answers(t, "Commit again", s, e, 0, c.e)
		answers(t, "Abort", 0, m.Abort(n), 0, api.OK)
	}
}

// P12.3: stamps rise by one behind one another, and then with the clock.
func TestStampsRise(t *testing.T) {
	m := New(5, 0)
	for i := range int64(4) {
		s, e := m.Commit(begun(t, m, "a"))
		answers(t, "Commit", s, e, 6+i, api.OK)
		times(t, m, 5, 6+i)
	}
	m.Tick(4)
	s, e := m.Commit(begun(t, m, "a"))
	answers(t, "Commit at a clock that is the last stamp", s, e, 10, api.OK)
	m.Tick(11)
	s, e = m.Commit(begun(t, m, "a"))
	answers(t, "Commit at a clock beyond", s, e, 20, api.OK)
	s, e = m.Commit(begun(t, m, "a"))
	answers(t, "Commit behind it", s, e, 21, api.OK)
}

// P12.3: ErrConflict stands ahead of ErrFull, and one that wrote nothing has neither.
func TestOrderOfErrors(t *testing.T) {
	m := New(forever-2, 0)
	late, plain, idle := begun(t, m, "a"), begun(t, m, "b"), begun(t, m)
	s, e := m.Commit(begun(t, m, "a"))
	answers(t, "Commit", s, e, forever-1, api.OK)
	s, e = m.Check(late)
	answers(t, "Check of one across", s, e, 0, api.ErrConflict)
	s, e = m.Check(plain)
	answers(t, "Check of one that isn't", s, e, 0, api.ErrFull)
	s, e = m.Check(idle)
	answers(t, "Check of one that wrote nothing", s, e, forever-2, api.OK)
	s, e = m.Commit(late)
	answers(t, "Commit of one across", s, e, 0, api.ErrConflict)
	s, e = m.Commit(plain)
	answers(t, "Commit of one that isn't", s, e, 0, api.ErrFull)
	s, e = m.Commit(idle)
	answers(t, "Commit of one that wrote nothing", s, e, forever-2, api.OK)
	if l := m.Active(); !slices.Equal(l, []int64{plain}) {
		t.Errorf("Active: %v", l)
	}
	times(t, m, forever-2, forever-1)
}

// P12.4: what a transaction wrote that had a conflict or was given up counts for nobody.
func TestNothingCounts(t *testing.T) {
	m := New(5, 0)
	watch, other := begun(t, m, "x"), begun(t, m, "y")
	lost := begun(t, m, "a", "x")
	s, e := m.Commit(begun(t, m, "a"))
	answers(t, "Commit", s, e, 6, api.OK)
	s, e = m.Commit(lost)
	answers(t, "Commit of one across", s, e, 0, api.ErrConflict)
	answers(t, "Abort", 0, m.Abort(begun(t, m, "x", "y")), 0, api.OK)
	s, e = m.Commit(watch)
	answers(t, "Commit of one that wrote what the lost one wrote", s, e, 7, api.OK)
	s, e = m.Commit(other)
	answers(t, "Commit of one that wrote what one given up wrote", s, e, 8, api.OK)
}

// P12.4: one that wrote nothing is done without a stamp.
func TestIdleCommit(t *testing.T) {
	m := New(5, 0)
	idle, _ := m.Begin()
	m.Tick(10)
	s, e := m.Commit(begun(t, m, "a"))
	answers(t, "Commit", s, e, 15, api.OK)
	s, e = m.Commit(idle)
	answers(t, "Commit of nothing", s, e, 5, api.OK)
	times(t, m, 15, 15)
	s, e = m.Commit(idle)
	answers(t, "Commit of nothing again", s, e, 0, api.ErrTxn)
}

// P12.5
func TestSees(t *testing.T) {
	cases := []struct {
		snapshot, begin, end int64
		want                 bool
	}{
		{5, 5, 0, true},
		{5, 3, 0, true},
		{5, 6, 0, false},
		{5, 3, 5, false},
		{5, 3, 6, true},
		{5, 3, 4, false},
		{5, 5, 6, true},
		{5, 6, 7, false},
		{5, 6, 6, false},
		{5, 5, 5, false},
		{5, 3, 1, false},
		{5, 3, -1, false},
		{0, 0, 0, true},
		{0, 1, 0, false},
		{0, 0, 1, true},
		{-1, -1, 0, true},
		{-1, -2, -1, false},
		{-3, -3, -2, true},
		{-3, -3, -4, false},
		{-1, 0, 0, false},
		{greatest, greatest, 0, true},
		{greatest, 0, greatest, false},
		{greatest, least, greatest, false},
		{least, least, 0, true},
		{least, least, least, false},
		{least, least, greatest, true},
		{least, greatest, 0, false},
		{forever, forever, 0, true},
		{forever - 1, 0, forever, true},
	}
	for _, c := range cases {
		if got := Sees(c.snapshot, c.begin, c.end); got != c.want {
			t.Errorf("Sees(%d, %d, %d): %v", c.snapshot, c.begin, c.end, got)
		}
	}
}

// slow is a manager by the words of the chapter, which keeps all that was ever written.
type slow struct {
	now, last, begun int64
	snapshots        map[int64]int64
	keys             map[int64][]string
	done             []struct {
		stamp int64
		keys  []string
	}
}

func (m *slow) check(t int64) (int64, api.Errno) {
	snapshot, active := m.snapshots[t]
	if !active {
		return 0, api.ErrTxn
	}
	if len(m.keys[t]) == 0 {
		return snapshot, api.OK
	}
	for _, d := range m.done {
		for _, key := range m.keys[t] {
			if d.stamp > snapshot && slices.Contains(d.keys, key) {
				return 0, api.ErrConflict
			}
		}
	}
	if stamp := max(m.now, m.last+1); stamp < forever {
		return stamp, api.OK
	}
	return 0, api.ErrFull
}

func (m *slow) drop(t int64) {
	delete(m.snapshots, t)
	delete(m.keys, t)
}

func (m *slow) commit(t int64) (int64, api.Errno) {
	stamp, e := m.check(t)
	if e == api.OK && len(m.keys[t]) > 0 {
		m.last = stamp
		m.done = append(m.done, struct {
			stamp int64
			keys  []string
		}{stamp, m.keys[t]})
	}
	if e == api.OK || e == api.ErrConflict {
		m.drop(t)
	}
	return stamp, e
}

// kept: does a manager keep no more of what was written than somebody may still be across?
func kept(t *testing.T, m *Manager, s *slow) {
	t.Helper()
	oldest := s.last
	for _, snapshot := range s.snapshots {
		oldest = min(oldest, snapshot)
	}
	want := map[string]int64{}
	for _, d := range s.done {
		for _, key := range d.keys {
			if d.stamp > oldest {
				want[key] = d.stamp
			}
		}
	}
	if !maps.Equal(m.stamps, want) {
		t.Fatalf("kept: %v, not %v", m.stamps, want)
	}
}

// P12.1 to P12.4: transactions come and go, and all calls tell what the words of the chapter say; nothing is kept for too long.
func TestAgainstAll(t *testing.T) {
	got := map[api.Errno]int{}
	for seed := range 80 {
		x := dice(seed)
		last := int64(x.below(9))
		if seed%8 == 0 {
			last = forever - 20 - int64(x.below(9))
		}
		m := New(last, last)
		s := &slow{now: last, last: last, begun: last, snapshots: map[int64]int64{}, keys: map[int64][]string{}}
		for range 400 {
			n := s.begun - int64(x.below(8)) + 1
			if active := m.Active(); len(active) > 0 && x.below(5) > 0 {
				n = active[x.below(len(active))]
			}
			switch x.below(9) {
			case 0, 1:
				s.begun++
				s.snapshots[s.begun] = s.last
				if n, snapshot := m.Begin(); n != s.begun || snapshot != s.last {
					t.Fatalf("Begin: %d %d, not %d %d", n, snapshot, s.begun, s.last)
				}
			case 2, 3, 4:
				var keys []string
				for range x.below(4) {
					keys = append(keys, strconv.Itoa(x.below(30)))
				}
				_, active := s.snapshots[n]
				if e := m.Write(n, keys...); active != (e == api.OK) || !active && e != api.ErrTxn {
					t.Fatalf("Write(%d): %v", n, e)
				}
				if active {
					s.keys[n] = append(s.keys[n], keys...)
				}
			case 5, 6:
				stamp, e := m.Commit(n)
				want, f := s.commit(n)
				if stamp != want || e != f {
					t.Fatalf("Commit(%d): %d %v, not %d %v", n, stamp, e, want, f)
				}
				got[e]++
			case 7:
				_, active := s.snapshots[n]
				if e := m.Abort(n); active != (e == api.OK) || !active && e != api.ErrTxn {
					t.Fatalf("Abort(%d): %v", n, e)
				}
				s.drop(n)
			case 8:
				by := int64(x.below(5)) - 1
				m.Tick(by)
				s.now = min(s.now+max(by, 0), forever)
			}
			for n := range s.snapshots {
				stamp, e := m.Check(n)
				if want, f := s.check(n); stamp != want || e != f {
					t.Fatalf("Check(%d): %d %v, not %d %v", n, stamp, e, want, f)
				}
				if snapshot, e := m.Snapshot(n); snapshot != s.snapshots[n] || e != api.OK {
					t.Fatalf("Snapshot(%d): %d %v", n, snapshot, e)
				}
			}
			if active := slices.Sorted(maps.Keys(s.snapshots)); !slices.Equal(m.Active(), active) {
				t.Fatalf("Active: %v, not %v", m.Active(), active)
			}
			if m.Now() != s.now || m.Last() != s.last {
				t.Fatalf("Now %d, Last %d, not %d and %d", m.Now(), m.Last(), s.now, s.last)
			}
			kept(t, m, s)
		}
		for _, n := range m.Active() {
			m.Abort(n)
		}
		if len(m.stamps) != 0 || len(m.done) != 0 {
			t.Fatalf("kept without active ones: %v and %v", m.stamps, m.done)
		}
	}
	for _, e := range []api.Errno{api.OK, api.ErrTxn, api.ErrConflict, api.ErrFull} {
		if got[e] < 50 {
			t.Errorf("only %d commits answered %v", got[e], e)
		}
	}
}

// P1: many transactions beside one that stays take no more time each than few, in whatever order they end.
func TestManyTransactions(t *testing.T) {
	const many = 100000
	m := New(0, 0)
	stays := begun(t, m, "k99999")
	for i := range many {
		if s, e := m.Commit(begun(t, m, "k"+strconv.Itoa(i))); s != int64(i+1) || e != api.OK {
			t.Fatalf("Commit: %d %v", s, e)
		}
	}
	s, e := m.Check(stays)
	answers(t, "Check of the one that stays", s, e, 0, api.ErrConflict)
	first, _ := m.Begin()
	for range many - 1 {
		m.Begin()
	}
	for n := first; n < first+many; n++ {
		if e := m.Abort(n); e != api.OK {
			t.Fatalf("Abort(%d): %v", n, e)
		}
	}
	s, e = m.Commit(stays)
	answers(t, "Commit of the one that stays", s, e, 0, api.ErrConflict)
	if len(m.stamps) != 0 || len(m.done) != 0 {
		t.Errorf("kept without active ones: %d and %d", len(m.stamps), len(m.done))
	}
}

// P2: lists that are handed in aren't kept, and those that are answered are new.
func TestListsAreNew(t *testing.T) {
	m := New(5, 0)
	n, _ := m.Begin()
	room := []string{"a", "b", "spare", "room"}
	keys := room[:2]
	m.Write(n, keys...)
	if !slices.Equal(room, []string{"a", "b", "spare", "room"}) {
		t.Errorf("Write changed its keys: %v", room)
	}
	keys[0], keys[1] = "c", "d"
	for _, key := range []string{"c", "d", "spare", "room", "a"} {
		s, e := m.Check(n)
		answers(t, "Check ahead of "+key, s, e, m.Last()+1, api.OK)
		s, e = m.Commit(begun(t, m, key))
		answers(t, "Commit of "+key, s, e, m.Last(), api.OK)
	}
	s, e := m.Check(n)
	answers(t, "Check", s, e, 0, api.ErrConflict)
	m.Begin()
	one, other := m.Active(), m.Active()
	clear(one[:cap(one)])
	if len(other) != 2 || other[0] != n || !slices.Equal(m.Active(), other) {
		t.Errorf("Active: %v, and then %v", other, m.Active())
	}
}
