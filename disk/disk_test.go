package disk

import (
	"bytes"
	"math"
	"slices"
	"testing"

	"annals/api"
)

func made(t *testing.T, sectors int) *Disk {
	t.Helper()
	d, e := New(sectors)
	if d == nil || e != api.OK {
		t.Fatalf("New(%d): %v, %v", sectors, d, e)
	}
	return d
}

func full(b byte) []byte { return bytes.Repeat([]byte{b}, api.SectorSize) }

func wrote(t *testing.T, d *Disk, n int, b []byte) {
	t.Helper()
	if e := d.Write(n, b); e != api.OK {
		t.Fatalf("Write(%d): %v", n, e)
	}
}

func holds(t *testing.T, d *Disk, n int, want []byte) {
	t.Helper()
	b, e := d.Read(n)
	if e != api.OK || !bytes.Equal(b, want) {
		t.Fatalf("Read(%d): %v, %v; want %v", n, b, e, want)
	}
}

// torn is a sector whose first bytes are of one kind and whose others are of another.
func torn(first byte, count int, rest byte) []byte {
	return append(bytes.Repeat([]byte{first}, count), bytes.Repeat([]byte{rest}, api.SectorSize-count)...)
}

// P1.1
func TestNewTakesOneToMaxSectors(t *testing.T) {
	for _, n := range []int{1, 2, 77, api.MaxSectors} {
		d := made(t, n)
		if d.Sectors() != n || d.Pending() != 0 {
			t.Errorf("New(%d): %d sectors, %d pending", n, d.Sectors(), d.Pending())
		}
		for i := range n {
			holds(t, d, i, full(0))
		}
		if _, e := d.Read(n); e != api.ErrRange {
			t.Errorf("New(%d): sector %d: %v", n, n, e)
		}
	}
	for _, n := range []int{math.MinInt, -1, 0, api.MaxSectors + 1, math.MaxInt} {
		if d, e := New(n); d != nil || e != api.ErrRange {
			t.Errorf("New(%d): %v, %v", n, d, e)
		}
	}
}

// P1.1
func TestForkHasTheSameSectorsAndPendingWrites(t *testing.T) {
	d := made(t, 2)
	wrote(t, d, 0, full(1))
	d.Sync()
	wrote(t, d, 0, full(2))
	wrote(t, d, 1, full(3))
	f := d.Fork()
	if f.Sectors() != 2 || f.Pending() != 2 {
		t.Fatalf("Fork: %d sectors, %d pending", f.Sectors(), f.Pending())
	}
	holds(t, f, 0, full(2))
	holds(t, f, 1, full(3))
	f.Crash(nil, -1, 0)
	holds(t, f, 0, full(1))
	holds(t, f, 1, full(0))
	if d.Pending() != 2 {
		t.Errorf("the fork's crash took writes of the disk: %d", d.Pending())
	}
	holds(t, d, 0, full(2))
	holds(t, d, 1, full(3))
}

// P1.1: the spare room behind the pending writes must not be shared either.
func TestForkGoesOnByItself(t *testing.T) {
	for before := range 9 {
		d := made(t, 1)
		for i := range before {
			wrote(t, d, 0, full(byte(100+i)))
		}
		f := d.Fork()
		g := f.Fork()
		wrote(t, d, 0, full(1))
		wrote(t, f, 0, full(2))
		wrote(t, g, 0, full(3))
		for i, x := range []*Disk{d, f, g} {
			holds(t, x, 0, full(byte(i+1)))
			if x.Sync() != before+1 {
				t.Errorf("disk %d: not %d writes", i, before+1)
			}
		}
		wrote(t, f, 0, full(9))
		f.Sync()
		holds(t, d, 0, full(1))
		holds(t, f, 0, full(9))
		holds(t, g, 0, full(3))
	}
}

// P1.2
func TestWriteIsPendingAndRead(t *testing.T) {
	d := made(t, 3)
	wrote(t, d, 1, full(7))
	wrote(t, d, 2, full(8))
	wrote(t, d, 1, full(9))
	if d.Pending() != 3 {
		t.Errorf("Pending: %d", d.Pending())
	}
	holds(t, d, 0, full(0))
	holds(t, d, 1, full(9))
	holds(t, d, 2, full(8))
	d.Sync()
	holds(t, d, 1, full(9))
	wrote(t, d, 2, full(1))
	holds(t, d, 1, full(9))
	holds(t, d, 2, full(1))
}

// P1.2, and rule 1: the range is asked ahead of the length.
func TestWriteRefuses(t *testing.T) {
	d := made(t, 2)
	wrote(t, d, 1, full(5))
	cases := []struct {
		n    int
		b    []byte
		want api.Errno
	}{
		{math.MinInt, full(1), api.ErrRange},
		{-1, full(1), api.ErrRange},
		{2, full(1), api.ErrRange},
		{math.MaxInt, full(1), api.ErrRange},
		{2, nil, api.ErrRange},
		{-1, full(1)[1:], api.ErrRange},
		{0, nil, api.ErrLength},
		{0, []byte{}, api.ErrLength},
		{1, full(1)[:api.SectorSize-1], api.ErrLength},
		{1, append(full(1), 1), api.ErrLength},
	}
	for _, c := range cases {
		if e := d.Write(c.n, c.b); e != c.want {
			t.Errorf("Write(%d, %d bytes): %v, want %v", c.n, len(c.b), e, c.want)
		}
	}
	if d.Pending() != 1 {
		t.Errorf("refused writes are pending: %d", d.Pending())
	}
	holds(t, d, 0, full(0))
	holds(t, d, 1, full(5))
}

// P1.2
func TestReadRefuses(t *testing.T) {
	d := made(t, 2)
	for _, n := range []int{math.MinInt, -1, 2, math.MaxInt} {
		if b, e := d.Read(n); b != nil || e != api.ErrRange {
			t.Errorf("Read(%d): %v, %v", n, b, e)
		}
	}
}

// P1.3
func TestSyncMakesDurableInOrder(t *testing.T) {
	d := made(t, 2)
	if n := d.Sync(); n != 0 {
		t.Errorf("Sync of nothing: %d", n)
	}
	wrote(t, d, 0, full(1))
	wrote(t, d, 1, full(2))
	wrote(t, d, 0, full(3))
	if n := d.Sync(); n != 3 || d.Pending() != 0 {
		t.Errorf("Sync: %d, then %d pending", n, d.Pending())
	}
	if n := d.Sync(); n != 0 {
		t.Errorf("Sync once more: %d", n)
	}
	d.Crash(nil, 0, 0)
	holds(t, d, 0, full(3))
	holds(t, d, 1, full(2))
}

// P1.4
func TestCrashKeepsAndTears(t *testing.T) {
	cases := []struct {
		name     string
		keep     []bool
		tear, at int
		zero     []byte // sector 0: durable 9, then the writes 1 and 3
		one      []byte // sector 1: durable 0, then the write 2
	}{
		{"nothing kept", nil, -1, 0, full(9), full(0)},
		{"none said true", []bool{false, false, false}, -1, 100, full(9), full(0)},
		{"all kept", []bool{true, true, true}, -1, 0, full(3), full(2)},
		{"list too short", []bool{true}, -1, 0, full(1), full(0)},
		{"list too long", []bool{false, false, true, true, true}, 3, 10, full(3), full(0)},
		{"first and second", []bool{true, true}, math.MinInt, 10, full(1), full(2)},
		{"first torn", nil, 0, 10, torn(1, 10, 9), full(0)},
		{"torn over what was kept", []bool{true, false, false}, 2, 10, torn(3, 10, 1), full(0)},
		{"torn under what is kept", []bool{false, false, true}, 0, 10, full(3), full(0)},
		{"torn beside what is kept", []bool{true, false, true}, 1, 255, full(3), torn(2, 255, 0)},
		{"torn though said to be kept", []bool{false, true}, 1, 1, full(9), torn(2, 1, 0)},
		{"kept, but torn at nothing", []bool{false, true}, 1, 0, full(9), full(0)},
		{"torn below nothing", []bool{false, true}, 1, -1, full(9), full(0)},
		{"torn far below nothing", nil, 1, math.MinInt, full(9), full(0)},
		{"torn at the end", nil, 1, 256, full(9), full(2)},
		{"torn beyond the end", nil, 1, 257, full(9), full(2)},
		{"torn far beyond the end", nil, 1, math.MaxInt, full(9), full(2)},
		{"no such number", nil, 3, 256, full(9), full(0)},
		{"no such number at all", nil, math.MaxInt, 256, full(9), full(0)},
	}
	for _, c := range cases {
		t.Run(c.name, func(t *testing.T) {
			d := made(t, 2)
			wrote(t, d, 0, full(9))
			d.Sync()
			wrote(t, d, 0, full(1))
			wrote(t, d, 1, full(2))
			wrote(t, d, 0, full(3))
			keep := slices.Clone(c.keep)
			d.Crash(keep, c.tear, c.at)
			if d.Pending() != 0 || d.Sync() != 0 {
				t.Error("writes are pending behind a crash")
			}
			if !slices.Equal(keep, c.keep) {
				t.Error("what was handed in is changed")
			}
			holds(t, d, 0, c.zero)
			holds(t, d, 1, c.one)
			d.Crash([]bool{true, true, true}, 0, 256)
			holds(t, d, 0, c.zero)
			holds(t, d, 1, c.one)
		})
	}
}

// The examples of the chapter.
func TestExamples(t *testing.T) {
	d := made(t, 1)
	wrote(t, d, 0, full(7))
	holds(t, d, 0, full(7))
	f := d.Fork()
	d.Crash(nil, -1, 0)
	holds(t, d, 0, full(0))
	f.Crash(nil, 0, 10)
	holds(t, f, 0, torn(7, 10, 0))
}

// P2, rule 4: neither what is handed in nor what is answered is shared with the disk.
func TestNothingIsShared(t *testing.T) {
	d := made(t, 1)
	room := append(full(4), 1, 2, 3)
	wrote(t, d, 0, room[:api.SectorSize])
	clear(room[:api.SectorSize])
	holds(t, d, 0, full(4))
	if !bytes.Equal(room[api.SectorSize:], []byte{1, 2, 3}) {
		t.Error("the spare room of what was handed in is changed")
	}
	for range 2 {
		a, _ := d.Read(0)
		b, _ := d.Read(0)
		clear(a[:cap(a)])
		if !bytes.Equal(b, full(4)) {
			t.Error("two answers share memory")
		}
		holds(t, d, 0, full(4))
		d.Sync()
	}
}

// model is a disk told another way: lists of bytes, gone through from the beginning and byte by byte.
type model struct {
	durable [][]byte
	places  []int
	data    [][]byte
}

func (m *model) read(n int) []byte {
	b := m.durable[n]
	for i, p := range m.places {
		if p == n {
			b = m.data[i]
		}
	}
	return b
}

func (m *model) crash(keep []bool, tear, at int) {
	for i, p := range m.places {
		old := slices.Clone(m.durable[p])
		for j := range old {
			whole := i != tear && i < len(keep) && keep[i]
			if whole || i == tear && j < at {
				old[j] = m.data[i][j]
			}
		}
		m.durable[p] = old
	}
	m.places, m.data = nil, nil
}

// dice answers numbers that look thrown, the same ones each time.
type dice uint64

func (x *dice) below(n int) int {
	*x = *x*6364136223846793005 + 1442695040888963407
	return int(uint64(*x) >> 33 % uint64(n))
}

// P1.1 to P1.4 over many steps, in each of which disk and model must agree.
func TestAgreesWithModel(t *testing.T) {
	const sectors = 4
	for seed := range 20 {
		x := dice(seed)
		d := made(t, sectors)
		m := &model{}
		for range sectors {
			m.durable = append(m.durable, full(0))
		}
		for range 300 {
			switch x.below(12) {
			case 0:
				if n := d.Sync(); n != len(m.places) {
					t.Fatalf("Sync: %d, want %d", n, len(m.places))
				}
				m.crash(slices.Repeat([]bool{true}, len(m.places)), -1, 0)
			case 1:
				keep := make([]bool, x.below(8))
				for i := range keep {
					keep[i] = x.below(2) == 0
				}
				tear, at := x.below(9)-2, x.below(300)-20
				d.Crash(keep, tear, at)
				m.crash(keep, tear, at)
			case 2:
				f := d.Fork()
				wrote(t, d, 0, full(255))
				d.Sync()
				d = f
			default:
				n, b := x.below(sectors), full(byte(x.below(256)))
				wrote(t, d, n, b)
				m.places, m.data = append(m.places, n), append(m.data, b)
			}
			if d.Pending() != len(m.places) {
				t.Fatalf("Pending: %d, want %d", d.Pending(), len(m.places))
			}
			for n := range sectors {
				holds(t, d, n, m.read(n))
			}
		}
	}
}
