package wal

import (
	"bytes"
	"hash/crc32"
	"math"
	"slices"
	"testing"

	"annals/api"
	"annals/disk"
)

// dice answers numbers that look thrown, the same ones each time.
type dice uint64

func (x *dice) below(n int) int {
	*x = *x*6364136223846793005 + 1442695040888963407
	return int(uint64(*x) >> 33 % uint64(n))
}

func (x *dice) bytes(n int) []byte {
	b := make([]byte, n)
	for i := range b {
		b[i] = byte(x.below(256))
	}
	return b
}

func newDisk(t *testing.T, sectors int) *disk.Disk {
	t.Helper()
	d, e := disk.New(sectors)
	if e != api.OK {
		t.Fatalf("disk.New(%d): %v", sectors, e)
	}
	return d
}

func opened(t *testing.T, d *disk.Disk, first, count int) (*Log, []Record) {
	t.Helper()
	l, r, e := Open(d, first, count)
	if l == nil || e != api.OK {
		t.Fatalf("Open(%d, %d): %v, %v", first, count, l, e)
	}
	return l, r
}

func appended(t *testing.T, l *Log, data []byte) int64 {
	t.Helper()
	m, e := l.Append(data)
	if e != api.OK || m != l.End() {
		t.Fatalf("Append of %d bytes: %d, %v; the log ends at %d", len(data), m, e, l.End())
	}
	return m
}

func full(b byte) []byte { return bytes.Repeat([]byte{b}, api.SectorSize) }

// lay brings bytes to a disk from a sector on, noughts behind them in the last one, and makes them durable.
func lay(d *disk.Disk, first int, b []byte) {
	for piece := range slices.Chunk(b, api.SectorSize) {
		s := full(0)
		copy(s, piece)
		d.Write(first, s)
		first++
	}
	d.Sync()
}

// found is what a disk tells of some sectors.
func found(d *disk.Disk, first, count int) []byte {
	var out []byte
	for i := range count {
		b, _ := d.Read(first + i)
		out = append(out, b...)
	}
	return out
}

func padded(b []byte, count int) []byte {
	out := make([]byte, count*api.SectorSize)
	copy(out, b)
	return out
}

// chain is a log's bytes written another way than by the package: each record by hand, with the library's sum.
type chain struct {
	bytes []byte
	sum   uint32
}

func four(n uint32) []byte { return []byte{byte(n >> 24), byte(n >> 16), byte(n >> 8), byte(n)} }

func (c *chain) add(data []byte) {
	at := uint32(len(c.bytes))
	summed := slices.Concat(four(c.sum), four(0), four(at), data)
	c.sum = crc32.ChecksumIEEE(summed)
	c.bytes = slices.Concat(c.bytes, four(uint32(len(data))), four(c.sum), data)
}

func chained(records ...[]byte) *chain {
	c := &chain{}
	for _, r := range records {
		c.add(r)
	}
	return c
}

// sameRecords asks for data and marks.
func sameRecords(t *testing.T, got []Record, want [][]byte) {
	t.Helper()
	if len(got) != len(want) {
		t.Fatalf("%d records, want %d", len(got), len(want))
	}
	mark := int64(0)
	for i, r := range got {
		mark += int64(8 + len(want[i]))
		if !bytes.Equal(r.Data, want[i]) || r.Mark != mark {
			t.Errorf("record %d: %v with the mark %d, want %v with %d", i, r.Data, r.Mark, want[i], mark)
		}
	}
}

// P5.1
func TestOpenRefuses(t *testing.T) {
	cases := []struct{ first, count int }{
		{-1, 1}, {-1, 2}, {math.MinInt, 1}, {math.MinInt, math.MaxInt}, {-1, 5},
		{0, 0}, {1, -1}, {4, 0}, {0, math.MinInt},
		{4, 1}, {3, 2}, {0, 5}, {5, 1}, {1, 4},
		{math.MaxInt, 1}, {0, math.MaxInt}, {1, math.MaxInt}, {math.MaxInt, math.MaxInt}, {3, math.MaxInt - 1},
	}
	d := newDisk(t, 4)
	for i := range 4 {
		d.Write(i, full(7))
	}
	for _, c := range cases {
		if l, r, e := Open(d, c.first, c.count); l != nil || r != nil || e != api.ErrRange {
			t.Errorf("Open(%d, %d): %v, %v, %v", c.first, c.count, l, r, e)
		}
	}
	if d.Pending() != 4 || !bytes.Equal(found(d, 0, 4), bytes.Repeat([]byte{7}, 4*api.SectorSize)) {
		t.Error("a refused Open has changed the disk")
	}
}

// P5.1 and P5.2: in all places that there are.
func TestOpenOfNoughts(t *testing.T) {
	for first := range 4 {
		for count := 1; first+count <= 4; count++ {
			l, r := opened(t, newDisk(t, 4), first, count)
			if len(r) != 0 || l.End() != 0 || l.Durable() != 0 || l.Left() != count*api.SectorSize {
				t.Errorf("Open(%d, %d): %d records, %d, %d, %d", first, count, len(r), l.End(), l.Durable(), l.Left())
			}
		}
	}
	l, _ := opened(t, newDisk(t, api.MaxSectors), 0, api.MaxSectors)
	if l.Left() != api.MaxSectors*api.SectorSize {
		t.Errorf("the greatest log: %d", l.Left())
	}
}

// P5.1: the form of the bytes, read and written.
func TestBytesOfLog(t *testing.T) {
	x := dice(5)
	want := [][]byte{[]byte("abc"), {0}, x.bytes(MaxData), {255, 255, 255, 255}, x.bytes(300)}
	c := chained(want...)
	d := newDisk(t, 9)
	lay(d, 2, c.bytes)
	l, r := opened(t, d, 2, 7)
	sameRecords(t, r, want)
	if l.End() != int64(len(c.bytes)) || l.Durable() != l.End() || l.Left() != 7*api.SectorSize-len(c.bytes) {
		t.Errorf("opened: %d, %d, %d", l.End(), l.Durable(), l.Left())
	}
	other := newDisk(t, 9)
	m, _ := opened(t, other, 2, 7)
	for _, b := range want {
		appended(t, m, b)
	}
	m.Flush()
	if !bytes.Equal(found(other, 0, 9), found(d, 0, 9)) {
		t.Error("a log that was appended has other bytes than one by hand")
	}
	next := []byte("behind them")
	appended(t, l, next)
	l.Flush()
	c.add(next)
	if !bytes.Equal(found(d, 2, 7), padded(c.bytes, 7)) {
		t.Error("a log that was opened goes on otherwise than one by hand")
	}
}

// spoilt is bytes behind two right records, where no third one is.
func spoilt() map[string][]byte {
	two := func() *chain { return chained([]byte("first"), []byte("second")) }
	good := two()
	good.add([]byte("third"))
	at := len(two().bytes)
	change := func(place int, by byte) []byte {
		b := slices.Clone(good.bytes)
		b[place] ^= by
		return b
	}
	none := two()
	none.add(nil)
	long := two()
	long.add(make([]byte, MaxData+1))
	beyond := two()
	beyond.add(make([]byte, 8*api.SectorSize))
	huge := slices.Concat(two().bytes, []byte{255, 255, 255, 255}, full(1))
	unchained := two()
	unchained.sum = 0
	unchained.add([]byte("third"))
	elsewhere := two()
	short := elsewhere.bytes
	elsewhere.bytes = elsewhere.bytes[:at-1]
	elsewhere.add([]byte("third"))
	elsewhere.bytes = slices.Concat(short, elsewhere.bytes[at-1:])
	return map[string][]byte{
		"nothing":                  two().bytes,
		"another length":           change(at+3, 1),
		"another sum, first byte":  change(at+4, 128),
		"another sum, last byte":   change(at+7, 1),
		"another byte":             change(at+8, 1),
		"another last byte":        change(at+12, 16),
		"no bytes, but their sum":  none.bytes,
		"too long, with its sum":   long.bytes,
		"far too long":             beyond.bytes[:min(len(beyond.bytes), 8*api.SectorSize)],
		"the greatest length":      huge,
		"not chained to the last":  unchained.bytes,
		"summed for another place": elsewhere.bytes,
		"cut off":                  good.bytes[:len(good.bytes)-1],
		"a head alone":             good.bytes[:at+8],
		"half a head":              good.bytes[:at+6],
	}
}

// P5.1: what isn't right ends the log, and is wiped out, with all that is right behind it.
func TestOpenEndsAtWhatIsNotRight(t *testing.T) {
	two := chained([]byte("first"), []byte("second"))
	for name, b := range spoilt() {
		d := newDisk(t, 10)
		d.Write(0, full(9))
		d.Write(9, full(9))
		lay(d, 1, b)
		l, r := opened(t, d, 1, 8)
		if len(r) != 2 || l.End() != int64(len(two.bytes)) || l.Durable() != l.End() {
			t.Errorf("%s: %d records, %d, %d", name, len(r), l.End(), l.Durable())
			continue
		}
		sameRecords(t, r, [][]byte{[]byte("first"), []byte("second")})
		d.Crash(nil, -1, 0)
		want := slices.Concat(full(9), padded(two.bytes, 8), full(9))
		if !bytes.Equal(found(d, 0, 10), want) {
			t.Errorf("%s: the sectors aren't the log's bytes and noughts", name)
		}
		appended(t, l, []byte("third"))
		l.Flush()
		_, r = opened(t, d, 1, 8)
		sameRecords(t, r, [][]byte{[]byte("first"), []byte("second"), []byte("third")})
	}
}

// P5.1: the first record hangs on the sum 0 and the place 0.
func TestOpenOfWrongFirstRecord(t *testing.T) {
	c := &chain{sum: 1}
	c.add([]byte("first"))
	for _, b := range [][]byte{c.bytes, bytes.Repeat([]byte{255}, 600), {0, 0, 0, 0, 0, 0, 0, 1}, {0, 0, 0, 1, 0, 0, 0, 0, 1}} {
		d := newDisk(t, 3)
		lay(d, 0, b)
		l, r := opened(t, d, 0, 3)
		if len(r) != 0 || l.End() != 0 || !bytes.Equal(found(d, 0, 3), padded(nil, 3)) {
			t.Errorf("Open of %v: %d records, %d", b[:8], len(r), l.End())
		}
	}
}

// P5.1: a record may end just at the end of the sectors, and goes no further, whatever lies behind them.
func TestOpenAtTheEndOfTheSectors(t *testing.T) {
	for left := range 20 {
		first := make([]byte, api.SectorSize-8-left)
		first[0] = 1
		c := chained(first)
		if left > 8 {
			c.add(make([]byte, left-8))
		}
		d := newDisk(t, 2)
		lay(d, 0, c.bytes)
		l, r := opened(t, d, 0, 1)
		want := [][]byte{first}
		if left > 8 {
			want = append(want, make([]byte, left-8))
		}
		sameRecords(t, r, want)
		if l.Left() != api.SectorSize-len(c.bytes) {
			t.Errorf("left %d: %d", left, l.Left())
		}
	}
}

// P5.1: noughts of which the last ones, up to a whole sector, would lie behind the sectors.
func TestOpenOfRecordBeyondTheEnd(t *testing.T) {
	for beyond := 1; beyond <= api.SectorSize; beyond++ {
		c := chained([]byte("a"))
		c.add(make([]byte, api.SectorSize-9-8+beyond))
		for _, count := range []int{1, 2} {
			d := newDisk(t, 2)
			lay(d, 0, c.bytes)
			if _, r := opened(t, d, 0, count); len(r) != count {
				t.Errorf("%d bytes beyond the first of %d sectors: %d records", beyond, count, len(r))
			}
		}
	}
}

// P5.1: less than a head is left, of whatever bytes.
func TestOpenWithLessThanAHeadLeft(t *testing.T) {
	for left := range 9 {
		for _, b := range []byte{0, 1, 255} {
			c := chained(make([]byte, api.SectorSize-8-left))
			rest := bytes.Repeat([]byte{b}, left)
			if left > 3 && b == 1 {
				copy(rest, four(1))
			}
			d := newDisk(t, 1)
			lay(d, 0, slices.Concat(c.bytes, rest))
			if l, r := opened(t, d, 0, 1); len(r) != 1 || l.Left() != left {
				t.Errorf("%d bytes %d left: %d records", left, b, len(r))
			}
			if !bytes.Equal(found(d, 0, 1), padded(c.bytes, 1)) {
				t.Errorf("%d bytes %d left: not wiped out", left, b)
			}
		}
	}
}

// P5.1: the greatest record is one, a byte more is none.
func TestOpenOfTheGreatestRecord(t *testing.T) {
	for size, want := range map[int]int{MaxData: 1, MaxData + 1: 0} {
		d := newDisk(t, 8)
		lay(d, 0, chained(make([]byte, size)).bytes)
		if _, r := opened(t, d, 0, 8); len(r) != want {
			t.Errorf("%d bytes: %d records", size, len(r))
		}
	}
}

// P5.1: as Read tells them: what is pending counts, and is durable behind Open.
func TestOpenReadsWhatIsPending(t *testing.T) {
	d := newDisk(t, 4)
	c := chained([]byte("abc"))
	d.Write(1, padded(c.bytes, 1))
	d.Write(3, full(5))
	_, r := opened(t, d, 1, 2)
	sameRecords(t, r, [][]byte{[]byte("abc")})
	if d.Pending() != 0 {
		t.Errorf("Open left %d writes pending", d.Pending())
	}
	d.Crash(nil, -1, 0)
	if !bytes.Equal(found(d, 0, 4), slices.Concat(full(0), padded(c.bytes, 2), full(5))) {
		t.Error("what was pending isn't durable behind Open")
	}
}

// P5.4: what is laid over a log's sectors tells which of them a Force writes.
func TestForceWritesFromTheSectorOfDurableOn(t *testing.T) {
	d := newDisk(t, 8)
	l, _ := opened(t, d, 1, 6)
	c := chained(make([]byte, 300))
	appended(t, l, make([]byte, 300))
	l.Flush() // ends in the log's second sector
	lay(d, 1, bytes.Repeat([]byte{6}, 5*api.SectorSize))
	more := bytes.Repeat([]byte{3}, 400)
	appended(t, l, more)
	c.add(more)
	l.Force(l.End())
	all := padded(c.bytes, 6)
	want := slices.Concat(full(0), full(6), all[256:768], full(6), full(6), full(0), full(0))
	if !bytes.Equal(found(d, 0, 8), want) {
		t.Error("Force wrote other sectors than those from Durable on")
	}
}

// P5.4: at a sector's edge: Durable lies in the sector that begins there.
func TestForceAtTheEdgeOfSectors(t *testing.T) {
	d := newDisk(t, 4)
	l, _ := opened(t, d, 0, 4)
	appended(t, l, make([]byte, api.SectorSize-8))
	l.Flush()
	lay(d, 0, bytes.Repeat([]byte{6}, 4*api.SectorSize))
	c := chained(make([]byte, api.SectorSize-8))
	appended(t, l, make([]byte, api.SectorSize-8))
	c.add(make([]byte, api.SectorSize-8))
	l.Flush()
	if !bytes.Equal(found(d, 0, 4), slices.Concat(full(6), c.bytes[256:512], full(6), full(6))) {
		t.Error("Force at a sector's edge wrote other sectors than the second")
	}
}

// P5.4
func TestForceAsksForTheMark(t *testing.T) {
	for _, c := range []struct {
		mark   int64
		forced bool
	}{
		{math.MinInt64, false}, {-1, false}, {0, false}, {8, false}, {9, false},
		{10, true}, {17, true}, {18, true}, {19, true}, {math.MaxInt64, true},
	} {
		d := newDisk(t, 3)
		l, _ := opened(t, d, 0, 2)
		appended(t, l, []byte("a"))
		l.Flush()
		appended(t, l, []byte("b"))
		d.Write(2, full(1))
		l.Force(c.mark)
		durable, pending := int64(9), 1
		if c.forced {
			durable, pending = 18, 0
		}
		if l.Durable() != durable || d.Pending() != pending || l.End() != 18 {
			t.Errorf("Force(%d): durable %d, pending %d, end %d", c.mark, l.Durable(), d.Pending(), l.End())
		}
		d.Crash(nil, -1, 0)
		_, r := opened(t, d, 0, 2)
		if len(r) != 1 && !c.forced || len(r) != 2 && c.forced {
			t.Errorf("Force(%d): %d records behind a crash", c.mark, len(r))
		}
	}
}

// P5.4: if all is durable, nothing is done, not even a Sync.
func TestForceOfWhatIsDurable(t *testing.T) {
	d := newDisk(t, 3)
	l, _ := opened(t, d, 0, 2)
	for _, more := range []bool{false, true} {
		if more {
			appended(t, l, []byte("a"))
			l.Flush()
		}
		d.Write(2, full(1))
		l.Flush()
		l.Force(0)
		l.Force(l.End() + 1)
		l.Force(math.MaxInt64)
		if d.Pending() != 1 {
			t.Errorf("Force of what is durable: %d pending", d.Pending())
		}
		d.Sync()
	}
}

// P5.3
func TestAppend(t *testing.T) {
	d := newDisk(t, 8)
	l, _ := opened(t, d, 0, 8)
	cases := []struct {
		parts []string
		want  string
	}{
		{[]string{"ab", "c"}, "abc"},
		{[]string{"x"}, "x"},
		{[]string{"", "x", "", "y", ""}, "xy"},
		{[]string{"\x00"}, "\x00"},
		{[]string{string(make([]byte, MaxData))}, string(make([]byte, MaxData))},
	}
	end := int64(0)
	var want [][]byte
	for _, c := range cases {
		var parts [][]byte
		for _, p := range c.parts {
			parts = append(parts, []byte(p))
		}
		m, e := l.Append(parts...)
		end += int64(8 + len(c.want))
		if m != end || e != api.OK || l.End() != end || l.Durable() != 0 || l.Left() != 2048-int(end) {
			t.Errorf("Append(%q): %d, %v; %d, %d, %d", c.parts, m, e, l.End(), l.Durable(), l.Left())
		}
		if d.Pending() != 0 || !bytes.Equal(found(d, 0, 8), padded(nil, 8)) {
			t.Error("Append has written to the disk")
		}
		want = append(want, []byte(c.want))
	}
	l.Flush()
	if l.Durable() != end || d.Pending() != 0 {
		t.Errorf("Flush: %d durable, %d pending", l.Durable(), d.Pending())
	}
	d.Crash(nil, -1, 0)
	_, r := opened(t, d, 0, 8)
	sameRecords(t, r, want)
}

// P5.3, rules 1 to 3.
func TestAppendRefuses(t *testing.T) {
	half := make([]byte, MaxData/2)
	cases := []struct {
		name    string
		sectors int
		parts   [][]byte
		want    api.Errno
	}{
		{"no part", 2, nil, api.ErrNone},
		{"empty parts", 2, [][]byte{nil, {}, nil}, api.ErrNone},
		{"a byte too long", 8, [][]byte{half, half, {1}}, api.ErrLong},
		{"too long and too much", 2, [][]byte{half, half, half}, api.ErrLong},
		{"far too long", 2, [][]byte{make([]byte, 1<<20)}, api.ErrLong},
		{"as long as may be, too much", 2, [][]byte{half, half}, api.ErrFull},
		{"a byte too much", 2, [][]byte{make([]byte, 512-9-8+1)}, api.ErrFull},
		{"just what fits", 2, [][]byte{make([]byte, 512-9-8)}, api.OK},
	}
	for _, c := range cases {
		d := newDisk(t, c.sectors)
		l, _ := opened(t, d, 0, c.sectors)
		appended(t, l, []byte("a"))
		m, e := l.Append(c.parts...)
		if e != c.want || e != api.OK && m != 0 {
			t.Errorf("%s: %d, %v, want %v", c.name, m, e, c.want)
		}
		if e == api.OK {
			if l.Left() != 0 || l.End() != 512 {
				t.Errorf("%s: %d left, %d", c.name, l.Left(), l.End())
			}
			continue
		}
		if l.End() != 9 || l.Left() != c.sectors*256-9 || l.Durable() != 0 {
			t.Errorf("%s: a refused Append has changed the log", c.name)
		}
		appended(t, l, []byte("b"))
		l.Flush()
		_, r := opened(t, d, 0, c.sectors)
		sameRecords(t, r, [][]byte{[]byte("a"), []byte("b")})
	}
}

// P5.1 to P5.4: a log that is full to its last byte, with less left than any record needs before.
func TestFullLog(t *testing.T) {
	d := newDisk(t, 1)
	l, _ := opened(t, d, 0, 1)
	appended(t, l, make([]byte, 256-8-8))
	l.Flush()
	if _, e := l.Append([]byte("a")); e != api.ErrFull || l.Left() != 8 {
		t.Errorf("eight bytes left: %v, %d", e, l.Left())
	}
	d = newDisk(t, 1)
	l, _ = opened(t, d, 0, 1)
	appended(t, l, make([]byte, 256-8-9))
	l.Flush()
	appended(t, l, []byte("a"))
	l.Flush()
	if _, e := l.Append([]byte("b")); e != api.ErrFull || l.Left() != 0 || l.Durable() != 256 {
		t.Errorf("nothing left: %v, %d, %d", e, l.Left(), l.Durable())
	}
	l.Flush()
	m, r := opened(t, d, 0, 1)
	if len(r) != 2 || m.Left() != 0 || m.Durable() != 256 || m.End() != 256 {
		t.Errorf("opened: %d records, %d left, %d", len(r), m.Left(), m.Durable())
	}
	if _, e := m.Append([]byte("b")); e != api.ErrFull {
		t.Errorf("opened, nothing left: %v", e)
	}
	m.Flush()
}

// The example of the chapter.
func TestExample(t *testing.T) {
	d := newDisk(t, 2)
	l, _ := opened(t, d, 0, 2)
	if m, e := l.Append([]byte("ab"), []byte("c")); m != 11 || e != api.OK {
		t.Errorf("Append: %d, %v", m, e)
	}
	l.Flush()
	appended(t, l, []byte("lost"))
	d.Crash(nil, -1, 0)
	_, r := opened(t, d, 0, 2)
	sameRecords(t, r, [][]byte{[]byte("abc")})
}

// P5.1: two logs side by side on one disk leave each other alone.
func TestTwoLogs(t *testing.T) {
	d := newDisk(t, 4)
	a, _ := opened(t, d, 0, 2)
	b, _ := opened(t, d, 2, 2)
	appended(t, a, []byte("a"))
	appended(t, b, []byte("bb"))
	a.Flush()
	if b.Durable() != 0 {
		t.Error("one log's Flush made the other durable")
	}
	b.Flush()
	_, r := opened(t, d, 0, 2)
	sameRecords(t, r, [][]byte{[]byte("a")})
	_, r = opened(t, d, 2, 2)
	sameRecords(t, r, [][]byte{[]byte("bb")})
}

// P2, rule 4.
func TestNothingIsShared(t *testing.T) {
	d := newDisk(t, 4)
	l, _ := opened(t, d, 0, 4)
	room := []byte("abcdefgh")
	part := room[:3]
	parts := [][]byte{part, part}
	if _, e := l.Append(parts...); e != api.OK || string(room) != "abcdefgh" {
		t.Fatalf("Append: %v, %q", e, room)
	}
	clear(room)
	clear(parts)
	one := []byte("one part alone")
	appended(t, l, one)
	clear(one)
	l.Flush()
	want := [][]byte{[]byte("abcabc"), []byte("one part alone")}
	m, r := opened(t, d, 0, 4)
	_, again := opened(t, d, 0, 4)
	for i := range r {
		data := r[i].Data
		clear(data[:cap(data)])
		for j := i + 1; j < len(r); j++ {
			if !bytes.Equal(r[j].Data, want[j]) {
				t.Error("two records of an answer share memory")
			}
		}
	}
	clear(r[:cap(r)])
	sameRecords(t, again, want)
	appended(t, m, []byte("x"))
	m.Flush()
	_, r = opened(t, d, 0, 4)
	sameRecords(t, r, append(want, []byte("x")))
}

// model is a log told another way: all its bytes, and how many of them are durable.
type model struct {
	chain
	records [][]byte
	kept    int // records that are durable
	durable int
}

func (m *model) force(mark int64) {
	if mark > int64(m.durable) {
		m.durable, m.kept = len(m.bytes), len(m.records)
	}
}

// crash leaves what is durable.
func (m *model) crash() {
	*m = model{chain: *chained(m.records[:m.kept]...), records: m.records[:m.kept], kept: m.kept, durable: m.durable}
}

// P5.1 to P5.4 over many steps, with crashes between them, in each of which log and model must agree.
func TestAgreesWithModel(t *testing.T) {
	const first, count = 2, 12
	for seed := range 30 {
		x := dice(seed)
		d := newDisk(t, first+count+1)
		l, _ := opened(t, d, first, count)
		m := &model{}
		for range 150 {
			switch x.below(6) {
			case 0:
				mark := int64(x.below(count*api.SectorSize)) - 5
				l.Force(mark)
				m.force(mark)
			case 1:
				if x.below(3) == 0 {
					l.Flush()
					m.force(int64(len(m.bytes)))
				}
			case 2:
				if x.below(3) == 0 {
					d.Crash(nil, -1, 0)
					var r []Record
					l, r = opened(t, d, first, count)
					m.crash()
					sameRecords(t, r, m.records)
				}
			default:
				data := x.bytes(1 + x.below(60))
				if x.below(10) == 0 {
					data = x.bytes(1 + x.below(1100))
				}
				_, e := l.Append(data)
				want := api.OK
				if len(data) > MaxData {
					want = api.ErrLong
				} else if len(m.bytes)+8+len(data) > count*api.SectorSize {
					want = api.ErrFull
				} else {
					m.add(data)
					m.records = append(m.records, data)
				}
				if e != want {
					t.Fatalf("Append of %d bytes: %v, want %v", len(data), e, want)
				}
			}
			if l.End() != int64(len(m.bytes)) || l.Durable() != int64(m.durable) || l.Left() != count*api.SectorSize-len(m.bytes) {
				t.Fatalf("seed %d: %d, %d, %d; want %d, %d", seed, l.End(), l.Durable(), l.Left(), len(m.bytes), m.durable)
			}
			kept := padded(m.bytes[:m.durable], count)
			if !bytes.Equal(found(d, 0, first+count+1), slices.Concat(full(0), full(0), kept, full(0))) {
				t.Fatalf("seed %d: the disk hasn't what is durable", seed)
			}
		}
	}
}

// P5.4: a crash of a disk in the midst of what a log would have written leaves a log that ends between two records.
func TestTornForceLeavesRightRecords(t *testing.T) {
	x := dice(9)
	var want [][]byte
	for range 20 {
		want = append(want, x.bytes(1+x.below(90)))
	}
	c := chained(want...)
	image := padded(c.bytes, 8)
	for kept := range 8 {
		for _, at := range []int{0, 1, 100, 255} {
			d := newDisk(t, 8)
			for i := range 8 {
				d.Write(i, image[i*256:(i+1)*256])
			}
			d.Crash(slices.Repeat([]bool{true}, kept), kept, at)
			l, r := opened(t, d, 0, 8)
			if len(r) > len(want) {
				t.Fatalf("%d records", len(r))
			}
			sameRecords(t, r, want[:len(r)])
			if end := int64(kept*256 + at); l.End() > end && l.End() < int64(len(c.bytes)) {
				t.Errorf("kept %d, torn at %d: the log ends at %d", kept, at, l.End())
			}
			if len(r) < len(want) && l.End()+int64(8+len(want[len(r)])) <= int64(kept*256+at) {
				t.Errorf("kept %d, torn at %d: a whole record is lost at %d", kept, at, l.End())
			}
		}
	}
}
