package buffer

import (
	"bytes"
	"math"
	"slices"
	"testing"

	"annals/api"
	"annals/disk"
	"annals/wal"
)

// dice answers numbers that look thrown, the same ones each time.
type dice uint64

func (x *dice) below(n int) int {
	*x = *x*6364136223846793005 + 1442695040888963407
	return int(uint64(*x) >> 33 % uint64(n))
}

// call is a Force: of which log, with which mark, and how many writes were pending then.
type call struct {
	log     int
	mark    int64
	pending int
}

// watcher is a log that notes when it is forced.
type watcher struct {
	number int
	disk   *disk.Disk
	calls  *[]call
}

func (w watcher) Force(mark int64) {
	*w.calls = append(*w.calls, call{w.number, mark, w.disk.Pending()})
}

func full(b byte) []byte { return bytes.Repeat([]byte{b}, api.SectorSize) }

// numbered is a disk whose sectors are full of their numbers plus 100.
func numbered(t *testing.T, sectors int) *disk.Disk {
	t.Helper()
	d, e := disk.New(sectors)
	if e != api.OK {
		t.Fatalf("disk.New(%d): %v", sectors, e)
	}
	for i := range sectors {
		d.Write(i, full(byte(100+i)))
	}
	d.Sync()
	return d
}

func made(t *testing.T, d *disk.Disk, first, count, frames int, logs ...Forcer) *Pool {
	t.Helper()
	p, e := New(d, first, count, frames, logs...)
	if p == nil || e != api.OK {
		t.Fatalf("New(%d, %d, %d): %v, %v", first, count, frames, p, e)
	}
	return p
}

func expect(t *testing.T, what string, got, want api.Errno) {
	t.Helper()
	if got != want {
		t.Fatalf("%s: %v, want %v", what, got, want)
	}
}

func inFrames(t *testing.T, p *Pool, want ...int) {
	t.Helper()
	if got := p.Frames(); !slices.Equal(got, want) {
		t.Fatalf("Frames: %v, want %v", got, want)
	}
}

func reads(t *testing.T, d *disk.Disk, n int, b byte) {
	t.Helper()
	if got, e := d.Read(n); e != api.OK || !bytes.Equal(got, full(b)) {
		t.Fatalf("sector %d has %v, %v; want %d", n, got, e, b)
	}
}

func has(t *testing.T, p *Pool, page int, b byte) {
	t.Helper()
	if got, e := p.Bytes(page); e != api.OK || !bytes.Equal(got, full(b)) {
		t.Fatalf("page %d has %v, %v; want %d", page, got, e, b)
	}
}

// touch pins a page and unpins it.
func touch(t *testing.T, p *Pool, page int) {
	t.Helper()
	expect(t, "Pin", p.Pin(page), api.OK)
	expect(t, "Unpin", p.Unpin(page), api.OK)
}

// change pins a page, puts bytes, and unpins it.
func change(t *testing.T, p *Pool, page int, b byte, mark int64) {
	t.Helper()
	expect(t, "Pin", p.Pin(page), api.OK)
	expect(t, "Put", p.Put(page, full(b), mark), api.OK)
	expect(t, "Unpin", p.Unpin(page), api.OK)
}

// P6.1
func TestNewRefuses(t *testing.T) {
	cases := []struct{ first, count, frames int }{
		{-1, 1, 1}, {math.MinInt, 1, 1}, {math.MinInt, math.MaxInt, 1},
		{0, 0, 1}, {0, -1, 1}, {4, 0, 1}, {0, math.MinInt, 1},
		{4, 1, 1}, {3, 2, 1}, {0, 5, 1}, {5, 1, 1},
		{math.MaxInt, 1, 1}, {0, math.MaxInt, 1}, {1, math.MaxInt, 1}, {math.MaxInt, math.MaxInt, 1},
		{0, 4, 0}, {0, 4, -1}, {0, 4, math.MinInt}, {0, 4, api.MaxSectors + 1}, {0, 4, math.MaxInt},
	}
	d := numbered(t, 4)
	d.Write(0, full(1))
	for _, c := range cases {
		if p, e := New(d, c.first, c.count, c.frames); p != nil || e != api.ErrRange {
			t.Errorf("New(%d, %d, %d): %v, %v", c.first, c.count, c.frames, p, e)
		}
	}
	if d.Pending() != 1 {
		t.Error("a refused New has changed the disk")
	}
}

// P6.1
func TestNew(t *testing.T) {
	for _, c := range []struct{ first, count, frames int }{{0, 4, 1}, {0, 1, 1}, {3, 1, 2}, {1, 3, 7}, {2, 2, api.MaxSectors}} {
		d := numbered(t, 4)
		var calls []call
		d.Write(0, full(1))
		p := made(t, d, c.first, c.count, c.frames, watcher{0, d, &calls})
		if p.Pages() != c.count {
			t.Errorf("Pages: %d, want %d", p.Pages(), c.count)
		}
		inFrames(t, p, slices.Repeat([]int{-1}, c.frames)...)
		if d.Pending() != 1 || calls != nil {
			t.Error("New has worked on the disk or the log")
		}
	}
}

// P6.1 and P6.2: a page is the sector first plus its number.
func TestPagesAreSectorsFromFirstOn(t *testing.T) {
	d := numbered(t, 6)
	p := made(t, d, 2, 3, 3)
	for page := range 3 {
		expect(t, "Pin", p.Pin(page), api.OK)
		has(t, p, page, byte(102+page))
		expect(t, "Put", p.Put(page, full(byte(page)), 0), api.OK)
	}
	p.Flush()
	for n, b := range []byte{100, 101, 0, 1, 2, 105} {
		reads(t, d, n, b)
	}
}

// P6.2
func TestPinRefuses(t *testing.T) {
	d := numbered(t, 6)
	p := made(t, d, 2, 3, 1)
	expect(t, "Pin", p.Pin(1), api.OK)
	for _, page := range []int{math.MinInt, -3, -2, -1, 3, 4, math.MaxInt} {
		expect(t, "Pin of no page", p.Pin(page), api.ErrRange)
	}
	expect(t, "Pin of another", p.Pin(2), api.ErrPool)
	expect(t, "Pin once more", p.Pin(1), api.OK)
	inFrames(t, p, 1)
}

// P6.2: the empty frame with the least number, wherever the hand is, and not a frame that could give way.
func TestPinTakesTheLeastEmptyFrame(t *testing.T) {
	p := made(t, numbered(t, 8), 0, 8, 3)
	touch(t, p, 5)
	inFrames(t, p, 5, -1, -1)
	touch(t, p, 3)
	inFrames(t, p, 5, 3, -1)
	touch(t, p, 5)
	touch(t, p, 7)
	inFrames(t, p, 5, 3, 7)
	touch(t, p, 3)
	inFrames(t, p, 5, 3, 7)
}

// P6.2: pinned as often, unpinned as often.
func TestPinCounts(t *testing.T) {
	p := made(t, numbered(t, 8), 0, 8, 1)
	for range 3 {
		expect(t, "Pin", p.Pin(4), api.OK)
	}
	for range 3 {
		expect(t, "Pin of another", p.Pin(5), api.ErrPool)
		has(t, p, 4, 104)
		expect(t, "Unpin", p.Unpin(4), api.OK)
	}
	expect(t, "Unpin", p.Unpin(4), api.ErrPinned)
	expect(t, "Pin of another", p.Pin(5), api.OK)
	inFrames(t, p, 5)
	expect(t, "Unpin of what gave way", p.Unpin(4), api.ErrPinned)
	expect(t, "Pin of what gave way", p.Pin(4), api.ErrPool)
}

// P6.2: a page that comes back has the disk's bytes, isn't changed, and its mark is 0.
func TestPinBringsTheDisksBytes(t *testing.T) {
	d := numbered(t, 4)
	var calls []call
	p := made(t, d, 0, 4, 1, watcher{0, d, &calls})
	change(t, p, 2, 7, 50)
	touch(t, p, 3)
	reads(t, d, 2, 7)
	expect(t, "Pin", p.Pin(2), api.OK)
	has(t, p, 2, 7)
	expect(t, "Unpin", p.Unpin(2), api.OK)
	if calls = nil; d.Pending() != 1 {
		t.Fatalf("%d pending", d.Pending())
	}
	touch(t, p, 3) // 2 wasn't changed since it came back
	if calls != nil || d.Pending() != 1 {
		t.Errorf("a page that wasn't changed was written: %v, %d pending", calls, d.Pending())
	}
	change(t, p, 2, 8, 5)
	touch(t, p, 3)
	if len(calls) != 1 || calls[0].mark != 5 {
		t.Errorf("the mark of a page that came back: %v, want 5", calls)
	}
}

// P6.2: the bytes that the disk has are those that were last written, durable or not.
func TestPinReadsWhatIsPending(t *testing.T) {
	d := numbered(t, 4)
	p := made(t, d, 0, 4, 1)
	change(t, p, 2, 7, 0)
	touch(t, p, 3)
	d.Crash(nil, -1, 0)
	expect(t, "Pin", p.Pin(2), api.OK)
	has(t, p, 2, 102)
}

// P6.2, rule 3: a Pin that finds all pages pinned leaves hand and use as they were.
func TestErrPoolChangesNothing(t *testing.T) {
	run := func(refused int) []int {
		p := made(t, numbered(t, 8), 0, 8, 3)
		for _, page := range []int{0, 1, 2} {
			expect(t, "Pin", p.Pin(page), api.OK)
		}
		for range refused {
			expect(t, "Pin", p.Pin(7), api.ErrPool)
		}
		for _, page := range []int{0, 1, 2} {
			expect(t, "Unpin", p.Unpin(page), api.OK)
		}
		expect(t, "Pin", p.Pin(3), api.OK)
		expect(t, "Pin", p.Pin(4), api.OK)
		return p.Frames()
	}
	want := run(0)
	for refused := range 5 {
		if got := run(refused); !slices.Equal(got, want) {
			t.Errorf("%d refused: %v, want %v", refused, got, want)
		}
	}
}

// P6.3, step by step; all frames are full, and all pages used, to begin with.
func TestWhichGivesWay(t *testing.T) {
	p := made(t, numbered(t, 16), 0, 16, 3)
	for page := range 3 {
		touch(t, p, page)
	}
	touch(t, p, 3) // round once, then frame 0; the hand is at 1, and neither 1 nor 2 is used
	inFrames(t, p, 3, 1, 2)
	touch(t, p, 1)
	touch(t, p, 4) // 1 is used again, and passed over; the hand is at 0
	inFrames(t, p, 3, 1, 4)
	touch(t, p, 5) // 3 is used, 1 isn't any more; the hand is at 2
	inFrames(t, p, 3, 5, 4)
	expect(t, "Pin", p.Pin(4), api.OK)
	touch(t, p, 6) // 4 is pinned, 3 isn't used any more
	inFrames(t, p, 6, 5, 4)
	expect(t, "Unpin", p.Unpin(4), api.OK)
	touch(t, p, 7) // 5, 4 and 6 are used: round once, then 5
	inFrames(t, p, 6, 7, 4)
	touch(t, p, 4)
	touch(t, p, 8) // 4 is used again, 6 isn't
	inFrames(t, p, 8, 7, 4)
}

// P6.3: a page that is pinned stays used when the hand goes by.
func TestPinnedPageStaysUsed(t *testing.T) {
	p := made(t, numbered(t, 16), 0, 16, 3)
	expect(t, "Pin", p.Pin(0), api.OK)
	touch(t, p, 1)
	touch(t, p, 2)
	touch(t, p, 3) // the hand passed 0 twice
	touch(t, p, 4)
	inFrames(t, p, 0, 3, 4)
	expect(t, "Unpin", p.Unpin(0), api.OK)
	touch(t, p, 5) // 0, 3 and 4 are used: round once, then 0; neither 3 nor 4 is used any more
	touch(t, p, 3)
	touch(t, p, 6)
	inFrames(t, p, 5, 3, 6)
}

// P6.3
func TestChangedPageIsForcedAndWritten(t *testing.T) {
	d := numbered(t, 8)
	var calls []call
	p := made(t, d, 0, 8, 1, watcher{1, d, &calls}, watcher{2, d, &calls}, watcher{3, d, &calls})
	change(t, p, 2, 7, 40)
	if calls != nil || d.Pending() != 0 {
		t.Fatal("Put has worked on the disk or the logs")
	}
	reads(t, d, 2, 102)
	touch(t, p, 3)
	if !slices.Equal(calls, []call{{1, 40, 0}, {2, 40, 0}, {3, 40, 0}}) {
		t.Errorf("forced: %v", calls)
	}
	reads(t, d, 2, 7)
	if d.Pending() != 1 {
		t.Errorf("%d pending", d.Pending())
	}
	d.Crash(nil, -1, 0)
	reads(t, d, 2, 102)
	touch(t, p, 4)
	if len(calls) != 3 || d.Pending() != 0 {
		t.Error("a page that wasn't changed was written")
	}
}

// P6.3: one that stays is neither forced nor written.
func TestOnlyWhatGivesWayIsWritten(t *testing.T) {
	d := numbered(t, 8)
	var calls []call
	p := made(t, d, 0, 8, 3, watcher{1, d, &calls})
	change(t, p, 0, 1, 10)
	change(t, p, 1, 2, 20)
	change(t, p, 2, 3, 30)
	touch(t, p, 5)
	inFrames(t, p, 5, 1, 2)
	if !slices.Equal(calls, []call{{1, 10, 0}}) || d.Pending() != 1 {
		t.Errorf("forced: %v, %d pending", calls, d.Pending())
	}
}

// P6.4
func TestWhatIsNotPinnedIsRefused(t *testing.T) {
	d := numbered(t, 8)
	p := made(t, d, 0, 6, 3)
	touch(t, p, 1)
	expect(t, "Pin", p.Pin(2), api.OK)
	for _, page := range []int{math.MinInt, -2, -1, 0, 1, 5, 6, 7, math.MaxInt} {
		expect(t, "Unpin", p.Unpin(page), api.ErrPinned)
		expect(t, "Put", p.Put(page, full(1), 1), api.ErrPinned)
		expect(t, "Put of nothing", p.Put(page, nil, 1), api.ErrPinned)
		if b, e := p.Bytes(page); b != nil || e != api.ErrPinned {
			t.Errorf("Bytes(%d): %v, %v", page, b, e)
		}
	}
	inFrames(t, p, 1, 2, -1)
	p.Flush()
	reads(t, d, 1, 101)
}

// P6.4, rules 1 and 3.
func TestPutRefusesOtherLengths(t *testing.T) {
	d := numbered(t, 8)
	var calls []call
	p := made(t, d, 0, 8, 1, watcher{1, d, &calls})
	expect(t, "Pin", p.Pin(2), api.OK)
	for _, b := range [][]byte{nil, {}, {1}, full(1)[1:], append(full(1), 1), make([]byte, 1000)} {
		expect(t, "Put", p.Put(2, b, 9), api.ErrLength)
	}
	has(t, p, 2, 102)
	p.Flush()
	if !slices.Equal(calls, []call{{1, 0, 0}}) {
		t.Errorf("a refused Put has changed the page: %v", calls)
	}
}

// P6.4: the greater mark.
func TestPutKeepsTheGreaterMark(t *testing.T) {
	cases := []struct {
		marks []int64
		want  int64
	}{
		{[]int64{5}, 5},
		{[]int64{5, 9}, 9},
		{[]int64{9, 5}, 9},
		{[]int64{0}, 0},
		{[]int64{-5}, 0},
		{[]int64{math.MinInt64, 3, -1}, 3},
		{[]int64{math.MaxInt64, 3}, math.MaxInt64},
	}
	for _, c := range cases {
		for _, flush := range []bool{false, true} {
			d := numbered(t, 8)
			var calls []call
			p := made(t, d, 0, 8, 1, watcher{1, d, &calls})
			for i, m := range c.marks {
				change(t, p, 2, byte(i), m)
			}
			if flush {
				p.Flush()
			} else {
				touch(t, p, 3)
			}
			if !slices.Equal(calls, []call{{1, c.want, 0}}) {
				t.Errorf("marks %v: %v, want %d", c.marks, calls, c.want)
			}
			reads(t, d, 2, byte(len(c.marks)-1))
		}
	}
}

// P6.4: Flush leaves a page's mark as it is.
func TestMarkStaysBehindFlush(t *testing.T) {
	d := numbered(t, 8)
	var calls []call
	p := made(t, d, 0, 8, 1, watcher{1, d, &calls})
	change(t, p, 2, 1, 50)
	p.Flush()
	change(t, p, 2, 2, 5)
	touch(t, p, 3)
	if !slices.Equal(calls, []call{{1, 50, 0}, {1, 50, 0}}) {
		t.Errorf("forced: %v", calls)
	}
}

// P6.4
func TestFlush(t *testing.T) {
	d := numbered(t, 8)
	var calls []call
	p := made(t, d, 0, 7, 4, watcher{1, d, &calls}, watcher{2, d, &calls})
	expect(t, "Pin", p.Pin(5), api.OK)
	expect(t, "Put", p.Put(5, full(55), 10), api.OK) // stays pinned
	change(t, p, 3, 33, 30)
	touch(t, p, 6)
	change(t, p, 0, 0, 20)
	d.Write(7, full(9)) // another's write
	p.Flush()
	if !slices.Equal(calls, []call{{1, 30, 1}, {2, 30, 1}}) || d.Pending() != 0 {
		t.Errorf("forced: %v, %d pending", calls, d.Pending())
	}
	d.Crash(nil, -1, 0)
	for n, b := range []byte{0, 101, 102, 33, 104, 55, 106, 9} {
		reads(t, d, n, b)
	}
	inFrames(t, p, 5, 3, 6, 0)
	has(t, p, 5, 55)
	calls = nil
	d.Write(7, full(8))
	p.Flush() // nothing is changed any more
	if !slices.Equal(calls, []call{{1, 0, 1}, {2, 0, 1}}) || d.Pending() != 0 {
		t.Errorf("forced once more: %v, %d pending", calls, d.Pending())
	}
	expect(t, "Unpin", p.Unpin(5), api.OK)
	calls = nil
	for _, page := range []int{1, 2, 4} {
		touch(t, p, page)
	}
	if calls != nil || d.Pending() != 0 {
		t.Error("flushed pages were written when they gave way")
	}
}

// P6.4: of a pool that has no pages yet, and no logs.
func TestFlushOfNothing(t *testing.T) {
	d := numbered(t, 2)
	p := made(t, d, 0, 2, 2)
	d.Write(1, full(1))
	p.Flush()
	if d.Pending() != 0 {
		t.Error("Flush of nothing didn't make the disk durable")
	}
	var calls []call
	p = made(t, d, 0, 2, 2, watcher{1, d, &calls})
	p.Flush()
	if !slices.Equal(calls, []call{{1, 0, 0}}) {
		t.Errorf("forced: %v", calls)
	}
}

// P6.3 and P6.4 with logs of layer 5: none of a page's bytes ahead of what the log says of them.
func TestForcesRealLogs(t *testing.T) {
	d, _ := disk.New(12)
	a, _, _ := wal.Open(d, 0, 2)
	b, _, _ := wal.Open(d, 2, 2)
	p := made(t, d, 4, 8, 1, a, b)
	a.Append([]byte("aaa"))
	b.Append([]byte("b"))
	mark := a.End()
	change(t, p, 2, 7, mark)
	touch(t, p, 3)
	if a.Durable() != 11 || b.Durable() != 9 || d.Pending() != 1 {
		t.Errorf("durable: %d and %d, %d pending", a.Durable(), b.Durable(), d.Pending())
	}
	b.Append([]byte("c"))
	change(t, p, 4, 7, 9) // b is durable up to 9
	p.Flush()
	if b.Durable() != 9 || d.Pending() != 0 {
		t.Errorf("durable: %d, %d pending", b.Durable(), d.Pending())
	}
}

// The example of the chapter.
func TestExample(t *testing.T) {
	d := numbered(t, 8)
	p := made(t, d, 0, 8, 1)
	change(t, p, 2, 7, 0)
	expect(t, "Pin", p.Pin(3), api.OK)
	reads(t, d, 2, 7)
	inFrames(t, p, 3)
	expect(t, "Pin", p.Pin(2), api.ErrPool)
}

// P2, rule 4.
func TestNothingIsShared(t *testing.T) {
	d := numbered(t, 4)
	var calls []call
	logs := []Forcer{watcher{1, d, &calls}, watcher{2, d, &calls}, watcher{3, d, &calls}}
	p := made(t, d, 0, 4, 2, logs[:2]...)
	clear(logs)
	expect(t, "Pin", p.Pin(1), api.OK)
	room := append(full(7), 1, 2, 3)
	expect(t, "Put", p.Put(1, room[:api.SectorSize], 4), api.OK)
	if !bytes.Equal(room, append(full(7), 1, 2, 3)) {
		t.Error("what was handed in is changed")
	}
	clear(room)
	has(t, p, 1, 7)
	b, _ := p.Bytes(1)
	other, _ := p.Bytes(1)
	clear(b[:cap(b)])
	if !bytes.Equal(other, full(7)) {
		t.Error("two answers share memory")
	}
	has(t, p, 1, 7)
	f := p.Frames()
	for i := range f[:cap(f)] {
		f[:cap(f)][i] = 3
	}
	inFrames(t, p, 1, -1)
	p.Flush()
	if !slices.Equal(calls, []call{{1, 4, 0}, {2, 4, 0}}) {
		t.Errorf("forced: %v", calls)
	}
	reads(t, d, 1, 7)
}

// held is a page in a frame of the model.
type held struct {
	page          int
	data          byte
	pins          int
	used, changed bool
	mark          int64
}

// model is a pool told another way: pages by number, and writes as a list.
type model struct {
	disk   []byte
	frames []*held
	hand   int
	forced []int64
	wrote  int
}

func (m *model) find(page int) *held {
	for _, h := range m.frames {
		if h != nil && h.page == page {
			return h
		}
	}
	return nil
}

func (m *model) pin(page int) api.Errno {
	if page < 0 || page >= len(m.disk) {
		return api.ErrRange
	}
	if h := m.find(page); h != nil {
		h.pins, h.used = h.pins+1, true
		return api.OK
	}
	place := slices.Index(m.frames, nil)
	if place < 0 {
		if place = m.victim(); place < 0 {
			return api.ErrPool
		}
		if h := m.frames[place]; h.changed {
			m.forced = append(m.forced, h.mark)
			m.disk[h.page] = h.data
			m.wrote++
		}
	}
	m.frames[place] = &held{page: page, data: m.disk[page], pins: 1, used: true}
	return api.OK
}

func (m *model) victim() int {
	for range 2*len(m.frames) + 1 {
		at := m.hand
		h := m.frames[at]
		if h.pins == 0 && !h.used {
			m.hand = (at + 1) % len(m.frames)
			return at
		}
		if h.pins == 0 {
			h.used = false
		}
		m.hand = (at + 1) % len(m.frames)
	}
	return -1
}

func (m *model) flush() {
	top := int64(0)
	for page := range m.disk {
		if h := m.find(page); h != nil && h.changed {
			top = max(top, h.mark)
			m.disk[page], h.changed = h.data, false
		}
	}
	m.forced = append(m.forced, top)
	m.wrote = 0
}

// P6.1 to P6.4 over many steps, in each of which pool and model must agree.
func TestAgreesWithModel(t *testing.T) {
	const pages = 7
	for seed := range 60 {
		x := dice(seed)
		frames := 1 + seed%6
		d := numbered(t, pages+2)
		var calls []call
		p := made(t, d, 1, pages, frames, watcher{1, d, &calls})
		m := &model{frames: make([]*held, frames)}
		for i := range pages {
			m.disk = append(m.disk, byte(101+i))
		}
		for range 300 {
			page := x.below(pages+2) - 1
			h := m.find(page)
			refused := api.OK
			if h == nil || h.pins == 0 {
				refused = api.ErrPinned
			}
			switch x.below(12) {
			case 0, 1, 2:
				hand := m.hand
				want := m.pin(page)
				if want == api.ErrPool {
					m.hand = hand
				}
				expect(t, "Pin", p.Pin(page), want)
			case 3, 4, 5, 6, 7, 8:
				expect(t, "Unpin", p.Unpin(page), refused)
				if refused == api.OK {
					h.pins--
				}
			case 9, 10:
				b, mark := byte(x.below(256)), int64(x.below(100))-10
				expect(t, "Put", p.Put(page, full(b), mark), refused)
				if refused == api.OK {
					h.data, h.changed, h.mark = b, true, max(h.mark, mark)
				}
			case 11:
				if x.below(8) == 0 {
					p.Flush()
					m.flush()
				}
			}
			agree(t, p, d, m, calls)
		}
	}
}

func agree(t *testing.T, p *Pool, d *disk.Disk, m *model, calls []call) {
	t.Helper()
	for i, page := range p.Frames() {
		if h := m.frames[i]; h == nil && page != -1 || h != nil && page != h.page {
			t.Fatalf("Frames: %v, not so at %d", p.Frames(), i)
		}
	}
	for page, b := range m.disk {
		reads(t, d, page+1, b)
		if h := m.find(page); h != nil && h.pins > 0 {
			has(t, p, page, h.data)
		} else if _, e := p.Bytes(page); e != api.ErrPinned {
			t.Fatalf("Bytes(%d): %v", page, e)
		}
	}
	if d.Pending() != m.wrote || len(calls) != len(m.forced) {
		t.Fatalf("%d pending, want %d; %d forced, want %d", d.Pending(), m.wrote, len(calls), len(m.forced))
	}
	for i, c := range calls {
		if c.mark != m.forced[i] {
			t.Fatalf("forced: %v, want %v", calls, m.forced)
		}
	}
}
