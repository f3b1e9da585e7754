package page

import (
	"bytes"
	"encoding/binary"
	"hash/crc32"
	"math"
	"slices"
	"strings"
	"testing"

	"annals/api"
)

// filled is a page with these records.
func filled(t *testing.T, records ...string) *Page {
	t.Helper()
	p := New()
	for i, r := range records {
		if n, e := p.Add([]byte(r)); n != i || e != api.OK {
			t.Fatalf("Add of %d bytes: %d, %v, want %d", len(r), n, e, i)
		}
	}
	return p
}

func holds(t *testing.T, p *Page, mark int64, records ...string) {
	t.Helper()
	left := 243
	for _, r := range records {
		left -= 1 + len(r)
	}
	if p.Count() != len(records) || p.Mark() != mark || p.Left() != left {
		t.Fatalf("Count %d, Mark %d, Left %d; want %d, %d, %d", p.Count(), p.Mark(), p.Left(), len(records), mark, left)
	}
	for slot, want := range records {
		if r, e := p.Get(slot); e != api.OK || string(r) != want {
			t.Fatalf("Get(%d): %q, %v, want %q", slot, r, e, want)
		}
	}
	for _, slot := range []int{math.MinInt, -1, len(records), len(records) + 1, math.MaxInt} {
		if r, e := p.Get(slot); e != api.ErrMissing || r != nil {
			t.Fatalf("Get(%d): %q, %v", slot, r, e)
		}
	}
}

func long(n int) string { return strings.Repeat("x", n) }

// sector is a page's bytes told another way: what follows the sum, noughts up to the end, and the right sum ahead.
func sector(behindSum string) []byte {
	b := make([]byte, 256)
	copy(b[4:], behindSum)
	binary.BigEndian.PutUint32(b, crc32.ChecksumIEEE(b[4:]))
	return b
}

const noMark = "\x00\x00\x00\x00\x00\x00\x00\x00"

// P3.1
func TestNewHasNothing(t *testing.T) {
	p := New()
	holds(t, p, 0)
	if p.Room() != 200 {
		t.Errorf("Room: %d", p.Room())
	}
	q := New()
	q.SetMark(1)
	q.Add([]byte("a"))
	holds(t, p, 0)
	holds(t, q, 1, "a")
}

// P3.1
func TestMark(t *testing.T) {
	p := filled(t, "a", "bc")
	for _, m := range []int64{9, -1, 0, math.MaxInt64, math.MinInt64, 1 << 40} {
		p.SetMark(m)
		holds(t, p, m, "a", "bc")
		p.Add(make([]byte, 201))
		holds(t, p, m, "a", "bc")
	}
}

// P3.2
func TestAddLeftAndRoom(t *testing.T) {
	cases := []struct {
		name       string
		sizes      []int
		left, room int
	}{
		{"nothing", nil, 243, 200},
		{"an empty record", []int{0}, 242, 200},
		{"the example", []int{3}, 239, 200},
		{"the longest", []int{200}, 42, 41},
		{"just room for the longest", []int{41}, 201, 200},
		{"one less than that", []int{42}, 200, 199},
		{"one more than that", []int{40}, 202, 200},
		{"room for one byte", []int{200, 39}, 2, 1},
		{"room for an empty one", []int{200, 40}, 1, 0},
		{"no room at all", []int{200, 41}, 0, 0},
		{"as many as can be", make([]int, 243), 0, 0},
		{"one less than as many as can be", make([]int, 242), 1, 0},
		{"two less than as many as can be", make([]int, 241), 2, 1},
	}
	for _, c := range cases {
		t.Run(c.name, func(t *testing.T) {
			var records []string
			for _, n := range c.sizes {
				records = append(records, long(n))
			}
			p := filled(t, records...)
			if p.Left() != c.left || p.Room() != c.room {
				t.Errorf("Left %d, Room %d; want %d, %d", p.Left(), p.Room(), c.left, c.room)
			}
			holds(t, p, 0, records...)
		})
	}
}

// P3.2: all sizes in all rooms.
func TestAddRefuses(t *testing.T) {
	for used := range 243 {
		for size := range 260 {
			first := min(used, 200)
			records := []string{long(first)}
			if used > first {
				records = append(records, long(used-first-1))
			}
			p := filled(t, records...)
			left := 242 - used
			want := api.OK
			switch {
			case size > 200:
				want = api.ErrLong
			case size+1 > left:
				want = api.ErrFull
			}
			n, e := p.Add([]byte(long(size)))
			if e != want {
				t.Fatalf("Add of %d bytes to a page with %d left: %v, want %v", size, left, e, want)
			}
			if e != api.OK && n != 0 {
				t.Fatalf("a number beside an error: %d", n)
			}
			if e == api.OK {
				records = append(records, long(size))
			}
			holds(t, p, 0, records...)
		}
	}
}

// P3.2: nothing but empty records go in, up to the last byte.
func TestAddOfNil(t *testing.T) {
	p := New()
	for i := range 243 {
		if n, e := p.Add(nil); n != i || e != api.OK {
			t.Fatalf("Add %d of nil: %d, %v", i, n, e)
		}
	}
	if n, e := p.Add(nil); n != 0 || e != api.ErrFull {
		t.Errorf("Add to a full page: %d, %v", n, e)
	}
	if n, e := p.Add(make([]byte, 201)); n != 0 || e != api.ErrLong {
		t.Errorf("Add of too much to a full page: %d, %v", n, e)
	}
	holds(t, p, 0, make([]string, 243)...)
}

// P3.3
func TestSet(t *testing.T) {
	cases := []struct {
		slot, at int
		b        string
		want     api.Errno
		record   string // of slot 1, "abc" ahead of it
	}{
		{1, 0, "x", api.OK, "xbc"},
		{1, 1, "x", api.OK, "axc"},
		{1, 2, "x", api.OK, "abx"},
		{1, 1, "xy", api.OK, "axy"},
		{1, 0, "xyz", api.OK, "xyz"},
		{1, 0, "\x00\x00\x00", api.OK, "\x00\x00\x00"},
		{1, 0, "", api.OK, "abc"},
		{1, 3, "", api.OK, "abc"},
		{1, 3, "x", api.ErrRange, "abc"},
		{1, 2, "xy", api.ErrRange, "abc"},
		{1, 0, "wxyz", api.ErrRange, "abc"},
		{1, 4, "", api.ErrRange, "abc"},
		{1, 4, "x", api.ErrRange, "abc"},
		{1, math.MaxInt, "x", api.ErrRange, "abc"},
		{1, math.MaxInt - 2, "xyz", api.ErrRange, "abc"},
		{1, -1, "x", api.ErrRange, "abc"},
		{1, -1, "", api.ErrRange, "abc"},
		{1, -1, "wxyz", api.ErrRange, "abc"},
		{1, -4, "x", api.ErrRange, "abc"},
		{1, math.MinInt, "x", api.ErrRange, "abc"},
		{1, math.MinInt, "", api.ErrRange, "abc"},
		{1, 0, long(1000), api.ErrRange, "abc"},
		{0, 0, "", api.OK, "abc"},
		{0, 0, "x", api.ErrRange, "abc"},
		{3, 0, "", api.ErrMissing, "abc"},
		{3, 0, "x", api.ErrMissing, "abc"},
		{3, -1, long(1000), api.ErrMissing, "abc"},
		{-1, 0, "x", api.ErrMissing, "abc"},
		{-1, -1, "x", api.ErrMissing, "abc"},
		{math.MinInt, 0, "x", api.ErrMissing, "abc"},
		{math.MaxInt, 9, "x", api.ErrMissing, "abc"},
	}
	for _, c := range cases {
		p := filled(t, "", "abc", "de")
		p.SetMark(5)
		if e := p.Set(c.slot, c.at, []byte(c.b)); e != c.want {
			t.Errorf("Set(%d, %d, %q): %v, want %v", c.slot, c.at, c.b, e, c.want)
		}
		holds(t, p, 5, "", c.record, "de")
	}
	if e := New().Set(0, 0, nil); e != api.ErrMissing {
		t.Errorf("Set in a page without records: %v", e)
	}
}

// P3.4
func TestBytes(t *testing.T) {
	cases := []struct {
		mark    int64
		records []string
		want    string // all behind the sum, but for the noughts at the end
	}{
		{0, nil, ""},
		{0, []string{"abc"}, noMark + "\x01\x03abc"},
		{258, nil, "\x00\x00\x00\x00\x00\x00\x01\x02"},
		{-1, []string{"a", "bc"}, "\xff\xff\xff\xff\xff\xff\xff\xff\x02\x01a\x02bc"},
		{math.MinInt64, []string{""}, "\x80\x00\x00\x00\x00\x00\x00\x00\x01"},
		{math.MaxInt64, []string{"", "\x00", "\xff", ""}, "\x7f\xff\xff\xff\xff\xff\xff\xff\x04\x00\x01\x00\x01\xff\x00"},
		{0, []string{long(200), long(41)}, noMark + "\x02\xc8" + long(200) + "\x29" + long(41)},
		{0, []string{long(41), long(200)}, noMark + "\x02\x29" + long(41) + "\xc8" + long(200)},
		{0, make([]string, 243), noMark + "\xf3"},
	}
	for _, c := range cases {
		p := filled(t, c.records...)
		p.SetMark(c.mark)
		b, want := p.Bytes(), sector(c.want)
		if !bytes.Equal(b, want) {
			t.Errorf("Bytes of mark %d, %q: %q, want %q", c.mark, c.records, b, want)
		}
		holds(t, p, c.mark, c.records...)
		q, e := Open(want)
		if e != api.OK {
			t.Fatalf("Open(%q): %v", want, e)
		}
		holds(t, q, c.mark, c.records...)
		if q.Room() != p.Room() {
			t.Errorf("Room of an opened page: %d, want %d", q.Room(), p.Room())
		}
	}
}

// P3.4: the sum of the example, as a number.
func TestBytesOfTheExample(t *testing.T) {
	p := filled(t, "abc")
	b := p.Bytes()
	if p.Count() != 1 || p.Room() != 200 || len(b) != 256 {
		t.Errorf("Count %d, Room %d, %d bytes", p.Count(), p.Room(), len(b))
	}
	if binary.BigEndian.Uint32(b) != crc32.ChecksumIEEE(b[4:]) {
		t.Errorf("the sum: % x", b[:4])
	}
	if string(b[4:17]) != noMark+"\x01\x03abc" || !bytes.Equal(b[17:], make([]byte, 239)) {
		t.Errorf("behind the sum: %q", b[4:])
	}
}

// P3.4, and rule 1: the length is asked ahead of the sum, the sum ahead of the form.
func TestOpenRefuses(t *testing.T) {
	right := filled(t, "abc").Bytes()
	spoilt := sector(noMark + "\x01\xff")
	spoilt[0]++
	tail := slices.Clone(right)
	tail[255] = 1
	cases := []struct {
		name string
		b    []byte
		want api.Errno
	}{
		{"nil", nil, api.ErrLength},
		{"nothing", []byte{}, api.ErrLength},
		{"one byte", right[:1], api.ErrLength},
		{"up to the records", right[:13], api.ErrLength},
		{"a byte too short", right[:255], api.ErrLength},
		{"a byte too long", append(slices.Clone(right), 0), api.ErrLength},
		{"two pages", append(slices.Clone(right), right...), api.ErrLength},
		{"spoilt and too short", spoilt[:255], api.ErrLength},
		{"noughts", make([]byte, 256), api.ErrSum},
		{"a wrong sum and a wrong form", spoilt, api.ErrSum},
		{"something behind the records, not in the sum", tail, api.ErrSum},
		{"a record too long", sector(noMark + "\x01\xc9"), api.ErrForm},
		{"a record far too long", sector(noMark + "\x01\xff"), api.ErrForm},
		{"a record of as much as there is", sector(noMark + "\x01\xf2" + long(242)), api.ErrForm},
		{"a second record too long", sector(noMark + "\x02\x01a\xc9" + long(201)), api.ErrForm},
		{"a record one beyond the end", sector(noMark + "\x02\xc8" + long(200) + "\x2a" + long(41)), api.ErrForm},
		{"a record that begins at the end", sector(noMark + "\x03\xc8" + long(200) + "\x29" + long(41)), api.ErrForm},
		{"one empty record too many", sector(noMark + "\xf4"), api.ErrForm},
		{"as many records as a byte can tell", sector(noMark + "\xff"), api.ErrForm},
		{"something behind no records", sector(noMark + "\x00\x01"), api.ErrForm},
		{"something behind a record", sector(noMark + "\x01\x03abcd"), api.ErrForm},
		{"something at the end", sector(noMark + "\x01\x03abc" + strings.Repeat("\x00", 238) + "\x01"), api.ErrForm},
		{"a record that isn't counted", sector(noMark + "\x01\x01a\x01b"), api.ErrForm},
		{"something behind the last of many", sector(noMark + "\xf2" + strings.Repeat("\x00", 242) + "\x01"), api.ErrForm},
	}
	for _, c := range cases {
		if p, e := Open(c.b); p != nil || e != c.want {
			t.Errorf("Open of %s: %v, %v, want %v", c.name, p, e, c.want)
		}
	}
}

// P3.4: a cyclic sum tells every page with one wrong byte.
func TestOpenTellsEverySpoiltByte(t *testing.T) {
	p := filled(t, "abc", long(100))
	p.SetMark(77)
	b := p.Bytes()
	for i := range b {
		for _, change := range []byte{1, 128, 255} {
			b[i] ^= change
			if q, e := Open(b); q != nil || e != api.ErrSum {
				t.Fatalf("byte %d changed by %d: %v", i, change, e)
			}
			b[i] ^= change
		}
	}
	q, e := Open(b)
	if e != api.OK {
		t.Fatal(e)
	}
	holds(t, q, 77, "abc", long(100))
}

// dice answers numbers that look thrown, the same ones each time.
type dice uint64

func (x *dice) below(n int) int {
	*x = *x*6364136223846793005 + 1442695040888963407
	return int(uint64(*x) >> 33 % uint64(n))
}

// P3.4: what is opened has these Bytes; what isn't is refused for its form, since its sum is right.
func TestOpenOfThrownForms(t *testing.T) {
	x := dice(3)
	opened := 0
	for range 20000 {
		form := []byte(noMark + string(rune(x.below(4))))
		for range x.below(5) {
			form = append(form, byte(x.below(4)))
		}
		b := sector(string(form))
		p, e := Open(b)
		switch {
		case e == api.OK && bytes.Equal(p.Bytes(), b):
			opened++
		case e == api.ErrForm && p == nil && !isForm(form[8:]):
		default:
			t.Fatalf("Open of form %v: %v, %v", form[8:], p, e)
		}
		if isForm(form[8:]) != (e == api.OK) {
			t.Fatalf("Open of form %v: %v", form[8:], e)
		}
	}
	if opened == 0 || opened == 20000 {
		t.Errorf("%d were opened", opened)
	}
}

// isForm: a count and records, with noughts behind them; the few that are thrown never come to the end.
func isForm(form []byte) bool {
	form = append(slices.Clone(form), make([]byte, 40)...)
	at := 1
	for range form[0] {
		at += 1 + int(form[at])
	}
	return len(bytes.Trim(form[at:], "\x00")) == 0
}

// P3.1 to P3.4 over many steps, in each of which the page, and the page of its bytes, hold what a list of texts holds.
func TestAgreesWithModel(t *testing.T) {
	for seed := range 30 {
		x := dice(seed)
		p, mark := New(), int64(0)
		var records []string
		for range 120 {
			switch x.below(5) {
			case 0:
				mark = int64(x.below(1000)-500) << x.below(54)
				p.SetMark(mark)
			case 1:
				slot, at, b := x.below(6)-1, x.below(12)-2, strings.Repeat("s", x.below(5))
				want := api.OK
				switch {
				case slot < 0 || slot >= len(records):
					want = api.ErrMissing
				case at < 0 || at+len(b) > len(records[slot]):
					want = api.ErrRange
				default:
					records[slot] = records[slot][:at] + b + records[slot][at+len(b):]
				}
				if e := p.Set(slot, at, []byte(b)); e != want {
					t.Fatalf("Set(%d, %d, %q): %v, want %v", slot, at, b, e, want)
				}
			default:
				r := strings.Repeat(string(rune('a'+x.below(26))), x.below(14))
				fits := len(r)+1 <= p.Left()
				n, e := p.Add([]byte(r))
				if fits != (e == api.OK) || fits && n != len(records) || !fits && e != api.ErrFull {
					t.Fatalf("Add(%q): %d, %v", r, n, e)
				}
				if fits {
					records = append(records, r)
				}
			}
			holds(t, p, mark, records...)
			q, e := Open(p.Bytes())
			if e != api.OK {
				t.Fatalf("Open: %v", e)
			}
			holds(t, q, mark, records...)
			if x.below(4) == 0 {
				p = q
			}
		}
	}
}

// P2, rule 4: neither what is handed in nor what is answered is shared with the page, spare room included.
func TestNothingIsShared(t *testing.T) {
	room := []byte("abcdef")
	p := New()
	p.Add(room[:3])
	p.Add(room[:3])
	p.Set(1, 0, room[3:5])
	if string(room) != "abcdef" {
		t.Errorf("what was handed in is changed: %q", room)
	}
	clear(room)
	holds(t, p, 0, "abc", "dec")
	a, _ := p.Get(0)
	b, _ := p.Get(0)
	clear(a[:cap(a)])
	if string(b) != "abc" {
		t.Error("two answers share memory")
	}
	holds(t, p, 0, "abc", "dec")
	c, d := p.Bytes(), p.Bytes()
	clear(c[:cap(c)])
	if q, e := Open(d); q == nil || e != api.OK {
		t.Error("two answers share memory")
	}
	holds(t, p, 0, "abc", "dec")
	p.Set(0, 0, []byte("xyz"))
	if string(b) != "abc" {
		t.Error("an answer hangs on the page")
	}
}

// P2, rule 4: a page is opened from bytes that stay the caller's.
func TestOpenSharesNothing(t *testing.T) {
	room := append(filled(t, "abc", "de").Bytes(), 1, 2, 3)
	b := room[:256]
	before := slices.Clone(room)
	p, _ := Open(b)
	q, _ := Open(b)
	p.Set(0, 0, []byte("xyz"))
	p.Add([]byte("f"))
	p.SetMark(4)
	if !bytes.Equal(room, before) {
		t.Error("what was handed in is changed")
	}
	holds(t, q, 0, "abc", "de")
	clear(room)
	holds(t, q, 0, "abc", "de")
	holds(t, p, 4, "xyz", "de", "f")
}
