package trail

import (
	"bytes"
	"math"
	"reflect"
	"slices"
	"sort"
	"testing"

	"annals/api"
)

// dice answers numbers that look thrown, the same ones each time.
type dice uint64

func (x *dice) below(n int) int {
	*x = *x*6364136223846793005 + 1442695040888963407
	return int(uint64(*x) >> 33 % uint64(n))
}

func (x *dice) bytes(n int) []byte {
	b := make([]byte, n)
	for i := range b {
		b[i] = byte(x.below(256))
	}
	return b
}

func same(a, b Entry) bool {
	return a.Kind == b.Kind && a.Txn == b.Txn && a.Page == b.Page && a.Slot == b.Slot && a.Stamp == b.Stamp && bytes.Equal(a.Data, b.Data)
}

func sameReport(a, b Report) bool {
	return slices.Equal(a.Commits, b.Commits) && slices.Equal(a.Losers, b.Losers) && slices.Equal(a.Pages, b.Pages) && a.Last == b.Last
}

func long(n int) []byte { return bytes.Repeat([]byte{7}, n) }

// P7.1
func TestKinds(t *testing.T) {
	if Add != 1 || End != 2 || Commit != 3 {
		t.Errorf("the kinds: %d, %d, %d", Add, End, Commit)
	}
}

// checked: entries with what Check says of them.
var checked = []struct {
	name  string
	entry Entry
	want  api.Errno
}{
	{"add", Entry{Kind: Add, Txn: 1}, api.OK},
	{"add of empty data", Entry{Kind: Add, Txn: 1, Data: []byte{}}, api.OK},
	{"add of all", Entry{Kind: Add, Txn: math.MaxInt64, Page: 65535, Slot: 255, Data: long(api.MaxRecord)}, api.OK},
	{"end", Entry{Kind: End, Txn: 1, Page: 3, Slot: 4}, api.OK},
	{"end with empty data", Entry{Kind: End, Txn: math.MaxInt64, Page: 65535, Slot: 255, Data: []byte{}}, api.OK},
	{"commit", Entry{Kind: Commit, Txn: 1}, api.OK},
	{"commit at the end of time", Entry{Kind: Commit, Txn: math.MaxInt64, Stamp: api.Forever, Data: []byte{}}, api.OK},

	{"kind 0", Entry{Txn: 1}, api.ErrKind},
	{"kind 4", Entry{Kind: 4, Txn: 1}, api.ErrKind},
	{"kind -1", Entry{Kind: -1, Txn: 1}, api.ErrKind},
	{"least kind", Entry{Kind: math.MinInt, Txn: 1}, api.ErrKind},
	{"greatest kind", Entry{Kind: math.MaxInt, Txn: 1}, api.ErrKind},
	{"kind 257", Entry{Kind: 257, Txn: 1}, api.ErrKind},
	{"kind ahead of all", Entry{Kind: 0, Txn: -1, Page: -1, Slot: -1, Stamp: -1, Data: long(999)}, api.ErrKind},

	{"txn 0 of add", Entry{Kind: Add}, api.ErrRange},
	{"txn 0 of end", Entry{Kind: End}, api.ErrRange},
	{"txn 0 of commit", Entry{Kind: Commit}, api.ErrRange},
	{"txn -1", Entry{Kind: Add, Txn: -1}, api.ErrRange},
	{"least txn", Entry{Kind: Commit, Txn: math.MinInt64}, api.ErrRange},
	{"page -1 of add", Entry{Kind: Add, Txn: 1, Page: -1}, api.ErrRange},
	{"page -1 of end", Entry{Kind: End, Txn: 1, Page: -1}, api.ErrRange},
	{"page 65536 of add", Entry{Kind: Add, Txn: 1, Page: 65536}, api.ErrRange},
	{"page 65536 of end", Entry{Kind: End, Txn: 1, Page: 65536}, api.ErrRange},
	{"greatest page", Entry{Kind: End, Txn: 1, Page: math.MaxInt}, api.ErrRange},
	{"slot -1 of add", Entry{Kind: Add, Txn: 1, Slot: -1}, api.ErrRange},
	{"slot -1 of end", Entry{Kind: End, Txn: 1, Slot: -1}, api.ErrRange},
	{"slot 256 of add", Entry{Kind: Add, Txn: 1, Slot: 256}, api.ErrRange},
	{"slot 256 of end", Entry{Kind: End, Txn: 1, Slot: 256}, api.ErrRange},
	{"least slot", Entry{Kind: Add, Txn: 1, Slot: math.MinInt}, api.ErrRange},
	{"stamp -1", Entry{Kind: Commit, Txn: 1, Stamp: -1}, api.ErrRange},
	{"least stamp", Entry{Kind: Commit, Txn: 1, Stamp: math.MinInt64}, api.ErrRange},
	{"stamp beyond the end of time", Entry{Kind: Commit, Txn: 1, Stamp: api.Forever + 1}, api.ErrRange},

	{"add with stamp", Entry{Kind: Add, Txn: 1, Stamp: 1}, api.ErrRange},
	{"end with stamp", Entry{Kind: End, Txn: 1, Stamp: 1}, api.ErrRange},
	{"end with data", Entry{Kind: End, Txn: 1, Data: []byte{0}}, api.ErrRange},
	{"end with long data", Entry{Kind: End, Txn: 1, Data: long(201)}, api.ErrRange},
	{"commit with page", Entry{Kind: Commit, Txn: 1, Page: 1}, api.ErrRange},
	{"commit with slot", Entry{Kind: Commit, Txn: 1, Slot: 1}, api.ErrRange},
	{"commit with data", Entry{Kind: Commit, Txn: 1, Data: []byte{0}}, api.ErrRange},
	{"commit with long data", Entry{Kind: Commit, Txn: 1, Data: long(201)}, api.ErrRange},

	{"long data", Entry{Kind: Add, Txn: 1, Data: long(api.MaxRecord + 1)}, api.ErrLong},
	{"long data, but a stamp", Entry{Kind: Add, Txn: 1, Stamp: 1, Data: long(201)}, api.ErrRange},
	{"long data, but no txn", Entry{Kind: Add, Data: long(201)}, api.ErrRange},
}

// P7.1, and P7.2: Encode refuses just what Check does.
func TestCheck(t *testing.T) {
	for _, c := range checked {
		if e := Check(c.entry); e != c.want {
			t.Errorf("Check of %s: %v, want %v", c.name, e, c.want)
		}
		b, e := Encode(c.entry)
		if e != c.want || (e == api.OK) != (b != nil) {
			t.Errorf("Encode of %s: %v, %v; want %v", c.name, b, e, c.want)
		}
		if e != api.OK {
			continue
		}
		if back, e := Decode(b); e != api.OK || !same(back, c.entry) {
			t.Errorf("Decode of %s: %v, %v", c.name, back, e)
		}
	}
}

var written = []struct {
	entry Entry
	bytes string
}{
	{Entry{Kind: Add, Txn: 1, Page: 2, Slot: 3, Data: []byte("x")}, "\x01\x00\x00\x00\x00\x00\x00\x00\x01\x00\x02\x03x"},
	{Entry{Kind: Add, Txn: 0x0102030405060708, Page: 0x090a, Slot: 0x0b}, "\x01\x01\x02\x03\x04\x05\x06\x07\x08\x09\x0a\x0b"},
	{Entry{Kind: End, Txn: math.MaxInt64, Page: 65535, Slot: 255}, "\x02\x7f\xff\xff\xff\xff\xff\xff\xff\xff\xff\xff"},
	{Entry{Kind: Commit, Txn: 258, Stamp: 0x0102030405}, "\x03\x00\x00\x00\x00\x00\x00\x01\x02\x00\x00\x00\x01\x02\x03\x04\x05"},
	{Entry{Kind: Commit, Txn: 9, Stamp: api.Forever}, "\x03\x00\x00\x00\x00\x00\x00\x00\x09\x00\x00\x01\x00\x00\x00\x00\x00"},
}

// P7.2
func TestBytes(t *testing.T) {
	for _, c := range written {
		if b, e := Encode(c.entry); e != api.OK || string(b) != c.bytes {
			t.Errorf("Encode of %v: %q, %v", c.entry, b, e)
		}
		if x, e := Decode([]byte(c.bytes)); e != api.OK || !same(x, c.entry) {
			t.Errorf("Decode of %q: %v, %v", c.bytes, x, e)
		}
	}
}

// P7.2: every beginning of an entry, and what is longer.
func TestDecodeOfOtherLengths(t *testing.T) {
	for _, c := range written {
		b := []byte(c.bytes)
		least := 12
		if c.entry.Kind == Commit {
			least = 17
		}
		for n := range least {
			if x, e := Decode(b[:n]); e != api.ErrShort || !same(x, Entry{}) {
				t.Errorf("Decode of %q: %v, %v", b[:n], x, e)
			}
		}
		x, e := Decode(append(slices.Clip(b[:least]), 0))
		if c.entry.Kind == Add {
			if e != api.OK || string(x.Data) != "\x00" {
				t.Errorf("Decode of a longer Add: %v, %v", x, e)
			}
		} else if e != api.ErrTrail || !same(x, Entry{}) {
			t.Errorf("Decode of a longer one: %v, %v", x, e)
		}
	}
}

// P7.2, rule 1.
func TestDecodeRefuses(t *testing.T) {
	txn := "\x00\x00\x00\x00\x00\x00\x00\x01"
	none := "\x00\x00\x00\x00\x00\x00\x00\x00"
	below := "\xff\xff\xff\xff\xff\xff\xff\xff"
	cases := []struct {
		name  string
		bytes string
		want  api.Errno
	}{
		{"nothing", "", api.ErrShort},
		{"kind 0", "\x00" + txn + "\x00\x00\x00", api.ErrKind},
		{"kind 0 alone", "\x00", api.ErrKind},
		{"kind 4", "\x04" + txn + none, api.ErrKind},
		{"kind 4 alone", "\x04", api.ErrKind},
		{"kind 255", "\xff" + txn + none + none, api.ErrKind},
		{"an end's length of commit", "\x03" + txn + "\x00\x00\x00", api.ErrShort},
		{"a commit's length of end", "\x02" + txn + none, api.ErrTrail},
		{"trail ahead of range", "\x02" + none + "\x00\x00\x00\x00", api.ErrTrail},
		{"trail of commit ahead of range", "\x03" + none + below + "\x00", api.ErrTrail},
		{"short ahead of range", "\x01" + none + "\x00\x00", api.ErrShort},
		{"add of txn 0", "\x01" + none + "\x00\x00\x00", api.ErrRange},
		{"end of txn 0", "\x02" + none + "\x00\x00\x00", api.ErrRange},
		{"commit of txn 0", "\x03" + none + none, api.ErrRange},
		{"add of txn -1", "\x01" + below + "\x00\x00\x00", api.ErrRange},
		{"add of the least txn", "\x01\x80\x00\x00\x00\x00\x00\x00\x00\x00\x00\x00", api.ErrRange},
		{"commit with stamp -1", "\x03" + txn + below, api.ErrRange},
		{"commit beyond the end of time", "\x03" + txn + "\x00\x00\x01\x00\x00\x00\x00\x01", api.ErrRange},
		{"add of long data", "\x01" + txn + "\x00\x00\x00" + string(long(201)), api.ErrLong},
		{"add of very long data", "\x01" + txn + "\x00\x00\x00" + string(long(100000)), api.ErrLong},
		{"add of long data and txn 0", "\x01" + none + "\x00\x00\x00" + string(long(201)), api.ErrRange},
	}
	for _, c := range cases {
		if x, e := Decode([]byte(c.bytes)); e != c.want || !reflect.DeepEqual(x, Entry{}) {
			t.Errorf("Decode of %s: %v, %v; want %v", c.name, x, e, c.want)
		}
	}
	if _, e := Decode(nil); e != api.ErrShort {
		t.Errorf("Decode of nil: %v", e)
	}
}

// P7.2: whatever can be read is written back byte by byte.
func TestDecodeIsTheOtherWay(t *testing.T) {
	x := dice(1)
	right := 0
	for range 20000 {
		b := x.bytes(x.below(30))
		if len(b) > 0 {
			b[0] = byte(x.below(5))
		}
		if len(b) > 10 && x.below(4) > 0 {
			clear(b[1:8])
		}
		if len(b) > 11 && x.below(2) > 0 {
			clear(b[9:12])
		}
		e, bad := Decode(b)
		if bad != api.OK {
			continue
		}
		right++
		if back, bad := Encode(e); bad != api.OK || !bytes.Equal(back, b) {
			t.Fatalf("Encode of %v: %v, %v; want %v", e, back, bad, b)
		}
	}
	if right < 500 {
		t.Errorf("only %d were entries", right)
	}
}

// P7.3
func TestAnalyse(t *testing.T) {
	cases := []struct {
		name    string
		entries []Entry
		marks   []int64
		want    Report
	}{
		{"nothing", nil, nil, Report{}},
		{"marks alone", nil, []int64{1, 2}, Report{}},
		{
			"the chapter's example",
			[]Entry{{Kind: Add, Txn: 1}, {Kind: Commit, Txn: 1, Stamp: 5}, {Kind: Add, Txn: 2}},
			[]int64{10, 20, 30},
			Report{Commits: []Stamped{{1, 5}}, Losers: []int64{2}, Pages: []Touched{{0, 10, 30}}, Last: 2},
		},
		{
			"commits in the order of entries",
			[]Entry{{Kind: Commit, Txn: 7, Stamp: 9}, {Kind: Commit, Txn: 3, Stamp: 4}, {Kind: Commit, Txn: 5}},
			[]int64{1, 2, 3},
			Report{Commits: []Stamped{{7, 9}, {3, 4}, {5, 0}}, Last: 7},
		},
		{
			"the first commit of each",
			[]Entry{{Kind: Commit, Txn: 1, Stamp: 5}, {Kind: Commit, Txn: 2, Stamp: 6}, {Kind: Commit, Txn: 1, Stamp: 7}, {Kind: Commit, Txn: 1, Stamp: 5}},
			nil,
			Report{Commits: []Stamped{{1, 5}, {2, 6}}, Last: 2},
		},
		{
			"a commit ahead of the others is one",
			[]Entry{{Kind: Commit, Txn: 1, Stamp: 5}, {Kind: Add, Txn: 1, Page: 4}, {Kind: End, Txn: 2, Page: 4}},
			[]int64{1, 2, 3},
			Report{Commits: []Stamped{{1, 5}}, Losers: []int64{2}, Pages: []Touched{{4, 2, 3}}, Last: 2},
		},
		{
			"losers rise, each once",
			[]Entry{{Kind: End, Txn: 9}, {Kind: Add, Txn: 3}, {Kind: End, Txn: 9}, {Kind: Add, Txn: 11}, {Kind: Add, Txn: 3}, {Kind: Commit, Txn: 11}},
			[]int64{5, 6, 7, 8, 9},
			Report{Commits: []Stamped{{11, 0}}, Losers: []int64{3, 9}, Pages: []Touched{{0, 5, 9}}, Last: 11},
		},
		{
			"pages rise, each once; a commit's page is none",
			[]Entry{{Kind: Add, Txn: 1, Page: 8}, {Kind: End, Txn: 1, Page: 2}, {Kind: Commit, Txn: 1, Page: 5}, {Kind: Add, Txn: 1, Page: 8}, {Kind: Add, Txn: 1, Page: 8}},
			[]int64{1, 2, 3, 4, 5},
			Report{Commits: []Stamped{{1, 0}}, Pages: []Touched{{2, 2, 2}, {8, 1, 5}}, Last: 1},
		},
		{
			"marks need not rise",
			[]Entry{{Kind: Add, Txn: 1}, {Kind: Add, Txn: 1}, {Kind: Add, Txn: 1}},
			[]int64{9, 99, -4},
			Report{Losers: []int64{1}, Pages: []Touched{{0, 9, -4}}, Last: 1},
		},
		{
			"too few marks",
			[]Entry{{Kind: Add, Txn: 1}, {Kind: Add, Txn: 1}, {Kind: Add, Txn: 1, Page: 1}},
			[]int64{9},
			Report{Losers: []int64{1}, Pages: []Touched{{0, 9, 0}, {1, 0, 0}}, Last: 1},
		},
		{
			"too many marks",
			[]Entry{{Kind: Add, Txn: 1}},
			[]int64{9, 10, 11},
			Report{Losers: []int64{1}, Pages: []Touched{{0, 9, 9}}, Last: 1},
		},
		{
			"a first mark of 0",
			[]Entry{{Kind: Add, Txn: 1}, {Kind: Add, Txn: 1}},
			[]int64{0, 4},
			Report{Losers: []int64{1}, Pages: []Touched{{0, 0, 4}}, Last: 1},
		},
		{
			"entries that are none",
			[]Entry{{}, {Kind: 77, Txn: -5, Page: -3}, {Kind: -1, Txn: math.MaxInt64, Page: math.MaxInt}, {Kind: Commit, Txn: -6, Stamp: -7}, {Kind: 4, Txn: math.MinInt64, Page: math.MinInt}},
			[]int64{1, 2, 3, 4, math.MinInt64},
			Report{
				Commits: []Stamped{{-6, -7}},
				Losers:  []int64{math.MinInt64, -5, 0, math.MaxInt64},
				Pages:   []Touched{{math.MinInt, math.MinInt64, math.MinInt64}, {-3, 2, 2}, {0, 1, 1}, {math.MaxInt, 3, 3}},
				Last:    math.MaxInt64,
			},
		},
		{
			"last is at least 0",
			[]Entry{{Kind: Add, Txn: -5}, {Kind: Commit, Txn: -3}},
			nil,
			Report{Commits: []Stamped{{-3, 0}}, Losers: []int64{-5}, Pages: []Touched{{0, 0, 0}}, Last: 0},
		},
	}
	for _, c := range cases {
		if got := Analyse(c.entries, c.marks); !sameReport(got, c.want) {
			t.Errorf("%s: %v, want %v", c.name, got, c.want)
		}
	}
}

// plainly is Analyse told another way: without maps, each question asked of all entries.
func plainly(entries []Entry, marks []int64) Report {
	var r Report
	for i, e := range entries {
		ofTxn := func(f Entry) bool { return f.Txn == e.Txn }
		commitOfTxn := func(f Entry) bool { return ofTxn(f) && f.Kind == Commit }
		ofPage := func(f Entry) bool { return f.Kind != Commit && f.Page == e.Page }
		if e.Kind == Commit && !slices.ContainsFunc(entries[:i], commitOfTxn) {
			r.Commits = append(r.Commits, Stamped{e.Txn, e.Stamp})
		}
		if !slices.ContainsFunc(entries, commitOfTxn) && !slices.ContainsFunc(entries[:i], ofTxn) {
			r.Losers = append(r.Losers, e.Txn)
		}
		if e.Kind != Commit && !slices.ContainsFunc(entries[:i], ofPage) {
			last := i
			for j := i; j < len(entries); j++ {
				if ofPage(entries[j]) {
					last = j
				}
			}
			all := append(slices.Clone(marks), make([]int64, len(entries))...)
			r.Pages = append(r.Pages, Touched{e.Page, all[i], all[last]})
		}
		r.Last = max(r.Last, e.Txn)
	}
	slices.Sort(r.Losers)
	sort.Slice(r.Pages, func(i, j int) bool { return r.Pages[i].Page < r.Pages[j].Page })
	return r
}

// P7.3 of many lists.
func TestAnalyseAgreesWithPlainOne(t *testing.T) {
	x := dice(2)
	for range 2000 {
		entries := make([]Entry, x.below(20))
		for i := range entries {
			entries[i] = Entry{Kind: x.below(5), Txn: int64(x.below(12) - 3), Page: x.below(6) - 1, Slot: x.below(3), Stamp: int64(x.below(9) - 2)}
		}
		marks := make([]int64, x.below(25))
		for i := range marks {
			marks[i] = int64(x.below(100) - 10)
		}
		want := plainly(entries, marks)
		for range 3 {
			if got := Analyse(entries, marks); !sameReport(got, want) {
				t.Fatalf("Analyse of %v, %v: %v, want %v", entries, marks, got, want)
			}
		}
	}
}

// P2, rule 4.
func TestNothingIsShared(t *testing.T) {
	room := []byte("abcdef")
	e := Entry{Kind: Add, Txn: 1, Page: 2, Slot: 3, Data: room[:3]}
	b, _ := Encode(e)
	c, _ := Encode(e)
	want := slices.Clone(c)
	clear(b[:cap(b)])
	clear(room[:3])
	if !bytes.Equal(c, want) || string(room) != "\x00\x00\x00def" {
		t.Error("Encode shares memory")
	}
	x, _ := Decode(c)
	y, _ := Decode(c)
	clear(x.Data[:cap(x.Data)])
	if !bytes.Equal(c, want) || string(y.Data) != "abc" {
		t.Error("two answers of Decode share memory, or one with the bytes")
	}
	clear(c)
	if string(y.Data) != "abc" {
		t.Error("Decode keeps the bytes")
	}
	entries := []Entry{{Kind: Add, Txn: 2}, {Kind: Commit, Txn: 1, Stamp: 4}, {Kind: Add, Txn: 3, Page: 1}}
	marks := []int64{7, 8, 9}
	r := Analyse(entries, marks)
	s := Analyse(entries, marks)
	clear(r.Commits[:cap(r.Commits)])
	clear(r.Losers[:cap(r.Losers)])
	clear(r.Pages[:cap(r.Pages)])
	if entries[1].Stamp != 4 || entries[2].Txn != 3 || !slices.Equal(marks, []int64{7, 8, 9}) {
		t.Error("Analyse changes what is handed in")
	}
	if !sameReport(s, Analyse(entries, marks)) || s.Last != 3 {
		t.Error("two answers of Analyse share memory")
	}
}
