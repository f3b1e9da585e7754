package codec

import (
	"bytes"
	"hash/crc32"
	"math"
	"slices"
	"strings"
	"testing"

	"annals/api"
)

func number(n int64) api.Value { return api.Value{Kind: api.Int, Int: n} }

func text(s string) api.Value { return api.Value{Kind: api.Text, Text: s} }

// dice answers numbers that look thrown, the same ones each time.
type dice uint64

func (x *dice) below(n int) int {
	*x = *x*6364136223846793005 + 1442695040888963407
	return int(uint64(*x) >> 33 % uint64(n))
}

// P2.1
func TestSum(t *testing.T) {
	cases := []struct {
		parts []string
		want  uint32
	}{
		{nil, 0},
		{[]string{""}, 0},
		{[]string{"", "", ""}, 0},
		{[]string{"123456789"}, 0xcbf43926},
		{[]string{"1234", "56789"}, 0xcbf43926},
		{[]string{"", "1", "", "23456789", ""}, 0xcbf43926},
		{[]string{"a"}, 0xe8b7be43},
		{[]string{"\x00"}, 0xd202ef8d},
		{[]string{"\xff"}, 0xff000000},
		{[]string{"\x00\x00\x00\x00"}, 0x2144df1c},
		{[]string{"\xff\xff\xff\xff"}, 0xffffffff},
	}
	for _, c := range cases {
		var parts [][]byte
		for _, p := range c.parts {
			parts = append(parts, []byte(p))
		}
		if sum := Sum(parts...); sum != c.want {
			t.Errorf("Sum(%q): %x, want %x", c.parts, sum, c.want)
		}
	}
	if Sum(nil, []byte("123456789"), nil) != 0xcbf43926 {
		t.Error("Sum with nil among its parts")
	}
}

// P2.1, wherever the bytes are cut into parts.
func TestSumAgreesWithTheLibrary(t *testing.T) {
	x := dice(1)
	for size := range 300 {
		b := make([]byte, size)
		for i := range b {
			b[i] = byte(x.below(256))
		}
		cut := x.below(size + 1)
		again := x.below(cut + 1)
		want := crc32.ChecksumIEEE(b)
		if Sum(b) != want || Sum(b[:again], b[again:cut], b[cut:]) != want {
			t.Fatalf("Sum(%v): %x, want %x", b, Sum(b), want)
		}
	}
}

// P2.2
func TestPut(t *testing.T) {
	const n = 0x0102030405060708
	cases := []struct {
		list string
		n    uint64
		size int
		want string
	}{
		{"", n, 1, "\x08"},
		{"", n, 2, "\x07\x08"},
		{"", n, 3, "\x06\x07\x08"},
		{"", n, 7, "\x02\x03\x04\x05\x06\x07\x08"},
		{"", n, 8, "\x01\x02\x03\x04\x05\x06\x07\x08"},
		{"x", n, 9, "x\x01\x02\x03\x04\x05\x06\x07\x08"},
		{"x", n, math.MaxInt, "x\x01\x02\x03\x04\x05\x06\x07\x08"},
		{"xy", n, 0, "xy"},
		{"xy", n, -1, "xy"},
		{"xy", n, math.MinInt, "xy"},
		{"", n, 0, ""},
		{"x", 258, 2, "x\x01\x02"},
		{"x", 258, 1, "x\x02"},
		{"x", 0, 4, "x\x00\x00\x00\x00"},
		{"x", math.MaxUint64, 3, "x\xff\xff\xff"},
		{"x", math.MaxUint64, 8, "x\xff\xff\xff\xff\xff\xff\xff\xff"},
		{"x", 1 << 63, 8, "x\x80\x00\x00\x00\x00\x00\x00\x00"},
	}
	for _, c := range cases {
		if b := Put([]byte(c.list), c.n, c.size); string(b) != c.want {
			t.Errorf("Put(%q, %x, %d): %q, want %q", c.list, c.n, c.size, b, c.want)
		}
	}
	if string(Put(nil, 7, 1)) != "\x07" || len(Put(nil, 7, 0)) != 0 {
		t.Error("Put behind nil")
	}
}

// P2.2 and P2, rule 4: the list is in new memory, with spare room or without, whatever the size.
func TestPutSharesNothing(t *testing.T) {
	for _, size := range []int{-1, 0, 1, 8, 9} {
		room := []byte("abcdefghijklmnop")
		list := room[:3]
		a := Put(list, math.MaxUint64, size)
		if string(room) != "abcdefghijklmnop" {
			t.Errorf("size %d: what was handed in is changed: %q", size, room)
		}
		b := Put(list, math.MaxUint64, size)
		clear(a[:cap(a)])
		if string(room) != "abcdefghijklmnop" || string(b[:3]) != "abc" {
			t.Errorf("size %d: the answer shares memory: %q, %q", size, room, b)
		}
		clear(room)
		if string(b[:3]) != "abc" {
			t.Errorf("size %d: the answer shares memory with the list", size)
		}
	}
}

// P2.2
func TestGet(t *testing.T) {
	cases := []struct {
		b    string
		want uint64
	}{
		{"", 0},
		{"\x00", 0},
		{"\xff", 255},
		{"\x01\x02", 258},
		{"\x00\x00\x01\x02", 258},
		{"\xff\xff\xff\xff\xff\xff\xff\xff", math.MaxUint64},
		{"\x01\x02\x03\x04\x05\x06\x07\x08", 0x0102030405060708},
		{"\x01\x02\x03\x04\x05\x06\x07\x08\x09", 0x0203040506070809},
		{"\x01\x00\x00\x00\x00\x00\x00\x00\x00", 0},
		{strings.Repeat("\xff", 100) + "\x00\x00\x00\x00\x00\x00\x00\x07", 7},
	}
	for _, c := range cases {
		if n := Get([]byte(c.b)); n != c.want {
			t.Errorf("Get(%q): %x, want %x", c.b, n, c.want)
		}
	}
	if Get(nil) != 0 {
		t.Error("Get of nil")
	}
}

// wrong is what is no value, with what Check says of it.
func wrong() map[api.Errno][]api.Value {
	long := strings.Repeat("a", api.MaxText+1)
	return map[api.Errno][]api.Value{
		api.ErrLong: {
			text(long),
			text(strings.Repeat("\x00", 1000)),
		},
		api.ErrKind: {
			{},
			{Kind: 3},
			{Kind: -1},
			{Kind: 257, Int: 1},
			{Kind: 258, Text: "a"},
			{Kind: math.MinInt},
			{Kind: math.MaxInt, Int: 1, Text: "a"},
			{Text: "a"},
			{Kind: 3, Text: long},
			{Kind: api.Int, Text: "a"},
			{Kind: api.Int, Int: 1, Text: "a"},
			{Kind: api.Int, Text: long},
			{Kind: api.Text, Int: 1},
			{Kind: api.Text, Int: -1, Text: "a"},
			{Kind: api.Text, Int: 1, Text: long},
		},
	}
}

func right() []api.Value {
	return []api.Value{
		number(0), number(1), number(-1), number(math.MinInt64), number(math.MaxInt64),
		text(""), text("a"), text("\x00"), text("\xff\xfe"),
		text(strings.Repeat("a", api.MaxText)), text(strings.Repeat("\x00", api.MaxText)),
	}
}

// P2.3
func TestCheck(t *testing.T) {
	if Check() != api.OK || Check(right()...) != api.OK {
		t.Error("values are refused")
	}
	for want, values := range wrong() {
		for _, v := range values {
			for _, list := range [][]api.Value{{v}, {number(1), text("a"), v}, {v, number(1)}} {
				if e := Check(list...); e != want {
					t.Errorf("Check(%v): %v, want %v", list, e, want)
				}
				if b, e := Encode(list...); e != want || b != nil {
					t.Errorf("Encode(%v): %v, %v, want %v", list, b, e, want)
				}
			}
		}
	}
}

// P2.3: of several that are none, the first is told.
func TestCheckTellsTheFirst(t *testing.T) {
	long, kind := text(strings.Repeat("a", api.MaxText+1)), api.Value{Kind: 7}
	cases := []struct {
		list []api.Value
		want api.Errno
	}{
		{[]api.Value{long, kind}, api.ErrLong},
		{[]api.Value{kind, long}, api.ErrKind},
		{[]api.Value{number(1), kind, long}, api.ErrKind},
		{[]api.Value{number(1), long, kind}, api.ErrLong},
	}
	for _, c := range cases {
		if e := Check(c.list...); e != c.want {
			t.Errorf("Check(%v): %v, want %v", c.list, e, c.want)
		}
		if b, e := Encode(c.list...); e != c.want || b != nil {
			t.Errorf("Encode(%v): %v, %v, want %v", c.list, b, e, c.want)
		}
	}
}

// P2.3
func TestEncode(t *testing.T) {
	noughts := strings.Repeat("\x00", api.MaxText)
	cases := []struct {
		values []api.Value
		want   string
	}{
		{nil, ""},
		{[]api.Value{number(-1)}, "\x01\x7f\xff\xff\xff\xff\xff\xff\xff"},
		{[]api.Value{number(0)}, "\x01\x80\x00\x00\x00\x00\x00\x00\x00"},
		{[]api.Value{number(258)}, "\x01\x80\x00\x00\x00\x00\x00\x01\x02"},
		{[]api.Value{number(math.MinInt64)}, "\x01\x00\x00\x00\x00\x00\x00\x00\x00"},
		{[]api.Value{number(math.MaxInt64)}, "\x01\xff\xff\xff\xff\xff\xff\xff\xff"},
		{[]api.Value{text("")}, "\x02\x00\x00"},
		{[]api.Value{text("a")}, "\x02a\x00\x00"},
		{[]api.Value{text("\x00")}, "\x02\x00\xff\x00\x00"},
		{[]api.Value{text("a\x00\x00b")}, "\x02a\x00\xff\x00\xffb\x00\x00"},
		{[]api.Value{text("\xff\x00\xff")}, "\x02\xff\x00\xff\xff\x00\x00"},
		{[]api.Value{text("\xc3\xa4\xff")}, "\x02\xc3\xa4\xff\x00\x00"},
		{[]api.Value{text(noughts)}, "\x02" + strings.Repeat("\x00\xff", api.MaxText) + "\x00\x00"},
		{[]api.Value{number(-1), text("a\x00")}, "\x01\x7f\xff\xff\xff\xff\xff\xff\xff\x02a\x00\xff\x00\x00"},
		{[]api.Value{text(""), text(""), number(0)}, "\x02\x00\x00\x02\x00\x00\x01\x80\x00\x00\x00\x00\x00\x00\x00"},
	}
	for _, c := range cases {
		b, e := Encode(c.values...)
		if e != api.OK || string(b) != c.want {
			t.Errorf("Encode(%v): %q, %v, want %q", c.values, b, e, c.want)
		}
		l, f := Decode([]byte(c.want))
		if f != (api.Fault{}) || !slices.Equal(l, c.values) {
			t.Errorf("Decode(%q): %v, %v, want %v", c.want, l, f, c.values)
		}
	}
}

// P2.4
func TestDecodeFaults(t *testing.T) {
	a64, a65 := strings.Repeat("a", api.MaxText), strings.Repeat("a", api.MaxText+1)
	n65 := strings.Repeat("\x00\xff", api.MaxText+1)
	first := "\x02b\x00\x00"
	cases := []struct {
		b    string
		code api.Errno
		at   int
	}{
		{"\x00", api.ErrKind, 0},
		{"\x03", api.ErrKind, 0},
		{"\xff\x01", api.ErrKind, 0},
		{first + "\x00", api.ErrKind, 4},
		{first + "\x03\x00\x00", api.ErrKind, 4},
		{"\x01\x80\x00\x00\x00\x00\x00\x00\x00\x00", api.ErrKind, 9},
		{"\x02\x00\x01", api.ErrByte, 2},
		{"\x02\x00\xfe\x00\x00", api.ErrByte, 2},
		{"\x02a\x00a", api.ErrByte, 3},
		{"\x02\x00\xff\x00\x02\x00\x00", api.ErrByte, 4},
		{first + "\x02\x00\x01", api.ErrByte, 6},
		{"\x02" + a65 + "\x00\x01", api.ErrByte, 67},
		{"\x02" + n65 + "\x00\x01", api.ErrByte, 132},
		{"\x02" + a65 + "\x00\x00", api.ErrLong, 0},
		{"\x02" + n65 + "\x00\x00", api.ErrLong, 0},
		{"\x02" + a64 + "\x00\xff\x00\x00", api.ErrLong, 0},
		{first + "\x02" + a65 + "\x00\x00", api.ErrLong, 4},
		{"\x02" + a65 + "\x00\x00\x07", api.ErrLong, 0},
		{"\x02" + a65 + "\x00\x00\x02" + a65, api.ErrLong, 0},
		{"\x01", api.ErrShort, 1},
		{"\x01\x80\x00\x00", api.ErrShort, 4},
		{"\x01\x80\x00\x00\x00\x00\x00\x00", api.ErrShort, 8},
		{"\x02", api.ErrShort, 1},
		{"\x02a", api.ErrShort, 2},
		{"\x02\x00", api.ErrShort, 2},
		{"\x02\x00\xff", api.ErrShort, 3},
		{first + "\x01", api.ErrShort, 5},
		{first + "\x02", api.ErrShort, 5},
		{"\x02" + a64, api.ErrShort, 65},
		{"\x02" + a65, api.ErrShort, 66},
		{"\x02" + a65 + "\x00", api.ErrShort, 67},
		{"\x02" + strings.Repeat("a", 5000), api.ErrShort, 5001},
	}
	for _, c := range cases {
		l, f := Decode([]byte(c.b))
		if f != (api.Fault{Code: c.code, At: c.at}) || l != nil {
			t.Errorf("Decode(%q): %v, %v, want %v at %d", c.b, l, f, c.code, c.at)
		}
	}
	for _, b := range [][]byte{nil, {}} {
		if l, f := Decode(b); f != (api.Fault{}) || len(l) != 0 {
			t.Errorf("Decode of nothing: %v, %v", l, f)
		}
	}
}

// P2.4 on all short lists of the bytes that matter: a fault stands at the first byte behind which nothing could be right any more.
func TestDecodeOfAllShortBytes(t *testing.T) {
	var grow func(b []byte, possible bool)
	grow = func(b []byte, possible bool) {
		l, f := Decode(b)
		switch f.Code {
		case api.OK:
			back, e := Encode(l...)
			if f.At != 0 || e != api.OK || !bytes.Equal(back, b) || !possible {
				t.Fatalf("Decode(%q): %v, %v; its Encode is %q", b, l, f, back)
			}
		case api.ErrShort:
			if f.At != len(b) || !possible {
				t.Fatalf("Decode(%q): %v", b, f)
			}
		default:
			if possible && f.At != len(b)-1 || !possible && f.At >= len(b)-1 {
				t.Fatalf("Decode(%q): %v", b, f)
			}
			possible = false
		}
		if len(b) == 7 {
			return
		}
		for _, next := range []byte{0, 1, 2, 'a', 255} {
			grow(append(slices.Clone(b), next), possible)
		}
	}
	grow(nil, true)
}

// P2.3 and P2.4 beside each other, on thrown lists of values, whole and cut anywhere.
func TestDecodeOfEncode(t *testing.T) {
	x := dice(2)
	for range 500 {
		list := thrown(&x)
		b, e := Encode(list...)
		if e != api.OK {
			t.Fatalf("Encode(%v): %v", list, e)
		}
		if l, f := Decode(b); f != (api.Fault{}) || !slices.Equal(l, list) {
			t.Fatalf("Decode(%q): %v, %v, want %v", b, l, f, list)
		}
		whole := 0
		for cut := range b {
			l, f := Decode(b[:cut])
			if f.Code == api.OK && slices.Equal(l, list[:whole]) {
				whole++
			} else if f != (api.Fault{Code: api.ErrShort, At: cut}) || l != nil {
				t.Fatalf("Decode(%q): %v, %v", b[:cut], l, f)
			}
		}
		if whole != len(list) {
			t.Fatalf("Decode of the beginnings of %q: %d are whole", b, whole)
		}
	}
}

func thrown(x *dice) []api.Value {
	list := make([]api.Value, x.below(4))
	for i := range list {
		if x.below(2) == 0 {
			list[i] = number(int64(x.below(5)-2) << x.below(63))
			continue
		}
		b := make([]byte, x.below(4))
		for j := range b {
			b[j] = "\x00\x01a\xff"[x.below(4)]
		}
		list[i] = text(string(b))
	}
	return list
}

// P2.5
func TestCompare(t *testing.T) {
	rising := [][]api.Value{
		{},
		{{Kind: math.MinInt, Int: 9, Text: "z"}},
		{{Kind: -1}},
		{{}},
		{{}, {}},
		{{Text: "a"}},
		{{Int: 1}},
		{number(math.MinInt64)},
		{number(-1)},
		{number(-1), number(5)},
		{number(0)},
		{number(0), number(0)},
		{number(0), text("")},
		{{Kind: api.Int, Text: "a"}},
		{{Kind: api.Int, Text: "a"}, number(0)},
		{number(1)},
		{number(1), number(1), number(1)},
		{number(1), number(2)},
		{number(math.MaxInt64)},
		{{Kind: api.Text, Int: -1, Text: "z"}},
		{text("")},
		{text(""), text("z")},
		{text("\x00")},
		{text("\x00\x00")},
		{text("B")},
		{text("a")},
		{text("a"), number(7)},
		{text("a\x00")},
		{text("aa")},
		{text("b")},
		{text("\x7f")},
		{text("\x80")},
		{text("\xff")},
		{text(strings.Repeat("\xff", api.MaxText+9))},
		{{Kind: api.Text, Int: 1}},
		{{Kind: 3}},
		{{Kind: math.MaxInt}},
	}
	for i, a := range rising {
		for j, b := range rising {
			want := 0
			if i < j {
				want = -1
			} else if i > j {
				want = 1
			}
			if got := Compare(a, b); got != want {
				t.Errorf("Compare(%v, %v): %d, want %d", a, b, got, want)
			}
		}
	}
	if Compare(nil, []api.Value{}) != 0 || Compare(nil, []api.Value{{}}) != -1 || Compare([]api.Value{{}}, nil) != 1 {
		t.Error("Compare of nil")
	}
}

// The bytes keep the values' order.
func TestEncodeKeepsOrder(t *testing.T) {
	x := dice(3)
	for range 20000 {
		a, b := thrown(&x), thrown(&x)
		m, _ := Encode(a...)
		n, _ := Encode(b...)
		if bytes.Compare(m, n) != Compare(a, b) {
			t.Fatalf("%v and %v stand otherwise as bytes", a, b)
		}
	}
}

// P2, rule 4.
func TestNothingIsShared(t *testing.T) {
	values := []api.Value{number(3), text("a\x00b"), text("c")}
	kept := slices.Clone(values)
	a, _ := Encode(values[:2]...)
	b, _ := Encode(values[:2]...)
	room := append(slices.Clone(a), "spare"...)
	clear(a[:cap(a)])
	if !bytes.Equal(b, room[:len(b)]) {
		t.Error("two answers of Encode share memory")
	}
	Check(values[:2]...)
	Compare(values[:2], values)
	l, _ := Decode(room[:len(b)])
	m, _ := Decode(room[:len(b)])
	Sum(room[:2], room[2:4])
	Get(room[:4])
	if string(room) != string(b)+"spare" {
		t.Error("bytes that were handed in are changed")
	}
	clear(room)
	clear(m[:cap(m)])
	if !slices.Equal(l, kept[:2]) {
		t.Errorf("Decode's answer shares memory: %v", l)
	}
	if !slices.Equal(values, kept) {
		t.Error("values that were handed in are changed")
	}
}

// A panic that isn't this package's way of giving up is not taken for an answer.
func TestToldLetsOtherPanicsGoOn(t *testing.T) {
	for _, other := range []any{"a text", api.Fault{Code: api.ErrShort}, api.ErrKind} {
		func() {
			defer func() {
				if recover() != other {
					t.Errorf("%v was taken for a refusal", other)
				}
			}()
			told(other)
		}()
	}
	if told(nil) != (api.Fault{}) || told(refusal{api.Fault{Code: 1, At: 2}}) != (api.Fault{Code: 1, At: 2}) {
		t.Error("told")
	}
}
