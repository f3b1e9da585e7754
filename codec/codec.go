// Package codec writes values as bytes that keep their order, numbers as bytes, and sums bytes up.
package codec

import (
	"cmp"
	"slices"
	"strings"

	"annals/api"
)

const (
	// polynomial is that of Ethernet and of ZIP files, its bits turned about.
	polynomial = 0xedb88320
	// middle lifts every Int above 0, so that those below 0 stand ahead in bytes too.
	middle = 1 << 63
	// wordSize is how many bytes a number has.
	wordSize = 8
	// escape stands behind a byte 0 within a Text; a second 0 there ends the Text.
	escape = 255
)

// Sum: the cyclic sum of all the parts, one behind the other.
func Sum(parts ...[]byte) uint32 {
	sum := ^uint32(0)
	for _, part := range parts {
		for _, b := range part {
			sum = stir(sum ^ uint32(b))
		}
	}
	return ^sum
}

func stir(sum uint32) uint32 {
	for range 8 {
		odd := sum&1 == 1
		sum >>= 1
		if odd {
			sum ^= polynomial
		}
	}
	return sum
}

// Put: a list with a number's lowest bytes behind it, the highest of them first.
func Put(list []byte, n uint64, size int) []byte {
	size = min(max(size, 0), wordSize)
	out := make([]byte, 0, len(list)+size)
	return push(append(out, list...), n, size)
}

// push is Put on a list of this package's own, which it may grow in place.
func push(list []byte, n uint64, size int) []byte {
	for i := size - 1; i >= 0; i-- {
		list = append(list, byte(n>>(8*i)))
	}
	return list
}

// Get: the number of some bytes, the highest first; of more than eight, of the last eight.
func Get(b []byte) uint64 {
	n := uint64(0)
	for _, x := range b {
		n = n<<8 | uint64(x)
	}
	return n
}

// Check: is each value one?
func Check(values ...api.Value) (e api.Errno) {
	defer func() { e = told(recover()).Code }()
	for _, v := range values {
		must(v)
	}
	return api.OK
}

// Encode: the bytes of values.
func Encode(values ...api.Value) (list []byte, e api.Errno) {
	defer func() { e = told(recover()).Code }()
	var out []byte
	for _, v := range values {
		must(v)
		out = pushValue(out, v)
	}
	return out, api.OK
}

// Decode: the values of bytes.
func Decode(b []byte) (values []api.Value, f api.Fault) {
	defer func() { f = told(recover()) }()
	var out []api.Value
	r := reader{bytes: b}
	for r.at < len(b) {
		out = append(out, r.value())
	}
	return out, api.Fault{}
}

// Compare: -1, 0 or 1, as a stands ahead of b, is it, or stands behind it.
func Compare(a, b []api.Value) int {
	return slices.CompareFunc(a, b, compareValues)
}

func compareValues(a, b api.Value) int {
	return cmp.Or(cmp.Compare(a.Kind, b.Kind), cmp.Compare(a.Int, b.Int), strings.Compare(a.Text, b.Text))
}

// must gives up at what is no value.
func must(v api.Value) {
	switch {
	case v.Kind == api.Int && v.Text == "":
	case v.Kind == api.Text && v.Int == 0:
		mustFit(len(v.Text), 0)
	default:
		giveUp(api.ErrKind, 0)
	}
}

// mustFit gives up at a Text of too many bytes.
func mustFit(size, at int) {
	if size > api.MaxText {
		giveUp(api.ErrLong, at)
	}
}

func pushValue(list []byte, v api.Value) []byte {
	list = append(list, byte(v.Kind))
	if v.Kind == api.Int {
		return push(list, uint64(v.Int)+middle, wordSize)
	}
	for i := range len(v.Text) {
		list = append(list, v.Text[i])
		if v.Text[i] == 0 {
			list = append(list, escape)
		}
	}
	return append(list, 0, 0)
}
