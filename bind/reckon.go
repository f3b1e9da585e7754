package bind

import (
	"cmp"
	"math/bits"
	"strings"

	"annals/api"
)

func number(n int64) api.Value { return api.Value{Kind: api.Int, Int: n} }

func truth(so bool) api.Value {
	if so {
		return api.Value{Kind: Bool, Int: 1}
	}
	return api.Value{Kind: Bool}
}

func isTrue(v api.Value) bool { return v.Kind == Bool && v.Int == 1 }

// reckon is what a term comes to; it gives up where it comes to nothing.
func (t Term) reckon(row []api.Value) api.Value {
	switch t.op {
	case opNumber, opText:
		return t.value
	case opName:
		return t.cell(row)
	}
	var v [2]api.Value
	for i, a := range t.args {
		v[i] = a.reckon(row)
	}
	if t.op == "-" && len(t.args) == 1 {
		v[0], v[1] = number(0), v[0]
	}
	return applied(t.op, v[0], v[1])
}

// cell is the value of a name's column. Moved, a column may lie ahead of every row.
func (t Term) cell(row []api.Value) api.Value {
	if t.place < 0 || t.place >= len(row) || row[t.place].Kind != t.kind {
		giveUp(api.ErrColumn)
	}
	return row[t.place]
}

// applied is what an operator makes of its operands, of which NOT has the first alone.
func applied(op string, a, b api.Value) api.Value {
	switch op {
	case "OR":
		return truth(isTrue(a) || isTrue(b))
	case opAnd:
		return truth(isTrue(a) && isTrue(b))
	case "NOT":
		return truth(a.Int == 0)
	case "+":
		return number(sum(a.Int, b.Int))
	case "-":
		return number(difference(a.Int, b.Int))
	case "*":
		return number(product(a.Int, b.Int))
	}
	return truth(stands(op, compare(a, b)))
}

// compare holds two values of one kind against each other.
func compare(a, b api.Value) int {
	return cmp.Or(cmp.Compare(a.Int, b.Int), strings.Compare(a.Text, b.Text))
}

// stands: is a comparison true of values that stand in this order?
func stands(op string, order int) bool {
	switch op {
	case "=":
		return order == 0
	case "<>":
		return order != 0
	case "<=":
		return order <= 0
	case ">=":
		return order >= 0
	case "<":
		return order < 0
	}
	return order > 0
}

func sum(a, b int64) int64 {
	n := a + b
	// What went round has another sign than both.
	return fitting(n, (a^n)&(b^n) >= 0)
}

func difference(a, b int64) int64 {
	n := a - b
	return fitting(n, (a^b)&(a^n) >= 0)
}

func product(a, b int64) int64 {
	high, low := bits.Mul64(uint64(a), uint64(b))
	// Mul64 takes a number below 0 for one that is 2^64 greater.
	high -= uint64(a>>63)&uint64(b) + uint64(b>>63)&uint64(a)
	n := int64(low)
	return fitting(n, high == uint64(n>>63))
}

// fitting is a number, if it is the exact one.
func fitting(n int64, exact bool) int64 {
	if !exact {
		giveUp(api.ErrOverflow)
	}
	return n
}
