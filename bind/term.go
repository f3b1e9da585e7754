package bind

import (
	"slices"

	"annals/api"
)

// The words of expressions that aren't operators, and the operator that has parts.
const (
	opNumber = "number"
	opText   = "text"
	opName   = "name"
	opAnd    = "AND"
)

// Term is an expression with columns for names, and kinds. It is never changed, so that terms may share their operands.
type Term struct {
	op    string
	kind  int
	value api.Value // of a number or a text
	place int       // of a name's column
	args  []Term    // as many as the operator takes
}

// bound is the term of an expression; it gives up where there is none.
func bound(e api.Expr, scope []Column) Term {
	switch e.Op {
	case opNumber:
		return literal(e.Op, number(e.Int))
	case opText:
		if len(e.Text) > api.MaxText {
			giveUp(api.ErrLong)
		}
		return literal(e.Op, api.Value{Kind: api.Text, Text: e.Text})
	case opName:
		place, no := Find(scope, e.Of, e.Text)
		if no != api.OK {
			giveUp(no)
		}
		return Term{op: e.Op, kind: scope[place].Kind, place: place}
	}
	var args []Term
	var kinds []int
	for _, arg := range e.Args {
		t := bound(arg, scope)
		args, kinds = append(args, t), append(kinds, t.kind)
	}
	return Term{op: e.Op, kind: result(e.Op, kinds), args: args}
}

func literal(op string, v api.Value) Term { return Term{op: op, kind: v.Kind, value: v} }

// result is the kind of what an operator makes of operands of some kinds; it gives up where it makes nothing of them.
func result(op string, kinds []int) int {
	switch op {
	case "OR", opAnd:
		return given(Bool, are(kinds, Bool, Bool))
	case "NOT":
		return given(Bool, are(kinds, Bool))
	case "=", "<>", "<=", ">=", "<", ">":
		return given(Bool, are(kinds, api.Int, api.Int) || are(kinds, api.Text, api.Text))
	case "+", "*":
		return given(api.Int, are(kinds, api.Int, api.Int))
	case "-":
		return given(api.Int, are(kinds, api.Int) || are(kinds, api.Int, api.Int))
	}
	return given(0, false)
}

func are(kinds []int, these ...int) bool { return slices.Equal(kinds, these) }

// given is a kind, if the operands fit.
func given(kind int, fit bool) int {
	if !fit {
		giveUp(api.ErrType)
	}
	return kind
}

// parts is a list with the term's parts behind it.
func (t Term) parts(list []Term) []Term {
	if t.op != opAnd {
		return append(list, t)
	}
	return t.args[1].parts(t.args[0].parts(list))
}

// places is a list with those of the term's columns behind it, in no order.
func (t Term) places(list []int) []int {
	if t.op == opName {
		list = append(list, t.place)
	}
	for _, a := range t.args {
		list = a.places(list)
	}
	return list
}
