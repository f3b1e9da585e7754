package parse

import (
	"strconv"
	"strings"

	"annals/api"
	"annals/lex"
)

// How strongly expressions hold together, from the weakest on.
const (
	either = iota
	both
	negated
	compared
	added
	multiplied
	smallest
)

func strength(e api.Expr) int {
	switch e.Op {
	case "OR":
		return either
	case "AND":
		return both
	case "NOT":
		return negated
	case "=", "<>", "<=", ">=", "<", ">":
		return compared
	case "+":
		return added
	case "-":
		if len(e.Args) > 1 {
			return added
		}
	case "*":
		return multiplied
	}
	return smallest
}

// writer is a text that grows. It takes trees of any shape: what can't be read again is written somehow.
type writer struct {
	strings.Builder
}

func (w *writer) write(texts ...string) {
	for _, text := range texts {
		w.WriteString(text)
	}
}

func (w *writer) number(n int64) { w.write(strconv.FormatInt(n, 10)) }

func (w *writer) name(name string) { w.write(name) }

func (w *writer) expr(e api.Expr) {
	switch {
	case e.Op == "number":
		w.number(e.Int)
	case e.Op == "text":
		w.write(lex.Quote(e.Text))
	case e.Op == "name":
		w.item(e)
	case len(e.Args) == 1:
		w.prefixed(e)
	case len(e.Args) == 2:
		w.pair(e)
	default:
		w.write(e.Op)
	}
}

func (w *writer) item(e api.Expr) {
	if e.Of != "" {
		w.write(e.Of, ".")
	}
	w.write(e.Text)
}

func (w *writer) prefixed(e api.Expr) {
	w.write(e.Op)
	if e.Op == "NOT" {
		w.write(" ")
	}
	w.operand(e.Args[0], strength(e))
}

func (w *writer) pair(e api.Expr) {
	own := strength(e)
	left := own
	if own == compared {
		left++
	}
	w.operand(e.Args[0], left)
	w.write(" ", e.Op, " ")
	// Of like ones the first binds first: one on the right would be read otherwise.
	w.operand(e.Args[1], own+1)
}

// operand is in brackets if it holds together less than it must.
func (w *writer) operand(e api.Expr, least int) {
	if strength(e) >= least {
		w.expr(e)
		return
	}
	w.write("(")
	w.expr(e)
	w.write(")")
}

func (w *writer) period(p api.Period) {
	w.number(p.From)
	w.write(" TO ")
	if p.To == api.Forever {
		w.write("FOREVER")
	} else {
		w.number(p.To)
	}
}

// tell writes things with commas between.
func tell[T any](w *writer, things []T, one func(T)) {
	for i, thing := range things {
		if i > 0 {
			w.write(", ")
		}
		one(thing)
	}
}

// enclose writes things in brackets, with commas between.
func enclose[T any](w *writer, things []T, one func(T)) {
	w.write(" (")
	tell(w, things, one)
	w.write(")")
}
