package parse

import (
	"annals/api"
	"annals/lex"
)

func (r *reader) expr() api.Expr { return r.chain(r.conjunction, "OR") }

func (r *reader) conjunction() api.Expr { return r.chain(r.negation, "AND") }

func (r *reader) negation() api.Expr {
	if r.may("NOT") == "" {
		return r.comparison()
	}
	return api.Expr{Op: "NOT", Args: []api.Expr{r.deeper(r.negation)}}
}

// comparison is no chain: of two in a row the second would compare what is true or false.
func (r *reader) comparison() api.Expr {
	left := r.sum()
	op := r.may("=", "<>", "<=", ">=", "<", ">")
	if op == "" {
		return left
	}
	return api.Expr{Op: op, Args: []api.Expr{left, r.sum()}}
}

func (r *reader) sum() api.Expr { return r.chain(r.product, "+", "-") }

func (r *reader) product() api.Expr { return r.chain(r.operand, "*") }

// chain is operands with operators between that bind alike, the first one first.
func (r *reader) chain(operand func() api.Expr, ops ...string) api.Expr {
	left := operand()
	for op := r.may(ops...); op != ""; op = r.may(ops...) {
		left = api.Expr{Op: op, Args: []api.Expr{left, operand()}}
	}
	return left
}

// operand is one of the smallest.
func (r *reader) operand() api.Expr {
	switch r.tokens[0].Kind {
	case lex.Number:
		return api.Expr{Op: "number", Int: r.number()}
	case lex.Quoted:
		return api.Expr{Op: "text", Text: r.take(lex.Quoted).Text}
	}
	switch r.may("-", "(") {
	case "-":
		return api.Expr{Op: "-", Args: []api.Expr{r.deeper(r.operand)}}
	case "(":
		inner := r.deeper(r.expr)
		r.must(")")
		return inner
	}
	return r.item()
}

func (r *reader) item() api.Expr {
	name := r.name()
	if r.may(".") == "" {
		return api.Expr{Op: "name", Text: name}
	}
	return api.Expr{Op: "name", Of: name, Text: r.name()}
}

// deeper reads what stands behind a token that takes it one deeper.
func (r *reader) deeper(read func() api.Expr) api.Expr {
	r.depth++
	if r.depth > api.MaxDepth {
		r.refuse(api.ErrDeep)
	}
	inner := read()
	r.depth--
	return inner
}
