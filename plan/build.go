package plan

import (
	"annals/api"
	"annals/bind"
	"annals/exec"
)

// nobodys owns the terms that name no columns, or not those of one source alone.
const nobodys = -1

// owner is the source whose columns a term names, and no others.
func owner(q Query, t bind.Term) int {
	places := bind.Columns(t)
	if len(places) == 0 {
		return nobodys
	}
	first, last := places[0], places[len(places)-1]
	begin := 0
	for i, s := range q.Sources {
		if end := begin + s.Columns; begin <= first && last < end {
			return i
		}
		begin += s.Columns
	}
	return nobodys
}

// of is the terms of one owner.
func of(q Query, source int) []bind.Term {
	var out []bind.Term
	for _, t := range q.Terms {
		if owner(q, t) == source {
			out = append(out, t)
		}
	}
	return out
}

// own is the terms on a source alone, as they are for its own rows.
func own(q Query, source int) []bind.Term {
	ahead := 0
	for i := range source {
		ahead += q.Sources[i].Columns
	}
	var out []bind.Term
	for _, t := range of(q, source) {
		out = append(out, bind.Move(t, -ahead))
	}
	return out
}

// late is the terms that are left for the rows of all sources.
func late(q Query, p Plan) []bind.Term {
	if p.Push {
		return of(q, nobodys)
	}
	return q.Terms
}

// input is what a source tells for joining.
func input(q Query, p Plan, source int) exec.Op {
	op := exec.Scan(q.Sources[source].Facts)
	if p.Push {
		op = exec.Filter(op, own(q, source)...)
	}
	if p.Early {
		op = within(op, q.During)
	}
	return op
}

// joined is the inputs as one, with the first source's columns first.
func joined(q Query, p Plan, inputs []exec.Op) (exec.Op, api.Errno) {
	if len(inputs) == 1 {
		return inputs[0], api.OK
	}
	if !p.Swap {
		return exec.Join(inputs[0], inputs[1], p.Way)
	}
	op, e := exec.Join(inputs[1], inputs[0], p.Way)
	if e != api.OK {
		return nil, e
	}
	return exec.Shift(op, q.Sources[1].Columns), api.OK
}

// within is what lies in a period, if there is one.
func within(op exec.Op, during []api.Period) exec.Op {
	for _, p := range during {
		op = exec.During(op, p)
	}
	return op
}
