package exec

import (
	"slices"

	"annals/api"
	"annals/bind"
	"annals/period"
)

// Operators hand rows on to each other as they are: none changes what it was told, and Result tells in new memory.

type scan struct {
	facts []api.Fact
}

func (o *scan) run() []api.Fact { return o.facts }

type filter struct {
	Op
	terms []bind.Term
}

func (o *filter) run() []api.Fact {
	var out []api.Fact
	for _, f := range o.Op.run() {
		if bind.Holds(f.Row, o.terms...) {
			out = append(out, f)
		}
	}
	return out
}

type during struct {
	Op
	within api.Period
}

func (o *during) run() []api.Fact {
	var out []api.Fact
	for _, f := range o.Op.run() {
		if p, ok := period.Overlap(f.Period, o.within); ok {
			out = append(out, api.Fact{Row: f.Row, Period: p})
		}
	}
	return out
}

type shift struct {
	Op
	first int // not below 0
}

func (o *shift) run() []api.Fact {
	var out []api.Fact
	for _, f := range o.Op.run() {
		n := min(o.first, len(f.Row))
		out = append(out, api.Fact{Row: slices.Concat(f.Row[n:], f.Row[:n]), Period: f.Period})
	}
	return out
}
