package dml

import (
	"slices"

	"annals/api"
	"annals/bind"
	"annals/period"
)

// valid is a fact with a row in new memory.
func valid(row []api.Value, p api.Period) api.Fact {
	return api.Fact{Row: slices.Clone(row), Period: p}
}

// concerned is the instants at which a change within a period concerns a fact, and whether it does.
func concerned(f api.Fact, p api.Period, where []bind.Term) (api.Period, bool) {
	both, ok := period.Overlap(f.Period, p)
	if !ok || !bind.Holds(f.Row, where...) {
		return api.Period{}, false
	}
	return both, true
}

// end ends a fact at a place within a period: its rests begin.
func (c *Change) end(place int, f api.Fact, p api.Period) {
	c.Ended = append(c.Ended, place)
	for _, rest := range period.Minus(f.Period, p) {
		c.Added = append(c.Added, valid(f.Row, rest))
	}
}

// changed is a row in new memory, with columns set to what terms come to for the row as it was.
func changed(row []api.Value, sets []Set) ([]api.Value, api.Errno) {
	out := slices.Clone(row)
	for _, s := range sets {
		v, e := bind.Eval(s.Term, row)
		if e != api.OK {
			return nil, e
		}
		if s.Place < 0 || s.Place >= len(row) {
			return nil, api.ErrColumn
		}
		if v.Kind != row[s.Place].Kind {
			return nil, api.ErrType
		}
		out[s.Place] = v
	}
	return out, api.OK
}
