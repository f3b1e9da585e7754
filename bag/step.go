package bag

import (
	"cmp"
	"slices"

	"annals/api"
	"annals/codec"
	"annals/period"
)

// step is a row that is there so many times more in a period, or, below 0, so many times less.
type step struct {
	api.Period
	row   []api.Value
	times int
}

// edge is where a step begins (by is 1) or ends (by is -1).
type edge struct {
	at int64
	of int
	by int
}

// stepsOf is a step for each fact that has a period, in memory that may be sorted.
func stepsOf(list []api.Fact, times int) []step {
	var out []step
	for _, f := range list {
		if period.Check(f.Period) == api.OK {
			out = append(out, step{f.Period, f.Row, times})
		}
	}
	return out
}

// groups hands over the steps of each row, row by row in their order; it sorts the steps where they are.
func groups(steps []step, take func(group []step)) {
	slices.SortFunc(steps, func(a, b step) int { return codec.Compare(a.row, b.row) })
	for len(steps) > 0 {
		end := 1
		for end < len(steps) && codec.Compare(steps[0].row, steps[end].row) == 0 {
			end++
		}
		take(steps[:end])
		steps = steps[end:]
	}
}

// sweep goes through the edges of steps in the order of time: it passes each, and tells the stretch up to the next instant with edges, once all of this one are passed.
func sweep(steps []step, pass func(s step, by int), tell func(api.Period)) {
	edges := edgesOf(steps)
	for i, x := range edges {
		pass(steps[x.of], x.by)
		if i+1 < len(edges) && x.at < edges[i+1].at {
			tell(api.Period{From: x.at, To: edges[i+1].at})
		}
	}
}

func edgesOf(steps []step) []edge {
	var out []edge
	for i, s := range steps {
		out = append(out, edge{s.From, i, 1}, edge{s.To, i, -1})
	}
	slices.SortFunc(out, func(a, b edge) int { return cmp.Compare(a.at, b.at) })
	return out
}

// level is the steps of one row as steps of which each ends where the next begins, with another number of times; some numbers may be 0 or less.
func level(group []step) []step {
	var out []step
	times := 0
	pass := func(s step, by int) { times += by * s.times }
	sweep(group, pass, func(p api.Period) {
		if last := len(out) - 1; last >= 0 && out[last].times == times {
			out[last].To = p.To
			return
		}
		out = append(out, step{p, group[0].row, times})
	})
	return out
}

// levels is the steps of all rows of a list, of which no two of the same row have an instant in common.
func levels(list []api.Fact) []step {
	var out []step
	groups(stepsOf(list, 1), func(group []step) {
		for _, s := range level(group) {
			if s.times > 0 {
				out = append(out, s)
			}
		}
	})
	return out
}

// pairs hands over each step of one list with each of the other that has an instant in common with it; it sorts both where they are.
func pairs(a, b []step, take func(x, y step)) {
	for _, list := range [][]step{a, b} {
		slices.SortFunc(list, func(x, y step) int { return cmp.Compare(x.From, y.From) })
	}
	for len(a) > 0 && len(b) > 0 {
		if a[0].From <= b[0].From {
			for _, y := range begun(b, a[0].To) {
				take(a[0], y)
			}
			a = a[1:]
			continue
		}
		for _, x := range begun(a, b[0].To) {
			take(x, b[0])
		}
		b = b[1:]
	}
}

// begun is those of the steps, which are in the order of their beginnings, that begin ahead of an instant.
func begun(steps []step, t int64) []step {
	n := 0
	for n < len(steps) && steps[n].From < t {
		n++
	}
	return steps[:n]
}

// factsOf is what steps say, in normal form.
func factsOf(steps []step) []api.Fact {
	var out []api.Fact
	groups(steps, func(group []step) { out = append(out, unfold(level(group))...) })
	return out
}

// unfold is a row's facts in normal form, by steps of which each ends where the next begins.
func unfold(steps []step) []api.Fact {
	var out []api.Fact
	var since []int64 // from when on the row has been there once or more, twice or more, and so on
	shrink := func(times int, t int64) {
		for len(since) > max(times, 0) {
			last := len(since) - 1
			out = append(out, api.Fact{Row: own(steps[0].row), Period: api.Period{From: since[last], To: t}})
			since = since[:last]
		}
	}
	for _, s := range steps {
		shrink(s.times, s.From)
		for len(since) < s.times {
			since = append(since, s.From)
		}
	}
	shrink(0, steps[len(steps)-1].To)
	slices.SortFunc(out, func(a, b api.Fact) int {
		return cmp.Or(cmp.Compare(a.Period.From, b.Period.From), cmp.Compare(a.Period.To, b.Period.To))
	})
	return out
}
