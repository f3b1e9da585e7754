package plan

import (
	"math/bits"

	"annals/api"
	"annals/exec"
)

// fitted is a plan with what means something for a question alone: it is the same plan just if it is one of the question's.
func fitted(q Query, p Plan) Plan {
	if len(q.Sources) == 1 {
		p.Swap, p.Way = false, 0
	} else {
		p.Way = fittedWay(p.Way, second(q, p).Indexed)
	}
	p.Push = p.Push && len(q.Terms) > 0
	p.Early = p.Early && len(q.During) > 0
	return p
}

func fittedWay(way int, isIndexed bool) int {
	switch way {
	case exec.Nested, exec.Sweep:
		return way
	case exec.Indexed, exec.Points:
		if isIndexed {
			return way
		}
	}
	return exec.Nested
}

// second is the source that is second by a plan, of two.
func second(q Query, p Plan) Source {
	if p.Swap {
		return q.Sources[0]
	}
	return q.Sources[1]
}

// cheapest is the plan with the least cost, the first of several.
func cheapest(q Query, plans []Plan) Plan {
	var best Plan
	var least int64
	for i, p := range plans {
		if n, _ := cost(q, p); i == 0 || n < least {
			best, least = p, n
		}
	}
	return best
}

func cost(q Query, p Plan) (int64, api.Errno) {
	var all int64
	var left []int64
	for i, s := range q.Sources {
		all += int64(len(s.Facts))
		left = append(left, reckoned(q, p, i))
	}
	if len(left) == 1 {
		return all + left[0], api.OK
	}
	sum, probed := left[0]+left[1], left[1]
	if p.Swap {
		probed = left[0]
	}
	switch p.Way {
	case exec.Nested:
		return all + left[0]*left[1], api.OK
	case exec.Sweep:
		return all + sum*(1+digits(sum)), api.OK
	case exec.Indexed, exec.Points:
		return all + sum*(2+digits(probed)), api.OK
	}
	return 0, api.ErrKind
}

// reckoned is how many facts of a source are thought to be left for joining.
func reckoned(q Query, p Plan, source int) int64 {
	n := int64(len(q.Sources[source].Facts))
	if p.Push && len(of(q, source)) > 0 {
		n = half(n)
	}
	if p.Early {
		n = half(n)
	}
	return n
}

func half(n int64) int64 { return (n + 1) / 2 }

func digits(n int64) int64 { return int64(bits.Len64(uint64(n))) }
