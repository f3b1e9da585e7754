package exec

import (
	"slices"

	"annals/api"
	"annals/period"
	"annals/pstree"
	"annals/ritree"
)

// join is two inputs. How their facts find each other is up to the ways, which embed it.
type join struct {
	left, right Op
}

// sides is what both inputs tell, but for facts without a period, which have no instant in common with any.
func (j join) sides() (left, right []api.Fact) {
	return valid(j.left.run()), valid(j.right.run())
}

func valid(facts []api.Fact) []api.Fact {
	var out []api.Fact
	for _, f := range facts {
		if period.Check(f.Period) == api.OK {
			out = append(out, f)
		}
	}
	return out
}

// pair is a list with the fact of two behind it, if they have an instant in common.
func pair(list []api.Fact, left, right api.Fact) []api.Fact {
	p, ok := period.Overlap(left.Period, right.Period)
	if !ok {
		return list
	}
	return append(list, api.Fact{Row: slices.Concat(left.Row, right.Row), Period: p})
}

type nested struct {
	join
}

func (j *nested) run() []api.Fact {
	var out []api.Fact
	left, right := j.sides()
	for _, l := range left {
		for _, r := range right {
			out = pair(out, l, r)
		}
	}
	return out
}

type sweep struct {
	join
}

// beginning is a fact that begins, on the side 0 (left) or 1 (right).
type beginning struct {
	api.Fact
	side int
}

// run pairs what begins with what has begun on the other side and hasn't ended.
func (j *sweep) run() []api.Fact {
	var out []api.Fact
	var begun [2][]api.Fact
	for _, b := range j.beginnings() {
		other := 1 - b.side
		begun[other] = slices.DeleteFunc(begun[other], func(f api.Fact) bool { return f.Period.To <= b.Period.From })
		for _, f := range begun[other] {
			var two [2]api.Fact
			two[b.side], two[other] = b.Fact, f
			out = pair(out, two[0], two[1])
		}
		begun[b.side] = append(begun[b.side], b.Fact)
	}
	return out
}

// beginnings is those of both sides, in their order.
func (j *sweep) beginnings() []beginning {
	var out []beginning
	left, right := j.sides()
	for side, facts := range [2][]api.Fact{left, right} {
		for _, f := range facts {
			out = append(out, beginning{f, side})
		}
	}
	slices.SortFunc(out, func(a, b beginning) int { return byFrom(a.Fact, b.Fact) })
	return out
}

// probe pairs each fact of the left with what is found on the right, by its places there, for a period.
func probe(left, right []api.Fact, found func(api.Period) []int64) []api.Fact {
	var out []api.Fact
	for _, l := range left {
		for _, place := range found(l.Period) {
			out = pair(out, l, right[place])
		}
	}
	return out
}

type indexed struct {
	join
}

func (j *indexed) run() []api.Fact {
	left, right := j.sides()
	tree := ritree.New()
	for i, f := range right {
		tree.Add(int64(i), f.Period)
	}
	return probe(left, right, func(p api.Period) []int64 {
		ids, _ := tree.Overlap(p)
		return ids
	})
}

type points struct {
	join
}

// run takes periods for points: what has an instant in common with a period begins ahead of its end, and ends behind its beginning.
func (j *points) run() []api.Fact {
	left, right := j.sides()
	tree := pstree.New()
	for i, f := range right {
		tree.Add(pstree.Point{X: f.Period.From, Y: f.Period.To, Id: int64(i)})
	}
	return probe(left, right, func(p api.Period) []int64 {
		var ids []int64
		for _, point := range tree.Find(0, p.To-1, p.From+1) {
			ids = append(ids, point.Id)
		}
		return ids
	})
}
