package dml

import (
	"cmp"
	"slices"

	"annals/api"
	"annals/codec"
	"annals/period"
)

// clashing: are there two facts of a list that are alike in the key columns at the same instant?
func clashing(list []api.Fact, keys []int) bool {
	order := byKeys(keys)
	facts := keyed(list, keys)
	slices.SortFunc(facts, func(a, b api.Fact) int {
		return cmp.Or(order(a.Row, b.Row), cmp.Compare(a.Period.From, b.Period.From))
	})
	// If a fact has an instant in common with any that stands behind it, then with the next one, which begins no later.
	for i := 1; i < len(facts); i++ {
		one, next := facts[i-1], facts[i]
		if order(one.Row, next.Row) == 0 && next.Period.From < one.Period.To {
			return true
		}
	}
	return false
}

// byKeys compares rows that have all key columns, by their values there.
func byKeys(keys []int) func(a, b []api.Value) int {
	return func(a, b []api.Value) int {
		for _, k := range keys {
			if n := codec.Compare(a[k:k+1], b[k:k+1]); n != 0 {
				return n
			}
		}
		return 0
	}
}

// keyed is the facts that can clash, in a new list: they have a period, and all key columns.
func keyed(list []api.Fact, keys []int) []api.Fact {
	var out []api.Fact
	for _, f := range list {
		lost := func(k int) bool { return k < 0 || k >= len(f.Row) }
		if period.Check(f.Period) == api.OK && !slices.ContainsFunc(keys, lost) {
			out = append(out, f)
		}
	}
	return out
}
