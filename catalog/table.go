package catalog

import (
	"slices"

	"annals/api"
)

// Table is a table.
type Table struct {
	Id      int
	Name    string
	Columns []api.Column
	Keys    []string
	Indexed bool
}

// Column: the place of a column; -1: there is none.
func (t Table) Column(name string) int {
	return slices.IndexFunc(t.Columns, func(c api.Column) bool { return c.Name == name })
}

// Places: the places of the key columns.
func (t Table) Places() []int {
	var out []int
	for _, key := range t.Keys {
		out = append(out, t.Column(key))
	}
	return out
}

// Check: is it a table, but for its number?
func Check(t Table) api.Errno {
	names := t.names()
	switch {
	case !isName(t.Name) || !all(names, isName):
		return api.ErrName
	case len(t.Columns) == 0 || len(t.Columns) > api.MaxColumns:
		return api.ErrRange
	case !all(t.Columns, hasKind):
		return api.ErrKind
	case twice(names) || twice(t.Keys):
		return api.ErrTwice
	case !all(t.Keys, func(key string) bool { return t.Column(key) >= 0 }):
		return api.ErrColumn
	}
	return api.OK
}

// names are those of the columns.
func (t Table) names() []string {
	var out []string
	for _, c := range t.Columns {
		out = append(out, c.Name)
	}
	return out
}

// own is the table in memory of its own.
func (t Table) own() Table {
	t.Columns, t.Keys = slices.Clone(t.Columns), slices.Clone(t.Keys)
	return t
}

func isName(name string) bool { return name != "" && len(name) <= api.MaxName }

func hasKind(c api.Column) bool { return c.Kind == api.Int || c.Kind == api.Text }

// all: is it so of each thing?
func all[T any](things []T, so func(T) bool) bool {
	return !slices.ContainsFunc(things, func(thing T) bool { return !so(thing) })
}

// twice: does a name stand there more than once? Sorted, since there may be very many.
func twice(names []string) bool {
	sorted := slices.Sorted(slices.Values(names))
	return len(slices.Compact(sorted)) < len(names)
}
