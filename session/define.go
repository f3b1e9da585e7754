package session

import (
	"cmp"
	"slices"

	"annals/api"
	"annals/catalog"
	"annals/heap"
	"annals/store"
)

// tablesId is the number of the table whose facts are the tables.
const tablesId = 0

// tablesOf is the catalog that the versions of the tables' table tell.
func tablesOf(told []store.Item) *catalog.Catalog {
	var list []catalog.Table
	for _, x := range told {
		if t, bad := catalog.Read(x.Fact.Row); bad == api.OK {
			list = append(list, t)
		}
	}
	// A catalog numbers tables in the order in which they come.
	slices.SortFunc(list, func(a, b catalog.Table) int { return cmp.Compare(a.Id, b.Id) })
	out := catalog.New()
	for _, t := range list {
		out.Create(t.Name, t.Columns, t.Keys...)
		if t.Indexed {
			out.Index(t.Name)
		}
	}
	return out
}

// define: a table is created or indexed, for all sessions at once.
func (e *Engine) define(x api.Stmt) api.Errno {
	tables := e.tables.Fork()
	if bad := defineIn(tables, x); bad != api.OK {
		return bad
	}
	table, _ := tables.Find(x.Table) // it is there, as nothing was refused
	f := api.Fact{Row: catalog.Row(table), Period: api.Period{From: 0, To: api.Forever}}
	if bad := e.store.Check(tablesId, f); bad != api.OK {
		return bad
	}
	t := e.begin()
	t.ended = e.placesOf(table.Id, t.snapshot)
	t.begun = []store.Part{{Table: tablesId, Fact: f}}
	if bad := e.commit(t); bad != api.OK {
		return bad
	}
	e.tables = tables
	return api.OK
}

func defineIn(tables *catalog.Catalog, x api.Stmt) api.Errno {
	if x.Kind == "INDEX" {
		return tables.Index(x.Table)
	}
	_, bad := tables.Create(x.Table, x.Columns, x.Keys...)
	return bad
}

// placesOf is where the versions lie that tell a table at a stamp: none or one.
func (e *Engine) placesOf(id int, stamp int64) []heap.Rid {
	var out []heap.Rid
	for _, x := range e.store.See(tablesId, stamp) {
		if t, bad := catalog.Read(x.Fact.Row); bad == api.OK && t.Id == id {
			out = append(out, x.Rid)
		}
	}
	return out
}
