package session

import (
	"slices"

	"annals/api"
	"annals/bind"
	"annals/catalog"
	"annals/dml"
	"annals/store"
)

// runAlone does a statement in a transaction that is begun for it.
func (e *Engine) runAlone(x api.Stmt, oracle int) Result {
	t := e.begin()
	r := e.run(t, x, oracle)
	if r.Code != api.OK {
		e.abort(t)
		return r
	}
	if bad := e.commit(t); bad != api.OK {
		return Result{Code: bad}
	}
	return r
}

// run does a statement in a transaction, which it changes last of all: one that gives up has changed nothing.
func (e *Engine) run(t *transaction, x api.Stmt, oracle int) (r Result) {
	defer func() {
		if bad := told(recover()); bad != api.OK {
			r = Result{Code: bad}
		}
	}()
	switch x.Kind {
	case "SELECT":
		return e.answer(t, x, oracle)
	case "INSERT":
		return e.insert(t, x)
	}
	return e.change(t, x)
}

func (e *Engine) insert(t *transaction, x api.Stmt) Result {
	table := got(e.tables.Find(x.Table))
	var row []api.Value
	for _, v := range x.Values {
		row = append(row, got(bind.Eval(got(bind.Bind(v, nil)), nil)))
	}
	f := api.Fact{Row: row, Period: x.Period}
	must(dml.Fits(table, f))
	must(e.store.Check(table.Id, f))
	t.begun = append(t.begun, store.Part{Table: table.Id, Fact: f})
	return Result{Rows: 1}
}

// change does an UPDATE or a DELETE.
func (e *Engine) change(t *transaction, x api.Stmt) Result {
	table := got(e.tables.Find(x.Table))
	scope := bind.Scope(table)
	sets := setsOf(x.Sets, table, scope)
	where := conditions(x.Where, scope)
	seen := e.view(t, table.Id, t.snapshot)
	var c dml.Change
	if x.Kind == "UPDATE" {
		c = got(dml.Update(seen.facts, x.Period, sets, where...))
	} else {
		c = dml.Delete(seen.facts, x.Period, where...)
	}
	for _, f := range c.Added {
		must(e.store.Check(table.Id, f))
	}
	t.change(table.Id, seen, c)
	return Result{Rows: len(c.Ended)}
}

// setsOf is the columns of a table that are set, with terms over a scope.
func setsOf(list []api.Set, table catalog.Table, scope []bind.Column) []dml.Set {
	var out []dml.Set
	for _, x := range list {
		place := table.Column(x.Column)
		if place < 0 {
			must(api.ErrColumn)
		}
		if slices.ContainsFunc(out, func(s dml.Set) bool { return s.Place == place }) {
			must(api.ErrTwice)
		}
		term := got(bind.Bind(x.Value, scope))
		mustBe(term.Kind(), table.Columns[place].Kind)
		out = append(out, dml.Set{Place: place, Term: term})
	}
	return out
}

// conditions is the terms that must all hold so that a WHERE does, if there is one.
func conditions(where []api.Expr, scope []bind.Column) []bind.Term {
	var out []bind.Term
	for _, x := range where {
		term := got(bind.Bind(x, scope))
		mustBe(term.Kind(), bind.Bool)
		out = append(out, bind.Parts(term)...)
	}
	return out
}

// mustBe gives up at another kind than the one that is asked for.
func mustBe(kind, asked int) {
	if kind != asked {
		must(api.ErrType)
	}
}
