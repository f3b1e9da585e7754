package session

import (
	"slices"

	"annals/api"
	"annals/bag"
	"annals/bind"
	"annals/catalog"
	"annals/exec"
	"annals/plan"
)

// question is a query whose names are found.
type question struct {
	api.Query
	from    []catalog.Table
	places  []int         // of the columns that are asked for, where it isn't all or how many there are
	columns []bind.Column // of its answer; those of COUNT and SUM have no name
	where   []bind.Term
}

// answer does a SELECT.
func (e *Engine) answer(t *transaction, x api.Stmt, oracle int) Result {
	var asked []question
	for _, q := range x.Query {
		found := e.find(q)
		asked = append(asked, found)
		mustMatch(asked[0].columns, found.columns)
	}
	var order []int
	for _, name := range x.Order {
		order = append(order, got(bind.Find(asked[0].columns, "", name)))
	}
	facts := e.factsOf(t, asked[0], x, oracle)
	for i, op := range x.Ops {
		more := e.factsOf(t, asked[i+1], x, oracle)
		if op == "UNION" {
			facts = bag.Normal(facts, more)
		} else {
			facts = bag.Except(facts, more)
		}
	}
	if len(order) > 0 {
		facts = exec.Sort(facts, order...)
	}
	return Result{Facts: facts, Rows: len(facts)}
}

// find gives the names of a query their tables and columns.
func (e *Engine) find(q api.Query) question {
	out := question{Query: q}
	for _, name := range q.Tables {
		out.from = append(out.from, got(e.tables.Find(name)))
	}
	scope := bind.Scope(out.from...)
	out.ask(scope)
	out.where = conditions(q.Where, scope)
	return out
}

// ask finds the columns that are asked for, and those of the answer.
func (q *question) ask(scope []bind.Column) {
	number := []bind.Column{{Column: api.Column{Kind: api.Int}}}
	switch {
	case q.All:
		q.columns = scope
	case q.Count:
		q.columns = number
	case q.Sum != "":
		place := got(bind.Find(scope, "", q.Sum))
		mustBe(scope[place].Kind, api.Int)
		q.places, q.columns = []int{place}, number
	default:
		for _, item := range q.Items {
			place := got(bind.Find(scope, item.Of, item.Text))
			q.places, q.columns = append(q.places, place), append(q.columns, scope[place])
		}
	}
}

// mustMatch gives up where two answers haven't columns of the same kinds.
func mustMatch(first, other []bind.Column) {
	if !slices.EqualFunc(first, other, func(a, b bind.Column) bool { return a.Kind == b.Kind }) {
		must(api.ErrType)
	}
}

// factsOf is what a question comes to for a transaction, by the plan that the oracle picks.
func (e *Engine) factsOf(t *transaction, q question, x api.Stmt, oracle int) []api.Fact {
	ways := plan.Query{Terms: q.where, During: x.During}
	for _, table := range q.from {
		ways.Sources = append(ways.Sources, plan.Source{Facts: e.known(t, table.Id, x.AsOf), Columns: len(table.Columns), Indexed: table.Indexed})
	}
	way := got(plan.Choose(ways, oracle))
	return q.made(exec.Result(got(plan.Build(ways, way))))
}

// known is the facts of a table that a transaction sees, or that were there as of a stamp, whatever it has done itself.
func (e *Engine) known(t *transaction, table int, asOf []int64) []api.Fact {
	if len(asOf) == 0 {
		return e.view(t, table, t.snapshot).facts
	}
	var out []api.Fact
	for _, x := range e.store.See(table, min(asOf[0], t.snapshot)) {
		out = append(out, x.Fact)
	}
	return out
}

// made is what is asked of facts that fulfil the conditions.
func (q question) made(facts []api.Fact) []api.Fact {
	switch {
	case q.All:
	case q.Count:
		facts = bag.Count(facts)
	case q.Sum != "":
		facts = got(bag.Sum(facts, q.places[0]))
	default:
		facts = got(bag.Project(facts, q.places...))
	}
	if q.Coalesce {
		facts = bag.Coalesce(facts)
	}
	return facts
}
