package parse

import "annals/api"

// whole is the statement that all tokens are.
func (r *reader) whole() api.Stmt {
	x := r.statement()
	r.may(";")
	r.take(ended)
	return x
}

func (r *reader) statement() api.Stmt {
	switch word := r.may("CREATE", "INSERT", "UPDATE", "DELETE", "BEGIN", "COMMIT", "ROLLBACK"); word {
	case "CREATE":
		return r.create()
	case "INSERT":
		return r.insert()
	case "UPDATE":
		return r.update()
	case "DELETE":
		return r.delete()
	case "BEGIN", "COMMIT", "ROLLBACK":
		return api.Stmt{Kind: word}
	}
	return r.question()
}

func (r *reader) create() api.Stmt {
	if r.must("TABLE", "INDEX") == "INDEX" {
		r.must("ON")
		return api.Stmt{Kind: "INDEX", Table: r.name()}
	}
	x := api.Stmt{Kind: "CREATE", Table: r.name(), Columns: bracketed(r, r.column)}
	if r.may("NO") != "" {
		r.must("OVERLAP")
		x.Keys = bracketed(r, r.name)
	}
	return x
}

func (r *reader) column() api.Column {
	c := api.Column{Name: r.name(), Kind: api.Int}
	if r.must("INT", "TEXT") == "TEXT" {
		c.Kind = api.Text
	}
	return c
}

func (r *reader) insert() api.Stmt {
	r.must("INTO")
	x := api.Stmt{Kind: "INSERT", Table: r.name()}
	r.must("VALUES")
	x.Values = bracketed(r, r.expr)
	r.must("FROM")
	x.Period = r.period()
	return x
}

func (r *reader) update() api.Stmt {
	x := api.Stmt{Kind: "UPDATE", Table: r.name()}
	r.must("SET")
	x.Sets = list(r, r.set)
	x.Period, x.Where = r.reach(), r.where()
	return x
}

func (r *reader) set() api.Set {
	column := r.name()
	r.must("=")
	return api.Set{Column: column, Value: r.expr()}
}

func (r *reader) delete() api.Stmt {
	r.must("FROM")
	return api.Stmt{Kind: "DELETE", Table: r.name(), Period: r.reach(), Where: r.where()}
}

// reach is the period that a change is for.
func (r *reader) reach() api.Period {
	if r.may("FOR") == "" {
		return always()
	}
	return r.period()
}

// always is the period of a change that tells none.
func always() api.Period { return api.Period{From: 0, To: api.Forever} }

// where is none or one.
func (r *reader) where() []api.Expr {
	if r.may("WHERE") == "" {
		return nil
	}
	return []api.Expr{r.expr()}
}

func (r *reader) question() api.Stmt {
	x := api.Stmt{Kind: "SELECT", Query: []api.Query{r.query()}}
	for op := r.may("UNION", "EXCEPT"); op != ""; op = r.may("UNION", "EXCEPT") {
		x.Ops = append(x.Ops, op)
		x.Query = append(x.Query, r.query())
	}
	if r.may("AS") != "" {
		r.must("OF")
		x.AsOf = []int64{r.number()}
	}
	switch r.may("AT", "DURING") {
	case "AT":
		x.During = []api.Period{r.instant()}
	case "DURING":
		x.During = []api.Period{r.period()}
	}
	if r.may("ORDER") != "" {
		r.must("BY")
		x.Order = list(r, r.name)
	}
	return x
}

func (r *reader) query() api.Query {
	r.must("SELECT")
	q := api.Query{Coalesce: r.may("COALESCE") != ""}
	switch r.may("*", "COUNT", "SUM") {
	case "*":
		q.All = true
	case "COUNT":
		q.Count = true
	case "SUM":
		q.Sum = r.name()
	default:
		q.Items = list(r, r.item)
	}
	r.must("FROM")
	q.Tables = []string{r.name()}
	if r.may(",") != "" {
		q.Tables = append(q.Tables, r.name())
	}
	q.Where = r.where()
	return q
}
