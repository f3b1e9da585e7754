package parse

import "annals/api"

func (w *writer) statement(x api.Stmt) {
	switch x.Kind {
	case "CREATE":
		w.create(x)
	case "INDEX":
		w.write("CREATE INDEX ON ", x.Table)
	case "INSERT":
		w.write("INSERT INTO ", x.Table, " VALUES")
		enclose(w, x.Values, w.expr)
		w.write(" FROM ")
		w.period(x.Period)
	case "UPDATE":
		w.write("UPDATE ", x.Table, " SET ")
		tell(w, x.Sets, w.set)
		w.reach(x.Period)
		w.where(x.Where)
	case "DELETE":
		w.write("DELETE FROM ", x.Table)
		w.reach(x.Period)
		w.where(x.Where)
	case "SELECT":
		w.question(x)
	default:
		w.write(x.Kind)
	}
}

func (w *writer) create(x api.Stmt) {
	w.write("CREATE TABLE ", x.Table)
	enclose(w, x.Columns, w.column)
	if len(x.Keys) > 0 {
		w.write(" NO OVERLAP")
		enclose(w, x.Keys, w.name)
	}
}

func (w *writer) column(c api.Column) {
	kind := " INT"
	if c.Kind == api.Text {
		kind = " TEXT"
	}
	w.write(c.Name, kind)
}

func (w *writer) set(s api.Set) {
	w.write(s.Column, " = ")
	w.expr(s.Value)
}

func (w *writer) reach(p api.Period) {
	if p != always() {
		w.write(" FOR ")
		w.period(p)
	}
}

func (w *writer) where(exprs []api.Expr) {
	for _, e := range exprs {
		w.write(" WHERE ")
		w.expr(e)
	}
}

func (w *writer) question(x api.Stmt) {
	for i, q := range x.Query {
		if i > 0 && i <= len(x.Ops) {
			w.write(" ", x.Ops[i-1], " ")
		}
		w.query(q)
	}
	for _, n := range x.AsOf {
		w.write(" AS OF ")
		w.number(n)
	}
	for _, p := range x.During {
		w.write(" DURING ")
		w.period(p)
	}
	if len(x.Order) > 0 {
		w.write(" ORDER BY ")
		tell(w, x.Order, w.name)
	}
}

func (w *writer) query(q api.Query) {
	w.write("SELECT ")
	if q.Coalesce {
		w.write("COALESCE ")
	}
	switch {
	case q.All:
		w.write("*")
	case q.Count:
		w.write("COUNT")
	case q.Sum != "":
		w.write("SUM ", q.Sum)
	default:
		tell(w, q.Items, w.expr)
	}
	w.write(" FROM ")
	tell(w, q.Tables, w.name)
	w.where(q.Where)
}
