package session

import (
	"slices"
	"strconv"

	"annals/api"
	"annals/dml"
	"annals/heap"
	"annals/store"
)

// transaction is what is done at once, at its commit.
type transaction struct {
	number, snapshot int64
	ended            []heap.Rid
	begun            []store.Part
}

// view is the facts of a table as a transaction has them: first those of versions, then what it has begun.
type view struct {
	facts    []api.Fact
	versions []heap.Rid // their places, for as many facts
	own      []int      // of the others, where they stand in what was begun
}

func (e *Engine) begin() *transaction {
	number, snapshot := e.manager.Begin()
	return &transaction{number: number, snapshot: snapshot}
}

// abort: a transaction has never been.
func (e *Engine) abort(t *transaction) api.Errno { return e.manager.Abort(t.number) }

// commit: what a transaction has done is there for all; with an error it has never been.
func (e *Engine) commit(t *transaction) api.Errno {
	if bad := e.write(t); bad != api.OK {
		e.abort(t)
		return bad
	}
	e.manager.Commit(t.number)
	return api.OK
}

// write brings what a transaction has done to the store, if the manager lets it.
func (e *Engine) write(t *transaction) api.Errno {
	keys := t.keys()
	e.manager.Write(t.number, keys...)
	stamp, bad := e.manager.Check(t.number)
	switch {
	case bad != api.OK:
		return bad
	case len(keys) == 0:
		return api.OK
	case e.overlaps(t):
		return api.ErrOverlap
	}
	return e.store.Write(stamp, t.ended, t.begun...)
}

// keys is what a transaction writes: each version that it has ended, by a key that is the same for all, and, if something begins, a key that nobody else has.
func (t *transaction) keys() []string {
	var out []string
	for _, r := range t.ended {
		out = append(out, "version "+strconv.Itoa(r.Page)+" "+strconv.Itoa(r.Slot))
	}
	if len(t.begun) > 0 {
		out = append(out, "transaction "+strconv.FormatInt(t.number, 10))
	}
	return out
}

// overlaps: would two rows of a table be alike in its key columns at an instant?
func (e *Engine) overlaps(t *transaction) bool {
	for _, table := range e.tables.Tables() {
		if len(table.Keys) == 0 || !t.hasBegun(table.Id) {
			continue
		}
		now := e.view(t, table.Id, e.store.Last())
		if _, _, clash := dml.Clash(now.facts, table.Places()...); clash {
			return true
		}
	}
	return false
}

func (t *transaction) hasBegun(table int) bool {
	return slices.ContainsFunc(t.begun, func(p store.Part) bool { return p.Table == table })
}

// view: the versions of a table that are there at a stamp, without those that a transaction has ended, with what it has begun.
func (e *Engine) view(t *transaction, table int, stamp int64) view {
	ended := map[heap.Rid]struct{}{}
	for _, r := range t.ended {
		ended[r] = struct{}{}
	}
	var out view
	for _, x := range e.store.See(table, stamp) {
		if _, gone := ended[x.Rid]; !gone {
			out.facts, out.versions = append(out.facts, x.Fact), append(out.versions, x.Rid)
		}
	}
	for i, p := range t.begun {
		if p.Table == table {
			out.facts, out.own = append(out.facts, p.Fact), append(out.own, i)
		}
	}
	return out
}

// change does a change of what is seen of a table.
func (t *transaction) change(table int, seen view, c dml.Change) {
	gone := make([]bool, len(t.begun))
	for _, place := range c.Ended {
		if place < len(seen.versions) {
			t.ended = append(t.ended, seen.versions[place])
		} else {
			gone[seen.own[place-len(seen.versions)]] = true
		}
	}
	var begun []store.Part
	for i, p := range t.begun {
		if !gone[i] {
			begun = append(begun, p)
		}
	}
	for _, f := range c.Added {
		begun = append(begun, store.Part{Table: table, Fact: f})
	}
	t.begun = begun
}
