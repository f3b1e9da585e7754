package heap

import (
	"slices"

	"annals/api"
	"annals/trail"
)

// state is what has become of a transaction. One of which the ledger knows nothing is lost; so is the number 0, which stands where no transaction has ended a version.
type state int

const (
	lost state = iota
	active
	committed
)

// ledger is the transactions that aren't lost.
type ledger struct {
	last    int64
	states  map[int64]state
	commits []trail.Stamped
}

func ledgerOf(r trail.Report) ledger {
	l := ledger{last: r.Last, states: map[int64]state{}}
	for _, c := range r.Commits {
		l.commit(c)
	}
	return l
}

// Begin: the number of a new transaction.
func (l *ledger) Begin() int64 {
	l.last++
	l.states[l.last] = active
	return l.last
}

// Commits: the transactions that were committed, in order, with their stamps.
func (l *ledger) Commits() []trail.Stamped { return slices.Clone(l.commits) }

// Abort: a transaction has never been.
func (l *ledger) Abort(txn int64) api.Errno {
	if l.states[txn] != active {
		return api.ErrTxn
	}
	delete(l.states, txn)
	return api.OK
}

func (l *ledger) commit(c trail.Stamped) {
	l.states[c.Txn] = committed
	l.commits = append(l.commits, c)
}

// mayCommit: may a transaction be committed with a stamp?
func (l *ledger) mayCommit(txn, stamp int64) api.Errno {
	if l.states[txn] != active {
		return api.ErrTxn
	}
	if stamp <= l.lastStamp() || stamp > api.Forever {
		return api.ErrRange
	}
	return api.OK
}

// lastStamp is -1 while nothing was committed, so that every stamp is above it.
func (l *ledger) lastStamp() int64 {
	if len(l.commits) == 0 {
		return -1
	}
	return l.commits[len(l.commits)-1].Stamp
}

// mayEnd: may a transaction end a version with this head?
func (l *ledger) mayEnd(txn int64, v head) api.Errno {
	switch {
	case l.states[txn] != active:
		return api.ErrTxn
	case v.begin != txn && l.states[v.begin] != committed:
		return api.ErrMissing
	case v.end == txn || l.states[v.end] == committed:
		return api.ErrMissing
	case l.states[v.end] == active:
		return api.ErrBusy
	}
	return api.OK
}
