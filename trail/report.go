package trail

import (
	"cmp"
	"slices"
)

// Stamped is a transaction that was committed, with its stamp.
type Stamped struct {
	Txn, Stamp int64
}

// Touched is a page, with the marks of the first and the last entry about it.
type Touched struct {
	Page        int
	First, Last int64
}

// Report is what entries come to.
type Report struct {
	Commits []Stamped
	Losers  []int64
	Pages   []Touched
	Last    int64
}

// seen is what was said by the entries that were gone through.
type seen struct {
	commits []Stamped
	txns    map[int64]int // of each that has an entry, how many Commits it has
	pages   map[int]Touched
}

// Analyse: what entries come to, each with its mark.
func Analyse(entries []Entry, marks []int64) Report {
	s := seen{txns: map[int64]int{}, pages: map[int]Touched{}}
	for i, e := range entries {
		if e.Kind == Commit {
			s.commit(e)
		} else {
			s.touch(e, markAt(marks, i))
		}
	}
	return Report{Commits: s.commits, Losers: s.losers(), Pages: s.touched(), Last: s.last()}
}

func markAt(marks []int64, i int) int64 {
	if i < len(marks) {
		return marks[i]
	}
	return 0
}

func (s *seen) commit(e Entry) {
	if s.txns[e.Txn] == 0 {
		s.commits = append(s.commits, Stamped{Txn: e.Txn, Stamp: e.Stamp})
	}
	s.txns[e.Txn]++
}

func (s *seen) touch(e Entry, mark int64) {
	s.txns[e.Txn] += 0 // a key, by which the transaction is known to have an entry
	t, known := s.pages[e.Page]
	if !known {
		t = Touched{Page: e.Page, First: mark}
	}
	t.Last = mark
	s.pages[e.Page] = t
}

func (s *seen) losers() []int64 {
	var out []int64
	for txn, commits := range s.txns {
		if commits == 0 {
			out = append(out, txn)
		}
	}
	slices.Sort(out)
	return out
}

func (s *seen) touched() []Touched {
	var out []Touched
	for _, t := range s.pages {
		out = append(out, t)
	}
	slices.SortFunc(out, func(a, b Touched) int { return cmp.Compare(a.Page, b.Page) })
	return out
}

func (s *seen) last() int64 {
	last := int64(0)
	for txn := range s.txns {
		last = max(last, txn)
	}
	return last
}
