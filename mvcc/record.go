package mvcc

// record is which keys were written, as far as somebody may still be across them.
type record struct {
	stamps map[string]int64 // the last stamp that each key was written with
	done   []writing        // by their stamps, rising
}

// writing is what was written with one stamp.
type writing struct {
	stamp int64
	keys  map[string]struct{}
}

// keep: keys were written with a stamp above all others.
func (r *record) keep(stamp int64, keys map[string]struct{}) {
	for key := range keys {
		r.stamps[key] = stamp
	}
	r.done = append(r.done, writing{stamp, keys})
}

// crosses: was a key of a transaction written by another behind its snapshot?
func (r *record) crosses(a *transaction) bool {
	for key := range a.keys {
		// No stamp is below 1, so a key that nobody wrote crosses no snapshot.
		if r.stamps[key] > a.snapshot {
			return true
		}
	}
	return false
}

// forget: nobody asks any more about what was written with stamps up to this one.
func (r *record) forget(stamp int64) {
	for len(r.done) > 0 && r.done[0].stamp <= stamp {
		for key := range r.done[0].keys {
			if r.stamps[key] == r.done[0].stamp {
				delete(r.stamps, key)
			}
		}
		// Emptied, as the list's memory goes on behind it.
		r.done[0] = writing{}
		r.done = r.done[1:]
	}
}
