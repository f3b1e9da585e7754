package script

import "annals/api"

// statement is the answer to what a session says.
func (d *Driver) statement(who int, text string) []string {
	r := d.Exec(who, text, d.oracle)
	if r.Code != api.OK {
		return []string{refused(r.Code) + " " + digits(int64(r.At))}
	}
	var out []string
	for _, f := range r.Facts {
		out = append(out, "row "+fact(f))
	}
	return append(out, "ok "+digits(int64(r.Rows)))
}

// command is the answer to a line that isn't a session's.
func (d *Driver) command(name string, args []string) []string {
	switch {
	case name == "history" && len(args) == 1:
		return d.history(args[0])
	case name == "crash" && len(args) == 3:
		return d.crash(args[0], args[1], args[2])
	case name == "tick" && len(args) == 1:
		return withNumber(args[0], func(n int) { d.Tick(int64(n)) })
	case name == "plan" && len(args) == 1:
		return withNumber(args[0], func(n int) { d.oracle = n })
	}
	return unknown()
}

func (d *Driver) history(table string) []string {
	versions, bad := d.History(table)
	if bad != api.OK {
		return []string{refused(bad)}
	}
	var out []string
	for _, v := range versions {
		line := "version " + fact(v.Fact) + " since " + digits(v.Since)
		if v.Until != 0 {
			line += " until " + digits(v.Until)
		}
		out = append(out, line)
	}
	return append(out, done)
}

// crash reads all its words first: one that is wrong must leave the disk as it is.
func (d *Driver) crash(keep, tear, at string) []string {
	kept, right := flags(keep)
	torn, whole := number(tear)
	place, fine := number(at)
	if !right || !whole || !fine {
		return unknown()
	}
	d.Crash(kept, torn, place)
	return []string{done}
}

// withNumber does something with the number that a word is.
func withNumber(word string, do func(n int)) []string {
	n, ok := number(word)
	if !ok {
		return unknown()
	}
	do(n)
	return []string{done}
}
