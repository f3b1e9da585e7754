package session

import "annals/api"

// refusal is what a statement gives up with: a type of its own, so that no other panic is taken for it.
type refusal struct {
	code api.Errno
}

// must gives up at an error.
func must(code api.Errno) {
	if code != api.OK {
		panic(refusal{code})
	}
}

// got is what a call answers; it gives up if that is an error.
func got[T any](answer T, code api.Errno) T {
	must(code)
	return answer
}

// told is the error of what was recovered, OK if that is nil. Any other panic is a mistake of this package, which no answer may hide: it goes on.
func told(recovered any) api.Errno {
	if recovered == nil {
		return api.OK
	}
	r, ok := recovered.(refusal)
	if !ok {
		panic(recovered)
	}
	return r.code
}
