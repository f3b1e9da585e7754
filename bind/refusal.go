package bind

import "annals/api"

// refusal is what the inner functions give up with: a type of its own, so that no other panic is taken for it.
type refusal struct {
	code api.Errno
}

func giveUp(code api.Errno) {
	panic(refusal{code})
}

// told is the error of what a face has recovered, OK if that is nil. Any other panic is a mistake of this package, which no answer may hide: it goes on.
func told(recovered any) api.Errno {
	if recovered == nil {
		return api.OK
	}
	r, ok := recovered.(refusal)
	if !ok {
		panic(recovered)
	}
	return r.code
}
