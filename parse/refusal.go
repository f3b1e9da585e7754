package parse

import "annals/api"

// refusal is what the inner functions give up with: a type of its own, so that no other panic is taken for it.
type refusal struct {
	api.Fault
}

func giveUp(code api.Errno, at int) {
	panic(refusal{api.Fault{Code: code, At: at}})
}

// told is the fault of what a face has recovered, none if that is nil. Any other panic is a mistake of this package, which no answer may hide: it goes on.
func told(recovered any) api.Fault {
	if recovered == nil {
		return api.Fault{}
	}
	r, ok := recovered.(refusal)
	if !ok {
		panic(recovered)
	}
	return r.Fault
}
