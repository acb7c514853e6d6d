package machine

import (
	"abacus/api"
	"abacus/code"
	"abacus/store"
	"abacus/value"
)

// run is a code, which has been checked, on its way over a store.
type run struct {
	code  api.Code
	store *store.Store
	place int         // of the instruction that comes next
	stack []api.Value // each plain, though its text may be the code's own memory
}

// carriedOut is the value of a code that has been checked, and how many instructions it took; height is the highest that the stack becomes.
func carriedOut(c api.Code, height int, s *store.Store) (api.Value, int, api.Errno) {
	r := &run{code: c, store: s, stack: make([]api.Value, 0, height)}
	words := operations()
	steps := 0
	for r.place < len(c.Ops) {
		if e := r.step(&words); e != api.OK {
			return api.Value{}, 0, e
		}
		steps++
	}
	return value.Plain(r.stack[0]), steps, api.OK
}

// step carries out the instruction that comes next.
func (r *run) step(words *table) api.Errno {
	in := r.code.Ops[r.place]
	r.place++ // ahead of the operation, which may jump
	takes, puts, _ := code.Effect(in)
	rest := len(r.stack) - takes
	v, e := words[in.Word](r, in, r.stack[rest:])
	if e != api.OK {
		return e
	}
	clear(r.stack[rest:]) // so that no text is held that is on the stack no more
	r.stack = r.stack[:rest]
	if puts > 0 {
		r.stack = append(r.stack, v)
	}
	return api.OK
}
