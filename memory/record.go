package memory

import "deponent/api"

// Record is a machine's own memory that also writes down what proves each answer: so a witness has just what the same core will reach for when it is checked.
type Record struct {
	Cells
	Shown []byte
}

// Load tells a cell's word, and proves it.
func (r *Record) Load(n uint32) (uint32, api.Errno) {
	r.prove(n)
	return r.Cells.Load(n)
}

// Store gives a cell its word, and proves the one it had.
func (r *Record) Store(n, word uint32) api.Errno {
	r.prove(n)
	return r.Cells.Store(n, word)
}

// Source is the first one that is called so, and all of it is shown.
func (r *Record) Source(name uint32) (api.Source, api.Errno) {
	source, e := r.Cells.Source(name)
	if e == api.OK {
		r.Shown = append(r.Shown, byte(len(source)))
		r.Shown = append(r.Shown, source...)
	}
	return source, e
}

// prove writes the proof of a cell down, if it is there.
func (r *Record) prove(n uint32) {
	if r.reach(n) == api.OK {
		r.Shown = append(r.Shown, r.proof(n).bytes()...)
	}
}
