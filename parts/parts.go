// Package parts: a witness, cut into its parts from the front.
package parts

import "errors"

// ErrWrong is what a witness that is none is given up with: by a panic, as nothing that reads on could be of use, and the core that asks for a part knows of no such error.
var ErrWrong = errors.New("the witness is none")

// Parts is what is left of a witness.
type Parts struct {
	rest []byte
}

// Of has all parts of the witness, which is only read.
func Of(witness []byte) *Parts {
	return &Parts{rest: witness}
}

// Require gives the witness up, unless it holds.
func (p *Parts) Require(holds bool) {
	if !holds {
		panic(ErrWrong)
	}
}

// Cut takes the next part off. It has no spare room: so what is put behind it cannot reach the next one.
func (p *Parts) Cut(size int) []byte {
	p.Require(size <= len(p.rest))
	part := p.rest[:size:size]
	p.rest = p.rest[size:]
	return part
}

// Byte takes the next byte off.
func (p *Parts) Byte() byte {
	return p.Cut(1)[0]
}

// Two takes the next number of two bytes off.
func (p *Parts) Two() int {
	part := p.Cut(2)
	return int(part[0])<<8 | int(part[1])
}

// Word takes the next word off.
func (p *Parts) Word() uint32 {
	return uint32(p.Two())<<16 | uint32(p.Two())
}

// End gives the witness up, if anything is left of it.
func (p *Parts) End() {
	p.Require(len(p.rest) == 0)
}
