// Package core: the state of a machine but for its memory, and what a step makes of it.
package core

import (
	"deponent/api"
	"deponent/digest"
	"deponent/parts"
)

// State of a machine but for its memory. Its numbers are words, so they wrap round as words do.
type State struct {
	PC, Steps, Code uint32
	Over            bool
	Registers       [8]uint32
}

// labelSize: three words, a byte, the registers and the root.
const labelSize = 47

// Label of the state, with this root of its memory.
func (s State) Label(root int) []byte {
	label := make([]byte, 0, labelSize)
	label = append(label, digest.Word(s.PC)...)
	label = append(label, digest.Word(s.Steps)...)
	label = append(label, digest.Word(s.Code)...)
	label = append(label, byte(one(s.Over)))
	for _, word := range s.Registers {
		label = append(label, digest.Word(word)...)
	}
	return append(label, digest.Two(root)...)
}

// CutLabel takes a label off a witness: the state, and the root of its memory.
func CutLabel(p *parts.Parts) (State, int) {
	s := State{PC: p.Word(), Steps: p.Word(), Code: p.Word()}
	over := p.Byte()
	p.Require(over <= 1)
	s.Over = over == 1
	for n := range s.Registers {
		s.Registers[n] = p.Word()
	}
	return s, p.Two()
}

// Stamp of the state, with this root of its memory.
func (s State) Stamp(root int) int {
	return digest.Sum(s.Label(root))
}

// Look is the state as it is told, with this root of its memory.
func (s State) Look(root int) api.State {
	told := api.State{PC: int(s.PC), Steps: int(s.Steps), Code: int(s.Code), Over: s.Over, Root: root}
	for n, word := range s.Registers {
		told.Registers[n] = int(word)
	}
	return told
}

// one is 1 if it holds, else 0.
func one(holds bool) uint32 {
	if holds {
		return 1
	}
	return 0
}
