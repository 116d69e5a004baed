// Package deponent: a machine that can prove each of its steps, one who checks that, and a dispute between two: see DOC.md.
package deponent

import (
	"deponent/api"
	"deponent/core"
	"deponent/digest"
	"deponent/dispute"
	"deponent/memory"
	"deponent/proving"
)

// Machine runs a program.
type Machine struct {
	state core.State
	cells memory.Cells
}

// Sum of some parts (P3).
func Sum(parts ...[]byte) int { return digest.Sum(parts...) }

// New makes a machine (P4).
func New(words []int, sources ...api.Source) (*Machine, api.Errno) {
	cells, e := memory.New(words, sources)
	if e != api.OK {
		return nil, e
	}
	return &Machine{cells: cells}, api.OK
}

// Step does one step (P5).
func (m *Machine) Step() api.Errno {
	_, e := m.run(1)
	return e
}

// Run does some steps (P5).
func (m *Machine) Run(n int) (int, api.Errno) {
	if n < 0 || n > api.MaxRun {
		return 0, api.ErrArg
	}
	return m.run(n)
}

// run lets a core do the steps on the machine's own cells.
func (m *Machine) run(n int) (int, api.Errno) {
	c := core.Core{State: m.state, Memory: &m.cells}
	done, e := c.Run(n)
	m.state = c.State
	return done, e
}

// Look tells the state (P6).
func (m *Machine) Look() api.State { return m.state.Look(m.cells.Root()) }

// Cell tells a cell's word (P6).
func (m *Machine) Cell(n int) (int, api.Errno) {
	if n < 0 || n >= api.Cells {
		return 0, api.ErrArg
	}
	word, e := m.cells.Load(uint32(n))
	return int(word), e
}

// Stamp of the state (P6).
func (m *Machine) Stamp() int { return m.state.Stamp(m.cells.Root()) }

// Witness of the next step (P7).
func (m *Machine) Witness() ([]byte, api.Errno) { return proving.Witness(m.state, m.cells) }

// Check tells the stamp behind a step, by its witness alone (P8).
func Check(stamp int, witness []byte) (int, api.Errno) { return proving.Check(stamp, witness) }

// Collision shows two texts with one sum (P10).
func (m *Machine) Collision(witness []byte) ([]byte, []byte, bool) {
	return proving.Collision(m.state, m.cells, witness)
}

// Settle a dispute (P11).
func Settle(depth, first, last int, moves []api.Move, witness []byte) (api.Verdict, api.Errno) {
	return dispute.Settle(depth, first, last, moves, witness)
}

// Answer is the honest move (P12).
func (m *Machine) Answer(depth int, asked []bool) (int, api.Errno) {
	steps, e := dispute.Middle(depth, asked)
	if e != api.OK {
		return 0, e
	}
	ahead := *m // m stays where it is
	if _, e := ahead.run(steps); e != api.OK {
		return 0, e
	}
	return ahead.Stamp(), api.OK
}
