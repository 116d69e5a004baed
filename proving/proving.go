// Package proving: the witness of a step, and what one who has nothing else knows by it.
package proving

import (
	"deponent/api"
	"deponent/core"
	"deponent/memory"
	"deponent/parts"
)

// Witness of the next step, or that step's error. The step is done on copies: the machine stays as it is.
func Witness(state core.State, cells memory.Cells) ([]byte, api.Errno) {
	label := state.Label(cells.Root())
	record := memory.Record{Cells: cells}
	c := core.Core{State: state, Memory: &record}
	if e := c.Step(); e != api.OK {
		return nil, e
	}
	return append(label, record.Shown...), api.OK
}

// Check tells the stamp behind the step, or the step's error. What is no witness of a state with this stamp is given up somewhere inside, and ends here.
func Check(stamp int, witness []byte) (after int, e api.Errno) {
	defer func() {
		switch given := recover(); given {
		case nil:
		case parts.ErrWrong:
			after, e = 0, api.ErrWitness
		default:
			panic(given) // a fault of the program must not pass for one of the witness
		}
	}()
	return follow(stamp, parts.Of(witness))
}

// follow does the step that the witness is of. That nothing is left is asked last, but of a step with an error too: it is the wrong witness that is named first.
func follow(stamp int, p *parts.Parts) (int, api.Errno) {
	state, root := core.CutLabel(p)
	p.Require(state.Stamp(root) == stamp)
	proofs := memory.Proven(root, p)
	c := core.Core{State: state, Memory: &proofs}
	e := c.Step()
	p.End()
	if e != api.OK {
		return 0, e
	}
	return c.Stamp(proofs.Root()), api.OK
}
