// Package proving: the witness of a step, what one who has nothing else knows by it, and what a machine holds against one that is wrong.
package proving

import (
	"deponent/api"
	"deponent/core"
	"deponent/digest"
	"deponent/memory"
	"deponent/parts"
)

// Witness of the next step, or that step's error.
func Witness(state core.State, cells memory.Cells) ([]byte, api.Errno) {
	own := do(state, cells)
	if own.e != api.OK {
		return nil, own.e
	}
	return own.shown, api.OK
}

// deed is a machine's next step.
type deed struct {
	// shown is what proves it; of one with an error, as far as it came.
	shown []byte
	after int
	e     api.Errno
}

// do does the next step on copies: the machine stays as it is.
func do(state core.State, cells memory.Cells) deed {
	label := state.Label(cells.Root())
	record := memory.Record{Cells: cells}
	c := core.Core{State: state, Memory: &record}
	e := c.Step()
	return deed{shown: append(label, record.Shown...), after: c.Stamp(record.Root()), e: e}
}

// Check tells the stamp behind the step, or the step's error.
func Check(stamp int, witness []byte) (int, api.Errno) {
	told := hear(stamp, witness)
	return told.after, told.e
}

// account is what a witness tells one who knows the stamp.
type account struct {
	// texts that were believed for their sums: the label's is the stamp, and each other's is known by the texts ahead of it.
	texts [][]byte
	after int
	e     api.Errno
}

// hear takes a witness's account. What is no witness of a state with this stamp is given up somewhere inside, and ends here.
func hear(stamp int, witness []byte) (told account) {
	defer func() {
		switch given := recover(); given {
		case nil:
		case parts.ErrWrong:
			told = account{e: api.ErrWitness}
		default:
			panic(given) // a fault of the program must not pass for one of the witness
		}
	}()
	return follow(stamp, parts.Of(witness))
}

// follow does the step that the witness is of. That nothing is left is asked last, but of a step with an error too: it is the wrong witness that is named first.
func follow(stamp int, p *parts.Parts) account {
	state, root := core.CutLabel(p)
	label := state.Label(root)
	p.Require(digest.Sum(label) == stamp)
	proofs := memory.Proven(root, p)
	c := core.Core{State: state, Memory: &proofs}
	e := c.Step()
	p.End()
	told := account{texts: append([][]byte{label}, proofs.Texts...), e: e}
	if e == api.OK {
		told.after = c.Stamp(proofs.Root())
	}
	return told
}
