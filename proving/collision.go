package proving

import (
	"bytes"

	"deponent/api"
	"deponent/core"
	"deponent/memory"
)

// Collision shows two different texts with one sum, if the witness is taken, but tells of another step than the machine's. Of a step that asks for a source that is not here nothing can be told.
func Collision(state core.State, cells memory.Cells, witness []byte) ([]byte, []byte, bool) {
	stamp := state.Stamp(cells.Root())
	told, own := hear(stamp, witness), do(state, cells)
	if told.e != api.OK || own.e == api.ErrSource || own.e == api.OK && own.after == told.after {
		return nil, nil, false
	}
	return parting(hear(stamp, own.shown).texts, told.texts)
}

// parting is where two accounts of one stamp first differ. Up to there they name the same sums: so these two texts have one.
func parting(own, told [][]byte) ([]byte, []byte, bool) {
	for n := range min(len(own), len(told)) {
		if !bytes.Equal(own[n], told[n]) {
			return own[n], told[n], true
		}
	}
	return nil, nil, false
}
