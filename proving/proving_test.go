package proving

import (
	"testing"

	"deponent/api"
	"deponent/core"
	"deponent/memory"
)

// No program can count that far in a test: so the states are given.
func TestStatesThatAreFarOff(t *testing.T) { // P7, P9
	const top = 1<<32 - 1
	words := make([]int, api.Cells)
	words[255] = api.Store<<26 | 1<<23 | 2<<20
	cells, _ := memory.New(words, nil)
	root := cells.Root()
	for _, s := range []core.State{
		{PC: 255, Steps: top, Code: top, Registers: [8]uint32{1: top, 2: 255, 7: top}},
		{PC: 254, Steps: 1 << 31, Code: 1, Registers: [8]uint32{top, 1, top, 1, top, 1, top, 1}},
		{PC: top, Steps: top, Code: top, Over: true},
	} {
		w, e := Witness(s, cells)
		if e != api.OK || cells.Root() != root {
			t.Fatalf("P7: Witness: %d, root %d", e, cells.Root())
		}
		own := cells
		c := core.Core{State: s, Memory: &own}
		c.Step()
		after, e := Check(s.Stamp(root), w)
		if want := c.Stamp(own.Root()); after != want || e != api.OK {
			t.Errorf("P9: Check = %d, %d, want %d", after, e, want)
		}
	}
}

func TestErrorsOfStatesThatAreFarOff(t *testing.T) { // P7, P8
	cells, _ := memory.New([]int{api.Div << 26}, nil)
	root := cells.Root()
	for want, s := range map[api.Errno]core.State{
		api.ErrAddress: {PC: 1 << 31, Steps: 1<<32 - 1},
		api.ErrDivide:  {Steps: 1<<32 - 1},
	} {
		if w, e := Witness(s, cells); w != nil || e != want {
			t.Errorf("P7: Witness = %v, %d, want %d", w, e, want)
		}
		w := s.Label(root)
		if want == api.ErrDivide {
			record := memory.Record{Cells: cells}
			record.Load(s.PC)
			w = append(w, record.Shown...)
		}
		if n, e := Check(s.Stamp(root), w); n != 0 || e != want {
			t.Errorf("P8: Check = %d, %d, want %d", n, e, want)
		}
	}
}
