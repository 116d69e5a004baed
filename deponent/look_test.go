package deponent_test

import (
	"math"
	"testing"

	"deponent/api"
)

func TestCell(t *testing.T) { // P6
	m := machine(t, []int{in(api.High, 1, 0, 0, -1), in(api.Store, 1, 0, 0, 255), 7})
	m.Run(2)
	for n, want := range map[int]int{2: 7, 3: 0, 254: 0, 255: top - 32767} {
		if word, e := m.Cell(n); word != want || e != api.OK {
			t.Errorf("P6: Cell(%d) = %d, %d, want %d", n, word, e, want)
		}
	}
	for _, n := range []int{-1, 256, 1 << 32, 1<<32 + 2, math.MaxInt, math.MinInt} {
		if word, e := m.Cell(n); word != 0 || e != api.ErrArg {
			t.Errorf("P6: Cell(%d) = %d, %d", n, word, e)
		}
	}
}

func TestLookAndStamp(t *testing.T) { // P6
	m := machine(t, []int{
		in(api.Set, 1, 0, 0, -2),
		in(api.Call, 7, 0, 0, 3),
		0,
		in(api.Store, 1, 0, 0, 200),
		in(api.Halt, 1, 0, 0, 0),
	})
	for n, want := range []api.State{
		{},
		{PC: 1, Steps: 1, Registers: [8]int{1: top - 1}},
		{PC: 3, Steps: 2, Registers: [8]int{1: top - 1, 7: 2}},
		{PC: 4, Steps: 3, Registers: [8]int{1: top - 1, 7: 2}},
		{PC: 4, Steps: 4, Registers: [8]int{1: top - 1, 7: 2}, Over: true, Code: top - 1},
	} {
		words := cells(t, m)
		want.Root = rootOf(words[:])
		if s := m.Look(); s != want || m.Look() != s {
			t.Errorf("P6: behind %d steps: %+v, want %+v", n, s, want)
		}
		if s := m.Stamp(); s != stampOf(want) || m.Stamp() != s {
			t.Errorf("P6: behind %d steps: stamp %d, want %d", n, s, stampOf(want))
		}
		if e := m.Step(); e != api.OK {
			t.Fatalf("P5: Step: %d", e)
		}
	}
	if word, _ := m.Cell(200); word != top-1 {
		t.Errorf("P5: Cell(200) = %d behind a STORE", word)
	}
}

func TestLookingChangesNothing(t *testing.T) { // P2, P6
	m := machine(t, []int{in(api.Set, 1, 1, 0, 1), in(api.Call, 7, 0, 0, 0)})
	s := m.Look()
	s.PC, s.Registers[1], s.Root = 9, 9, 9
	m.Stamp()
	m.Cell(0)
	m.Cell(-1)
	if s := m.Look(); s.PC != 0 || s.Registers[1] != 0 || s.Steps != 0 {
		t.Errorf("P6: %+v", s)
	}
}
