package deponent_test

import (
	"math"
	"testing"

	"deponent/api"
)

func TestRunOfNumbersThatMayNotBe(t *testing.T) { // P1, P5
	m := machine(t, []int{in(api.Set, 1, 1, 0, 1), in(api.Call, 7, 0, 0, 0)})
	was := m.Look()
	for _, n := range []int{-1, 100001, 1 << 32, math.MaxInt, math.MinInt} {
		if done, e := m.Run(n); done != 0 || e != api.ErrArg || m.Look() != was {
			t.Errorf("P5: Run(%d) = %d, %d, %+v", n, done, e, m.Look())
		}
	}
	if done, e := m.Run(0); done != 0 || e != api.OK || m.Look() != was {
		t.Errorf("P5: Run(0) = %d, %d", done, e)
	}
}

func TestRunIsStepsInARow(t *testing.T) { // P5
	words := []int{in(api.Set, 1, 1, 0, 1), in(api.Mul, 2, 1, 1, 0), in(api.Store, 2, 0, 0, 100), in(api.Call, 7, 0, 0, 0)}
	one, two := machine(t, words), machine(t, words)
	for _, n := range []int{1, 2, 3, 5, 8, 100} {
		if done, e := one.Run(n); done != n || e != api.OK {
			t.Fatalf("P5: Run(%d) = %d, %d", n, done, e)
		}
		for range n {
			two.Step()
		}
		if one.Look() != two.Look() || cells(t, one) != cells(t, two) {
			t.Errorf("P5: Run(%d): %+v, want %+v", n, one.Look(), two.Look())
		}
	}
}

func TestLongestRun(t *testing.T) { // P5
	m := machine(t, []int{in(api.Set, 1, 1, 0, 1), in(api.Call, 7, 0, 0, 0)})
	if done, e := m.Run(100000); done != 100000 || e != api.OK {
		t.Errorf("P5: Run = %d, %d", done, e)
	}
	if s := m.Look(); s.Steps != 100000 || s.Registers[1] != 50000 {
		t.Errorf("P5: %+v", s)
	}
}

func TestRunEndsWhenItIsOver(t *testing.T) { // P5
	m := machine(t, []int{in(api.Set, 1, 0, 0, 5), in(api.Halt, 1, 0, 0, 0)})
	for _, want := range []int{2, 0, 0} {
		if done, e := m.Run(9); done != want || e != api.OK {
			t.Errorf("P5: Run = %d, %d, want %d", done, e, want)
		}
		if s := m.Look(); !s.Over || s.Code != 5 || s.Steps != 2 || s.PC != 1 {
			t.Errorf("P5: %+v", s)
		}
	}
	if done, e := m.Run(-1); done != 0 || e != api.ErrArg {
		t.Errorf("P5: Run(-1) of what is over = %d, %d", done, e)
	}
}

func TestRunEndsAtAnError(t *testing.T) { // P1, P5
	m := machine(t, []int{in(api.Set, 1, 0, 0, 5), in(api.Store, 1, 0, 0, 9), in(api.Div, 1, 1, 0, 0), 0})
	if done, e := m.Run(2); done != 2 || e != api.OK {
		t.Errorf("P5: Run(2) = %d, %d", done, e)
	}
	m = machine(t, []int{in(api.Set, 1, 0, 0, 5), in(api.Store, 1, 0, 0, 9), in(api.Div, 1, 1, 0, 0), 0})
	for _, want := range []int{2, 0} {
		if done, e := m.Run(3); done != want || e != api.ErrDivide {
			t.Errorf("P5: Run(3) = %d, %d, want %d", done, e, want)
		}
		s := m.Look()
		if word, _ := m.Cell(9); word != 5 || s.PC != 2 || s.Steps != 2 || s.Registers[1] != 5 || s.Over {
			t.Errorf("P5: %+v, cell 9 has %d", s, word)
		}
	}
}
