package deponent_test

import (
	"bytes"
	"testing"

	"deponent/api"
	"deponent/deponent"
)

// at is a machine whose PC is 50, where the word stands, with these words in registers 1 and 2; cell 20 has 777.
func at(t *testing.T, word, r1, r2 int, sources ...api.Source) *deponent.Machine {
	t.Helper()
	words := make([]int, 51)
	words[0] = in(api.Load, 1, 0, 0, 10)
	words[1] = in(api.Load, 2, 0, 0, 11)
	words[2] = in(api.Call, 7, 0, 0, 50)
	words[10], words[11], words[20], words[50] = r1, r2, 777, word
	m := machine(t, words, sources...)
	if n, e := m.Run(3); n != 3 || e != api.OK {
		t.Fatalf("Run(3) = %d, %d", n, e)
	}
	return m
}

func TestExampleTwo(t *testing.T) { // P5
	m := machine(t, []int{746586117, 8388608})
	for n, want := range []api.State{
		{PC: 1, Steps: 1, Registers: [8]int{1: 5}},
		{PC: 1, Steps: 2, Registers: [8]int{1: 5}, Over: true, Code: 5},
		{PC: 1, Steps: 2, Registers: [8]int{1: 5}, Over: true, Code: 5},
	} {
		e := m.Step()
		s := m.Look()
		want.Root = s.Root
		if e != api.OK || s != want {
			t.Errorf("P5: behind step %d: %+v, %d, want %+v", n, s, e, want)
		}
	}
}

// What gives register 3 a word, out of registers 1 and 2, and goes on to the next cell.
func TestInstructionsThatGiveAWord(t *testing.T) { // P5
	for _, c := range []struct {
		word, r1, r2, want int
	}{
		{in(api.Add, 3, 1, 2, 0), 2, 3, 5},
		{in(api.Add, 3, 1, 2, -1), top, top, top - 1},
		{in(api.Sub, 3, 1, 2, 0), 3, 2, 1},
		{in(api.Sub, 3, 1, 2, 0), 0, top, 1},
		{in(api.Sub, 3, 2, 1, 0), 3, 2, top},
		{in(api.Mul, 3, 1, 2, 0), 3, 5, 15},
		{in(api.Mul, 3, 1, 2, 0), 1 << 31, 3, 1 << 31},
		{in(api.And, 3, 1, 2, 0), 0xff00ff0f, 0x0ff0f0ff, 0x0f00f00f},
		{in(api.Or, 3, 1, 2, 0), 0xff000000, 0x0ff0000f, 0xfff0000f},
		{in(api.Xor, 3, 1, 2, 0), 0xff000000, 0x0ff0000f, 0xf0f0000f},
		{in(api.Shl, 3, 1, 2, 0), 5, 0, 5},
		{in(api.Shl, 3, 1, 2, 0), 5, 30, 1 << 30},
		{in(api.Shl, 3, 1, 2, 0), 5, 32, 5},
		{in(api.Shl, 3, 1, 2, 0), 5, top, 1 << 31},
		{in(api.Shr, 3, 1, 2, 0), 1 << 31, 31, 1},
		{in(api.Shr, 3, 1, 2, 0), 1 << 31, 1, 1 << 30},
		{in(api.Shr, 3, 1, 2, 0), 40, 34, 10},
		{in(api.Less, 3, 1, 2, 0), top, 1, 1},
		{in(api.Less, 3, 1, 2, 0), 1, top, 0},
		{in(api.Less, 3, 1, 2, 0), 1 << 31, 1<<31 - 1, 1},
		{in(api.Less, 3, 1, 2, 0), 4, 4, 0},
		{in(api.Less, 3, 1, 2, 0), 4, 5, 1},
		{in(api.Div, 3, 1, 2, 0), 7, 2, 3},
		{in(api.Div, 3, 1, 2, 0), top, top, 1},
		{in(api.Div, 3, 1, 2, 0), top, 2, 1<<31 - 1},
		{in(api.Div, 3, 1, 2, 0), 0, 5, 0},
		{in(api.Set, 3, 1, 2, 65535), 1, 9, 65536},
		{in(api.Set, 3, 1, 2, -65536), 1, 9, top - 65534},
		{in(api.Set, 3, 1, 2, 1), top, 9, 0},
		{in(api.High, 3, 1, 2, 65535), 1, 9, 65535 * 32768},
		{in(api.High, 3, 1, 2, -65536), 1, 9, 1 << 31},
		{in(api.High, 3, 1, 2, -1), 1, 9, top - 32767},
		{in(api.Load, 3, 1, 2, 0), 20, 9, 777},
		{in(api.Load, 3, 1, 2, 21), top, 9, 777},
		{in(api.Load, 3, 1, 2, -235), 255, 9, 777},
		{in(api.Load, 3, 1, 2, 1), 254, 9, 0},
	} {
		m := at(t, c.word, c.r1, c.r2)
		want := m.Look()
		want.Registers[3], want.PC, want.Steps = c.want, 51, 4
		if e := m.Step(); e != api.OK || m.Look() != want {
			t.Errorf("P5: %d of %d, %d: %+v, %d, want %+v", c.word>>26, c.r1, c.r2, m.Look(), e, want)
		}
	}
}

func TestInstructionsOfOneRegister(t *testing.T) { // P5
	for op, want := range map[int]int{api.Add: 12, api.Sub: 0, api.Mul: 36, api.Xor: 0, api.Div: 1, api.Set: 5, api.Less: 0} {
		m := at(t, in(op, 1, 1, 1, -1), 6, 0)
		if e := m.Step(); e != api.OK || m.Look().Registers[1] != want {
			t.Errorf("P5: %d: %+v, %d", op, m.Look(), e)
		}
	}
}

func TestJumps(t *testing.T) { // P5
	for _, c := range []struct {
		word, r1, r2, pc int
	}{
		{in(api.Same, 1, 2, 0, 5), 7, 7, 56},
		{in(api.Same, 1, 2, 0, -1), 7, 7, 50},
		{in(api.Same, 1, 2, 0, 5), 7, 8, 51},
		{in(api.Same, 1, 2, 0, -65536), 7, 7, top + 1 + 51 - 65536},
		{in(api.Other, 1, 2, 0, 65535), 7, 8, 51 + 65535},
		{in(api.Other, 1, 2, 0, 5), 7, 7, 51},
		{in(api.Under, 1, 2, 0, 5), 1, top, 56},
		{in(api.Under, 1, 2, 0, 5), top, 1, 51},
		{in(api.Under, 1, 2, 0, 5), 7, 7, 51},
	} {
		m := at(t, c.word, c.r1, c.r2)
		want := m.Look()
		want.PC, want.Steps = c.pc, 4
		if e := m.Step(); e != api.OK || m.Look() != want {
			t.Errorf("P5: %d of %d, %d: %+v, %d, want %+v", c.word>>26, c.r1, c.r2, m.Look(), e, want)
		}
	}
}

func TestCall(t *testing.T) { // P5
	for _, c := range []struct {
		a, n, r1, pc int
	}{{3, 10, 90, 100}, {1, 10, 90, 100}, {3, -1, 0, top}, {1, 1, top, 0}} {
		m := at(t, in(api.Call, c.a, 1, 0, c.n), c.r1, 0)
		want := m.Look()
		want.Registers[c.a], want.PC, want.Steps = 51, c.pc, 4
		if e := m.Step(); e != api.OK || m.Look() != want {
			t.Errorf("P5: CALL: %+v, %d, want %+v", m.Look(), e, want)
		}
	}
}

func TestStore(t *testing.T) { // P5
	for _, c := range []struct{ r2, n, cell int }{{0, 0, 0}, {top, 256, 255}, {300, -100, 200}, {0, 50, 50}} {
		m := at(t, in(api.Store, 1, 2, 0, c.n), 4000000000, c.r2)
		want, words := m.Look(), cells(t, m)
		words[c.cell] = 4000000000
		want.PC, want.Steps, want.Root = 51, 4, rootOf(words[:])
		if e := m.Step(); e != api.OK || m.Look() != want || cells(t, m) != words {
			t.Errorf("P5: STORE: %+v, %d, want %+v", m.Look(), e, want)
		}
	}
}

func TestHalt(t *testing.T) { // P5
	m := at(t, in(api.Halt, 1, 2, 3, -1), top, 0)
	want := m.Look()
	want.Over, want.Code, want.Steps = true, top, 4
	for range 3 {
		if e := m.Step(); e != api.OK || m.Look() != want {
			t.Errorf("P5: HALT: %+v, %d, want %+v", m.Look(), e, want)
		}
	}
}

func TestAsk(t *testing.T) { // P5
	text := api.Source{0x81, 2, 3, 4, 5, 6}
	name := deponent.Sum(text)
	for _, c := range []struct{ name, place, want int }{
		{name, 0, 0x81020304},
		{name, 2, 0x03040506},
		{name, 3, 0x04050600},
		{name, 5, 0x06000000},
		{name, 6, 0},
		{name, top, 0},
		{name, top - 2, 0},
		{7, 0, 0},
	} {
		m := at(t, in(api.Ask, 3, 1, 2, 5), c.name, c.place, api.Source("other"), text, nil)
		want := m.Look()
		want.Registers[3], want.PC, want.Steps = c.want, 51, 4
		if e := m.Step(); e != api.OK || m.Look() != want {
			t.Errorf("P5: ASK at %d: %+v, %d, want %+v", c.place, m.Look(), e, want)
		}
	}
}

func TestAskOfTwoSourcesWithOneName(t *testing.T) { // P5
	one, two := sameSum()
	for _, sources := range [][]api.Source{{nil, one, two}, {nil, two, one}} {
		m := at(t, in(api.Ask, 3, 1, 2, 0), deponent.Sum(one), 0, sources...)
		if e := m.Step(); e != api.OK || !bytes.Equal(bytesOf(m.Look().Registers[3]), sources[1]) {
			t.Errorf("P5: ASK: %+v, %d, want %v", m.Look(), e, sources[1])
		}
	}
}

func TestStepsThatAreErrors(t *testing.T) { // P1, P5
	text := api.Source("abc")
	for _, c := range []struct {
		word, r1, r2 int
		want         api.Errno
	}{
		{in(api.Div, 3, 1, 2, 0), 5, 0, api.ErrDivide},
		{in(api.Div, 3, 1, 2, 0), 0, 0, api.ErrDivide},
		{in(api.Load, 3, 1, 0, 1), 255, 0, api.ErrAddress},
		{in(api.Load, 3, 1, 0, -1), 0, 0, api.ErrAddress},
		{in(api.Load, 3, 1, 0, 0), 1 << 31, 0, api.ErrAddress},
		{in(api.Store, 1, 2, 0, 0), 5, 256, api.ErrAddress},
		{in(api.Store, 1, 2, 0, -1), 5, 0, api.ErrAddress},
		{in(api.Ask, 3, 1, 2, 0), 8, 0, api.ErrSource},
		{in(api.Ask, 3, 1, 2, 0), 65521 + deponent.Sum(text), 0, api.ErrSource},
		{in(api.Ask, 3, 1, 2, 0), 7, 0, api.ErrSource},
		{in(20, 3, 1, 2, 0), 5, 5, api.ErrOp},
		{in(32, 3, 1, 2, 0), 5, 5, api.ErrOp},
		{top, 5, 5, api.ErrOp},
	} {
		m := at(t, c.word, c.r1, c.r2, text)
		was, stamp, words := m.Look(), m.Stamp(), cells(t, m)
		for range 2 {
			if e := m.Step(); e != c.want {
				t.Errorf("P5: %d of %d, %d: error %d, want %d", c.word>>26, c.r1, c.r2, e, c.want)
			}
			if n, e := m.Run(5); n != 0 || e != c.want {
				t.Errorf("P5: %d of %d, %d: Run = %d, %d, want %d", c.word>>26, c.r1, c.r2, n, e, c.want)
			}
		}
		if m.Look() != was || m.Stamp() != stamp || cells(t, m) != words {
			t.Errorf("P1: %d of %d, %d: %+v, was %+v", c.word>>26, c.r1, c.r2, m.Look(), was)
		}
	}
}

func TestPCThatIsNoCell(t *testing.T) { // P5
	for _, n := range []int{-1, 256, 65535, -65536} {
		m := machine(t, []int{in(api.Call, 1, 0, 0, n)})
		if e := m.Step(); e != api.OK || m.Look().PC != n&top {
			t.Fatalf("P5: CALL: %d, %+v", e, m.Look())
		}
		was := m.Look()
		if e := m.Step(); e != api.ErrAddress || m.Look() != was {
			t.Errorf("P5: PC %d: %d, %+v", n&top, e, m.Look())
		}
	}
	words := make([]int, api.Cells)
	words[0], words[255] = in(api.Call, 1, 0, 0, 255), in(api.Set, 2, 0, 0, 9)
	m := machine(t, words)
	if n, e := m.Run(9); n != 2 || e != api.ErrAddress || m.Look().PC != 256 || m.Look().Registers[2] != 9 {
		t.Errorf("P5: behind the last cell: %d, %d, %+v", n, e, m.Look())
	}
}
