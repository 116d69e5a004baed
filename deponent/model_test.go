package deponent_test

import (
	"math/rand"
	"testing"

	"deponent/api"
	"deponent/deponent"
)

// model is the document's step, told a second time: in numbers that do not wrap round by themselves.
type model struct {
	api.State
	words   [api.Cells]int
	sources []api.Source
}

func wrap(n int) int { return n & top }

func signed(word int) int {
	if word >= 1<<31 {
		return word - 1<<32
	}
	return word
}

func (m *model) step() api.Errno {
	if m.Over {
		return api.OK
	}
	if m.PC >= api.Cells {
		return api.ErrAddress
	}
	return m.perform(m.words[m.PC])
}

func (m *model) perform(word int) api.Errno {
	op, n := word/67108864, word%131072
	if n >= 65536 {
		n -= 131072
	}
	a, b, c := &m.Registers[word/8388608%8], m.Registers[word/1048576%8], m.Registers[word/131072%8]
	next, e := m.apply(op, n, a, b, c)
	if e != api.OK {
		return e
	}
	m.PC, m.Steps = next, wrap(m.Steps+1)
	return api.OK
}

// apply tells where PC is behind the instruction.
func (m *model) apply(op, n int, a *int, b, c int) (int, api.Errno) {
	next, cell := wrap(m.PC+1), wrap(b+n)
	switch op {
	case api.Halt:
		m.Over, m.Code, next = true, *a, m.PC
	case api.Add:
		*a = wrap(b + c)
	case api.Sub:
		*a = wrap(b - c)
	case api.Mul:
		*a = int(uint64(b) * uint64(c) % (1 << 32))
	case api.And:
		*a = b & c
	case api.Or:
		*a = b | c
	case api.Xor:
		*a = b ^ c
	case api.Shl:
		*a = wrap(b << (c % 32))
	case api.Shr:
		*a = b >> (c % 32)
	case api.Less:
		*a = 0
		if signed(b) < signed(c) {
			*a = 1
		}
	case api.Div:
		if c == 0 {
			return 0, api.ErrDivide
		}
		*a = b / c
	case api.Set:
		*a = cell
	case api.High:
		*a = wrap(n * 32768)
	case api.Load, api.Store:
		if cell >= api.Cells {
			return 0, api.ErrAddress
		}
		if op == api.Load {
			*a = m.words[cell]
		} else {
			m.words[cell] = *a
		}
	case api.Same, api.Other, api.Under:
		if op == api.Same && *a == b || op == api.Other && *a != b || op == api.Under && *a < b {
			next = wrap(next + n)
		}
	case api.Call:
		*a, next = next, cell
	case api.Ask:
		word, e := m.ask(b, c)
		if e != api.OK {
			return 0, e
		}
		*a = word
	default:
		return 0, api.ErrOp
	}
	return next, api.OK
}

func (m *model) ask(name, place int) (int, api.Errno) {
	for _, s := range m.sources {
		if sumOf(s) != name {
			continue
		}
		padded := append([]byte(nil), s...)
		padded = append(padded, 0, 0, 0, 0)
		if place >= len(s) {
			return 0, api.OK
		}
		p := padded[place:]
		return int(p[0])<<24 + int(p[1])<<16 + int(p[2])<<8 + int(p[3]), api.OK
	}
	return 0, api.ErrSource
}

// program is of words most of which go on to the next: errors and ends are to be met, but not at once.
func program(r *rand.Rand, names []int) []int {
	words := make([]int, 40+r.Intn(api.Cells-40))
	for i := range words {
		op, n := 1+r.Intn(19), r.Intn(40)-8
		switch r.Intn(60) {
		case 0:
			op = 0
		case 1:
			op, n = r.Intn(64), r.Intn(131072)
		case 2, 3, 4, 5, 6, 7, 8, 9:
			op, n = api.Set, names[r.Intn(len(names))]
		case 10, 11, 12:
			op, n = api.High, r.Intn(131072)
		}
		words[i] = in(op, r.Intn(8), r.Intn(8), r.Intn(8), n)
	}
	return words
}

func TestMachineAgainstModel(t *testing.T) { // P5, P6
	r := rand.New(rand.NewSource(1))
	sources := []api.Source{api.Source("a source"), nil, {255, 254, 253, 252, 251}}
	names := []int{deponent.Sum(sources[0]), 7, deponent.Sum(sources[2]), 8, 100, 255, -1}
	seen, done := map[api.Errno]int{}, 0
	for range 3000 {
		words := program(r, names)
		m := machine(t, words, sources...)
		want := model{sources: sources}
		copy(want.words[:], words)
		for range 60 {
			e, wanted := m.Step(), want.step()
			want.Root = m.Look().Root
			if e != wanted || m.Look() != want.State {
				t.Fatalf("P5: %+v, %d, want %+v, %d", m.Look(), e, want.State, wanted)
			}
			if seen[e]++; e != api.OK || want.Over {
				break
			}
			done++
		}
		want.Root = rootOf(want.words[:])
		if cells(t, m) != want.words || m.Look() != want.State || m.Stamp() != stampOf(want.State) {
			t.Fatalf("P6: %+v, want %+v", m.Look(), want.State)
		}
	}
	for _, e := range []api.Errno{api.OK, api.ErrOp, api.ErrAddress, api.ErrDivide, api.ErrSource} {
		if seen[e] < 10 {
			t.Errorf("the programs meet error %d too seldom: %v, %d steps", e, seen, done)
		}
	}
	t.Logf("%v, %d steps", seen, done)
}
