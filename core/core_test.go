package core

import (
	"bytes"
	"testing"

	"deponent/api"
	"deponent/digest"
	"deponent/parts"
)

// script is a memory that has what the test says, and tells what was reached for.
type script struct {
	words   map[uint32]uint32
	source  api.Source
	reached []uint32
}

func (s *script) Load(n uint32) (uint32, api.Errno) {
	s.reached = append(s.reached, n)
	word, ok := s.words[n]
	if !ok {
		return 0, api.ErrAddress
	}
	return word, api.OK
}

func (s *script) Store(n, word uint32) api.Errno {
	s.reached = append(s.reached, n)
	if _, ok := s.words[n]; !ok {
		return api.ErrAddress
	}
	s.words[n] = word
	return api.OK
}

func (s *script) Source(name uint32) (api.Source, api.Errno) {
	s.reached = append(s.reached, name)
	if uint32(digest.Sum(s.source)) != name {
		return nil, api.ErrSource
	}
	return s.source, api.OK
}

func word(op, a, b, c, n int) uint32 { return uint32(op<<26 | a<<23 | b<<20 | c<<17 | n&131071) }

func TestDecode(t *testing.T) {
	minus := func(n uint32) uint32 { return -n }
	for _, c := range []struct {
		word uint32
		want instruction
	}{
		{0, instruction{}},
		{1<<32 - 1, instruction{63, 7, 7, 7, minus(1)}},
		{746586117, instruction{11, 1, 0, 0, 5}},
		{word(19, 1, 2, 4, 65535), instruction{19, 1, 2, 4, 65535}},
		{word(32, 4, 1, 2, 65536), instruction{32, 4, 1, 2, minus(65536)}},
		{word(1, 0, 7, 0, 131071), instruction{1, 0, 7, 0, minus(1)}},
	} {
		if got := decode(c.word); got != c.want {
			t.Errorf("decode(%d) = %v, want %v", c.word, got, c.want)
		}
	}
}

// A core takes from a memory just what its step needs, in this order.
func TestWhatAStepReachesFor(t *testing.T) {
	text := api.Source("abcd")
	name := uint32(digest.Sum(text))
	for _, c := range []struct {
		word uint32
		want []uint32
		e    api.Errno
	}{
		{word(api.Halt, 0, 0, 0, 0), []uint32{3}, api.OK},
		{word(api.Add, 1, 2, 3, 0), []uint32{3}, api.OK},
		{word(api.Div, 1, 2, 0, 0), []uint32{3}, api.ErrDivide},
		{word(20, 1, 2, 3, 0), []uint32{3}, api.ErrOp},
		{word(api.Load, 1, 0, 0, 9), []uint32{3, 9}, api.OK},
		{word(api.Store, 1, 0, 0, 9), []uint32{3, 9}, api.OK},
		{word(api.Load, 1, 0, 0, 10), []uint32{3, 10}, api.ErrAddress},
		{word(api.Store, 1, 0, 0, -1), []uint32{3, 1<<32 - 1}, api.ErrAddress},
		{word(api.Ask, 1, 7, 0, 0), []uint32{3, name}, api.OK},
		{word(api.Ask, 1, 0, 0, 0), []uint32{3, 0}, api.ErrSource},
	} {
		memory := &script{words: map[uint32]uint32{3: c.word, 9: 77}, source: text}
		core := Core{State: State{PC: 3, Registers: [8]uint32{7: name}}, Memory: memory}
		was := core.State
		e := core.Step()
		if e != c.e || !equal(memory.reached, c.want) || e != api.OK && core.State != was {
			t.Errorf("%d: reached %v, %d, want %v, %d", c.word>>26, memory.reached, e, c.want, c.e)
		}
	}
}

func equal(l, m []uint32) bool {
	if len(l) != len(m) {
		return false
	}
	for n := range l {
		if l[n] != m[n] {
			return false
		}
	}
	return true
}

func TestNothingIsReachedForWhenItIsOver(t *testing.T) {
	memory := &script{}
	core := Core{State: State{PC: 300, Over: true}, Memory: memory}
	was := core.State
	if e := core.Step(); e != api.OK || core.State != was || memory.reached != nil {
		t.Errorf("Step: %d, %+v, reached %v", e, core.State, memory.reached)
	}
}

// No program can count that far in a test: so its state is given.
func TestStepsAndPCWrapRound(t *testing.T) {
	top := uint32(1<<32 - 1)
	memory := &script{words: map[uint32]uint32{top: word(api.Set, 1, 1, 0, 1)}}
	core := Core{State: State{PC: top, Steps: top, Registers: [8]uint32{1: top}}, Memory: memory}
	if e := core.Step(); e != api.OK || core.State != (State{}) {
		t.Errorf("Step: %d, %+v", e, core.State)
	}
}

func TestWordAt(t *testing.T) {
	text := api.Source{1, 2, 3, 4, 5}
	for _, c := range []struct{ place, want uint32 }{
		{0, 0x01020304}, {1, 0x02030405}, {2, 0x03040500}, {4, 0x05000000}, {5, 0}, {1<<32 - 1, 0}, {1<<32 - 4, 0},
	} {
		if got := wordAt(text, c.place); got != c.want {
			t.Errorf("wordAt(%d) = %x, want %x", c.place, got, c.want)
		}
	}
	if got := wordAt(nil, 0); got != 0 {
		t.Errorf("wordAt of nothing = %x", got)
	}
}

func TestLabel(t *testing.T) {
	s := State{PC: 0x01020304, Steps: 0x05060708, Code: 0x090a0b0c, Over: true}
	for n := range s.Registers {
		s.Registers[n] = 0x10101010 + uint32(n)
	}
	want := []byte{1, 2, 3, 4, 5, 6, 7, 8, 9, 10, 11, 12, 1}
	for n := range 8 {
		want = append(want, 0x10, 0x10, 0x10, 0x10+byte(n))
	}
	want = append(want, 0xab, 0xcd)
	if got := s.Label(0xabcd); !bytes.Equal(got, want) || len(got) != 47 {
		t.Errorf("Label = %v, want %v", got, want)
	}
	s.Over, want[12] = false, 0
	if got := s.Label(0xabcd); !bytes.Equal(got, want) {
		t.Errorf("Label = %v, want %v", got, want)
	}
	if got := s.Stamp(0xabcd); got != digest.Sum(want) {
		t.Errorf("Stamp = %d, want %d", got, digest.Sum(want))
	}
}

func TestCutLabel(t *testing.T) {
	text := make([]byte, 48)
	for n := range text {
		text[n] = byte(200 + n)
	}
	for _, over := range []byte{0, 1} {
		text[12] = over
		p := parts.Of(text)
		s, root := CutLabel(p)
		if got := s.Label(root); !bytes.Equal(got, text[:47]) || p.Byte() != text[47] {
			t.Errorf("CutLabel = %+v, %d", s, root)
		}
	}
	text[12] = 2
	for _, wrong := range [][]byte{text, make([]byte, 46), nil} {
		if !givenUp(wrong) {
			t.Errorf("a label of %v", wrong)
		}
	}
}

// givenUp tells whether this is no label.
func givenUp(text []byte) (up bool) {
	defer func() { up = recover() == parts.ErrWrong }()
	CutLabel(parts.Of(text))
	return false
}
