package deponent_test

import (
	"bytes"
	"slices"
	"testing"

	"deponent/api"
	"deponent/deponent"
)

// witnessOf the next step, worked out from what the machine tells of itself. That step must be no error.
func witnessOf(t *testing.T, m *deponent.Machine, sources ...api.Source) []byte {
	t.Helper()
	words := cells(t, m)
	return witnessFor(m.Look(), words[:], sources)
}

// witnessFor the next step of a state with these cells and sources.
func witnessFor(s api.State, words []int, sources []api.Source) []byte {
	w := labelOf(s)
	if s.Over || s.PC > 255 {
		return w
	}
	w = append(w, proofOf(words, s.PC)...)
	return append(w, behind(s, words[s.PC], words, sources)...)
}

// behind is what a witness has behind its first proof, if that is one of this word. A source that is not there is made up, if any can be called so.
func behind(s api.State, word int, words []int, sources []api.Source) []byte {
	switch cell := cellOf(s, word); {
	case (word>>26 == api.Load || word>>26 == api.Store) && cell < 256:
		return proofOf(words, cell)
	case word>>26 == api.Ask:
		b := s.Registers[word>>20&7]
		first := slices.IndexFunc(sources, func(s api.Source) bool { return sumOf(s) == b })
		if first < 0 {
			return append([]byte{3}, tuned(make([]byte, 3), 0, b)...)
		}
		return append([]byte{byte(len(sources[first]))}, sources[first]...)
	}
	return nil
}

// proven does the next step, and sees that it is proven ahead.
func proven(t *testing.T, m *deponent.Machine, sources ...api.Source) []byte {
	t.Helper()
	s, stamp, words, want := m.Look(), m.Stamp(), cells(t, m), witnessOf(t, m, sources...)
	w, e := m.Witness()
	if e != api.OK || !bytes.Equal(w, want) {
		t.Fatalf("P7: Witness = %v, %d, want %v", w, e, want)
	}
	if m.Look() != s || cells(t, m) != words {
		t.Fatalf("P1: Witness changes the machine: %+v, was %+v", m.Look(), s)
	}
	after, e := deponent.Check(stamp, w)
	if !bytes.Equal(w, want) {
		t.Fatalf("P2: Check writes into the witness: %v, was %v", w, want)
	}
	if f := m.Step(); e != api.OK || f != api.OK || after != m.Stamp() {
		t.Fatalf("P9: Check = %d, %d, want %d", after, e, m.Stamp())
	}
	return w
}

func TestWitnessOfEachInstruction(t *testing.T) { // P7, P9, example 3
	text := api.Source("a source")
	for _, c := range []struct {
		word, r1, r2, size int
	}{
		{in(api.Halt, 1, 0, 0, 0), top, 0, 67},
		{in(api.Add, 3, 1, 2, 0), top, 7, 67},
		{in(api.Sub, 3, 1, 2, 0), 5, 7, 67},
		{in(api.Mul, 3, 1, 2, 0), 1 << 31, 7, 67},
		{in(api.And, 3, 1, 2, 0), 5, 7, 67},
		{in(api.Or, 3, 1, 2, 0), 5, 8, 67},
		{in(api.Xor, 3, 1, 2, 0), 5, 7, 67},
		{in(api.Shl, 3, 1, 2, 0), 5, 33, 67},
		{in(api.Shr, 3, 1, 2, 0), top, 31, 67},
		{in(api.Less, 3, 1, 2, 0), top, 1, 67},
		{in(api.Div, 3, 1, 2, 0), 50, 7, 67},
		{in(api.Set, 3, 1, 2, -6), 5, 7, 67},
		{in(api.High, 3, 1, 2, -6), 5, 7, 67},
		{in(api.Load, 3, 1, 2, 0), 20, 0, 87},
		{in(api.Load, 3, 1, 2, 0), 50, 0, 87}, // its own cell
		{in(api.Load, 3, 1, 2, 1), 254, 0, 87},
		{in(api.Load, 3, 1, 2, 1), top, 0, 87},
		{in(api.Store, 1, 2, 0, 0), 4000000000, 20, 87},
		{in(api.Store, 1, 2, 0, 1), 4000000000, 50, 87},
		{in(api.Store, 1, 2, 0, 0), 4000000000, 50, 87}, // its own cell
		{in(api.Store, 1, 2, 0, -45), 4000000000, 300, 87},
		{in(api.Store, 1, 2, 0, 0), 777, 20, 87}, // what it has
		{in(api.Same, 1, 2, 0, 5), 7, 7, 67},
		{in(api.Same, 1, 2, 0, 5), 7, 8, 67},
		{in(api.Other, 1, 2, 0, 5), 7, 8, 67},
		{in(api.Other, 1, 2, 0, -65536), 7, 8, 67},
		{in(api.Under, 1, 2, 0, 5), 7, 8, 67},
		{in(api.Under, 1, 2, 0, 5), top, 8, 67},
		{in(api.Call, 1, 1, 0, 5), 90, 0, 67},
		{in(api.Call, 1, 1, 0, -5), 0, 0, 67},
		{in(api.Ask, 3, 1, 2, 0), deponent.Sum(text), 2, 76},
		{in(api.Ask, 3, 1, 2, 0), deponent.Sum(text), 6, 76},
		{in(api.Ask, 3, 1, 2, 0), deponent.Sum(text), top, 76},
	} {
		m := at(t, c.word, c.r1, c.r2, api.Source("other"), text)
		if w := proven(t, m, api.Source("other"), text); len(w) != c.size {
			t.Errorf("P7: %d: a witness of %d bytes, want %d", c.word>>26, len(w), c.size)
		}
	}
}

func TestWitnessOfWhatIsOver(t *testing.T) { // P7, P9, example 3
	m := at(t, in(api.Halt, 1, 0, 0, 0), 5, 7)
	m.Step()
	for range 3 {
		stamp := m.Stamp()
		if w := proven(t, m); len(w) != 47 || m.Stamp() != stamp {
			t.Errorf("P7: over: a witness of %d bytes", len(w))
		}
	}
}

func TestWitnessAtTheEndsOfMemory(t *testing.T) { // P7, P9
	words := make([]int, api.Cells)
	words[0], words[255] = in(api.Call, 1, 0, 0, 255), in(api.Store, 1, 0, 0, 0)
	m := machine(t, words)
	proven(t, m)
	proven(t, m)
	if w, e := m.Witness(); w != nil || e != api.ErrAddress || m.Look().PC != 256 {
		t.Errorf("P7: PC 256: %v, %d", w, e)
	}
}

func TestWitnessOfSources(t *testing.T) { // P7, P9
	longest := api.Source(bytes.Repeat([]byte{0xee}, 200))
	one, two := sameSum()
	sources := []api.Source{longest, nil, two, one}
	for _, c := range []struct {
		source api.Source
		size   int
	}{{nil, 68}, {longest, 268}, {one, 72}} {
		m := at(t, in(api.Ask, 3, 1, 2, 0), deponent.Sum(c.source), 0, sources...)
		w := proven(t, m, sources...)
		if len(w) != c.size {
			t.Errorf("P7: ASK: a witness of %d bytes, want %d", len(w), c.size)
		}
		if len(c.source) == len(one) && !bytes.Equal(w[68:], two) {
			t.Errorf("P7: ASK: %v, want the first one, %v", w[68:], two)
		}
	}
}

func TestWitnessOfErrors(t *testing.T) { // P1, P7
	for _, c := range []struct {
		word, r1, r2 int
		want         api.Errno
	}{
		{in(api.Div, 3, 1, 2, 0), 5, 0, api.ErrDivide},
		{in(api.Load, 3, 1, 0, 1), 255, 0, api.ErrAddress},
		{in(api.Load, 3, 1, 0, -1), 0, 0, api.ErrAddress},
		{in(api.Store, 1, 2, 0, 0), 5, 256, api.ErrAddress},
		{in(api.Store, 1, 2, 0, -1), 5, 0, api.ErrAddress},
		{in(api.Ask, 3, 1, 2, 0), 8, 0, api.ErrSource},
		{in(api.Ask, 3, 1, 2, 0), 65521 + 7, 0, api.ErrSource},
		{in(20, 3, 1, 2, 0), 5, 5, api.ErrOp},
		{top, 5, 5, api.ErrOp},
	} {
		m := at(t, c.word, c.r1, c.r2, nil)
		was, words := m.Look(), cells(t, m)
		for range 2 {
			if w, e := m.Witness(); w != nil || e != c.want {
				t.Errorf("P7: %d of %d, %d: %v, %d, want %d", c.word>>26, c.r1, c.r2, w, e, c.want)
			}
		}
		if e := m.Step(); e != c.want || m.Look() != was || cells(t, m) != words {
			t.Errorf("P1: %d of %d, %d: Step = %d, %+v", c.word>>26, c.r1, c.r2, e, m.Look())
		}
	}
	for _, n := range []int{256, 65535, -1} {
		m := machine(t, []int{in(api.Call, 1, 0, 0, n)})
		proven(t, m)
		if w, e := m.Witness(); w != nil || e != api.ErrAddress {
			t.Errorf("P7: PC %d: %v, %d", n&top, w, e)
		}
	}
}

func TestWitnessIsNewMemory(t *testing.T) { // P2
	text := api.Source("a source")
	m := at(t, in(api.Ask, 3, 1, 2, 0), deponent.Sum(text), 0, text)
	want := witnessOf(t, m, text)
	one, _ := m.Witness()
	two, _ := m.Witness()
	one = one[:cap(one)]
	for n := range one {
		one[n] = 9
	}
	if !bytes.Equal(two, want) {
		t.Errorf("P2: two witnesses share memory: %v, want %v", two, want)
	}
	proven(t, m, text)
}
