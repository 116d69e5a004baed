package deponent_test

import (
	"bytes"
	"math"
	"math/rand"
	"slices"
	"testing"

	"deponent/api"
	"deponent/deponent"
)

// stateOf what begins with a label.
func stateOf(w []byte) api.State {
	number := func(at int) int { return int(w[at])<<24 | int(w[at+1])<<16 | int(w[at+2])<<8 | int(w[at+3]) }
	s := api.State{PC: number(0), Steps: number(4), Code: number(8), Over: w[12] == 1, Root: int(w[45])<<8 | int(w[46])}
	for n := range s.Registers {
		s.Registers[n] = number(13 + 4*n)
	}
	return s
}

// checked is P8 told a second time: first what must be there, by its length, then whether it fits, then the step.
func checked(stamp int, w []byte) (int, api.Errno) {
	if len(w) < 47 || w[12] > 1 || sumOf(w[:47]) != stamp {
		return 0, api.ErrWitness
	}
	m := model{State: stateOf(w)}
	if m.Over || m.PC > 255 {
		if len(w) != 47 {
			return 0, api.ErrWitness
		}
		return after(&m, 0, m.Root)
	}
	if len(w) < 67 || fitting(w[47:67], m.PC) != m.Root {
		return 0, api.ErrWitness
	}
	word, rest := int(w[47])<<24|int(w[48])<<16|int(w[49])<<8|int(w[50]), w[67:]
	b, cell := m.Registers[word>>20&7], cellOf(m.State, word)
	switch op := word >> 26; {
	case op == api.Ask:
		if len(rest) == 0 || rest[0] > 200 || len(rest) != 1+int(rest[0]) || sumOf(rest[1:]) != b {
			return 0, api.ErrWitness
		}
		m.sources = []api.Source{rest[1:]}
	case (op == api.Load || op == api.Store) && cell < 256:
		if len(rest) != 20 || fitting(rest, cell) != m.Root {
			return 0, api.ErrWitness
		}
		m.words[cell] = int(rest[0])<<24 | int(rest[1])<<16 | int(rest[2])<<8 | int(rest[3])
		if op == api.Store {
			stored := append(bytesOf(m.Registers[word>>23&7]), rest[4:]...)
			return after(&m, word, fitting(stored, cell))
		}
	case len(rest) != 0:
		return 0, api.ErrWitness
	}
	return after(&m, word, m.Root)
}

// after is the stamp behind the step, with the root that is then.
func after(m *model, word, root int) (int, api.Errno) {
	e := api.OK
	if m.Over || m.PC > 255 {
		e = m.step()
	} else {
		e = m.perform(word)
	}
	if e != api.OK {
		return 0, e
	}
	m.Root = root
	return stampOf(m.State), api.OK
}

// forged is a witness of a state that no machine need have: the digests are anything, and the root is what they fit.
func forged(s api.State, word int) []byte {
	proof := bytesOf(word)
	for n := range 16 {
		proof = append(proof, byte(200+5*n))
	}
	s.Root = fitting(proof, s.PC)
	return append(labelOf(s), proof...)
}

// agree sees that Check says what the document says, and that it is this error.
func agree(t *testing.T, what string, w []byte, want api.Errno) {
	t.Helper()
	stamp := 0
	if len(w) >= 47 {
		stamp = deponent.Sum(w[:47])
	}
	keep := append(bytes.Clone(w), 77)
	n, e := deponent.Check(stamp, keep[:len(w)])
	if !bytes.Equal(keep, append(bytes.Clone(w), 77)) {
		t.Fatalf("P2: %s: Check writes into the witness, or behind it", what)
	}
	m, f := checked(stamp, w)
	if n != m || e != f || e != want {
		t.Errorf("P8: %s: Check = %d, %d, want %d, %d (%d)", what, n, e, m, f, want)
	}
}

func TestCheckOfLabels(t *testing.T) { // P8
	s := api.State{PC: 9, Steps: top, Code: 7, Over: true, Registers: [8]int{1, 2, 3, 4, 5, 6, 7, top}, Root: 65535}
	agree(t, "over", labelOf(s), api.OK)
	if n, _ := deponent.Check(stampOf(s), labelOf(s)); n != stampOf(s) {
		t.Errorf("P8: over: %d, want %d", n, stampOf(s))
	}
	agree(t, "over and more", append(labelOf(s), 0), api.ErrWitness)
	agree(t, "over and a proof", append(labelOf(s), make([]byte, 20)...), api.ErrWitness)
	s.PC = top
	agree(t, "over, PC no cell's", labelOf(s), api.OK)
	for _, over := range []byte{2, 3, 128, 254, 255} {
		w := labelOf(s)
		w[12] = over
		agree(t, "Over that none is", w, api.ErrWitness)
	}
	s.Over = false
	for _, pc := range []int{256, 257, 65536, 1 << 31, top} {
		s.PC = pc
		agree(t, "PC no cell's", labelOf(s), api.ErrAddress)
		agree(t, "PC no cell's, and more", append(labelOf(s), 0), api.ErrWitness)
		agree(t, "PC no cell's, and a proof", append(labelOf(s), make([]byte, 20)...), api.ErrWitness)
	}
	s.PC = 255
	agree(t, "no proof", labelOf(s), api.ErrWitness)
	agree(t, "nothing", nil, api.ErrWitness)
	agree(t, "no label", labelOf(s)[:46], api.ErrWitness)
}

func TestCheckOfForgedStates(t *testing.T) { // P8
	s := api.State{PC: 255, Steps: top, Code: 9, Registers: [8]int{0, 20, 0, 300, top, 5, 1 << 31, 254}}
	for op := range 64 {
		w := forged(s, in(op, 2, 1, 5, 3))
		switch {
		case op == api.Ask || op == api.Load || op == api.Store:
			agree(t, "an instruction without what it needs", w, api.ErrWitness)
		case op > api.Ask:
			agree(t, "no instruction", w, api.ErrOp)
			agree(t, "no instruction, and more", append(w, 0), api.ErrWitness)
			agree(t, "no instruction, and a proof", append(w, w[47:]...), api.ErrWitness)
		default:
			agree(t, "an instruction", w, api.OK)
			agree(t, "an instruction, and more", append(w, 0), api.ErrWitness)
			agree(t, "an instruction, and a proof", append(w, w[47:]...), api.ErrWitness)
		}
	}
	w := forged(s, in(api.Div, 2, 1, 0, 0))
	agree(t, "DIV by 0", w, api.ErrDivide)
	agree(t, "DIV by 0, and more", append(w, 0), api.ErrWitness)
	agree(t, "DIV by 0, and a proof", append(w, w[47:]...), api.ErrWitness)
	w[60]++
	agree(t, "DIV by 0, not proven", w, api.ErrWitness)
}

func TestCheckOfCells(t *testing.T) { // P8
	s := api.State{PC: 8, Registers: [8]int{1: 8, 2: 9, 3: 256, 4: top}}
	for _, op := range []int{api.Load, api.Store} {
		w := forged(s, in(op, 5, 1, 0, 0))
		proof := w[47:]
		agree(t, "its own cell", slices.Concat(w, proof), api.OK)
		agree(t, "no second proof", w, api.ErrWitness)
		agree(t, "half a second proof", slices.Concat(w, proof[:10]), api.ErrWitness)
		agree(t, "a byte too few", slices.Concat(w, proof[:19]), api.ErrWitness)
		agree(t, "a byte more", slices.Concat(w, proof, []byte{0}), api.ErrWitness)
		agree(t, "three proofs", slices.Concat(w, proof, proof), api.ErrWitness)
		for _, c := range []struct{ b, n int }{{3, 0}, {4, 0}, {3, 65535}, {0, -1}, {0, 256}, {4, 257}} {
			w := forged(s, in(op, 5, c.b, 0, c.n))
			agree(t, "no such cell", w, api.ErrAddress)
			agree(t, "no such cell, and more", append(w, 0), api.ErrWitness)
			agree(t, "no such cell, proven", append(w, w[47:]...), api.ErrWitness)
		}
		for _, c := range []struct{ b, n int }{{2, 0}, {0, 0}, {0, 255}, {4, 10}, {3, -1}} {
			w := forged(s, in(op, 5, c.b, 0, c.n))
			agree(t, "another cell's proof", append(w, w[47:]...), api.ErrWitness)
		}
	}
}

// Two proofs of one cell with different words, or different digests, can fit one root, so weak is the sum: by the witness alone none is less right.
func TestCheckBelievesWhatFits(t *testing.T) { // P8
	one, twin := []byte{0, 200}, []byte{255, 186} // 255 * 257 - 14 is 65521
	if deponent.Sum([]byte{1, 9, 9}, one) != deponent.Sum([]byte{1, 9, 9}, twin) {
		t.Fatal("no twins")
	}
	for _, op := range []int{api.Load, api.Store} {
		for _, place := range []int{2, 4, 8, 18} { // N's bytes of the word, or a digest
			w := forged(api.State{PC: 8, Registers: [8]int{1: wrap(8 - 200)}}, in(op, 5, 1, 0, 200))
			first, second := bytes.Clone(w[47:]), bytes.Clone(w[47:])
			copy(first[place:], one)
			copy(second[place:], twin)
			s := stateOf(w)
			s.Root = fitting(first, 8)
			agree(t, "two proofs that fit", slices.Concat(labelOf(s), first, second), api.OK)
		}
	}
}

func TestCheckOfSources(t *testing.T) { // P8
	longest := bytes.Repeat([]byte{9}, 200)
	ask := func(name int, rest ...byte) []byte {
		s := api.State{PC: 3, Registers: [8]int{1: name}}
		return append(forged(s, in(api.Ask, 2, 1, 0, 0)), rest...)
	}
	sized := func(size byte, text []byte) []byte { return append([]byte{size}, text...) }
	agree(t, "a source", ask(deponent.Sum([]byte("abcdef")), sized(6, []byte("abcdef"))...), api.OK)
	agree(t, "of no bytes", ask(7, 0), api.OK)
	agree(t, "of no bytes, and more", ask(7, 0, 0), api.ErrWitness)
	agree(t, "no source", ask(7), api.ErrWitness)
	agree(t, "of the most bytes", ask(deponent.Sum(longest), sized(200, longest)...), api.OK)
	for size := 201; size < 256; size++ {
		long := bytes.Repeat([]byte{9}, size)
		agree(t, "of too many bytes", ask(deponent.Sum(long), sized(byte(size), long)...), api.ErrWitness)
	}
	text, name := []byte("abc"), deponent.Sum([]byte("abc"))
	agree(t, "too short", ask(name, sized(4, text)...), api.ErrWitness)
	agree(t, "too long", ask(name, sized(2, text)...), api.ErrWitness)
	agree(t, "not called so", ask(name+1, sized(3, text)...), api.ErrWitness)
	agree(t, "a name that none has", ask(name+65521, sized(3, text)...), api.ErrWitness)
	agree(t, "a name that none has", ask(top, sized(3, text)...), api.ErrWitness)
}

func TestCheckOfWrongStamps(t *testing.T) { // P1, P8
	m := at(t, in(api.Store, 1, 2, 0, 0), 5, 9)
	w, _ := m.Witness()
	stamp := m.Stamp()
	for _, n := range []int{stamp + 1, stamp - 1, stamp + 65521, stamp - 65521, stamp + 1<<16, stamp + 1<<32, -stamp, math.MinInt, math.MaxInt} {
		if after, e := deponent.Check(n, w); after != 0 || e != api.ErrWitness {
			t.Errorf("P8: Check(%d) = %d, %d", n, after, e)
		}
	}
	for _, w := range [][]byte{nil, {}, {1}, make([]byte, 46), make([]byte, 100000)} {
		for _, n := range []int{0, 7, -1, math.MinInt, math.MaxInt} {
			if after, e := deponent.Check(n, w); after != 0 || e != api.ErrWitness {
				t.Errorf("P8: Check(%d) of %d bytes = %d, %d", n, len(w), after, e)
			}
		}
	}
}

// mutant is a witness with something else about it.
func mutant(r *rand.Rand, w []byte) []byte {
	w = bytes.Clone(w)
	switch r.Intn(7) {
	case 0:
		return w[:r.Intn(len(w)+1)]
	case 1:
		return append(w, w[r.Intn(len(w)):]...)
	case 2:
		w[r.Intn(47)] = byte(r.Intn(3))
	case 3:
		w[3] = byte(r.Intn(256))
	case 4:
		w[r.Intn(len(w))] ^= 1 << r.Intn(8)
	case 5:
		copy(w[13+4*r.Intn(8):], bytesOf([]int{0, 1, 255, 256, top}[r.Intn(5)]))
	case 6:
		if len(w) > 47 {
			w[47] = byte(r.Intn(24)<<2 | r.Intn(4))
		}
	}
	return w
}

// refit gives the label the root that the first proof fits.
func refit(w []byte) {
	if len(w) < 67 || w[12] != 0 || w[0]|w[1]|w[2] != 0 {
		return
	}
	root := fitting(w[47:67], int(w[3]))
	w[45], w[46] = byte(root>>8), byte(root)
}

func TestCheckAgainstModel(t *testing.T) { // P7, P8, P9
	r := rand.New(rand.NewSource(2))
	sources := []api.Source{api.Source("a source"), nil, {255, 254, 253, 252, 251}}
	names := []int{deponent.Sum(sources[0]), 7, deponent.Sum(sources[2]), 8, 100, 255, -1}
	seen := map[api.Errno]int{}
	for range 300 {
		m := machine(t, program(r, names), sources...)
		for range 30 {
			w, e := m.Witness()
			if e != api.OK {
				if f := m.Step(); e != f {
					t.Fatalf("P7: Witness: %d, Step: %d", e, f)
				}
				break
			}
			for range 12 {
				bad := mutant(r, w)
				if r.Intn(2) == 0 {
					refit(bad)
				}
				stamp := deponent.Sum(bad[:min(47, len(bad))])
				n, e := deponent.Check(stamp, bad)
				if want, f := checked(stamp, bad); n != want || e != f {
					t.Fatalf("P8: Check(%d, %v) = %d, %d, want %d, %d", stamp, bad, n, e, want, f)
				}
				seen[e]++
			}
			proven(t, m, sources...)
		}
	}
	for _, e := range []api.Errno{api.OK, api.ErrOp, api.ErrAddress, api.ErrDivide, api.ErrWitness} {
		if seen[e] < 5 {
			t.Errorf("the witnesses meet error %d too seldom: %v", e, seen)
		}
	}
	if seen[api.ErrSource] != 0 {
		t.Errorf("P8: ErrSource: %v", seen)
	}
	t.Logf("%v", seen)
}

func TestCheckOfEveryOtherByte(t *testing.T) { // P8
	text := api.Source("a source")
	for _, m := range []*deponent.Machine{
		at(t, in(api.Halt, 1, 0, 0, 0), 5, 7),
		at(t, in(api.Load, 3, 1, 0, 0), 20, 0),
		at(t, in(api.Store, 1, 2, 0, 0), 5, 255),
		at(t, in(api.Ask, 3, 1, 2, 0), deponent.Sum(text), 1, text),
	} {
		stamp := m.Stamp()
		w, _ := m.Witness()
		for at := range w {
			if n, e := deponent.Check(stamp, w[:at]); n != 0 || e != api.ErrWitness {
				t.Errorf("P8: %d bytes of it: %d, %d", at, n, e)
			}
			if n, e := deponent.Check(stamp, w[at+1:]); n != 0 || e != api.ErrWitness {
				t.Errorf("P8: all behind byte %d: %d, %d", at, n, e)
			}
			for bit := range 8 {
				bad := bytes.Clone(w)
				bad[at] ^= 1 << bit
				if n, e := deponent.Check(stamp, bad); n != 0 || e != api.ErrWitness {
					t.Errorf("P8: another byte %d: %d, %d", at, n, e)
				}
			}
		}
		for more := range 256 {
			if n, e := deponent.Check(stamp, append(bytes.Clone(w), byte(more))); n != 0 || e != api.ErrWitness {
				t.Errorf("P8: byte %d more: %d, %d", more, n, e)
			}
		}
	}
}
