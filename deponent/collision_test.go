package deponent_test

import (
	"bytes"
	"math/rand"
	"slices"
	"testing"

	"deponent/api"
	"deponent/deponent"
)

// mustShow is P10's condition, told a second time: by the models of Check and of the step.
func mustShow(t *testing.T, m *deponent.Machine, w []byte, sources []api.Source) bool {
	t.Helper()
	told, e := checked(m.Stamp(), w)
	own := model{State: m.Look(), words: cells(t, m), sources: sources}
	f := own.step()
	own.Root = rootOf(own.words[:])
	return e == api.OK && f != api.ErrSource && (f != api.OK || stampOf(own.State) != told)
}

// collides tells whether Collision shows two texts, and sees that it does just where it must.
func collides(t *testing.T, m *deponent.Machine, w []byte, sources ...api.Source) bool {
	t.Helper()
	was, words, keep := m.Look(), cells(t, m), append(bytes.Clone(w), 77)
	one, two, ok := m.Collision(keep[:len(w)])
	if want := mustShow(t, m, w, sources); ok != want {
		t.Fatalf("P10: Collision(%v) = %v, %v, %v, want %v", w, one, two, ok, want)
	}
	if !ok && (one != nil || two != nil) {
		t.Fatalf("P10: Collision = %v, %v beside false", one, two)
	}
	if ok && (bytes.Equal(one, two) || sumOf(one) != sumOf(two)) {
		t.Fatalf("P10: Collision = %v, %v", one, two)
	}
	copyOne, copyTwo := bytes.Clone(one), bytes.Clone(two)
	fill(one)
	if !bytes.Equal(two, copyTwo) {
		t.Fatalf("P2: the two texts share memory")
	}
	fill(two)
	if !bytes.Equal(keep, append(bytes.Clone(w), 77)) || m.Look() != was || cells(t, m) != words {
		t.Fatalf("P2, P10: Collision changes the witness or the machine")
	}
	again, other, _ := m.Collision(w)
	if !bytes.Equal(again, copyOne) || !bytes.Equal(other, copyTwo) {
		t.Fatalf("P2: Collision = %v, %v, and then %v, %v", copyOne, copyTwo, again, other)
	}
	return ok
}

// fill writes into all of a text, spare room too.
func fill(text []byte) {
	text = text[:cap(text)]
	for n := range text {
		text[n] ^= 255
	}
}

// forging makes wrong witnesses of the machine's next step.
func forging(t *testing.T, r *rand.Rand, m *deponent.Machine, sources ...api.Source) *forger {
	t.Helper()
	words := cells(t, m)
	return &forger{Rand: r, state: m.Look(), words: words[:], sources: sources}
}

func TestNoCollisionOfItsOwnWitness(t *testing.T) { // P10
	text := api.Source("a source")
	for _, m := range []*deponent.Machine{
		at(t, in(api.Halt, 1, 0, 0, 0), 5, 7),
		at(t, in(api.Set, 1, 1, 0, 1), 5, 7),
		at(t, in(api.Load, 3, 1, 0, 0), 20, 0),
		at(t, in(api.Store, 1, 2, 0, 0), 5, 255),
		at(t, in(api.Ask, 3, 1, 2, 0), deponent.Sum(text), 1, text),
	} {
		for range 3 {
			w, _ := m.Witness()
			if collides(t, m, w, text) {
				t.Errorf("P10: a collision of its own witness")
			}
			m.Step()
		}
	}
}

func TestNoCollisionOfWhatIsNoWitness(t *testing.T) { // P1, P10
	for _, m := range []*deponent.Machine{
		at(t, in(api.Set, 1, 1, 0, 1), 5, 7),
		at(t, in(api.Store, 1, 2, 0, 0), 5, 255),
		at(t, in(api.Div, 1, 2, 0, 0), 5, 255),
	} {
		w := witnessOf(t, m)
		for n := range w {
			bad := bytes.Clone(w)
			bad[n] ^= 4
			for _, none := range [][]byte{bad, w[:n], w[n+1:], append(bad, 0)} {
				if collides(t, m, none) {
					t.Errorf("P10: a collision of %v, which is no witness", none)
				}
			}
		}
		for _, none := range [][]byte{nil, {}, make([]byte, 47), make([]byte, 67), make([]byte, 100000)} {
			if collides(t, m, none) {
				t.Errorf("P10: a collision of %d bytes 0", len(none))
			}
		}
	}
}

// A witness that is right, but of a step that is an error, is not OK: there is nothing to be shown.
func TestNoCollisionOfErrors(t *testing.T) { // P10
	for _, word := range []int{in(api.Div, 1, 2, 3, 0), in(20, 0, 0, 0, 0), in(api.Load, 1, 1, 0, 256), in(api.Store, 1, 1, 0, -9)} {
		m := at(t, word, 5, 7)
		if _, e := deponent.Check(m.Stamp(), witnessOf(t, m)); e == api.OK {
			t.Fatalf("P8: Check: %d", e)
		}
		if collides(t, m, witnessOf(t, m)) {
			t.Errorf("P10: a collision of an error")
		}
	}
}

func TestCollisionOfLabels(t *testing.T) { // P10
	r := rand.New(rand.NewSource(3))
	m := at(t, in(api.Add, 3, 1, 2, 0), 0x12345678, 0x23456789)
	if !collides(t, m, forging(t, r, m).over()) {
		t.Errorf("P10: no collision of a label that is over")
	}
	m = at(t, in(api.Halt, 1, 2, 0, 0), 5, 7)
	m.Step()
	if !collides(t, m, forging(t, r, m).over()) {
		t.Errorf("P10: no collision of a label that is not over")
	}
	// the machine's own step is an error of its PC
	m = machine(t, []int{in(api.Call, 1, 0, 0, 300)})
	m.Step()
	if !collides(t, m, forging(t, r, m).over()) {
		t.Errorf("P10: no collision where PC is no cell's number")
	}
	// another PC: there stands another instruction
	m = at(t, in(api.Add, 3, 1, 2, 0), 5, 7)
	f, shown := forging(t, r, m), 0
	for label := range twins(labelOf(m.Look()), 3) {
		if collides(t, m, witnessFor(stateOf(label), f.words, nil)) {
			shown++
		}
	}
	if shown == 0 {
		t.Errorf("P10: no collision of a label with another PC")
	}
	// other registers, which are multiplied: the sums behind it differ
	m, shown = at(t, in(api.Mul, 3, 1, 2, 0), 0x12345678, 0x23456789), 0
	f = forging(t, r, m)
	for label := range twins(labelOf(m.Look()), 18) {
		if collides(t, m, witnessFor(stateOf(label), f.words, nil)) {
			shown++
		}
	}
	if shown == 0 {
		t.Errorf("P10: no collision of a label with another register")
	}
}

// Another root is believed for the label's sum, and then other digests for the root.
func TestCollisionOfRoots(t *testing.T) { // P10
	m := at(t, in(api.Add, 3, 1, 2, 0), 5, 7)
	shown := 0
	for label := range twins(labelOf(m.Look()), 44) {
		s := stateOf(label)
		proof := graft(append(bytesOf(in(api.Set, 5, 1, 2, 3)), make([]byte, 16)...), s.PC, 7, s.Root)
		if proof != nil && collides(t, m, append(label, proof...)) {
			shown++
		}
		if shown > 3 {
			return
		}
	}
	t.Errorf("P10: no collisions of roots")
}

func TestCollisionOfWords(t *testing.T) { // P10
	r := rand.New(rand.NewSource(4))
	for _, word := range []int{
		in(api.Set, 1, 1, 0, 1),
		in(api.Div, 1, 2, 0, 0), // by 0
		in(21, 0, 0, 0, 0),
		in(api.Load, 1, 1, 0, -10),
		in(api.Store, 1, 1, 0, 300),
	} {
		m := at(t, word, 5, 7)
		f, shown := forging(t, r, m), 0
		for range 40 {
			if collides(t, m, f.instruction()) {
				shown++
			}
		}
		if shown == 0 {
			t.Errorf("P10: no collision of an instruction for %d", word>>26)
		}
	}
}

// With a twin of the word the step comes to the same stamp, so weak is the sum; with any word, for which a digest is another one, it does not.
func TestCollisionOfWordsThatAreLoaded(t *testing.T) { // P10
	r := rand.New(rand.NewSource(5))
	for _, op := range []int{api.Load, api.Store} {
		m := at(t, in(op, 3, 1, 0, 0), 20, 0)
		f := forging(t, r, m)
		for range 20 {
			w := f.operand()
			if _, e := deponent.Check(m.Stamp(), w); e != api.OK || collides(t, m, w) {
				t.Errorf("P10: the step comes to the same: %d", e)
			}
		}
		shown := 0
		for range 20 {
			if w := f.second(); w != nil && collides(t, m, w) {
				shown++
			}
		}
		if shown == 0 {
			t.Errorf("P10: %d: no collision of the second proof", op)
		}
	}
}

// Of every level: there the digest of the other half is another one.
func TestCollisionOfDigests(t *testing.T) { // P10
	r := rand.New(rand.NewSource(6))
	for _, pc := range []int{0, 1, 50, 85, 170, 254, 255} {
		words := make([]int, api.Cells)
		for n := range words {
			words[n] = in(api.Call, 1, 0, 0, pc)
		}
		m := machine(t, words)
		m.Step()
		f := forging(t, r, m)
		for level := range 8 {
			shown := false
			for n := range 20 {
				w := f.grafted(in(api.Set, 1, 1, 0, n), level)
				shown = shown || w != nil && collides(t, m, w)
			}
			if !shown {
				t.Errorf("P10: PC %d: no collision of digests of level %d", pc, level)
			}
		}
	}
}

// The first proof may be wrong and still tell the right instruction: then the step is the same, or the second proof shows it.
func TestCollisionOfOtherDigestsOfTheSameWord(t *testing.T) { // P10
	words := make([]int, api.Cells)
	words[0] = in(api.Load, 1, 0, 0, 77)
	for n := range 1 << 16 { // until the digest of cell 1 has a twin
		words[1] = n * 65521
		proof := regraft(proofOf(words, 0), 0, words[0], 0)
		if proof == nil {
			continue
		}
		m := machine(t, words)
		w := witnessOf(t, m)
		copy(w[47:], proof)
		if _, e := deponent.Check(m.Stamp(), w); e != api.OK || collides(t, m, w) {
			t.Errorf("P10: the step is the same: %d", e)
		}
		if !collides(t, m, append(w[:67], regraft(w[67:], 77, 1, 3)...)) {
			t.Errorf("P10: no collision of another word that is loaded")
		}
		return
	}
	t.Errorf("no digest with a twin")
}

func TestCollisionOfSources(t *testing.T) { // P10
	r := rand.New(rand.NewSource(7))
	for _, text := range []api.Source{api.Source("a source"), nil, bytes.Repeat([]byte{9}, 200), {1}} {
		m := at(t, in(api.Ask, 3, 1, 2, 0), deponent.Sum(text), 0, api.Source("other"), text)
		f, shown := forging(t, r, m, api.Source("other"), text), 0
		for range 40 {
			if collides(t, m, f.source(), api.Source("other"), text) {
				shown++
			}
		}
		if shown == 0 {
			t.Errorf("P10: no collision of sources called like %q", text)
		}
	}
	// the second of two with one name is as wrong as any other one
	one, two := sameSum()
	m := at(t, in(api.Ask, 3, 1, 2, 0), deponent.Sum(one), 3, one, two)
	if !collides(t, m, witnessOf(t, m, two), one, two) {
		t.Errorf("P10: no collision of %v, where the machine has %v first", two, one)
	}
}

func TestNoCollisionOfASourceThatIsNotThere(t *testing.T) { // P10
	text := api.Source("a source")
	r := rand.New(rand.NewSource(8))
	m := at(t, in(api.Ask, 3, 1, 2, 0), deponent.Sum(text), 0, api.Source("other"))
	f := forging(t, r, m, text)
	for _, w := range [][]byte{witnessOf(t, m, text), f.source(), f.over(), f.grafted(in(api.Set, 1, 1, 0, 1), 7)} {
		if _, e := deponent.Check(m.Stamp(), w); e != api.OK {
			t.Fatalf("P8: Check: %d", e)
		}
		if collides(t, m, w, api.Source("other")) {
			t.Errorf("P10: a collision, but the machine's step is ErrSource")
		}
	}
}

func TestCollisionAgainstModel(t *testing.T) { // P10
	r := rand.New(rand.NewSource(9))
	sources := []api.Source{api.Source("a source"), nil, {255, 254, 253, 252, 251}}
	names := []int{deponent.Sum(sources[0]), 7, deponent.Sum(sources[2]), 8, 100, 255, -1}
	kinds := []func(*forger) []byte{(*forger).label, (*forger).instruction, (*forger).operand, (*forger).digests, (*forger).second, (*forger).source}
	shown, hidden := make([]int, len(kinds)), make([]int, len(kinds))
	forge := func(m *deponent.Machine) {
		for kind, wrong := range kinds {
			if w := wrong(forging(t, r, m, sources...)); w == nil {
				continue
			} else if collides(t, m, w, sources...) {
				shown[kind]++
			} else {
				hidden[kind]++
			}
		}
	}
	for range 40 {
		m := machine(t, program(r, names), sources...)
		for range 12 {
			forge(m)
			if m.Step() != api.OK {
				break
			}
		}
	}
	for range 200 {
		op := []int{api.Load, api.Store, api.Ask}[r.Intn(3)]
		forge(at(t, in(op, r.Intn(8), 1, 2, 0), names[r.Intn(6)], r.Intn(8), sources...))
	}
	// a twin of what is loaded comes to the same stamp, any other word hardly ever does
	if slices.Min(slices.Delete(slices.Clone(shown), 2, 3)) < 5 || slices.Min(slices.Delete(slices.Clone(hidden), 4, 5)) < 5 {
		t.Errorf("too few are met: shown %v, hidden %v", shown, hidden)
	}
	t.Logf("shown %v, hidden %v", shown, hidden)
}
