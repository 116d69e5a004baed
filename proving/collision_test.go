package proving

import (
	"bytes"
	"slices"
	"testing"

	"deponent/api"
	"deponent/core"
	"deponent/digest"
	"deponent/memory"
)

func word(op, a, b, c, n int) int { return op<<26 | a<<23 | b<<20 | c<<17 | n&131071 }

func TestParting(t *testing.T) {
	a, b, c := []byte("a"), []byte("b"), []byte("c")
	for _, l := range []struct {
		own, told [][]byte
		one, two  []byte
		want      bool
	}{
		{[][]byte{a}, [][]byte{b}, a, b, true},
		{[][]byte{a, b, c}, [][]byte{a, c, b}, b, c, true},
		{[][]byte{a, b}, [][]byte{a, c, b}, b, c, true},
		{[][]byte{a, nil}, [][]byte{a, b}, nil, b, true},
		{[][]byte{a, b}, [][]byte{a, b}, nil, nil, false},
		{[][]byte{a}, [][]byte{a, b}, nil, nil, false},
		{nil, [][]byte{a}, nil, nil, false},
	} {
		one, two, ok := parting(l.own, l.told)
		if !bytes.Equal(one, l.one) || !bytes.Equal(two, l.two) || ok != l.want {
			t.Errorf("parting(%q, %q) = %q, %q, %v", l.own, l.told, one, two, ok)
		}
	}
}

// The bytes 0, 100 and 255, 86 add the same to a sum, so weak is it: 255 * 257 is 65521 more than 14 less.
func TestWhichTwoAreShown(t *testing.T) { // P10
	none, twin := []byte{0, 100}, []byte{255, 86}
	source := slices.Concat([]byte("abc"), none)
	words := []int{word(api.Mul, 1, 2, 3, 0), word(api.Set, 2, 0, 0, 100*256), word(api.Ask, 1, 2, 3, 0)}
	cells, _ := memory.New(words, []api.Source{source})
	name := uint32(digest.Sum(source))
	multiplying := core.State{Registers: [8]uint32{2: 100, 3: 7}}
	for _, c := range []struct {
		what  string
		state core.State
		at    int // of the twins in the witness
		own   []byte
	}{
		{"a label", multiplying, 23, multiplying.Label(cells.Root())},
		{"a cell", core.State{PC: 1}, 48, digest.CellText(uint32(words[1]))},
		{"a source", core.State{PC: 2, Registers: [8]uint32{2: name, 3: 4}}, 71, source},
	} {
		w, _ := Witness(c.state, cells)
		if !bytes.Equal(w[c.at:c.at+2], none) {
			t.Fatalf("%s: no twins at %d of %v", c.what, c.at, w)
		}
		copy(w[c.at:], twin)
		one, two, ok := Collision(c.state, cells, w)
		if !ok || !bytes.Equal(one, c.own) || !bytes.Equal(two, bytes.Replace(one, none, twin, 1)) || digest.Sum(two) != digest.Sum(one) {
			t.Errorf("%s: %v, %v, %v", c.what, one, two, ok)
		}
	}
}

// The step that the machine does not do: another one whose cell has the same digest, or whose path comes to the same one further up.
func TestWhichTwoOfAProofAreShown(t *testing.T) { // P10
	cells, _ := memory.New([]int{word(api.Div, 1, 2, 3, 0)}, nil)
	root := cells.Root()
	label := core.State{}.Label(root)
	record := memory.Record{Cells: cells}
	record.Load(0)
	for level := range 8 {
		proof := grafted(record.Shown, word(api.Set, 1, 0, 0, 5), level)
		one, two, ok := Collision(core.State{}, cells, slices.Concat(label, proof))
		if !ok || one[0] != 1 || len(one) != 5 || len(two) != 5 || !bytes.Equal(two[3:], proof[4+2*level:6+2*level]) || digest.Sum(one) != digest.Sum(two) {
			t.Errorf("level %d: %v, %v, %v", level, one, two, ok)
		}
	}
}

// grafted gives the proof of cell 0 another word, and a digest with which it fits.
func grafted(proof []byte, word, level int) []byte {
	digestOf := func(proof []byte) int {
		sum := digest.Sum([]byte{0}, proof[:4])
		for at := 4; at < 6+2*level; at += 2 {
			sum = digest.Sum([]byte{1}, digest.Two(sum), proof[at:at+2])
		}
		return sum
	}
	made := slices.Concat(digest.Word(uint32(word)), proof[4:])
	for other := range 1 << 16 {
		copy(made[4+2*level:], digest.Two(other))
		if digestOf(made) == digestOf(proof) {
			break
		}
	}
	return made
}
