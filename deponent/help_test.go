package deponent_test

import (
	"testing"

	"deponent/api"
	"deponent/deponent"
)

const top = 1<<32 - 1

// in is the word of an instruction.
func in(op, a, b, c, n int) int { return op<<26 | a<<23 | b<<20 | c<<17 | n&131071 }

// machine has these words and sources.
func machine(t *testing.T, words []int, sources ...api.Source) *deponent.Machine {
	t.Helper()
	m, e := deponent.New(words, sources...)
	if m == nil || e != api.OK {
		t.Fatalf("New = %v, %d", m, e)
	}
	return m
}

// cells are all the words of a machine.
func cells(t *testing.T, m *deponent.Machine) [api.Cells]int {
	t.Helper()
	var words [api.Cells]int
	for n := range words {
		word, e := m.Cell(n)
		if e != api.OK {
			t.Fatalf("Cell(%d): %d", n, e)
		}
		words[n] = word
	}
	return words
}

// bytesOf a word: 4, the highest first.
func bytesOf(word int) []byte {
	return []byte{byte(word >> 24), byte(word >> 16), byte(word >> 8), byte(word)}
}

// rootOf some cells, by halves from the top.
func rootOf(words []int) int {
	if len(words) == 1 {
		return deponent.Sum([]byte{0}, bytesOf(words[0]))
	}
	half := len(words) / 2
	l, r := rootOf(words[:half]), rootOf(words[half:])
	return deponent.Sum([]byte{1, byte(l >> 8), byte(l), byte(r >> 8), byte(r)})
}

// stampOf a state that was told.
func stampOf(s api.State) int {
	over := byte(0)
	if s.Over {
		over = 1
	}
	parts := [][]byte{bytesOf(s.PC), bytesOf(s.Steps), bytesOf(s.Code), {over}}
	for _, word := range s.Registers {
		parts = append(parts, bytesOf(word))
	}
	return deponent.Sum(append(parts, []byte{byte(s.Root >> 8), byte(s.Root)})...)
}
