package deponent_test

import (
	"slices"
	"testing"

	"deponent/api"
	"deponent/deponent"
)

const top = 1<<32 - 1

// in is the word of an instruction.
func in(op, a, b, c, n int) int { return op<<26 | a<<23 | b<<20 | c<<17 | n&131071 }

// machine has these words and sources.
func machine(t *testing.T, words []int, sources ...api.Source) *deponent.Machine {
	t.Helper()
	m, e := deponent.New(words, sources...)
	if m == nil || e != api.OK {
		t.Fatalf("New = %v, %d", m, e)
	}
	return m
}

// cells are all the words of a machine.
func cells(t *testing.T, m *deponent.Machine) [api.Cells]int {
	t.Helper()
	var words [api.Cells]int
	for n := range words {
		word, e := m.Cell(n)
		if e != api.OK {
			t.Fatalf("Cell(%d): %d", n, e)
		}
		words[n] = word
	}
	return words
}

// bytesOf a word: 4, the highest first.
func bytesOf(word int) []byte {
	return []byte{byte(word >> 24), byte(word >> 16), byte(word >> 8), byte(word)}
}

// rootOf some cells, by halves from the top.
func rootOf(words []int) int {
	if len(words) == 1 {
		return deponent.Sum([]byte{0}, bytesOf(words[0]))
	}
	half := len(words) / 2
	l, r := rootOf(words[:half]), rootOf(words[half:])
	return deponent.Sum([]byte{1, byte(l >> 8), byte(l), byte(r >> 8), byte(r)})
}

// labelOf a state that was told.
func labelOf(s api.State) []byte {
	over := byte(0)
	if s.Over {
		over = 1
	}
	label := slices.Concat(bytesOf(s.PC), bytesOf(s.Steps), bytesOf(s.Code), []byte{over})
	for _, word := range s.Registers {
		label = append(label, bytesOf(word)...)
	}
	return append(label, byte(s.Root>>8), byte(s.Root))
}

// stampOf a state that was told.
func stampOf(s api.State) int { return deponent.Sum(labelOf(s)) }

// proofOf the word of cell n: with the roots of the other halves.
func proofOf(words []int, n int) []byte {
	proof := bytesOf(words[n])
	for size := 1; size < len(words); size *= 2 {
		from := (n/size ^ 1) * size
		other := rootOf(words[from : from+size])
		proof = append(proof, byte(other>>8), byte(other))
	}
	return proof
}

// cellOf is what a LOAD or STORE with this word reaches for.
func cellOf(s api.State, word int) int {
	n := word & 131071
	if n >= 65536 {
		n -= 131072
	}
	return (s.Registers[word>>20&7] + n) & top
}

// fitting is the root that a proof of cell n fits; of a proof that goes less far up, the digest that it comes to.
func fitting(proof []byte, n int) int {
	sum := deponent.Sum([]byte{0}, proof[:4])
	for at := 4; at < len(proof); at += 2 {
		sum = joined(sum, proof[at:at+2], n)
		n /= 2
	}
	return sum
}

// joined is the digest of two halves, of which the one with the number n has this digest.
func joined(sum int, other []byte, n int) int {
	own := []byte{byte(sum >> 8), byte(sum)}
	if n%2 == 1 {
		own, other = other, own
	}
	return deponent.Sum([]byte{1}, own, other)
}

// sameSum finds two texts of four bytes with one sum.
func sameSum() (api.Source, api.Source) {
	first := map[int]api.Source{}
	for n := 0; ; n++ {
		text := api.Source(bytesOf(n))
		if other, ok := first[deponent.Sum(text)]; ok {
			return other, text
		}
		first[deponent.Sum(text)] = text
	}
}
