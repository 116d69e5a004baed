package deponent_test

import (
	"bytes"
	"iter"
	"math/rand"
	"slices"

	"deponent/api"
	"deponent/deponent"
)

// So weak is the sum that wrong witnesses can be made that are taken all the same: this file does.

// twins are the other texts with the same sum that differ from this one only in the three bytes from a place on.
func twins(text []byte, at int) iter.Seq[[]byte] {
	return func(yield func([]byte) bool) {
		was := (int(text[at])*257+int(text[at+1]))*257 + int(text[at+2])
		for n := range 1 << 16 {
			last := ((was-(n>>8*257+n&255)*257)%65521 + 65521) % 65521
			if last > 255 {
				continue
			}
			twin := bytes.Clone(text)
			twin[at], twin[at+1], twin[at+2] = byte(n>>8), byte(n), byte(last)
			if !bytes.Equal(twin, text) && !yield(twin) {
				return
			}
		}
	}
}

// tuned gives a text this sum, by the three bytes from a place on; nil, if it is none.
func tuned(text []byte, at, sum int) []byte {
	if sum > 65520 {
		return nil
	}
	made, weight := bytes.Clone(text), 1
	made[at], made[at+1], made[at+2] = 0, 0, 0
	for range len(text) - at - 3 {
		weight = weight * 257 % 65521
	}
	base := deponent.Sum(made)
	for n := range 1 << 24 {
		if three := (n>>16*257+n>>8&255)*257 + n&255; (base+three*weight)%65521 == sum {
			made[at], made[at+1], made[at+2] = byte(n>>16), byte(n>>8), byte(n)
			return made
		}
	}
	return nil
}

// graft gives the proof of cell n another digest of that level, so that it comes to this one there; nil, if there is none.
func graft(proof []byte, n, level, want int) []byte {
	own, other := fitting(proof[:4+2*level], n), make([]byte, 2)
	for was := proof[4+2*level : 6+2*level]; ; {
		if !bytes.Equal(other, was) && joined(own, other, n>>level) == want {
			return slices.Concat(proof[:4+2*level], other, proof[6+2*level:])
		}
		if other[1]++; other[1] == 0 {
			other[0]++
		}
		if other[0]|other[1] == 0 {
			return nil
		}
	}
}

// regraft gives the proof of cell n this word, and another digest of that level, so that it fits the same root; nil, if there is none.
func regraft(proof []byte, n, word, level int) []byte {
	return graft(slices.Concat(bytesOf(word), proof[4:]), n, level, fitting(proof[:6+2*level], n))
}

// forger makes wrong witnesses of the next step of a state with these cells and sources.
type forger struct {
	*rand.Rand
	state   api.State
	words   []int
	sources []api.Source
}

// one of some texts; nil, if there are none.
func (f *forger) one(texts iter.Seq[[]byte]) []byte {
	all := slices.Collect(texts)
	if len(all) == 0 {
		return nil
	}
	return all[f.Intn(len(all))]
}

// label makes a witness of another state with the same stamp.
func (f *forger) label() []byte {
	text := f.one(twins(labelOf(f.state), []int{3, 4, 9, 10, 13, 14, 21, 27, 41, 43, 44}[f.Intn(11)]))
	if text == nil || text[12] > 1 {
		return nil
	}
	s := stateOf(text)
	w := witnessFor(s, f.words, f.sources)
	if len(w) > 47 && s.Root != f.state.Root {
		return slices.Concat(w[:47], graft(w[47:67], s.PC, 7, s.Root), w[67:])
	}
	return w
}

// over makes a witness of a state with the same stamp that is over, or, if this one is, that is not.
func (f *forger) over() []byte {
	s := f.state
	s.Over = !s.Over
	return witnessFor(stateOf(tuned(labelOf(s), 8, stampOf(f.state))), f.words, f.sources)
}

// instruction makes a witness of another instruction with the same digest.
func (f *forger) instruction() []byte {
	return f.cell(f.state.PC)
}

// operand makes a witness of another word with the same digest in the cell of a LOAD or STORE.
func (f *forger) operand() []byte {
	if f.state.PC > 255 {
		return nil
	}
	return f.cell(cellOf(f.state, f.words[f.state.PC]))
}

// cell makes a witness of what has another word with the same digest there.
func (f *forger) cell(n int) []byte {
	if n > 255 {
		return nil
	}
	twin := f.one(twins(bytesOf(f.words[n]), f.Intn(2)))
	if twin == nil {
		return nil
	}
	words := slices.Clone(f.words)
	words[n] = int(twin[0])<<24 | int(twin[1])<<16 | int(twin[2])<<8 | int(twin[3])
	return witnessFor(f.state, words, f.sources)
}

// digests makes a witness of any instruction, with another digest.
func (f *forger) digests() []byte {
	if f.state.Over || f.state.PC > 255 {
		return nil
	}
	word := in(f.Intn(21), f.Intn(8), f.Intn(8), f.Intn(8), f.Intn(131072))
	return f.grafted(word, f.Intn(8))
}

// grafted makes a witness of this instruction, with another digest of that level.
func (f *forger) grafted(word, level int) []byte {
	proof := regraft(proofOf(f.words, f.state.PC), f.state.PC, word, level)
	if proof == nil {
		return nil
	}
	return slices.Concat(labelOf(f.state), proof, behind(f.state, word, f.words, f.sources))
}

// second makes a witness of any word in the cell of a LOAD or STORE, with another digest.
func (f *forger) second() []byte {
	w := witnessFor(f.state, f.words, f.sources)
	if len(w) != 87 || w[47]>>2 == api.Ask {
		return nil
	}
	cell := cellOf(f.state, f.words[f.state.PC])
	proof := regraft(w[67:], cell, f.Intn(1<<32), f.Intn(8))
	if proof == nil {
		return nil
	}
	return append(w[:67], proof...)
}

// source makes a witness of another source that is called the same.
func (f *forger) source() []byte {
	w := witnessFor(f.state, f.words, f.sources)
	if len(w) < 68 || w[47]>>2 != api.Ask {
		return nil
	}
	name := sumOf(w[68:])
	if f.Intn(2) == 0 || len(w) < 71 {
		return slices.Concat(w[:67], []byte{3}, tuned(make([]byte, 3), 0, name))
	}
	return append(w[:68], f.one(twins(w[68:], f.Intn(len(w)-70)))...)
}
