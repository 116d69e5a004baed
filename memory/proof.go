package memory

import (
	"deponent/digest"
	"deponent/parts"
)

// height: how often all cells can be halved.
const height = 8

// proof of a cell's word.
type proof struct {
	word uint32
	// others are the digests of the other halves, from the cell up.
	others [height]int
}

// cutProof takes the next proof off a witness.
func cutProof(p *parts.Parts) proof {
	cut := proof{word: p.Word()}
	for n := range cut.others {
		cut.others[n] = p.Two()
	}
	return cut
}

// bytes of the proof, as a witness has them.
func (p proof) bytes() []byte {
	text := digest.Word(p.word)
	for _, other := range p.others {
		text = append(text, digest.Two(other)...)
	}
	return text
}

// root is what the proof fits, if it is one of the cell n.
func (p proof) root(n uint32) int {
	sum := digest.Cell(p.word)
	for _, other := range p.others {
		if n%2 == 0 {
			sum = digest.Halves(sum, other)
		} else {
			sum = digest.Halves(other, sum)
		}
		n /= 2
	}
	return sum
}
