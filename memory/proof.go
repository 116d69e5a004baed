package memory

import (
	"deponent/digest"
	"deponent/parts"
)

// height: how often all cells can be halved.
const height = 8

// proof of a cell's word.
type proof struct {
	word uint32
	// others are the digests of the other halves, from the cell up.
	others [height]int
}

// cutProof takes the next proof off a witness.
func cutProof(p *parts.Parts) proof {
	cut := proof{word: p.Word()}
	for n := range cut.others {
		cut.others[n] = p.Two()
	}
	return cut
}

// bytes of the proof, as a witness has them.
func (p proof) bytes() []byte {
	text := digest.Word(p.word)
	for _, other := range p.others {
		text = append(text, digest.Two(other)...)
	}
	return text
}

// texts that the proof goes by, if it is one of the cell n: from that of all cells, whose sum is the root, down to the cell's. So each has the sum that the one ahead of it names.
func (p proof) texts(n uint32) [height + 1][]byte {
	var texts [height + 1][]byte
	text := digest.CellText(p.word)
	texts[height] = text
	for up, other := range p.others {
		first, second := digest.Sum(text), other
		if n>>up%2 == 1 {
			first, second = second, first
		}
		text = digest.HalvesText(first, second)
		texts[height-1-up] = text
	}
	return texts
}

// root is what the proof fits, if it is one of the cell n.
func (p proof) root(n uint32) int {
	return digest.Sum(p.texts(n)[0])
}
