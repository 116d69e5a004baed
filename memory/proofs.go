package memory

import (
	"bytes"

	"deponent/api"
	"deponent/digest"
	"deponent/parts"
)

// Proofs is the memory of a witness: nothing is known of it but its root, and what the witness proves when a core reaches for it. A witness that does not is given up.
type Proofs struct {
	ground
	parts *parts.Parts
	root  int
	// Texts are those that were believed for their sums, in that order: each sum was known by the texts ahead of it, or ahead of all.
	Texts [][]byte
}

// Proven is the memory that has this root, and whose proofs come next in a witness.
func Proven(root int, p *parts.Parts) Proofs {
	return Proofs{parts: p, root: root}
}

// Load tells a cell's word, by the next proof.
func (p *Proofs) Load(n uint32) (uint32, api.Errno) {
	if e := p.reach(n); e != api.OK {
		return 0, e
	}
	return p.cut(n).word, api.OK
}

// Store gives a cell its word, by the next proof: with another word it fits the root that is then.
func (p *Proofs) Store(n, word uint32) api.Errno {
	if e := p.reach(n); e != api.OK {
		return e
	}
	next := p.cut(n)
	next.word = word
	p.root = next.root(n)
	return api.OK
}

// Source is the one that comes next. It is never missing: what is asked for must be there.
func (p *Proofs) Source(name uint32) (api.Source, api.Errno) {
	size := int(p.parts.Byte())
	p.parts.Require(size <= api.MaxSource)
	p.sources = []api.Source{p.parts.Cut(size)}
	source, e := p.ground.Source(name)
	p.parts.Require(e == api.OK)
	p.Texts = append(p.Texts, bytes.Clone(source)) // what was cut off is the witness's own memory
	return source, api.OK
}

// Root is the digest of all cells.
func (p *Proofs) Root() int {
	return p.root
}

// cut takes the next proof off, which must be one of the cell n.
func (p *Proofs) cut(n uint32) proof {
	next := cutProof(p.parts)
	texts := next.texts(n)
	p.parts.Require(digest.Sum(texts[0]) == p.root)
	p.Texts = append(p.Texts, texts[:]...)
	return next
}
