package memory

import (
	"bytes"
	"math"

	"deponent/api"
	"deponent/digest"
)

// Cells is a machine's own memory. Its copies are memories of their own: the sources, which they share, are never written into.
type Cells struct {
	ground
	words [api.Cells]uint32
}

// New has these words in its first cells, and copies of these sources.
func New(words []int, sources []api.Source) (Cells, api.Errno) {
	if !areCells(words) || !areSources(sources) {
		return Cells{}, api.ErrArg
	}
	var cells Cells
	for n, word := range words {
		cells.words[n] = uint32(word)
	}
	for _, source := range sources {
		cells.sources = append(cells.sources, bytes.Clone(source))
	}
	return cells, api.OK
}

func areCells(words []int) bool {
	if len(words) > api.Cells {
		return false
	}
	for _, word := range words {
		if word < 0 || word > math.MaxUint32 {
			return false
		}
	}
	return true
}

func areSources(sources []api.Source) bool {
	if len(sources) > api.MaxSources {
		return false
	}
	for _, source := range sources {
		if len(source) > api.MaxSource {
			return false
		}
	}
	return true
}

// Load tells a cell's word.
func (c *Cells) Load(n uint32) (uint32, api.Errno) {
	if e := c.reach(n); e != api.OK {
		return 0, e
	}
	return c.words[n], api.OK
}

// Store gives a cell its word.
func (c *Cells) Store(n, word uint32) api.Errno {
	if e := c.reach(n); e != api.OK {
		return e
	}
	c.words[n] = word
	return api.OK
}

// Root is the digest of all cells.
func (c *Cells) Root() int {
	level := c.digests()
	for len(level) > 1 {
		level = joined(level)
	}
	return level[0]
}

// proof of the word of a cell that is there.
func (c *Cells) proof(n uint32) proof {
	made := proof{word: c.words[n]}
	level := c.digests()
	for up := range made.others {
		made.others[up] = level[n^1]
		level = joined(level)
		n /= 2
	}
	return made
}

// digests of the single cells.
func (c *Cells) digests() []int {
	level := make([]int, api.Cells)
	for n, word := range c.words {
		level[n] = digest.Cell(word)
	}
	return level
}

// joined has a digest for every two neighbours of a level.
func joined(level []int) []int {
	above := make([]int, len(level)/2)
	for n := range above {
		above[n] = digest.Halves(level[2*n], level[2*n+1])
	}
	return above
}
