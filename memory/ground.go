// Package memory: the cells and sources that a core reaches.
package memory

import (
	"deponent/api"
	"deponent/digest"
)

// ground is what every memory has, whatever it knows its cells by.
type ground struct {
	sources []api.Source
}

// reach tells whether there is such a cell.
func (g *ground) reach(n uint32) api.Errno {
	if n >= api.Cells {
		return api.ErrAddress
	}
	return api.OK
}

// Source is the first one that is called so.
func (g *ground) Source(name uint32) (api.Source, api.Errno) {
	for _, source := range g.sources {
		if uint32(digest.Sum(source)) == name {
			return source, api.OK
		}
	}
	return nil, api.ErrSource
}
