// Package dispute: two who say that a run comes to different ends, and the one step that is left of it.
package dispute

import (
	"deponent/api"
	"deponent/proving"
)

// stretch of the steps in dispute.
type stretch struct {
	from, size int
}

// halve leaves the half that is said to be wrong.
func (s *stretch) halve(left bool) {
	s.size /= 2
	if !left {
		s.from += s.size
	}
}

// Settle tells which step is left, and whether its witness upholds it.
func Settle(depth, first, last int, moves []api.Move, witness []byte) (api.Verdict, api.Errno) {
	if depth < 0 || depth > api.MaxDepth {
		return api.Verdict{}, api.ErrArg
	}
	if len(moves) != depth {
		return api.Verdict{}, api.ErrTurn
	}
	left := stretch{size: 1 << depth}
	for _, move := range moves {
		left.halve(move.Left)
		if move.Left {
			last = move.Stamp
		} else {
			first = move.Stamp
		}
	}
	after, e := proving.Check(first, witness)
	upheld := e == api.OK && after == last
	return api.Verdict{From: first, To: last, Number: left.from, Upheld: upheld}, api.OK
}

// Middle tells how many steps come ahead of the middle of what is left when these were the Lefts.
func Middle(depth int, asked []bool) (int, api.Errno) {
	if depth < 1 || depth > api.MaxDepth || len(asked) >= depth {
		return 0, api.ErrArg
	}
	left := stretch{size: 1 << depth}
	for _, l := range asked {
		left.halve(l)
	}
	return left.from + left.size/2, api.OK
}
