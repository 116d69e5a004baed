package deponent_test

import (
	"math"
	"math/rand"
	"slices"
	"testing"

	"deponent/api"
	"deponent/deponent"
)

// settled is P11 told a second time: by the stamps of the whole stretch, as far as they were said.
func settled(depth, first, last int, moves []api.Move, w []byte) api.Verdict {
	said := map[int]int{0: first, 1 << depth: last}
	from, to := 0, 1<<depth
	for _, move := range moves {
		middle := (from + to) / 2
		said[middle] = move.Stamp
		if move.Left {
			to = middle
		} else {
			from = middle
		}
	}
	v := api.Verdict{From: said[from], To: said[to], Number: from}
	n, e := checked(v.From, w)
	v.Upheld = e == api.OK && n == v.To
	return v
}

// settles sees that Settle says what the document says, and writes into nothing.
func settles(t *testing.T, depth, first, last int, moves []api.Move, w []byte) api.Verdict {
	t.Helper()
	keepMoves := append(slices.Clone(moves), left(77))
	keepWitness := append(slices.Clone(w), 77)
	v, e := deponent.Settle(depth, first, last, keepMoves[:len(moves)], keepWitness[:len(w)])
	if want := settled(depth, first, last, moves, w); v != want || e != api.OK {
		t.Fatalf("P11: Settle(%d, %d, %d, %v) = %+v, %d, want %+v", depth, first, last, moves, v, e, want)
	}
	if !slices.Equal(keepMoves, append(slices.Clone(moves), left(77))) || !slices.Equal(keepWitness, append(slices.Clone(w), 77)) {
		t.Fatalf("P2: Settle writes into what it is given")
	}
	return v
}

func TestSettleOfOneStep(t *testing.T) { // P11, example 5
	m := at(t, in(api.Add, 3, 1, 2, 0), 5, 7)
	w, _ := m.Witness()
	a := m.Stamp()
	m.Step()
	b := m.Stamp()
	for _, c := range []struct {
		first, last int
		w           []byte
		want        bool
	}{
		{a, b, w, true},
		{a, b + 1, w, false},
		{a, a, w, false},
		{b, b, w, false},
		{a, b, w[:66], false},
		{a, b, nil, false},
		{a, 0, nil, false}, // 0 is what Check answers beside its error
		{0, 0, nil, false},
		{-1, b, w, false},
		{a + 65521, b, w, false},
		{a, b + 65521, w, false},
		{math.MinInt, math.MaxInt, w, false},
	} {
		if v := settles(t, 0, c.first, c.last, nil, c.w); v != (api.Verdict{From: c.first, To: c.last, Upheld: c.want}) {
			t.Errorf("P11: Settle(0, %d, %d) = %+v, want upheld %v", c.first, c.last, v, c.want)
		}
	}
}

// A step that is an error upholds nothing, not even 0.
func TestSettleOfErrors(t *testing.T) { // P11
	for _, word := range []int{in(api.Div, 1, 2, 3, 0), in(20, 0, 0, 0, 0), in(api.Load, 1, 1, 0, 256)} {
		m := at(t, word, 5, 7)
		for _, last := range []int{0, m.Stamp()} {
			if v := settles(t, 0, m.Stamp(), last, nil, witnessOf(t, m)); v.Upheld {
				t.Errorf("P11: an error is upheld: %+v", v)
			}
		}
	}
}

func TestSettleOfWrongArguments(t *testing.T) { // P1, P11
	m := at(t, in(api.Add, 3, 1, 2, 0), 5, 7)
	w, _ := m.Witness()
	for _, c := range []struct {
		depth, moves int
		want         api.Errno
	}{
		{-1, 0, api.ErrArg}, {-1, 1, api.ErrArg}, {17, 17, api.ErrArg}, {17, 0, api.ErrArg}, {17, 16, api.ErrArg},
		{math.MinInt, 0, api.ErrArg}, {math.MaxInt, 5, api.ErrArg}, {64, 64, api.ErrArg},
		{0, 1, api.ErrTurn}, {1, 0, api.ErrTurn}, {1, 2, api.ErrTurn}, {5, 4, api.ErrTurn}, {5, 6, api.ErrTurn},
		{16, 15, api.ErrTurn}, {16, 17, api.ErrTurn}, {16, 0, api.ErrTurn}, {0, 100000, api.ErrTurn},
	} {
		if v, e := deponent.Settle(c.depth, m.Stamp(), 5, make([]api.Move, c.moves), w); v != (api.Verdict{}) || e != c.want {
			t.Errorf("P11: Settle(%d) with %d moves = %+v, %d, want %d", c.depth, c.moves, v, e, c.want)
		}
	}
}

func left(stamp int) api.Move { return api.Move{Stamp: stamp, Left: true} }

func right(stamp int) api.Move { return api.Move{Stamp: stamp} }

func TestSettleHalves(t *testing.T) { // P11
	m := at(t, in(api.Add, 3, 1, 2, 0), 5, 7)
	w, _ := m.Witness()
	a := m.Stamp()
	m.Step()
	b := m.Stamp()
	for _, c := range []struct {
		depth, first, last int
		moves              []api.Move
		want               api.Verdict
	}{
		{1, a, 5, []api.Move{left(b)}, api.Verdict{From: a, To: b, Number: 0, Upheld: true}},
		{1, 5, b, []api.Move{right(a)}, api.Verdict{From: a, To: b, Number: 1, Upheld: true}},
		{2, 5, 6, []api.Move{right(a), left(b)}, api.Verdict{From: a, To: b, Number: 2, Upheld: true}},
		{2, 5, 6, []api.Move{left(b), right(a)}, api.Verdict{From: a, To: b, Number: 1, Upheld: true}},
		{3, 5, 6, []api.Move{right(a), left(7), left(b)}, api.Verdict{From: a, To: b, Number: 4, Upheld: true}},
		{3, 5, b, []api.Move{right(7), right(8), right(a)}, api.Verdict{From: a, To: b, Number: 7, Upheld: true}},
		{3, a, 5, []api.Move{left(7), left(8), left(b)}, api.Verdict{From: a, To: b, Number: 0, Upheld: true}},
		{16, 5, b, append(make([]api.Move, 15), right(a)), api.Verdict{From: a, To: b, Number: 65535, Upheld: true}},
		{16, 5, b, append([]api.Move{left(8)}, make([]api.Move, 15)...), api.Verdict{From: 0, To: 8, Number: 32767}},
		{16, 5, -6, append([]api.Move{right(8)}, slices.Repeat([]api.Move{left(-9)}, 15)...), api.Verdict{From: 8, To: -9, Number: 32768}},
	} {
		if v := settles(t, c.depth, c.first, c.last, c.moves, w); v != c.want {
			t.Errorf("P11: Settle(%d, %d, %d, %v) = %+v, want %+v", c.depth, c.first, c.last, c.moves, v, c.want)
		}
	}
}

func TestSettleAgainstModel(t *testing.T) { // P11
	r := rand.New(rand.NewSource(10))
	m := at(t, in(api.Add, 3, 1, 2, 0), 5, 7)
	w, _ := m.Witness()
	a := m.Stamp()
	m.Step()
	stamps, upheld := []int{a, m.Stamp(), a, m.Stamp(), 0, -1, 65520}, 0
	for range 3000 {
		depth := r.Intn(api.MaxDepth + 1)
		stamp := func() int { return stamps[r.Intn(len(stamps))] }
		moves := make([]api.Move, depth)
		for n := range moves {
			moves[n] = api.Move{Stamp: stamp(), Left: r.Intn(2) == 0}
		}
		if settles(t, depth, stamp(), stamp(), moves, w).Upheld {
			upheld++
		}
	}
	if upheld < 100 {
		t.Errorf("%d are upheld", upheld)
	}
}
