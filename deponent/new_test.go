package deponent_test

import (
	"math"
	"slices"
	"testing"

	"deponent/api"
	"deponent/deponent"
)

func TestNew(t *testing.T) { // P4
	full := make([]int, api.Cells)
	for n := range full {
		full[n] = top - n
	}
	for _, words := range [][]int{nil, {}, {0}, {top}, {1, 2, 3}, full} {
		m := machine(t, words)
		want := api.State{Root: rootOf(append(slices.Clone(words), make([]int, api.Cells-len(words))...))}
		if s := m.Look(); s != want {
			t.Errorf("P4: Look = %+v, want %+v", s, want)
		}
		for n, word := range cells(t, m) {
			if n < len(words) && word != words[n] || n >= len(words) && word != 0 {
				t.Errorf("P4: Cell(%d) = %d", n, word)
			}
		}
	}
}

func TestNewAtItsLimits(t *testing.T) { // P4
	long, longer := make(api.Source, 200), make(api.Source, 201)
	many := func(n int, s api.Source) []api.Source {
		return slices.Repeat([]api.Source{s}, n)
	}
	for _, c := range []struct {
		words   []int
		sources []api.Source
		want    api.Errno
	}{
		{make([]int, 256), many(8, long), api.OK},
		{nil, many(8, nil), api.OK},
		{make([]int, 257), nil, api.ErrArg},
		{make([]int, 100000), nil, api.ErrArg},
		{[]int{-1}, nil, api.ErrArg},
		{[]int{0, top + 1}, nil, api.ErrArg},
		{[]int{math.MinInt}, nil, api.ErrArg},
		{[]int{math.MaxInt}, nil, api.ErrArg},
		{append(make([]int, 255), -1), nil, api.ErrArg},
		{nil, many(9, nil), api.ErrArg},
		{nil, many(1, longer), api.ErrArg},
		{nil, append(many(7, long), longer), api.ErrArg},
		{make([]int, 257), many(9, longer), api.ErrArg},
	} {
		m, e := deponent.New(c.words, c.sources...)
		if e != c.want || (m == nil) != (e != api.OK) {
			t.Errorf("P4: New(%d words, %d sources) = %v, %d, want %d", len(c.words), len(c.sources), m, e, c.want)
		}
	}
}

func TestNewKeepsAndWritesNothing(t *testing.T) { // P2
	text := []byte("abcdefgh")
	sources := []api.Source{text[:4], api.Source("behind")}
	set := in(api.Set, 2, 0, 0, deponent.Sum(text[:4]))
	ask := in(api.Ask, 1, 2, 3, 0)
	store := in(api.Store, 1, 0, 0, 3) // into the cell whose number the word behind the list has
	words := []int{set, ask, store, 66}
	m := machine(t, words[:3], sources[:1]...)
	words[1], text[0], sources[0] = 0, 'z', nil
	if n, e := m.Run(3); n != 3 || e != api.OK {
		t.Fatalf("P2: Run = %d, %d", n, e)
	}
	if word, _ := m.Cell(3); word != 0x61626364 {
		t.Errorf("P2: a list was kept: %x", word)
	}
	if string(text) != "zbcdefgh" || sources[0] != nil || string(sources[1]) != "behind" {
		t.Errorf("P2: written into: %q, %v", text, sources)
	}
	if !slices.Equal(words, []int{set, 0, store, 66}) {
		t.Errorf("P2: written into: %v", words)
	}
}

func TestMachinesAreApart(t *testing.T) { // P2
	words, source := []int{in(api.Set, 1, 1, 0, 1), in(api.Store, 1, 0, 0, 9), in(api.Call, 7, 0, 0, 0)}, api.Source("s")
	one, two := machine(t, words, source), machine(t, words, source)
	was := two.Look()
	if n, e := one.Run(50); n != 50 || e != api.OK {
		t.Fatalf("Run = %d, %d", n, e)
	}
	if two.Look() != was || one.Look() == was {
		t.Errorf("P2: %+v, was %+v", two.Look(), was)
	}
	two.Run(50)
	if one.Look() != two.Look() || one.Stamp() != two.Stamp() || cells(t, one) != cells(t, two) {
		t.Error("P2: what was done alike came to different ends")
	}
}
