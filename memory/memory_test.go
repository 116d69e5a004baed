package memory

import (
	"testing"

	"deponent/api"
	"deponent/digest"
)

// made has these words and sources.
func made(t *testing.T, words []int, sources ...api.Source) Cells {
	t.Helper()
	cells, e := New(words, sources)
	if e != api.OK {
		t.Fatalf("New: %d", e)
	}
	return cells
}

func TestLoadAndStore(t *testing.T) {
	cells := made(t, []int{5})
	if e := cells.Store(255, 9); e != api.OK {
		t.Fatalf("Store(255) = %d", e)
	}
	for n, want := range map[uint32]uint32{0: 5, 1: 0, 254: 0, 255: 9} {
		if word, e := cells.Load(n); word != want || e != api.OK {
			t.Errorf("Load(%d) = %d, %d", n, word, e)
		}
	}
}

func TestNoSuchCell(t *testing.T) {
	cells := made(t, nil)
	was := cells.Root()
	for _, n := range []uint32{256, 257, 1 << 31, 1<<32 - 1} {
		if word, e := cells.Load(n); word != 0 || e != api.ErrAddress {
			t.Errorf("Load(%d) = %d, %d", n, word, e)
		}
		if e := cells.Store(n, 1); e != api.ErrAddress {
			t.Errorf("Store(%d) = %d", n, e)
		}
	}
	if cells.Root() != was {
		t.Error("a Store with an error changed the root")
	}
}

func TestCopyIsItsOwnMemory(t *testing.T) {
	cells := made(t, []int{5})
	other := cells
	other.Store(0, 6)
	if word, _ := cells.Load(0); word != 5 {
		t.Errorf("Load(0) = %d behind a Store into a copy", word)
	}
}

func TestSourceIsTheFirstOneCalledSo(t *testing.T) {
	one, two := collision()
	name := uint32(digest.Sum(one))
	cells := made(t, nil, api.Source("x"), one, two)
	if s, e := cells.Source(name); string(s) != string(one) || e != api.OK {
		t.Errorf("Source = %v, %d, want %v", s, e, one)
	}
	cells = made(t, nil, api.Source("x"), two, one)
	if s, e := cells.Source(name); string(s) != string(two) || e != api.OK {
		t.Errorf("Source = %v, %d, want %v", s, e, two)
	}
	if s, e := cells.Source(name + 65521); s != nil || e != api.ErrSource {
		t.Errorf("Source of no sum = %v, %d", s, e)
	}
}

// collision finds two sources with one sum.
func collision() (api.Source, api.Source) {
	first := map[int]api.Source{}
	for n := 0; ; n++ {
		text := api.Source(digest.Word(uint32(n)))
		sum := digest.Sum(text)
		if other, ok := first[sum]; ok {
			return other, text
		}
		first[sum] = text
	}
}

// rootOf works a root out as the document says it: by halves, from the top.
func rootOf(words []int) int {
	if len(words) == 1 {
		return digest.Cell(uint32(words[0]))
	}
	half := len(words) / 2
	return digest.Halves(rootOf(words[:half]), rootOf(words[half:]))
}

func TestRoot(t *testing.T) {
	words := make([]int, api.Cells)
	for n := range words {
		words[n] = (n*n*n + 7) * 104729 % (1 << 32)
	}
	cells := made(t, words)
	if n, want := cells.Root(), rootOf(words); n != want {
		t.Errorf("Root = %d, want %d", n, want)
	}
	cells.Store(200, 3)
	words[200] = 3
	if n, want := cells.Root(), rootOf(words); n != want {
		t.Errorf("Root behind a Store = %d, want %d", n, want)
	}
}
