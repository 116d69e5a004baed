package memory

import (
	"bytes"
	"slices"
	"testing"

	"deponent/api"
	"deponent/digest"
	"deponent/parts"
)

// filled are words for all cells.
func filled() []int {
	words := make([]int, api.Cells)
	for n := range words {
		words[n] = (n*n*n + 7) * 104729 % (1 << 32)
	}
	return words
}

// rightProof of a cell, worked out from the words by halves.
func rightProof(words []int, n int) []byte {
	text := digest.Word(uint32(words[n]))
	for size := 1; size < len(words); size *= 2 {
		from := (n/size ^ 1) * size
		text = append(text, digest.Two(rootOf(words[from:from+size]))...)
	}
	return text
}

// wrong tells whether a witness is given up by it.
func wrong(t *testing.T, do func()) (up bool) {
	t.Helper()
	defer func() {
		if r := recover(); r != nil {
			if up = r == parts.ErrWrong; !up {
				t.Errorf("a panic with %v", r)
			}
		}
	}()
	do()
	return false
}

func TestProofOfEachCell(t *testing.T) {
	words := filled()
	cells := made(t, words)
	for n := range words {
		text := cells.proof(uint32(n)).bytes()
		if !bytes.Equal(text, rightProof(words, n)) {
			t.Fatalf("the proof of cell %d: %v, want %v", n, text, rightProof(words, n))
		}
		p := parts.Of(text)
		if cutProof(p) != cells.proof(uint32(n)) || wrong(t, p.End) {
			t.Fatalf("the proof of cell %d is not read as it is written", n)
		}
		made := cells.proof(uint32(n))
		if made.root(uint32(n)) != cells.Root() {
			t.Fatalf("the proof of cell %d does not fit", n)
		}
		// Any other cell may fit by chance, so weak is the sum: these do not.
		for bit := range 8 {
			if made.root(uint32(n^1<<bit)) == cells.Root() {
				t.Fatalf("the proof of cell %d fits as one of cell %d", n, n^1<<bit)
			}
		}
	}
}

func TestProofsTellWhatTheyProve(t *testing.T) {
	words := filled()
	root := rootOf(words)
	for _, n := range []int{0, 1, 2, 127, 128, 254, 255} {
		proofs := Proven(root, parts.Of(rightProof(words, n)))
		if word, e := proofs.Load(uint32(n)); int(word) != words[n] || e != api.OK || proofs.Root() != root {
			t.Errorf("Load(%d) = %d, %d, root %d", n, word, e, proofs.Root())
		}
		after := slices.Clone(words)
		after[n] = 99
		proofs = Proven(root, parts.Of(rightProof(words, n)))
		if e := proofs.Store(uint32(n), 99); e != api.OK || proofs.Root() != rootOf(after) {
			t.Errorf("Store(%d): %d, root %d, want %d", n, e, proofs.Root(), rootOf(after))
		}
		if !wrong(t, func() { proofs.Load(uint32(n)) }) {
			t.Errorf("Load(%d) without a proof", n)
		}
	}
}

// A second proof must fit what a Store ahead of it has made of the root.
func TestProofsBehindAStore(t *testing.T) {
	words := filled()
	after := slices.Clone(words)
	after[7] = 1
	for _, c := range []struct {
		second []byte
		want   bool
	}{{rightProof(after, 200), false}, {rightProof(words, 200), true}} {
		proofs := Proven(rootOf(words), parts.Of(append(rightProof(words, 7), c.second...)))
		proofs.Store(7, 1)
		if up := wrong(t, func() { proofs.Load(200) }); up != c.want {
			t.Errorf("Load: given up: %v, want %v", up, c.want)
		}
	}
}

func TestProofsOfNoSuchCell(t *testing.T) {
	for _, n := range []uint32{256, 1 << 31, 1<<32 - 1} {
		proofs := Proven(5, parts.Of(nil))
		if word, e := proofs.Load(n); word != 0 || e != api.ErrAddress {
			t.Errorf("Load(%d) = %d, %d", n, word, e)
		}
		if e := proofs.Store(n, 1); e != api.ErrAddress || proofs.Root() != 5 {
			t.Errorf("Store(%d) = %d", n, e)
		}
	}
}

func TestProofsThatDoNotFit(t *testing.T) {
	words := filled()
	right := rightProof(words, 77)
	for at := range right {
		text := bytes.Clone(right)
		text[at]++
		proofs := Proven(rootOf(words), parts.Of(text))
		if !wrong(t, func() { proofs.Load(77) }) {
			t.Errorf("another byte %d fits", at)
		}
		proofs = Proven(rootOf(words), parts.Of(text))
		if !wrong(t, func() { proofs.Store(77, 0) }) {
			t.Errorf("another byte %d fits for a Store", at)
		}
		proofs = Proven(rootOf(words), parts.Of(right[:at]))
		if !wrong(t, func() { proofs.Load(77) }) {
			t.Errorf("%d bytes fit", at)
		}
	}
}

func TestProvenSource(t *testing.T) {
	longest := bytes.Repeat([]byte("x"), 200)
	for _, c := range []struct {
		text []byte
		name int
		want []byte
		up   bool
	}{
		{[]byte("\x03abc"), digest.Sum([]byte("abc")), []byte("abc"), false},
		{[]byte{0}, 7, nil, false},
		{append([]byte{200}, longest...), digest.Sum(longest), longest, false},
		{append([]byte{201, 'x'}, longest...), digest.Sum(longest, []byte("x")), nil, true},
		{[]byte("\x03abd"), digest.Sum([]byte("abc")), nil, true},
		{[]byte("\x03abc"), digest.Sum([]byte("abc")) + 65521, nil, true},
		{[]byte("\x04abc"), digest.Sum([]byte("abc")), nil, true},
		{nil, 7, nil, true},
	} {
		proofs := Proven(5, parts.Of(c.text))
		up := wrong(t, func() {
			source, e := proofs.Source(uint32(c.name))
			if !bytes.Equal(source, c.want) || e != api.OK {
				t.Errorf("Source(%d) = %q, %d", c.name, source, e)
			}
		})
		if up != c.up || proofs.Root() != 5 {
			t.Errorf("Source(%d) of %q: given up: %v, want %v", c.name, c.text, up, c.up)
		}
	}
}

func TestRecordProvesWhatItTells(t *testing.T) {
	words := filled()
	record := Record{Cells: made(t, words, api.Source("abc"), nil)}
	want := rightProof(words, 3)
	if word, e := record.Load(3); int(word) != words[3] || e != api.OK || !bytes.Equal(record.Shown, want) {
		t.Errorf("Load: %d, %d, %v, want %v", word, e, record.Shown, want)
	}
	want = append(want, rightProof(words, 4)...)
	if e := record.Store(4, 44); e != api.OK || !bytes.Equal(record.Shown, want) {
		t.Errorf("Store: %d, %v, want %v", e, record.Shown, want)
	}
	want = append(want, "\x03abc\x00"...)
	record.Source(uint32(digest.Sum([]byte("abc"))))
	if source, e := record.Source(7); len(source) != 0 || e != api.OK || !bytes.Equal(record.Shown, want) {
		t.Errorf("Source: %v, %d, %v, want %v", source, e, record.Shown, want)
	}
	words[4] = 44
	if word, _ := record.Cells.Load(4); word != 44 || record.Root() != rootOf(words) {
		t.Errorf("behind Store: %d, root %d", word, record.Root())
	}
}

func TestRecordOfWhatIsNotThere(t *testing.T) {
	record := Record{Cells: made(t, filled(), api.Source("abc"))}
	if word, e := record.Load(256); word != 0 || e != api.ErrAddress {
		t.Errorf("Load = %d, %d", word, e)
	}
	if e := record.Store(1<<32-1, 1); e != api.ErrAddress {
		t.Errorf("Store = %d", e)
	}
	if source, e := record.Source(7); source != nil || e != api.ErrSource {
		t.Errorf("Source = %v, %d", source, e)
	}
	if len(record.Shown) != 0 {
		t.Errorf("proofs of nothing: %v", record.Shown)
	}
}

// names tells whether a text of two halves has this digest among them.
func names(text []byte, sum int) bool {
	two := digest.Two(sum)
	return bytes.Equal(text[1:3], two) || bytes.Equal(text[3:5], two)
}

func TestTextsOfAProof(t *testing.T) {
	words := filled()
	cells := made(t, words)
	for n := range words {
		texts := cells.proof(uint32(n)).texts(uint32(n))
		if digest.Sum(texts[0]) != cells.Root() || !bytes.Equal(texts[height], digest.CellText(uint32(words[n]))) {
			t.Fatalf("the texts of cell %d: %v", n, texts)
		}
		for down := range height {
			if !names(texts[down], digest.Sum(texts[down+1])) {
				t.Fatalf("the texts of cell %d: text %d does not name the next one: %v", n, down, texts)
			}
		}
	}
}

func TestProofsKeepTheTextsThatWereBelieved(t *testing.T) {
	words := filled()
	cells := made(t, words)
	witness := slices.Concat(rightProof(words, 5), rightProof(words, 6), []byte("\x03abc"))
	proofs := Proven(cells.Root(), parts.Of(witness))
	proofs.Load(5)
	proofs.Store(6, uint32(words[6]))
	proofs.Source(uint32(digest.Sum([]byte("abc"))))
	clear(witness)
	five, six := cells.proof(5).texts(5), cells.proof(6).texts(6)
	want := slices.Concat(five[:], six[:], [][]byte{[]byte("abc")})
	if !slices.EqualFunc(proofs.Texts, want, bytes.Equal) {
		t.Errorf("Texts = %v, want %v", proofs.Texts, want)
	}
}
