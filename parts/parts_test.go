package parts

import (
	"bytes"
	"testing"
)

// givenUp tells whether a witness is given up by it.
func givenUp(t *testing.T, do func()) (up bool) {
	t.Helper()
	defer func() {
		if r := recover(); r != nil {
			if up = r == ErrWrong; !up {
				t.Errorf("a panic with %v", r)
			}
		}
	}()
	do()
	return false
}

func TestPartsFromTheFront(t *testing.T) {
	p := Of([]byte{9, 0xfe, 0xdc, 0x81, 2, 3, 4, 'a', 'b'})
	if b := p.Byte(); b != 9 {
		t.Errorf("Byte = %d", b)
	}
	if n := p.Two(); n != 0xfedc {
		t.Errorf("Two = %x", n)
	}
	if word := p.Word(); word != 0x81020304 {
		t.Errorf("Word = %x", word)
	}
	if part := p.Cut(0); len(part) != 0 {
		t.Errorf("Cut(0) = %v", part)
	}
	if part := p.Cut(2); !bytes.Equal(part, []byte("ab")) {
		t.Errorf("Cut(2) = %v", part)
	}
	if givenUp(t, p.End) {
		t.Error("given up, with nothing left")
	}
}

func TestAPartHasNoSpareRoom(t *testing.T) {
	witness := []byte("abcdef")
	p := Of(witness)
	part := append(p.Cut(2), 'z')
	if string(part) != "abz" || string(witness) != "abcdef" || string(p.Cut(4)) != "cdef" {
		t.Errorf("%q, %q", part, witness)
	}
}

func TestWhatIsNotThereIsGivenUp(t *testing.T) {
	for size := range 9 {
		if up := givenUp(t, func() { Of(make([]byte, 7)).Cut(size) }); up != (size > 7) {
			t.Errorf("Cut(%d) of 7: given up: %v", size, up)
		}
		if up := givenUp(t, func() { Of(make([]byte, size)).Word() }); up != (size < 4) {
			t.Errorf("Word of %d: given up: %v", size, up)
		}
		if up := givenUp(t, func() { Of(make([]byte, size)).Two() }); up != (size < 2) {
			t.Errorf("Two of %d: given up: %v", size, up)
		}
		if up := givenUp(t, func() { Of(make([]byte, size)).Byte() }); up != (size < 1) {
			t.Errorf("Byte of %d: given up: %v", size, up)
		}
		if up := givenUp(t, Of(make([]byte, size)).End); up != (size > 0) {
			t.Errorf("End of %d: given up: %v", size, up)
		}
	}
}

func TestRequire(t *testing.T) {
	p := Of(nil)
	if givenUp(t, func() { p.Require(true) }) || !givenUp(t, func() { p.Require(false) }) {
		t.Error("Require")
	}
}
