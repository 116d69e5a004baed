package digest

import (
	"bytes"
	"testing"
)

func TestSumOfNothing(t *testing.T) {
	for _, parts := range [][][]byte{nil, {}, {nil}, {{}, nil, {}}} {
		if n := Sum(parts...); n != 7 {
			t.Errorf("Sum(%v) = %d, want 7", parts, n)
		}
	}
}

func TestSumIsOfPartsInOrder(t *testing.T) {
	whole := Sum([]byte("one behind the other"))
	if n := Sum([]byte("one "), nil, []byte("behind"), []byte(" the other")); n != whole {
		t.Errorf("cut into parts: %d, want %d", n, whole)
	}
	if n := Sum([]byte("behind"), []byte("one "), []byte(" the other")); n == whole {
		t.Errorf("parts that changed places have the same sum, %d", n)
	}
}

func TestSumStaysBelowTheModulus(t *testing.T) {
	text := bytes.Repeat([]byte{255}, 1000)
	for n := range text {
		if s := Sum(text[:n]); s < 0 || s > 65520 {
			t.Fatalf("Sum of %d bytes 255 = %d", n, s)
		}
	}
}

func TestBytes(t *testing.T) {
	if l := Word(0x01020304); !bytes.Equal(l, []byte{1, 2, 3, 4}) {
		t.Errorf("Word = %v", l)
	}
	if l := Two(0xfff0); !bytes.Equal(l, []byte{0xff, 0xf0}) {
		t.Errorf("Two = %v", l)
	}
}

func TestTexts(t *testing.T) {
	if l := CellText(0x01020304); !bytes.Equal(l, []byte{0, 1, 2, 3, 4}) {
		t.Errorf("CellText = %v", l)
	}
	if l := HalvesText(0x0102, 0xfff0); !bytes.Equal(l, []byte{1, 1, 2, 0xff, 0xf0}) {
		t.Errorf("HalvesText = %v", l)
	}
}

func TestDigests(t *testing.T) {
	if n, want := Cell(0x01020304), Sum([]byte{0, 1, 2, 3, 4}); n != want {
		t.Errorf("Cell = %d, want %d", n, want)
	}
	if n, want := Halves(0x0102, 0xfff0), Sum([]byte{1, 1, 2, 0xff, 0xf0}); n != want {
		t.Errorf("Halves = %d, want %d", n, want)
	}
}
