package deponent_test

import (
	"bytes"
	"math/big"
	"testing"

	"deponent/deponent"
)

// sumOf is P3 in numbers that never wrap round.
func sumOf(text []byte) int {
	sum := big.NewInt(7)
	for _, b := range text {
		sum.Mul(sum, big.NewInt(257))
		sum.Add(sum, big.NewInt(int64(b)+1))
	}
	return int(sum.Mod(sum, big.NewInt(65521)).Int64())
}

func TestSum(t *testing.T) { // P3
	for _, c := range []struct {
		parts [][]byte
		want  int
	}{
		{nil, 7},
		{[][]byte{nil, {}}, 7},
		{[][]byte{{0}}, 1800},
		{[][]byte{{0, 0}}, (1800*257 + 1) % 65521},
		{[][]byte{{255}, {255}}, ((7*257+256)*257 + 256) % 65521},
	} {
		if n := deponent.Sum(c.parts...); n != c.want {
			t.Errorf("P3: Sum(%v) = %d, want %d", c.parts, n, c.want)
		}
	}
}

func TestSumOfLongTexts(t *testing.T) { // P3
	text := make([]byte, 2000)
	for n := range text {
		text[n] = byte(n * n / 3)
	}
	for _, l := range [][]byte{text, bytes.Repeat([]byte{255}, 2000), make([]byte, 2000)} {
		if n, want := deponent.Sum(l), sumOf(l); n != want {
			t.Errorf("P3: Sum = %d, want %d", n, want)
		}
		if n, want := deponent.Sum(l[:700], nil, l[700:701], l[701:]), sumOf(l); n != want {
			t.Errorf("P3: Sum of parts = %d, want %d", n, want)
		}
	}
}

func TestSumWritesNothing(t *testing.T) { // P2
	text := []byte("some bytes")
	parts := [][]byte{text[:4:4], text[:2], text[2:]}
	deponent.Sum(parts[:2]...)
	if string(text) != "some bytes" || len(parts[2]) != 8 {
		t.Errorf("P2: %q, %v", text, parts)
	}
}
