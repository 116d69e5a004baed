// Package digest: the sum of a text, and what it stands for: cells, and the halves of a memory.
package digest

const (
	start   = 7
	factor  = 257
	modulus = 65521
)

// What a digest's text begins with: so no cell's text is that of two halves.
const (
	cellMark   = 0
	halvesMark = 1
)

// Sum of all parts, one behind the other.
func Sum(parts ...[]byte) int {
	sum := start
	for _, part := range parts {
		for _, b := range part {
			sum = (sum*factor + int(b) + 1) % modulus
		}
	}
	return sum
}

// Word in bytes: 4, the highest first.
func Word(word uint32) []byte {
	return []byte{byte(word >> 24), byte(word >> 16), byte(word >> 8), byte(word)}
}

// Two bytes of a sum: the higher first.
func Two(sum int) []byte {
	return []byte{byte(sum >> 8), byte(sum)}
}

// CellText is the text whose sum is the digest of a cell with this word.
func CellText(word uint32) []byte {
	w := Word(word)
	return []byte{cellMark, w[0], w[1], w[2], w[3]}
}

// HalvesText is the text whose sum is the digest of what has these two for the digests of its halves.
func HalvesText(first, second int) []byte {
	f, s := Two(first), Two(second)
	return []byte{halvesMark, f[0], f[1], s[0], s[1]}
}

// Cell is the digest of a cell with this word.
func Cell(word uint32) int {
	return Sum(CellText(word))
}

// Halves is the digest of what has these two for the digests of its halves.
func Halves(first, second int) int {
	return Sum(HalvesText(first, second))
}
