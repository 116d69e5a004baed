package core

// instruction is a word cut into its parts. N is a word here too: what is below 0 wraps round, and all that is done with it is modulo.
type instruction struct {
	op, a, b, c, n uint32
}

func decode(word uint32) instruction {
	return instruction{
		op: word >> 26,
		a:  word >> 23 & 7,
		b:  word >> 20 & 7,
		c:  word >> 17 & 7,
		n:  uint32(int32(word<<15) >> 15),
	}
}
