package core

import "deponent/api"

// Each of these answers an error ahead of changing anything.

func (c *Core) halt(in instruction) api.Errno {
	c.Over = true
	c.Code = c.Registers[in.a]
	return api.OK
}

func (c *Core) add(in instruction) api.Errno {
	return c.put(in, c.Registers[in.b]+c.Registers[in.c])
}

func (c *Core) sub(in instruction) api.Errno {
	return c.put(in, c.Registers[in.b]-c.Registers[in.c])
}

func (c *Core) mul(in instruction) api.Errno {
	return c.put(in, c.Registers[in.b]*c.Registers[in.c])
}

func (c *Core) and(in instruction) api.Errno {
	return c.put(in, c.Registers[in.b]&c.Registers[in.c])
}

func (c *Core) or(in instruction) api.Errno {
	return c.put(in, c.Registers[in.b]|c.Registers[in.c])
}

func (c *Core) xor(in instruction) api.Errno {
	return c.put(in, c.Registers[in.b]^c.Registers[in.c])
}

func (c *Core) shl(in instruction) api.Errno {
	return c.put(in, c.Registers[in.b]<<(c.Registers[in.c]%32))
}

func (c *Core) shr(in instruction) api.Errno {
	return c.put(in, c.Registers[in.b]>>(c.Registers[in.c]%32))
}

func (c *Core) less(in instruction) api.Errno {
	return c.put(in, one(int32(c.Registers[in.b]) < int32(c.Registers[in.c])))
}

func (c *Core) div(in instruction) api.Errno {
	if c.Registers[in.c] == 0 {
		return api.ErrDivide
	}
	return c.put(in, c.Registers[in.b]/c.Registers[in.c])
}

func (c *Core) set(in instruction) api.Errno {
	return c.put(in, c.Registers[in.b]+in.n)
}

func (c *Core) high(in instruction) api.Errno {
	return c.put(in, in.n*32768)
}

func (c *Core) load(in instruction) api.Errno {
	word, e := c.Memory.Load(c.Registers[in.b] + in.n)
	if e != api.OK {
		return e
	}
	return c.put(in, word)
}

func (c *Core) store(in instruction) api.Errno {
	if e := c.Memory.Store(c.Registers[in.b]+in.n, c.Registers[in.a]); e != api.OK {
		return e
	}
	c.PC++
	return api.OK
}

func (c *Core) same(in instruction) api.Errno {
	return c.jump(in, c.Registers[in.a] == c.Registers[in.b])
}

func (c *Core) other(in instruction) api.Errno {
	return c.jump(in, c.Registers[in.a] != c.Registers[in.b])
}

func (c *Core) under(in instruction) api.Errno {
	return c.jump(in, c.Registers[in.a] < c.Registers[in.b])
}

func (c *Core) call(in instruction) api.Errno {
	to := c.Registers[in.b] + in.n // ahead of R[A], which may be the same register
	c.Registers[in.a] = c.PC + 1
	c.PC = to
	return api.OK
}

func (c *Core) ask(in instruction) api.Errno {
	source, e := c.Memory.Source(c.Registers[in.b])
	if e != api.OK {
		return e
	}
	return c.put(in, wordAt(source, c.Registers[in.c]))
}

// put gives R[A] its word, and goes on to the next cell.
func (c *Core) put(in instruction, word uint32) api.Errno {
	c.Registers[in.a] = word
	c.PC++
	return api.OK
}

// jump goes on to the next cell, and from there, if it holds, by N.
func (c *Core) jump(in instruction, holds bool) api.Errno {
	c.PC++
	if holds {
		c.PC += in.n
	}
	return api.OK
}

// wordAt is the word of the four bytes from a place on. Places have 64 bits, as they do not wrap round.
func wordAt(source api.Source, place uint32) uint32 {
	word := uint32(0)
	for n := range uint64(4) {
		word <<= 8
		if at := uint64(place) + n; at < uint64(len(source)) {
			word |= uint32(source[at])
		}
	}
	return word
}
