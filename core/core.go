package core

import "deponent/api"

// Memory is how a core reaches cells and sources: it need not know where they are.
type Memory interface {
	Load(n uint32) (uint32, api.Errno)
	Store(n, word uint32) api.Errno
	Source(name uint32) (api.Source, api.Errno)
}

// Core does the steps of a state.
type Core struct {
	State
	Memory Memory
}

// Run does n steps, but none behind an error, or when it is over; it tells how many were done.
func (c *Core) Run(n int) (int, api.Errno) {
	for done := range n {
		if c.Over {
			return done, api.OK
		}
		if e := c.Step(); e != api.OK {
			return done, e
		}
	}
	return n, api.OK
}

// Step does one step. With an error the state and the memory stay as they are.
func (c *Core) Step() api.Errno {
	if c.Over {
		return api.OK
	}
	word, e := c.Memory.Load(c.PC)
	if e != api.OK {
		return e
	}
	if e := c.perform(decode(word)); e != api.OK {
		return e
	}
	c.Steps++
	return api.OK
}

// perform does what the table tells of the instruction.
func (c *Core) perform(in instruction) api.Errno {
	table := [...]func(*Core, instruction) api.Errno{
		api.Halt:  (*Core).halt,
		api.Add:   (*Core).add,
		api.Sub:   (*Core).sub,
		api.Mul:   (*Core).mul,
		api.And:   (*Core).and,
		api.Or:    (*Core).or,
		api.Xor:   (*Core).xor,
		api.Shl:   (*Core).shl,
		api.Shr:   (*Core).shr,
		api.Less:  (*Core).less,
		api.Div:   (*Core).div,
		api.Set:   (*Core).set,
		api.High:  (*Core).high,
		api.Load:  (*Core).load,
		api.Store: (*Core).store,
		api.Same:  (*Core).same,
		api.Other: (*Core).other,
		api.Under: (*Core).under,
		api.Call:  (*Core).call,
		api.Ask:   (*Core).ask,
	}
	if in.op >= uint32(len(table)) {
		return api.ErrOp
	}
	return table[in.op](c, in)
}
