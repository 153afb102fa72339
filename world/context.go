package world

import (
	"postern/api"
	"postern/mem"
)

const (
	contextSize = 24
	markSize    = 4
)

// layout: where in the context things lie.
type layout struct {
	first, end, mark, length int
}

// context is what r1 points to at a program's beginning. The mark's region is the program's to write to, those about it aren't.
type context struct {
	at                 layout
	ahead, own, behind int    // regions; none, of no bytes ahead of the mark
	last               uint32 // the mark, when it was last asked for
}

// newContext that lies nowhere yet.
func newContext(real bool) context {
	at := layout{first: 0, end: 8, mark: 16, length: 20}
	if real {
		at = layout{first: 8, end: 16, mark: 0, length: 4}
	}
	return context{at: at, ahead: none, own: none, behind: none}
}

// regions: how many it needs.
func (c *context) regions() int {
	if c.at.mark == 0 {
		return 2
	}
	return 3
}

// settle in a memory that has room for it.
func (c *context) settle(m *mem.Memory, mark uint32) {
	behind := c.at.mark + markSize
	c.ahead = added(m, api.CtxBase, c.at.mark, api.Read)
	c.own = added(m, api.CtxBase+uint64(c.at.mark), markSize, api.Read|api.Write)
	c.behind = added(m, api.CtxBase+uint64(behind), contextSize-behind, api.Read)
	var b [markSize]byte
	lay(b[:], uint64(mark))
	m.Poke(c.own, 0, b[:])
}

// tell where the packet lies.
func (c *context) tell(m *mem.Memory, first, end uint64) {
	var b [contextSize]byte
	lay(b[c.at.first:c.at.first+8], first)
	lay(b[c.at.end:c.at.end+8], end)
	lay(b[c.at.length:c.at.length+4], end-first)
	m.Poke(c.ahead, 0, b[:c.at.mark])
	m.Poke(c.behind, 0, b[c.at.mark+markSize:])
}

// mark as it stands. It is read by its region's id: behind Close another's may lie at its address, and it stays what it was.
func (c *context) mark(m *mem.Memory) uint32 {
	if b, e := m.Bytes(c.own); e == api.OK {
		c.last = uint32(number(b))
	}
	return c.last
}

// kill its regions; the mark is kept.
func (c *context) kill(m *mem.Memory) {
	c.mark(m)
	m.Kill(c.ahead)
	m.Kill(c.own)
	m.Kill(c.behind)
}
