// Package mem is layer 1: the host's memory.
package mem

import (
	"slices"

	"postern/api"
)

// Memory is live regions.
type Memory struct {
	regions []*region // by base: an address is found by halving
	next    int       // the id of the next region; none is given twice
}

// New: none.
func New() *Memory {
	return &Memory{}
}

// Add a region. ErrNil, ErrArg, ErrBusy, ErrMany.
func (m *Memory) Add(base uint64, size int, perm api.Perm) (int, api.Errno) {
	if m == nil {
		return 0, api.ErrNil
	}
	if !mayBe(base, size, perm) {
		return 0, api.ErrArg
	}
	i := m.behind(base)
	if m.taken(i, base, size) {
		return 0, api.ErrBusy
	}
	if len(m.regions) >= api.MaxRegions {
		return 0, api.ErrMany
	}
	r := newRegion(m.next, base, size, perm)
	m.regions = slices.Insert(m.regions, i, r)
	m.next++
	return r.id, api.OK
}

// Kill a region. ErrNil, ErrNone.
func (m *Memory) Kill(id int) api.Errno {
	if m == nil {
		return api.ErrNil
	}
	i := m.index(id)
	if i < 0 {
		return api.ErrNone
	}
	m.regions[i] = nil // the old list may last a while, the dead bytes needn't
	m.regions = append(m.regions[:i:i], m.regions[i+1:]...)
	return api.OK
}

// Live: does it?
func (m *Memory) Live(id int) bool {
	return m != nil && m.index(id) >= 0
}

// Count: how many live.
func (m *Memory) Count() int {
	if m == nil {
		return 0
	}
	return len(m.regions)
}

// Find: the region of a byte, and its place there.
func (m *Memory) Find(addr uint64) (int, int, bool) {
	if m == nil {
		return 0, 0, false
	}
	r, at := m.holder(addr)
	if r == nil {
		return 0, 0, false
	}
	return r.id, at, true
}

// Load a number. ErrNil, ErrArg, ErrAccess, ErrUnset.
func (m *Memory) Load(addr uint64, size int) (uint64, api.Errno) {
	if m == nil {
		return 0, api.ErrNil
	}
	if !isWord(size) {
		return 0, api.ErrArg
	}
	b, e := m.look(addr, size)
	if e != api.OK {
		return 0, e
	}
	return number(b), api.OK
}

// Store a number. ErrNil, ErrArg, ErrAccess.
func (m *Memory) Store(addr uint64, size int, v uint64) api.Errno {
	if m == nil {
		return api.ErrNil
	}
	if !isWord(size) {
		return api.ErrArg
	}
	word := spread(v)
	return m.lay(addr, word[:size])
}

// Read bytes. ErrNil, ErrArg, ErrAccess, ErrUnset.
func (m *Memory) Read(addr uint64, n int) ([]byte, api.Errno) {
	if m == nil {
		return nil, api.ErrNil
	}
	if n < 0 {
		return nil, api.ErrArg
	}
	if n == 0 {
		return nil, api.OK
	}
	b, e := m.look(addr, n)
	if e != api.OK {
		return nil, e
	}
	return copied(b), api.OK
}

// Write bytes. ErrNil, ErrAccess.
func (m *Memory) Write(addr uint64, b []byte) api.Errno {
	if m == nil {
		return api.ErrNil
	}
	if len(b) == 0 {
		return api.OK
	}
	return m.lay(addr, b)
}

// Bytes of a region. ErrNil, ErrNone.
func (m *Memory) Bytes(id int) ([]byte, api.Errno) {
	if m == nil {
		return nil, api.ErrNil
	}
	i := m.index(id)
	if i < 0 {
		return nil, api.ErrNone
	}
	return copied(m.regions[i].bytes), api.OK
}

// Poke bytes into a region, whatever its permission. ErrNil, ErrNone, ErrArg.
func (m *Memory) Poke(id, at int, b []byte) api.Errno {
	if m == nil {
		return api.ErrNil
	}
	i := m.index(id)
	if i < 0 {
		return api.ErrNone
	}
	r := m.regions[i]
	if at < 0 || !r.reaches(at, len(b)) {
		return api.ErrArg
	}
	r.lay(at, b)
	return api.OK
}

// Copy: a memory of its own.
func (m *Memory) Copy() *Memory {
	if m == nil {
		return nil
	}
	c := &Memory{regions: make([]*region, len(m.regions)), next: m.next}
	for i, r := range m.regions {
		c.regions[i] = r.twin()
	}
	return c
}
