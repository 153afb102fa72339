package mem

import (
	"slices"

	"postern/api"
)

// region is a live one: its size is that of its bytes.
type region struct {
	id    int
	base  uint64
	perm  api.Perm
	bytes []byte
	set   []bool // which bytes something was laid into; nil unless the region is Fresh
}

func newRegion(id int, base uint64, size int, perm api.Perm) *region {
	r := &region{id: id, base: base, perm: perm, bytes: make([]byte, size)}
	if perm&api.Fresh != 0 {
		r.set = make([]bool, size)
	}
	return r
}

// holds: does the byte belong to the region? The difference is asked, not the
// end, since a region may end at 2^64; below the base it wraps to far beyond.
func (r *region) holds(addr uint64) bool {
	return addr-r.base < uint64(len(r.bytes))
}

// reaches: do n bytes from the place at (not below 0) on lie in the region? A
// sum of both could pass the greatest int.
func (r *region) reaches(at, n int) bool {
	return at <= len(r.bytes)-n
}

// allSet: may these bytes be told?
func (r *region) allSet(at, n int) bool {
	return r.set == nil || !slices.Contains(r.set[at:at+n], false)
}

func (r *region) lay(at int, b []byte) {
	copy(r.bytes[at:], b)
	if r.set == nil {
		return
	}
	for i := range b {
		r.set[at+i] = true
	}
}

// twin: an equal region that shares nothing with this one.
func (r *region) twin() *region {
	t := newRegion(r.id, r.base, len(r.bytes), r.perm)
	copy(t.bytes, r.bytes)
	copy(t.set, r.set)
	return t
}

// mayBe: could there be such a region in an empty memory?
func mayBe(base uint64, size int, perm api.Perm) bool {
	if size < 1 || size > api.MaxRegion {
		return false
	}
	if perm < 0 || perm > api.Read+api.Write+api.Fresh {
		return false
	}
	return uint64(size-1) <= ^base // what is left behind base, up to 2^64
}

// behind: the place in the list of the first region whose base is above addr.
func (m *Memory) behind(addr uint64) int {
	low, high := 0, len(m.regions)
	for low < high {
		mid := (low + high) / 2
		if m.regions[mid].base > addr {
			high = mid
		} else {
			low = mid + 1
		}
	}
	return low
}

// taken: would a region share a byte with one beside its place i in the list?
// Live regions share none, so that no other one can be in the way.
func (m *Memory) taken(i int, base uint64, size int) bool {
	if i > 0 && m.regions[i-1].holds(base) {
		return true
	}
	return i < len(m.regions) && m.regions[i].base-base < uint64(size)
}

// holder: the region to which the byte belongs and its place there; nil if
// there is none.
func (m *Memory) holder(addr uint64) (*region, int) {
	i := m.behind(addr) - 1
	if i < 0 || !m.regions[i].holds(addr) {
		return nil, 0
	}
	r := m.regions[i]
	return r, int(addr - r.base)
}

// index: where in the list the region with that id stands; -1 if none has it.
func (m *Memory) index(id int) int {
	return slices.IndexFunc(m.regions, func(r *region) bool { return r.id == id })
}

// access: the region of n bytes at an address, if all of them lie there and it
// has the permission.
func (m *Memory) access(addr uint64, n int, perm api.Perm) (*region, int, api.Errno) {
	r, at := m.holder(addr)
	if r == nil || !r.reaches(at, n) || r.perm&perm == 0 {
		return nil, 0, api.ErrAccess
	}
	return r, at, api.OK
}

// look: the memory's own bytes at an address, not to be handed out or changed.
func (m *Memory) look(addr uint64, n int) ([]byte, api.Errno) {
	r, at, e := m.access(addr, n, api.Read)
	if e != api.OK {
		return nil, e
	}
	if !r.allSet(at, n) {
		return nil, api.ErrUnset
	}
	return r.bytes[at : at+n : at+n], api.OK
}

func (m *Memory) lay(addr uint64, b []byte) api.Errno {
	r, at, e := m.access(addr, len(b), api.Write)
	if e != api.OK {
		return e
	}
	r.lay(at, b)
	return api.OK
}

func isWord(size int) bool {
	return size == 1 || size == 2 || size == 4 || size == 8
}

// number: that of bytes laid lowest first.
func number(b []byte) uint64 {
	var v uint64
	for i, x := range b {
		v |= uint64(x) << (8 * i)
	}
	return v
}

// spread: a number's bytes, lowest first.
func spread(v uint64) [8]byte {
	var b [8]byte
	for i := range b {
		b[i] = byte(v >> (8 * i))
	}
	return b
}

func copied(b []byte) []byte {
	c := make([]byte, len(b))
	copy(c, b)
	return c
}
