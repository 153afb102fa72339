package world

import (
	"postern/api"
	"postern/mem"
)

// none is no region's id.
const none = -1

// hasRoom: could the memory take the context and the packet? It is asked ahead of the first Add, since a region that was added and killed again would leave its number behind.
func (w *World) hasRoom() bool {
	m := w.memory
	if m.Count()+w.context.regions()+w.packet.regions() > api.MaxRegions {
		return false
	}
	return isFree(m, api.CtxBase, contextSize) && isFree(m, api.PacketBase, w.packet.end)
}

// isFree: do these bytes belong to no region? Each is asked for, since a region may begin behind the first.
func isFree(m *mem.Memory, addr uint64, size int) bool {
	for n := range size {
		if _, _, taken := m.Find(addr + uint64(n)); taken {
			return false
		}
	}
	return true
}

// added: the id of a new region; none, if it has no bytes.
func added(m *mem.Memory, addr uint64, size int, perm api.Perm) int {
	id, e := m.Add(addr, size, perm)
	if e != api.OK {
		return none
	}
	return id
}

// lay a number into bytes, lowest first.
func lay(b []byte, v uint64) {
	for i := range b {
		b[i] = byte(v >> (8 * i))
	}
}

// number of bytes, lowest first.
func number(b []byte) uint64 {
	var v uint64
	for i, x := range b {
		v |= uint64(x) << (8 * i)
	}
	return v
}
