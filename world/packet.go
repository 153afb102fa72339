package world

import (
	"postern/api"
	"postern/mem"
)

// packet lies in the room about it, so that what its first byte has moved over stays there.
type packet struct {
	room       [api.Headroom + api.MaxPacket]byte // what was laid into the region since is there alone
	first, end int
	perm       api.Perm
	region     int // none, while it has no bytes
}

// newPacket that lies nowhere yet.
func newPacket(hook api.Hook, b []byte) packet {
	p := packet{first: api.Headroom, end: api.Headroom + len(b), perm: api.Read, region: none}
	if hook == api.Xdp {
		p.perm = api.Read | api.Write
	}
	copy(p.room[p.first:], b)
	return p
}

// regions: how many it needs.
func (p *packet) regions() int {
	return min(1, p.end-p.first)
}

// bytes of it as they stand: what the program has laid into the region is copied into the room first. Where no region lives any more, they stand as they did.
func (p *packet) bytes(m *mem.Memory) []byte {
	own := p.room[p.first:p.end]
	laid, _ := m.Bytes(p.region)
	copy(own, laid)
	return own
}

// settle in a memory that has room for it.
func (p *packet) settle(m *mem.Memory) {
	p.region = added(m, place(p.first), p.end-p.first, p.perm)
	m.Poke(p.region, 0, p.room[p.first:p.end])
}

// mayBegin: could the first byte be there? Besides the room's ends there are others, who may have taken of the room ahead, or filled the memory while the packet was empty.
func (p *packet) mayBegin(m *mem.Memory, first int) bool {
	if first < 0 || first > p.end {
		return false
	}
	if p.region == none && first < p.end && m.Count() >= api.MaxRegions {
		return false
	}
	return isFree(m, place(first), p.first-first)
}

// kill its region; its bytes are kept.
func (p *packet) kill(m *mem.Memory) {
	p.bytes(m)
	m.Kill(p.region)
}

// begin at another byte, at which it may.
func (p *packet) begin(m *mem.Memory, first int) {
	p.kill(m)
	p.first = first
	p.settle(m)
}

// place: the address of a byte of the room.
func place(n int) uint64 {
	return api.PacketBase + uint64(n)
}
