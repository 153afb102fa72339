package insn

import (
	"postern/api"
)

// slot: the one whose bytes b begins with.
func slot(b []byte) api.Inst {
	return api.Inst{
		Op:  b[0],
		Dst: b[1] & 0x0f,
		Src: b[1] >> 4,
		Off: int16(uint16(b[2]) | uint16(b[3])<<8),
		Imm: int32(uint32(b[4]) | uint32(b[5])<<8 | uint32(b[6])<<16 | uint32(b[7])<<24),
	}
}

// lay a slot's bytes at the beginning of b.
func lay(b []byte, in api.Inst) {
	off, imm := uint16(in.Off), uint32(in.Imm)
	b[0] = in.Op
	b[1] = in.Src<<4 | in.Dst&0x0f
	b[2], b[3] = byte(off), byte(off>>8)
	b[4], b[5], b[6], b[7] = byte(imm), byte(imm>>8), byte(imm>>16), byte(imm>>24)
}
