package insn

import (
	"postern/api"
)

// The classes: an operation's low three bits.
const (
	classLd = iota
	classLdx
	classSt
	classStx
	classAlu
	classJmp
	classJmp32
	classAlu64
)

// The kinds that are told apart here: an operation's high four bits.
const (
	kindJa   = 0x00
	kindNeg  = 0x80
	kindCall = 0x80
	kindExit = 0x90
	kindArsh = 0xc0 // the last of the ALU's
	kindJsle = 0xd0 // the last of the jumps'
)

// The pieces of an operation.
const (
	classBits = 0x07
	kindBits  = 0xf0
	regBit    = 0x08
	modeBits  = 0xe0 // of an access: what comes ahead of its size
	modeMem   = 0x60
	sizeBits  = 0x18
	sizeWord  = 0x00
	sizeHalf  = 0x08
	sizeByte  = 0x10
	opWide    = 0x18
)

const maxReg = 10

func isAccess(op uint8) bool {
	c := Class(op)
	return c == classLdx || c == classSt || c == classStx
}

func isAlu(op uint8) bool {
	c := Class(op)
	return c == classAlu || c == classAlu64
}

// isNeg is asked of the ALU's operations alone: a call has the same kind.
func isNeg(op uint8) bool {
	return Kind(op) == kindNeg
}

// isBareJmp: has it one of the kinds of JMP that hold nothing against anything?
func isBareJmp(op uint8) bool {
	k := Kind(op)
	return k == kindJa || k == kindCall || k == kindExit
}

// isCond is asked of the jumps' operations alone.
func isCond(op uint8) bool {
	return !isBareJmp(op) && Kind(op) <= kindJsle
}

func isCall(op uint8) bool {
	return Class(op) == classJmp && Kind(op) == kindCall
}

// maxSrc: the greatest Src of a known operation; where it isn't a register, it
// is one of two sorts of the instruction.
func maxSrc(op uint8) uint8 {
	if Wide(op) || isCall(op) {
		return 1
	}
	return maxReg
}

// onlyUsed: the instruction of a known operation without the fields that it
// doesn't use, so that one comparison tells whether all of those are 0.
func onlyUsed(in api.Inst) api.Inst {
	switch {
	case Wide(in.Op):
		return api.Inst{Op: in.Op, Dst: in.Dst, Src: in.Src, Imm: in.Imm}
	case isAccess(in.Op):
		return usedByAccess(in)
	case isAlu(in.Op):
		return usedByAlu(in)
	case isCond(in.Op):
		return usedByCond(in)
	}
	return usedByBareJmp(in)
}

func usedByAccess(in api.Inst) api.Inst {
	if Class(in.Op) == classSt {
		return api.Inst{Op: in.Op, Dst: in.Dst, Off: in.Off, Imm: in.Imm}
	}
	return api.Inst{Op: in.Op, Dst: in.Dst, Src: in.Src, Off: in.Off}
}

func usedByAlu(in api.Inst) api.Inst {
	switch {
	case isNeg(in.Op):
		return api.Inst{Op: in.Op, Dst: in.Dst}
	case ByReg(in.Op):
		return api.Inst{Op: in.Op, Dst: in.Dst, Src: in.Src}
	}
	return api.Inst{Op: in.Op, Dst: in.Dst, Imm: in.Imm}
}

func usedByCond(in api.Inst) api.Inst {
	if ByReg(in.Op) {
		return api.Inst{Op: in.Op, Dst: in.Dst, Src: in.Src, Off: in.Off}
	}
	return api.Inst{Op: in.Op, Dst: in.Dst, Off: in.Off, Imm: in.Imm}
}

func usedByBareJmp(in api.Inst) api.Inst {
	switch Kind(in.Op) {
	case kindJa:
		return api.Inst{Op: in.Op, Off: in.Off}
	case kindCall:
		return api.Inst{Op: in.Op, Src: in.Src, Imm: in.Imm}
	}
	return api.Inst{Op: in.Op}
}
