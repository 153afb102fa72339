package shape

import (
	"postern/api"
	"postern/insn"
)

// The classes that are told apart here: an operation's low three bits.
const (
	classLd    = 0
	classLdx   = 1
	classAlu   = 4
	classJmp   = 5
	classJmp32 = 6
	classAlu64 = 7
)

// The ALU's kinds whose Imm may not be any number.
const (
	kindDiv  = 0x30
	kindLsh  = 0x60
	kindRsh  = 0x70
	kindMod  = 0x90
	kindArsh = 0xc0
)

// The whole operations that are told apart from the other jumps.
const (
	opJa   = 0x05
	opCall = 0x85
	opExit = 0x95
)

const (
	stackReg = 10 // it tells where the stack ends, and no instruction may write it
	ofPart   = 1  // the Src of a call of a part
)

// isForbidden: is a plain instruction one that no program may have?
func isForbidden(in api.Inst) bool {
	if in.Dst == stackReg && writesDst(in.Op) {
		return true
	}
	return isAlu(in.Op) && !insn.ByReg(in.Op) && isBadOperand(in)
}

func isAlu(op uint8) bool {
	c := insn.Class(op)
	return c == classAlu || c == classAlu64
}

func writesDst(op uint8) bool {
	c := insn.Class(op)
	return isAlu(op) || c == classLd || c == classLdx
}

// isBadOperand is asked of the ALU's operations by Imm alone.
func isBadOperand(in api.Inst) bool {
	switch insn.Kind(in.Op) {
	case kindDiv, kindMod:
		return in.Imm == 0
	case kindLsh, kindRsh, kindArsh:
		return in.Imm < 0 || in.Imm >= bitsOf(in.Op)
	}
	return false
}

// bitsOf the numbers that an ALU's operation works on.
func bitsOf(op uint8) int32 {
	if insn.Class(op) == classAlu {
		return 32
	}
	return 64
}

// isJump: does the instruction, a plain one, go on at a place of its own in the
// same part?
func isJump(in api.Inst) bool {
	c := insn.Class(in.Op)
	return (c == classJmp || c == classJmp32) && in.Op != opCall && in.Op != opExit
}

func isPartCall(in api.Inst) bool {
	return in.Op == opCall && in.Src == ofPart
}

// leads: has the instruction a target?
func leads(in api.Inst) bool {
	return isJump(in) || isPartCall(in)
}

// closes: can nothing run on behind the instruction?
func closes(in api.Inst) bool {
	return in.Op == opExit || in.Op == opJa
}
