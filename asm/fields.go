package asm

import (
	"strconv"

	"postern/api"
	"postern/insn"
)

// regBit of an operation says that its operand is a register.
const regBit = 0x08

// field is what one word behind a line's first is about.
type field int

const (
	dst     field = iota // a register: Dst
	src                  // a register: Src
	operand              // a register: Src; or a number: Imm
	off                  // a number: Off
	imm                  // a number: Imm
	long                 // a number of 64 bits: a second slot and both Imms
)

// fieldsOf a known operation, in the order of its line's words: lines are
// printed and parsed by this one list.
func fieldsOf(op uint8) []field {
	switch insn.Class(op) {
	case classLd:
		return []field{dst, long}
	case classLdx:
		return []field{dst, src, off}
	case classSt:
		return []field{dst, off, imm}
	case classStx:
		return []field{dst, off, src}
	case classAlu, classAlu64:
		if insn.Kind(op) == kindNeg {
			return []field{dst}
		}
		return []field{dst, operand}
	}
	return fieldsOfJump(op)
}

func fieldsOfJump(op uint8) []field {
	switch insn.Kind(op) {
	case kindJa:
		return []field{off}
	case kindCall:
		return []field{imm}
	case kindExit:
		return nil
	}
	return []field{dst, operand, off}
}

// print the field of a plain instruction.
func (f field) print(slots []api.Inst) string {
	in := slots[0]
	switch f {
	case dst:
		return reg(in.Dst)
	case src:
		return reg(in.Src)
	case operand:
		if insn.ByReg(in.Op) {
			return reg(in.Src)
		}
		return number(int64(in.Imm))
	case off:
		return number(int64(in.Off))
	case imm:
		return number(int64(in.Imm))
	}
	return strconv.FormatUint(insn.Long(in, slots[1]), 10)
}

// parse the field's word, and answer the slots with what it says.
func (f field) parse(slots []api.Inst, w *words) []api.Inst {
	in := &slots[0]
	switch f {
	case dst:
		in.Dst = w.reg()
	case src:
		in.Src = w.reg()
	case operand:
		if w.regNext() {
			in.Op |= regBit
			in.Src = w.reg()
		} else {
			in.Imm = int32(w.signed(32))
		}
	case off:
		in.Off = int16(w.signed(16))
	case imm:
		in.Imm = int32(w.signed(32))
	case long:
		return insn.Split(in.Dst, in.Src, w.unsigned())
	}
	return slots
}

func reg(r uint8) string {
	return regStart + strconv.Itoa(int(r))
}

func number(v int64) string {
	return strconv.FormatInt(v, 10)
}
