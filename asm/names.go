package asm

import (
	"strings"

	"postern/api"
	"postern/insn"
)

// The classes: an operation's low three bits.
const (
	classLd = iota
	classLdx
	classSt
	classStx
	classAlu
	classJmp
	classJmp32
	classAlu64
)

// The operations that have a word of their own.
const (
	opWide = 0x18
	opCall = 0x85
	opMem  = 0x60 // of an access, without its size and its class
)

// The kinds that take other words than their neighbours.
const (
	kindJa   = 0x00
	kindNeg  = 0x80
	kindCall = 0x80
	kindExit = 0x90
)

// The words that hang on Src too, beside the operation.
const (
	wordNumber = "lddw"  // the wide load, Src 0
	wordMap    = "ldmap" // the wide load, Src 1
	wordPart   = "callp" // the call, Src 1
)

// narrowEnd stands behind the name of what is done with 32 bits.
const narrowEnd = "32"

// aluNames and jumpNames lie by their kind's high four bits.
var (
	aluNames  = [13]string{"add", "sub", "mul", "div", "or", "and", "lsh", "rsh", "neg", "mod", "xor", "mov", "arsh"}
	jumpNames = [14]string{"ja", "jeq", "jgt", "jge", "jset", "jne", "jsgt", "jsge", "call", "exit", "jlt", "jle", "jslt", "jsle"}
)

// An access's name is one of accessNames, by the class from LDX on, and one of
// sizeNames, by the two bits above the class.
var (
	accessNames = [3]string{"ldx", "st", "stx"}
	sizeNames   = [4]string{"w", "h", "b", "dw"}
)

// nameOf a plain instruction: its line's first word.
func nameOf(in api.Inst) string {
	kind := insn.Kind(in.Op) >> 4
	switch class := insn.Class(in.Op); class {
	case classLd:
		if in.Src == 0 {
			return wordNumber
		}
		return wordMap
	case classLdx, classSt, classStx:
		return accessNames[class-classLdx] + sizeNames[in.Op>>3&3]
	case classAlu:
		return aluNames[kind] + narrowEnd
	case classAlu64:
		return aluNames[kind]
	case classJmp32:
		return jumpNames[kind] + narrowEnd
	}
	if in.Op == opCall && in.Src == 1 {
		return wordPart
	}
	return jumpNames[kind]
}

// named: what that name alone says of an instruction; whether its operand is a
// register the words behind it say.
func named(name string) (api.Inst, bool) {
	switch name {
	case wordNumber:
		return api.Inst{Op: opWide}, true
	case wordMap:
		return api.Inst{Op: opWide, Src: 1}, true
	case wordPart:
		return api.Inst{Op: opCall, Src: 1}, true
	}
	op, ok := access(name)
	if !ok {
		op, ok = byKind(name)
	}
	return api.Inst{Op: op}, ok
}

// access: the LDX, ST or STX of that name.
func access(name string) (uint8, bool) {
	for i, start := range accessNames {
		end, ok := strings.CutPrefix(name, start)
		if !ok {
			continue
		}
		for size, n := range sizeNames {
			if n == end {
				return uint8(opMem | size<<3 | (classLdx + i)), true
			}
		}
	}
	return 0, false
}

// byKind: the operation of that name in the classes that have kinds.
func byKind(name string) (uint8, bool) {
	wide, narrow := strings.CutSuffix(name, narrowEnd)
	alu, jump := classAlu64, classJmp
	if narrow {
		alu, jump = classAlu, classJmp32
	}
	for kind, n := range aluNames {
		if n == wide {
			return uint8(kind<<4 | alu), true
		}
	}
	for kind, n := range jumpNames {
		if op := uint8(kind<<4 | jump); n == wide && insn.Known(op) { // ja, call and exit are never narrow
			return op, true
		}
	}
	return 0, false
}
