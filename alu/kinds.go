package alu

// The kinds of operations.
const (
	kindAdd  = 0x00
	kindSub  = 0x10
	kindMul  = 0x20
	kindDiv  = 0x30
	kindOr   = 0x40
	kindAnd  = 0x50
	kindLsh  = 0x60
	kindRsh  = 0x70
	kindNeg  = 0x80
	kindMod  = 0x90
	kindXor  = 0xa0
	kindMov  = 0xb0
	kindArsh = 0xc0
)

// The kinds of conditions. Those between jsge and jlt are of jumps that hold
// nothing against anything.
const (
	kindJeq  = 0x10
	kindJgt  = 0x20
	kindJge  = 0x30
	kindJset = 0x40
	kindJne  = 0x50
	kindJsgt = 0x60
	kindJsge = 0x70
	kindJlt  = 0xa0
	kindJle  = 0xb0
	kindJslt = 0xc0
	kindJsle = 0xd0
)

// kindStep is how far one kind lies from the next.
const kindStep = 0x10

func isOperation(kind int) bool {
	return kind%kindStep == 0 && kindAdd <= kind && kind <= kindArsh
}

func isShift(kind int) bool {
	return kind == kindLsh || kind == kindRsh || kind == kindArsh
}

func isCondition(kind int) bool {
	inFirst := kindJeq <= kind && kind <= kindJsge
	inSecond := kindJlt <= kind && kind <= kindJsle
	return kind%kindStep == 0 && (inFirst || inSecond)
}

func isSigned(kind int) bool {
	return kind == kindJsgt || kind == kindJsge || kind == kindJslt || kind == kindJsle
}
