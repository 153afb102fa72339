package alu

// within: the number as it is of 64 bits, or its low 32.
func within(wide bool, a uint64) uint64 {
	if wide {
		return a
	}
	return uint64(uint32(a))
}

// signed: the number of 64 or of 32 bits in two's complement.
func signed(wide bool, a uint64) int64 {
	if wide {
		return int64(a)
	}
	return int64(int32(a))
}

// shifted by the low bits of b; signed brings bit 31 of 32 to all the bits
// above it, from where arsh takes it in.
func shifted(kind int, wide bool, a, b uint64) uint64 {
	by := b & 31
	if wide {
		by = b & 63
	}
	switch kind {
	case kindLsh:
		return within(wide, a<<by)
	case kindRsh:
		return within(wide, a) >> by
	}
	return within(wide, uint64(signed(wide, a)>>by))
}

// reckoned: what an operation that isn't a shift makes of numbers that are
// already cut.
func reckoned(kind int, a, b uint64) uint64 {
	switch kind {
	case kindAdd:
		return a + b
	case kindSub:
		return a - b
	case kindMul:
		return a * b
	case kindDiv:
		return quotient(a, b)
	case kindMod:
		return rest(a, b)
	case kindOr:
		return a | b
	case kindAnd:
		return a & b
	case kindXor:
		return a ^ b
	case kindNeg:
		return -a
	}
	return b
}

func quotient(a, b uint64) uint64 {
	if b == 0 {
		return 0
	}
	return a / b
}

func rest(a, b uint64) uint64 {
	if b == 0 {
		return a
	}
	return a % b
}

// compared as numbers from 0 on, or bit by bit.
func compared(kind int, a, b uint64) bool {
	switch kind {
	case kindJeq:
		return a == b
	case kindJne:
		return a != b
	case kindJgt:
		return a > b
	case kindJge:
		return a >= b
	case kindJlt:
		return a < b
	case kindJle:
		return a <= b
	}
	return a&b != 0
}

// ordered: does one of the conditions on numbers in two's complement hold?
func ordered(kind int, a, b int64) bool {
	switch kind {
	case kindJsgt:
		return a > b
	case kindJsge:
		return a >= b
	case kindJslt:
		return a < b
	}
	return a <= b
}
