package asm

import (
	"strconv"
	"strings"
)

const maxReg = 10

// regStart begins a register's word, and no number's.
const regStart = "r"

// words of a line, taken from its front. A word that can't stand where it was
// asked for is kept in mind, so that a line is judged once, at its end.
type words struct {
	rest string
	bad  bool
}

// next word, or the empty one where none is left.
func (w *words) next() string {
	word, rest, _ := strings.Cut(strings.TrimLeft(w.rest, " "), " ")
	w.rest = rest
	return word
}

// regNext: does the next word begin as a register's does?
func (w *words) regNext() bool {
	return strings.HasPrefix(strings.TrimLeft(w.rest, " "), regStart)
}

// reg: a register's number.
func (w *words) reg() uint8 {
	digits, ok := strings.CutPrefix(w.next(), regStart)
	v := w.natural(digits)
	if !ok || v > maxReg {
		w.bad = true
		return 0
	}
	return uint8(v)
}

// signed: a number of so many bits in two's complement.
func (w *words) signed(bits int) int64 {
	word := w.next()
	v, err := strconv.ParseInt(word, 10, bits)
	if err != nil || strconv.FormatInt(v, 10) != word { // noughts ahead, +1 and -0 are read, but never written
		w.bad = true
		return 0
	}
	return v
}

// unsigned: a number from 0 to 2^64 - 1.
func (w *words) unsigned() uint64 {
	return w.natural(w.next())
}

// natural: the number that those digits are.
func (w *words) natural(digits string) uint64 {
	v, err := strconv.ParseUint(digits, 10, 64)
	if err != nil || strconv.FormatUint(v, 10) != digits {
		w.bad = true
		return 0
	}
	return v
}
