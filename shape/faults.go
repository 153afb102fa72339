package shape

import (
	"postern/api"
	"postern/insn"
)

// wrongInst: the first instruction that is wrong by itself, wherever it stands.
func wrongInst(list []api.Inst) (int, api.Errno) {
	for at := 0; at < len(list); {
		n, e := insn.Plain(list, at)
		if e == api.OK && isForbidden(list[at]) {
			e = api.ErrField
		}
		if e != api.OK {
			return at, e
		}
		at += n
	}
	return 0, api.OK
}

// strayJump: the first jump or call of a part that leads to where no
// instruction begins.
func strayJump(list []api.Inst, starts []bool) (int, bool) {
	for at, begins := range starts {
		if !begins || !leads(list[at]) {
			continue
		}
		if to, ok := target(list, at); !ok || !starts[to] {
			return at, true
		}
	}
	return 0, false
}

// crossJump: the first jump that leads out of its part.
func crossJump(list []api.Inst, starts []bool, partOf func(slot int) int) (int, bool) {
	for at, begins := range starts {
		if !begins || !isJump(list[at]) {
			continue
		}
		if to, ok := target(list, at); ok && partOf(to) != partOf(at) {
			return at, true
		}
	}
	return 0, false
}

// openEnd: the last instruction of the first part that could run past its end.
func openEnd(list []api.Inst, starts []bool, partOf func(slot int) int) (int, bool) {
	last := 0
	for at, begins := range starts {
		if !begins {
			continue
		}
		if partOf(at) != partOf(last) && !closes(list[last]) {
			return last, true
		}
		last = at
	}
	if closes(list[last]) {
		return 0, false
	}
	return last, true
}
