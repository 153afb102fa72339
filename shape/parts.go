package shape

import (
	"slices"

	"postern/api"
)

// target of an instruction that begins at slot at; false if it has none, or the
// target is no slot.
func target(list []api.Inst, at int) (int, bool) {
	to := at + 1
	switch in := list[at]; {
	case isJump(in):
		to += int(in.Off)
	case isPartCall(in):
		to += int(in.Imm)
	default:
		return 0, false
	}
	if to < 0 || to >= len(list) {
		return 0, false
	}
	return to, true
}

// parts: where they begin, rising. They are marked by slot ahead of being told,
// so that each is told once however many calls lead to it.
func parts(list []api.Inst, starts []bool) []int {
	marks := make([]bool, len(list))
	for at := range list {
		if !starts[at] || !isPartCall(list[at]) {
			continue
		}
		if to, ok := target(list, at); ok {
			marks[to] = true
		}
	}
	var told []int
	for slot, marked := range marks {
		if slot == 0 || marked {
			told = append(told, slot)
		}
	}
	return told
}

// finder of a slot's part: the closure answers the part's place among those
// that begin there, the first at slot 0.
func finder(begins []int) func(slot int) int {
	return func(slot int) int {
		i, first := slices.BinarySearch(begins, slot)
		if first {
			return i
		}
		return i - 1
	}
}
