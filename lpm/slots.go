package lpm

import (
	"postern/api"
)

// again: a key is put that has this slot. ErrExist.
func again(slot int, flags uint64) (int, bool, api.Errno) {
	if flags == api.NoExist {
		return 0, false, api.ErrExist
	}
	return slot, false, api.OK
}

// add a key that isn't held. ErrNone, ErrFull.
func (x *Index) add(path []int, flags uint64) (int, bool, api.Errno) {
	if flags == api.Exist {
		return 0, false, api.ErrNone
	}
	slot, room := x.free()
	if !room {
		return 0, false, api.ErrFull
	}
	x.root = x.root.with(path, slot)
	return slot, true, api.OK
}

// free: the least slot that no key has, if there is one.
func (x *Index) free() (int, bool) {
	var taken [api.MaxEntries]bool
	x.root.each(nil, func(_ []int, slot int) { taken[slot] = true })
	for slot := range x.max {
		if !taken[slot] {
			return slot, true
		}
	}
	return 0, false
}
