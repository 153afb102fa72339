package hash

import (
	"postern/api"
)

// again: a key is put that has this slot. ErrExist.
func again(slot int, flags uint64) (int, bool, api.Errno) {
	if flags == api.NoExist {
		return 0, false, api.ErrExist
	}
	return slot, false, api.OK
}

// add a key that isn't held. ErrNone, ErrFull.
func (x *Index) add(key []byte, flags uint64) (int, bool, api.Errno) {
	if flags == api.Exist {
		return 0, false, api.ErrNone
	}
	slot, room := x.free()
	if !room {
		return 0, false, api.ErrFull
	}
	x.slots[string(key)] = slot
	return slot, true, api.OK
}

// free: the least slot that no key has, if there is one.
func (x *Index) free() (int, bool) {
	keys := x.bySlot()
	for slot := range x.max {
		if keys[slot] == "" {
			return slot, true
		}
	}
	return 0, false
}

// bySlot: the key that has each slot; no key is empty, so an empty text stands where none has it.
func (x *Index) bySlot() [api.MaxEntries]string {
	var keys [api.MaxEntries]string
	for key, slot := range x.slots {
		keys[slot] = key
	}
	return keys
}
