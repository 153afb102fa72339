package lru

import (
	"slices"

	"postern/api"
)

// touch the key that has this slot: no other was touched later.
func (x *Index) touch(slot int) {
	x.take(slot)
	x.order = append(x.order, slot)
}

// take a slot out of the order; a new key's isn't there yet.
func (x *Index) take(slot int) {
	x.order = slices.DeleteFunc(x.order, func(other int) bool { return other == slot })
}

// room: a slot for a new key, the least that no key has; if all have one, that of the key that was touched longest ago, which is forgotten.
func (x *Index) room() int {
	keys := x.bySlot()
	for slot := range x.max {
		if keys[slot] == "" {
			return slot
		}
	}
	oldest := x.order[0]
	delete(x.slots, keys[oldest])
	return oldest
}

// bySlot: the key that has each slot; no key is empty, so an empty text stands where none has it.
func (x *Index) bySlot() [api.MaxEntries]string {
	var keys [api.MaxEntries]string
	for key, slot := range x.slots {
		keys[slot] = key
	}
	return keys
}
