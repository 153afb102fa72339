package table

import (
	"postern/api"
)

// place: the address of what slot s of map i keeps.
func place(i, s int) uint64 {
	return api.ValueBase + uint64(i)<<32 + uint64(s)<<12
}

// hasRoom: could the memory take all places? It is asked ahead of the first Add, since a region that was added and killed again would leave its number behind.
func (t *Table) hasRoom() bool {
	regions := t.memory.Count()
	for i, x := range t.maps {
		regions += x.def.Max
		for s := range x.def.Max {
			if !t.isFree(place(i, s), x.def.Value) {
				return false
			}
		}
	}
	return regions <= api.MaxRegions
}

// isFree: do these bytes belong to no region? Each is asked for, since a region may begin behind the first.
func (t *Table) isFree(addr uint64, size int) bool {
	for n := range size {
		if _, _, taken := t.memory.Find(addr + uint64(n)); taken {
			return false
		}
	}
	return true
}

// settle adds the regions of all places; there is room for them.
func (t *Table) settle() {
	for i, x := range t.maps {
		for s := range x.def.Max {
			t.memory.Add(place(i, s), x.def.Value, api.Read|api.Write)
		}
	}
}
