package ring

import "postern/api"

// record is what a number stands for while it is open. Its region is kept by its id: where somebody else killed that one, its address may have come to be another's, which isn't the ring's to kill.
type record struct {
	open   bool
	region int
}

// place: the address of record n.
func place(n int) uint64 {
	return api.RecordBase + uint64(n)<<12
}

// free: the least number that no open record has; -1 if there is none.
func (r *Ring) free() int {
	for n, x := range r.records {
		if !x.open {
			return n
		}
	}
	return -1
}

// number of the open record that has this place; -1 if none has.
func (r *Ring) number(addr uint64) int {
	for n, x := range r.records {
		if x.open && place(n) == addr {
			return n
		}
	}
	return -1
}

// end: record n is open no more.
func (r *Ring) end(n int) {
	r.memory.Kill(r.records[n].region)
	r.records[n] = record{}
}
