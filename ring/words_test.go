package ring

import (
	"bytes"
	"slices"
	"testing"

	"postern/api"
	"postern/mem"
)

// words is a ring as the chapter's words have it: what lies at each record's place, nil of one that isn't open; which of the places something else has; what is out.
type words struct {
	open  [8][]byte
	taken [8]bool
	out   [][]byte
}

func (w *words) count() int {
	n := 0
	for _, b := range w.open {
		if b != nil {
			n++
		}
	}
	return n
}

func (w *words) reserve(size uint64, room bool) (uint64, api.Errno) {
	if size == 0 || size > 64 {
		return 0, api.ErrArg
	}
	least := slices.IndexFunc(w.open[:], func(b []byte) bool { return b == nil })
	switch {
	case least < 0:
		return 0, api.ErrFull
	case w.taken[least] || !room:
		return 0, api.ErrBusy
	}
	w.open[least] = make([]byte, size)
	return at(least), api.OK
}

// end: the bytes of the record with that place, which is open no more.
func (w *words) end(addr uint64) ([]byte, api.Errno) {
	for n, b := range w.open {
		if b != nil && addr == at(n) {
			w.open[n] = nil
			return b, api.OK
		}
	}
	return nil, api.ErrNone
}

func (w *words) submit(addr uint64) api.Errno {
	b, e := w.end(addr)
	if e == api.OK {
		w.out = append(w.out, b)
	}
	return e
}

func (w *words) discard(addr uint64) api.Errno {
	_, e := w.end(addr)
	return e
}

// dice: the same numbers at each run.
type dice uint64

func (d *dice) below(n int) int {
	*d = *d*6364136223846793005 + 1442695040888963407
	return int(uint64(*d) >> 33 % uint64(n))
}

// size that a record may have, but now and then.
func (d *dice) size() uint64 {
	if d.below(10) == 0 {
		return wrongSizes[d.below(len(wrongSizes))]
	}
	return uint64(1 + d.below(64))
}

// place of one of the records, but now and then.
func (d *dice) place() uint64 {
	if d.below(10) == 0 {
		return wrongPlaces[d.below(len(wrongPlaces))]
	}
	return at(d.below(8))
}

// host: a ring and its memory, the ids of what takes places away, and what the words have of it.
type host struct {
	r     *Ring
	m     *mem.Memory
	other [8]int
	w     words
}

// step does one thing to the ring and to the words, and holds what they answer against each other.
func (h *host) step(t *testing.T, d *dice) {
	t.Helper()
	n := d.below(8)
	switch d.below(9) {
	case 0, 1, 2, 3:
		size := d.size()
		want, wante := h.w.reserve(size, h.m.Count() < api.MaxRegions)
		if addr, e := h.r.Reserve(size); addr != want || e != wante {
			t.Errorf("Reserve(%d): %#x %v, want %#x %v", size, addr, e, want, wante)
		}
	case 4:
		addr := d.place()
		submits(t, h.r, addr, h.w.submit(addr))
	case 5:
		addr := d.place()
		discards(t, h.r, addr, h.w.discard(addr))
	case 6:
		if h.w.taken[n] && d.below(2) == 0 {
			h.m.Kill(h.other[n])
			h.w.taken[n] = false
		} else if d.below(3) == 0 && h.w.open[n] == nil {
			h.take(n)
		}
	default:
		b := h.w.open[n]
		if b != nil {
			i, v := d.below(len(b)), byte(d.below(256))
			b[i] = v
			h.m.Store(at(n)+uint64(i), 1, uint64(v))
		}
	}
}

// take the place of a record that isn't open.
func (h *host) take(n int) {
	if id, e := h.m.Add(at(n), 1, 0); e == api.OK {
		h.other[n], h.w.taken[n] = id, true
	}
}

// holds: does it hold what the words have?
func (h *host) holds(t *testing.T, other int) {
	t.Helper()
	stands(t, h.r, h.w.count(), h.w.out...)
	regions := other + h.w.count()
	for n, b := range h.w.open {
		if b != nil {
			lies(t, h.m, at(n), b...)
		}
		if h.w.taken[n] {
			regions++
		}
		id, from, ok := h.m.Find(at(n))
		if is := b != nil || h.w.taken[n]; ok != is || from != 0 {
			t.Errorf("record %d: a region %v, want %v", n, ok, is)
		}
		if all, e := h.m.Bytes(id); b != nil && (!bytes.Equal(all, b) || e != api.OK) {
			t.Errorf("record %d: %x %v, want %x", n, all, e, b)
		}
	}
	if h.m.Count() != regions {
		t.Errorf("%d regions, want %d", h.m.Count(), regions)
	}
}

// P11.1 to P11.3: whatever is done, a ring answers as the words say.
func TestAsTheWordsSay(t *testing.T) {
	d := dice(11)
	for round := range 120 {
		other := 0
		if round%3 == 0 { // there is little room
			other = api.MaxRegions - d.below(9)
		}
		h := &host{m: crowded(t, other)}
		h.r = made(t, h.m)
		for range 100 {
			for range 6 {
				h.step(t, &d)
			}
			h.holds(t, other)
			if t.Failed() {
				t.FailNow()
			}
		}
	}
}
