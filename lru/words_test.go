package lru

import (
	"bytes"
	"testing"

	"postern/api"
)

// entry is a key that has a slot, and when it was touched.
type entry struct {
	key  []byte
	when int
}

// words is an index as the chapter's words have it: a row of slots, whose key is nil where no key has one, and a count of touches.
type words struct {
	size, now int
	row       []entry
}

// where a key is held, else -1.
func (w *words) where(key []byte) int {
	for slot, held := range w.row {
		if held.key != nil && len(key) == w.size && bytes.Equal(held.key, key) {
			return slot
		}
	}
	return -1
}

func (w *words) touch(slot int) {
	w.now++
	w.row[slot].when = w.now
}

func (w *words) find(key []byte) (int, bool) {
	slot := w.where(key)
	if slot < 0 {
		return 0, false
	}
	w.touch(slot)
	return slot, true
}

// room: where a new key goes.
func (w *words) room() int {
	longest := 0
	for slot, held := range w.row {
		if held.key == nil {
			return slot
		}
		if held.when < w.row[longest].when {
			longest = slot
		}
	}
	return longest
}

func (w *words) put(key []byte, flags uint64) (int, bool, api.Errno) {
	slot := w.where(key)
	isNew := slot < 0
	switch {
	case len(key) != w.size:
		return 0, false, api.ErrArg
	case flags > 2:
		return 0, false, api.ErrFlags
	case !isNew && flags == 1:
		return 0, false, api.ErrExist
	case isNew && flags == 2:
		return 0, false, api.ErrNone
	case isNew:
		slot = w.room()
		w.row[slot].key = bytes.Clone(key)
	}
	w.touch(slot)
	return slot, isNew, api.OK
}

func (w *words) del(key []byte) (int, api.Errno) {
	slot := w.where(key)
	switch {
	case len(key) != w.size:
		return 0, api.ErrArg
	case slot < 0:
		return 0, api.ErrNone
	}
	w.row[slot] = entry{}
	return slot, api.OK
}

func (w *words) keys() [][]byte {
	var keys [][]byte
	for _, held := range w.row {
		keys = append(keys, held.key)
	}
	return keys
}

func (w *words) copy() *words {
	c := *w
	c.row = append([]entry(nil), w.row...)
	return &c
}

// dice: the same numbers at each run.
type dice uint64

func (d *dice) below(n int) int {
	*d = *d*6364136223846793005 + 1442695040888963407
	return int(uint64(*d) >> 33 % uint64(n))
}

// key out of more than twice as many as there is room for; now and then of another length.
func (d *dice) key(size, max int) []byte {
	n := size
	if d.below(12) == 0 {
		n = d.below(api.MaxKey + 3)
	}
	key := make([]byte, n)
	if n > 0 {
		key[d.below(2)*(n-1)] = byte(d.below(2*max + 2))
	}
	return key
}

// step does one thing to both, and holds what they answer against each other.
func step(t *testing.T, d *dice, x *Index, w *words) {
	t.Helper()
	key := d.key(w.size, len(w.row))
	switch d.below(6) {
	case 0, 1:
		s, ok := x.Find(key)
		if ws, wok := w.find(key); s != ws || ok != wok {
			t.Fatalf("Find(%x): %d %v, want %d %v", key, s, ok, ws, wok)
		}
	case 2:
		s, e := x.Del(key)
		if ws, we := w.del(key); s != ws || e != we {
			t.Fatalf("Del(%x): %d %v, want %d %v", key, s, e, ws, we)
		}
	default:
		flags := []uint64{0, 0, 0, 1, 2, 3, 1 << 40}[d.below(7)]
		s, n, e := x.Put(key, flags)
		if ws, wn, we := w.put(key, flags); s != ws || n != wn || e != we {
			t.Fatalf("Put(%x, %d): %d %v %v, want %d %v %v", key, flags, s, n, e, ws, wn, we)
		}
	}
}

// P8.1 to P8.5: whatever is done, an index and its copies answer as the words say.
func TestAsTheWordsSay(t *testing.T) {
	d := dice(8)
	for _, size := range []int{1, 2, 3, 8, api.MaxKey} {
		for _, max := range []int{1, 2, 3, 7, 63, api.MaxEntries} {
			x, w := made(t, size, max), &words{size: size, row: make([]entry, max)}
			for range 30 {
				c, cw := x.Copy(), w.copy()
				for range 40 {
					step(t, &d, x, w)
					step(t, &d, c, cw)
				}
				holds(t, x, w.keys()...)
				holds(t, c, cw.keys()...)
				if d.below(2) == 0 {
					x, w = c, cw
				}
			}
		}
	}
}
