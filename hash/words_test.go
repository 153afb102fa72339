package hash

import (
	"bytes"
	"testing"

	"postern/api"
)

// words is an index as the chapter's words have it: a row of slots, nil where no key has one.
type words struct {
	size int
	row  [][]byte
}

func (w *words) find(key []byte) (int, bool) {
	for slot, held := range w.row {
		if held != nil && len(key) == w.size && bytes.Equal(held, key) {
			return slot, true
		}
	}
	return 0, false
}

func (w *words) put(key []byte, flags uint64) (int, bool, api.Errno) {
	slot, held := w.find(key)
	free := -1
	for s := len(w.row) - 1; s >= 0; s-- {
		if w.row[s] == nil {
			free = s
		}
	}
	switch {
	case len(key) != w.size:
		return 0, false, api.ErrArg
	case flags > 2:
		return 0, false, api.ErrFlags
	case held && flags == 1:
		return 0, false, api.ErrExist
	case !held && flags == 2:
		return 0, false, api.ErrNone
	case !held && free < 0:
		return 0, false, api.ErrFull
	case held:
		return slot, false, api.OK
	}
	w.row[free] = bytes.Clone(key)
	return free, true, api.OK
}

func (w *words) del(key []byte) (int, api.Errno) {
	slot, held := w.find(key)
	switch {
	case len(key) != w.size:
		return 0, api.ErrArg
	case !held:
		return 0, api.ErrNone
	}
	w.row[slot] = nil
	return slot, api.OK
}

func (w *words) copy() *words {
	c := &words{size: w.size}
	for _, key := range w.row {
		c.row = append(c.row, bytes.Clone(key))
	}
	return c
}

// dice: the same numbers at each run.
type dice uint64

func (d *dice) below(n int) int {
	*d = *d*6364136223846793005 + 1442695040888963407
	return int(uint64(*d) >> 33 % uint64(n))
}

// key out of a few more than there is room for; now and then of another length.
func (d *dice) key(size, max int) []byte {
	n := size
	if d.below(12) == 0 {
		n = d.below(api.MaxKey + 3)
	}
	key := make([]byte, n)
	if n > 0 {
		key[d.below(2)*(n-1)] = byte(d.below(max + 2))
	}
	return key
}

// step does one thing to both, and holds what they answer against each other.
func step(t *testing.T, d *dice, x *Index, w *words) {
	t.Helper()
	key := d.key(w.size, len(w.row))
	switch d.below(5) {
	case 0:
		s, ok := x.Find(key)
		if ws, wok := w.find(key); s != ws || ok != wok {
			t.Fatalf("Find(%x): %d %v, want %d %v", key, s, ok, ws, wok)
		}
	case 1:
		s, e := x.Del(key)
		if ws, we := w.del(key); s != ws || e != we {
			t.Fatalf("Del(%x): %d %v, want %d %v", key, s, e, ws, we)
		}
	default:
		flags := []uint64{0, 0, 0, 1, 2, 3, 1 << 40}[d.below(7)]
		s, n, e := x.Put(key, flags)
		if ws, wn, we := w.put(key, flags); s != ws || n != wn || e != we {
			t.Fatalf("Put(%x, %d): %d %v %v, want %d %v %v", key, flags, s, n, e, ws, wn, we)
		}
	}
}

// P7.1 to P7.5: whatever is done, an index and its copies answer as the words say.
func TestAsTheWordsSay(t *testing.T) {
	d := dice(7)
	for _, size := range []int{1, 2, 3, 8, api.MaxKey} {
		for _, max := range []int{1, 2, 3, 7, 63, api.MaxEntries} {
			x, w := made(t, size, max), &words{size: size, row: make([][]byte, max)}
			for range 30 {
				c, cw := x.Copy(), w.copy()
				for range 20 {
					step(t, &d, x, w)
					step(t, &d, c, cw)
				}
				holds(t, x, w.row...)
				holds(t, c, cw.row...)
				if d.below(2) == 0 {
					x, w = c, cw
				}
			}
		}
	}
}
