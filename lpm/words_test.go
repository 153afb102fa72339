package lpm

import (
	"bytes"
	"slices"
	"testing"

	"postern/api"
)

// words is an index as the chapter's words have it: a row of slots, nil where no key has one, of keys in form.
type words struct {
	size int
	row  [][]byte
}

// may it be a key?
func (w *words) may(key []byte) bool {
	return len(key) == w.size && lengthIn(key) <= uint64(8*(w.size-4))
}

func lengthIn(key []byte) uint64 {
	return uint64(key[0]) + uint64(key[1])<<8 + uint64(key[2])<<16 + uint64(key[3])<<24
}

// inForm: the bits that don't count are zeros.
func inForm(key []byte) []byte {
	form := bytes.Clone(key)
	for bit := int(lengthIn(key)); bit < 8*(len(key)-4); bit++ {
		form[4+bit/8] &^= 0x80 >> (bit % 8)
	}
	return form
}

// begins: does a key in form begin another?
func begins(form, key []byte) bool {
	if lengthIn(form) > lengthIn(key) {
		return false
	}
	for bit := range int(lengthIn(form)) {
		if (form[4+bit/8]^key[4+bit/8])&(0x80>>(bit%8)) != 0 {
			return false
		}
	}
	return true
}

func (w *words) find(key []byte) (int, bool) {
	longest := -1
	for slot, held := range w.row {
		if held == nil || !w.may(key) || !begins(held, key) {
			continue
		}
		if longest < 0 || lengthIn(held) > lengthIn(w.row[longest]) {
			longest = slot
		}
	}
	return max(longest, 0), longest >= 0
}

// where a key in form is held, else -1.
func (w *words) where(form []byte) int {
	return slices.IndexFunc(w.row, func(held []byte) bool { return held != nil && bytes.Equal(held, form) })
}

func (w *words) put(key []byte, flags uint64) (int, bool, api.Errno) {
	if !w.may(key) {
		return 0, false, api.ErrArg
	}
	form := inForm(key)
	slot := w.where(form)
	free := slices.IndexFunc(w.row, func(held []byte) bool { return held == nil })
	switch {
	case flags > 2:
		return 0, false, api.ErrFlags
	case slot >= 0 && flags == 1:
		return 0, false, api.ErrExist
	case slot < 0 && flags == 2:
		return 0, false, api.ErrNone
	case slot < 0 && free < 0:
		return 0, false, api.ErrFull
	case slot >= 0:
		return slot, false, api.OK
	}
	w.row[free] = form
	return free, true, api.OK
}

func (w *words) del(key []byte) (int, api.Errno) {
	if !w.may(key) {
		return 0, api.ErrArg
	}
	slot := w.where(inForm(key))
	if slot < 0 {
		return 0, api.ErrNone
	}
	w.row[slot] = nil
	return slot, api.OK
}

func (w *words) copy() *words {
	c := &words{size: w.size}
	for _, key := range w.row {
		c.row = append(c.row, bytes.Clone(key))
	}
	return c
}

// dice: the same numbers at each run.
type dice uint64

func (d *dice) below(n int) int {
	*d = *d*6364136223846793005 + 1442695040888963407
	return int(uint64(*d) >> 33 % uint64(n))
}

// key of few different bits, of any length, so that many begin others; now and then one that may not be.
func (d *dice) key(size int) []byte {
	switch d.below(24) {
	case 0:
		return make([]byte, d.below(api.MaxKey+3))
	case 1:
		key := sized(size, d.below(8*(size-4)+1), 0)
		key[d.below(4)] += byte(8*(size-4) + 1)
		return key
	}
	key := sized(size, d.below(8*(size-4)+1), []byte{0, 0xff, 0xaa}[d.below(3)])
	key[4+d.below(size-4)] ^= byte(d.below(4) << d.below(7))
	return key
}

// step does one thing to both, and holds what they answer against each other.
func step(t *testing.T, d *dice, x *Index, w *words) {
	t.Helper()
	key := d.key(w.size)
	if d.below(3) == 0 { // some that is held
		key = bytes.Clone(w.row[d.below(len(w.row))])
	}
	switch d.below(6) {
	case 0, 1:
		s, ok := x.Find(key)
		if ws, wok := w.find(key); s != ws || ok != wok {
			t.Fatalf("Find(%x): %d %v, want %d %v", key, s, ok, ws, wok)
		}
	case 2:
		s, e := x.Del(key)
		if ws, we := w.del(key); s != ws || e != we {
			t.Fatalf("Del(%x): %d %v, want %d %v", key, s, e, ws, we)
		}
	default:
		flags := []uint64{0, 0, 0, 1, 2, 3, 1 << 40}[d.below(7)]
		s, n, e := x.Put(key, flags)
		if ws, wn, we := w.put(key, flags); s != ws || n != wn || e != we {
			t.Fatalf("Put(%x, %d): %d %v %v, want %d %v %v", key, flags, s, n, e, ws, wn, we)
		}
	}
}

// P9.1 to P9.5: whatever is done, an index and its copies answer as the words say.
func TestAsTheWordsSay(t *testing.T) {
	d := dice(9)
	for size := 5; size <= api.MaxKey; size++ {
		for _, max := range []int{1, 2, 3, 7, 30, 63, api.MaxEntries} {
			x, w := made(t, size, max), &words{size: size, row: make([][]byte, max)}
			for range 30 {
				c, cw := x.Copy(), w.copy()
				for range 40 {
					step(t, &d, x, w)
					step(t, &d, c, cw)
				}
				holds(t, x, w.row...)
				holds(t, c, cw.row...)
				if d.below(2) == 0 {
					x, w = c, cw
				}
			}
		}
	}
}

// All keys of five bytes, asked of indexes of a few of them.
func TestAllKeysOfFiveBytes(t *testing.T) {
	d := dice(5)
	for range 20 {
		x, w := made(t, 5, 12), &words{size: 5, row: make([][]byte, 12)}
		for range 30 {
			step(t, &d, x, w)
		}
		for length := range 10 {
			for b := range 256 {
				key := prefix(length, byte(b))
				slot, ok := w.find(key)
				finds(t, x, key, slot, ok)
			}
		}
	}
}
