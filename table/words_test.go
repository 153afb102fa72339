package table

import (
	"bytes"
	"slices"
	"testing"

	"postern/api"
	"postern/mem"
)

// slot: the key that has it, nil if none has; when it was touched; what lies at its place.
type slot struct {
	key   []byte
	when  int
	value []byte
}

// words is a map as the chapters' words have it.
type words struct {
	def api.MapDef
	now int
	row []slot
}

func newWords(d api.MapDef) *words {
	w := &words{def: d, row: make([]slot, d.Max)}
	for s := range w.row {
		w.row[s].value = make([]byte, d.Value)
		if d.Kind == api.Array {
			w.row[s].key = []byte{byte(s), 0, 0, 0}
		}
	}
	return w
}

// may bytes of the right number be a key?
func (w *words) may(key []byte) bool {
	return w.def.Kind != api.Lpm || int(key[0]) <= 8*(w.def.Key-4) && key[1]|key[2]|key[3] == 0
}

// form: the bits of a prefix that don't count are zeros.
func (w *words) form(key []byte) []byte {
	form := bytes.Clone(key)
	if w.def.Kind != api.Lpm {
		return form
	}
	for bit := int(key[0]); bit < 8*(len(key)-4); bit++ {
		form[4+bit/8] &^= 0x80 >> (bit % 8)
	}
	return form
}

// begins: does a held key stand for that one?
func (w *words) begins(held, key []byte) bool {
	if w.def.Kind != api.Lpm {
		return bytes.Equal(held, key)
	}
	for bit := range int(held[0]) {
		if (held[4+bit/8]^key[4+bit/8])&(0x80>>(bit%8)) != 0 {
			return false
		}
	}
	return held[0] <= key[0]
}

// find the slot, touched; -1 if there is none.
func (w *words) find(key []byte) int {
	found := -1
	for s, held := range w.row {
		if held.key == nil || !w.may(key) || !w.begins(held.key, key) {
			continue
		}
		if found < 0 || held.key[0] > w.row[found].key[0] {
			found = s
		}
	}
	if found >= 0 {
		w.touch(found)
	}
	return found
}

func (w *words) touch(s int) {
	w.now++
	w.row[s].when = w.now
}

// where a key in form is held, else -1.
func (w *words) where(form []byte) int {
	return slices.IndexFunc(w.row, func(s slot) bool { return s.key != nil && bytes.Equal(s.key, form) })
}

// room for a new key, else -1.
func (w *words) room() int {
	free := slices.IndexFunc(w.row, func(s slot) bool { return s.key == nil })
	if free >= 0 || w.def.Kind != api.Lru {
		return free
	}
	longest := 0
	for s, held := range w.row {
		if held.when < w.row[longest].when {
			longest = s
		}
	}
	return longest
}

func (w *words) update(key, value []byte, flags uint64) api.Errno {
	if len(key) != w.def.Key || len(value) != w.def.Value || !w.may(key) {
		return api.ErrArg
	}
	form := w.form(key)
	s := w.where(form)
	isArray := w.def.Kind == api.Array
	switch {
	case flags > 2:
		return api.ErrFlags
	case s < 0 && isArray:
		return api.ErrFull
	case s >= 0 && flags == 1:
		return api.ErrExist
	case s < 0 && flags == 2:
		return api.ErrNone
	case s < 0:
		s = w.room()
		if s < 0 {
			return api.ErrFull
		}
	}
	w.row[s].key = form
	w.row[s].value = bytes.Clone(value)
	w.touch(s)
	return api.OK
}

func (w *words) delete(key []byte) api.Errno {
	if len(key) != w.def.Key || !w.may(key) || w.def.Kind == api.Array {
		return api.ErrArg
	}
	s := w.where(w.form(key))
	if s < 0 {
		return api.ErrNone
	}
	w.row[s].key = nil
	return api.OK
}

// lookup: the slot, -1 if there is none.
func (w *words) lookup(key []byte) (int, api.Errno) {
	if len(key) != w.def.Key {
		return -1, api.ErrArg
	}
	return w.find(key), api.OK
}

// pairs: keys and values, one ahead of the other.
func (w *words) pairs() [][]byte {
	var all [][]byte
	for _, s := range w.row {
		if s.key != nil {
			all = append(all, s.key, s.value)
		}
	}
	return all
}

func (w *words) copy() *words {
	c := *w
	c.row = slices.Clone(w.row)
	for s := range c.row {
		c.row[s].value = bytes.Clone(w.row[s].value)
	}
	return &c
}

// dice: the same numbers at each run.
type dice uint64

func (d *dice) below(n int) int {
	*d = *d*6364136223846793005 + 1442695040888963407
	return int(uint64(*d) >> 33 % uint64(n))
}

// key out of some more than there is room for; now and then one that may not be.
func (d *dice) key(def api.MapDef) []byte {
	if d.below(12) == 0 {
		return make([]byte, d.below(api.MaxKey+3))
	}
	key := make([]byte, def.Key)
	n := d.below(def.Max + def.Max/2 + 2)
	if def.Kind != api.Lpm {
		key[d.below(2)*d.below(2)*(def.Key-1)] = byte(n)
		return key
	}
	key[0] = byte(d.below(8*(def.Key-4) + 2))
	key[4+d.below(def.Key-4)] = []byte{0, 0xff, 0xa0, byte(n)}[d.below(4)]
	return key
}

// value of the right number of bytes, but now and then.
func (d *dice) value(def api.MapDef) []byte {
	n := def.Value
	if d.below(12) == 0 {
		n = d.below(api.MaxValue + 3)
	}
	return bytes.Repeat([]byte{byte(1 + d.below(255))}, n)
}

// host: a table and its memory, and what the words have of it.
type host struct {
	x *Table
	m *mem.Memory
	w []*words
}

func (h *host) copy() *host {
	c := &host{m: h.m.Copy()}
	c.x = h.x.Copy(c.m)
	for _, w := range h.w {
		c.w = append(c.w, w.copy())
	}
	return c
}

// step does one thing to a map and to the words, and holds what they answer against each other.
func (h *host) step(t *testing.T, d *dice) {
	t.Helper()
	i := d.below(len(h.w))
	w := h.w[i]
	key := d.key(w.def)
	switch d.below(8) {
	case 0, 1:
		s, want := w.lookup(key)
		addr := uint64(0)
		if s >= 0 {
			addr = at(i, s)
		}
		looks(t, h.x, i, key, addr, want)
	case 2:
		s, want := w.lookup(key)
		var value []byte
		switch {
		case s >= 0:
			value = w.row[s].value
		case want == api.OK:
			want = api.ErrNone
		}
		gets(t, h.x, i, key, value, want)
	case 3:
		deletes(t, h.x, i, key, w.delete(key))
	case 4:
		s, n, b := d.below(w.def.Max), d.below(w.def.Value), byte(d.below(256))
		w.row[s].value[n] = b
		h.m.Store(at(i, s)+uint64(n), 1, uint64(b))
	default:
		value := d.value(w.def)
		flags := []uint64{0, 0, 0, 1, 2, 3, 1 << 40}[d.below(7)]
		updates(t, h.x, i, key, value, flags, w.update(key, value, flags))
	}
}

// holds: does it hold what the words have, at the places too where no key has the slot?
func (h *host) holds(t *testing.T) {
	t.Helper()
	for i, w := range h.w {
		dumps(t, h.x, i, w.pairs()...)
		for s := range w.row {
			lies(t, h.m, at(i, s), w.row[s].value...)
		}
	}
}

// P10.1 to P10.4: whatever is done, a table and its copies answer as the words say.
func TestAsTheWordsSay(t *testing.T) {
	d := dice(10)
	for range 60 {
		var defs []api.MapDef
		h := &host{m: mem.New()}
		for range 1 + d.below(8) {
			kind := api.MapKind(d.below(4))
			def := api.MapDef{Kind: kind, Key: 5 + d.below(12), Value: 1 + d.below(64), Max: []int{1, 2, 3, 5, 9, 64}[d.below(6)]}
			if kind == api.Array {
				def.Key = 4
			}
			defs = append(defs, def)
			h.w = append(h.w, newWords(def))
		}
		h.x = made(t, h.m, defs...)
		for range 12 {
			c := h.copy()
			for range 60 {
				h.step(t, &d)
				c.step(t, &d)
			}
			h.holds(t)
			c.holds(t)
			if d.below(2) == 0 {
				h = c
			}
			if t.Failed() {
				t.FailNow()
			}
		}
	}
}
