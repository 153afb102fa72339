package world

import (
	"bytes"
	"slices"
	"testing"

	"postern/api"
	"postern/mem"
	"postern/ring"
	"postern/table"
)

// words is a world as the chapter's words have it: its own memory and maps beside it, its packet a room of bytes, and nothing that lies anywhere but the desk and what the maps and the records have.
type words struct {
	m     *mem.Memory // a copy of that ahead of the world: its maps, the desk
	x     *table.Table
	r     *ring.Ring
	hook  api.Hook
	room  []byte
	first int
	mark  uint32
	tape  []uint64
	log   []api.Call
	real  bool
}

// read bytes as a program does.
func (w *words) read(addr uint64, n int) ([]byte, api.Errno) {
	if b := w.near(addr, n); b != nil {
		return b, api.OK
	}
	if b := w.context(); addr >= ctx && addr < ctx+24 {
		from, to := w.part(int(addr - ctx))
		if at := int(addr - ctx); at >= from && at+n <= to {
			return slices.Clone(b[at : at+n]), api.OK
		}
		return nil, api.ErrAccess
	}
	return w.m.Read(addr, n)
}

// near: the bytes of the packet there; nil, if they aren't all its.
func (w *words) near(addr uint64, n int) []byte {
	at := int64(addr - (lies - 64))
	if at < int64(w.first) || at+int64(n) > int64(len(w.room)) || at > 5000 {
		return nil
	}
	return slices.Clone(w.room[at : int(at)+n])
}

// context: its 24 bytes.
func (w *words) context() []byte {
	first, end := word(lies-64+uint64(w.first), 8), word(lies-64+uint64(len(w.room)), 8)
	mark, size := word(uint64(w.mark), 4), word(uint64(len(w.room)-w.first), 4)
	if w.real {
		return slices.Concat(mark, size, first, end)
	}
	return slices.Concat(first, end, mark, size)
}

// part of the context in which a byte lies.
func (w *words) part(at int) (int, int) {
	mark := 16
	if w.real {
		mark = 0
	}
	switch {
	case at < mark:
		return 0, mark
	case at < mark+4:
		return mark, mark + 4
	}
	return mark + 4, 24
}

// write bytes as a program does.
func (w *words) write(addr uint64, b []byte) api.Errno {
	if w.near(addr, len(b)) != nil {
		if w.hook != api.Xdp {
			return api.ErrAccess
		}
		copy(w.room[addr-(lies-64):], b)
		return api.OK
	}
	mark := uint64(ctx + 16)
	if w.real {
		mark = ctx
	}
	if addr >= mark && addr < mark+4 && addr+uint64(len(b)) <= mark+4 {
		all := word(uint64(w.mark), 4)
		copy(all[addr-mark:], b)
		w.mark = uint32(all[0]) | uint32(all[1])<<8 | uint32(all[2])<<16 | uint32(all[3])<<24
		return api.OK
	}
	return w.m.Write(addr, b)
}

// call: what the chapter's table has, one line after the other.
func (w *words) call(h api.Helper, a []uint64) (uint64, api.Errno) {
	takes := map[api.Helper]int{1: 2, 2: 4, 3: 2, 4: 0, 5: 0, 6: 2, 7: 4, 8: 1, 9: 1, 10: 1}
	n, ok := takes[h]
	if !ok || h == 6 && w.hook != 0 {
		return 0, api.ErrCode
	}
	var ret uint64
	var e api.Errno
	silent := false
	switch h {
	case 1, 2, 3:
		ret, e = w.ofMap(h, a)
		silent = h == 1 && a[0] == arr
	case 4, 5:
		if len(w.tape) > 0 {
			ret, w.tape = w.tape[0], w.tape[1:]
		}
	case 6:
		ret, e = w.adjust(a)
	case 7:
		ret, e = w.bytes(a)
	case 8:
		ret, e = w.r.Reserve(a[0])
		if e == api.ErrFull || e == api.ErrBusy {
			ret, e = 0, api.OK
		}
	case 9:
		e = w.r.Submit(a[0])
	case 10:
		e = w.r.Discard(a[0])
	}
	if e == api.OK && !silent {
		w.log = append(w.log, call(ret, h, a[:n]...))
	}
	return ret, e
}

func (w *words) ofMap(h api.Helper, a []uint64) (uint64, api.Errno) {
	i := slices.Index([]uint64{arr, hsh, lrum, lpmm}, a[0])
	if i < 0 {
		return 0, api.ErrArg
	}
	key, e := w.read(a[1], maps()[i].Key)
	if e != api.OK {
		return 0, e
	}
	switch h {
	case 1:
		place, _ := w.x.Lookup(i, key)
		return place, api.OK
	case 3:
		return refused(w.x.Delete(i, key)), api.OK
	}
	v, e := w.read(a[2], maps()[i].Value)
	if e != api.OK {
		return 0, e
	}
	return refused(w.x.Update(i, key, v, a[3])), api.OK
}

func (w *words) adjust(a []uint64) (uint64, api.Errno) {
	if a[0] != ctx {
		return 0, api.ErrArg
	}
	by := int64(a[1] % (1 << 32))
	if by >= 1<<31 {
		by -= 1 << 32
	}
	to := int64(w.first) + by
	if to < 0 || to > int64(len(w.room)) {
		return no, api.OK
	}
	w.first = int(to)
	return 0, api.OK
}

func (w *words) bytes(a []uint64) (uint64, api.Errno) {
	if a[0] != ctx || a[3] == 0 || a[3] > 64 {
		return 0, api.ErrArg
	}
	b, ret := make([]byte, a[3]), uint64(no)
	packet := w.room[w.first:]
	if a[1] <= 5000 && int(a[1]+a[3]) <= len(packet) {
		ret = 0
		copy(b, packet[a[1]:])
	}
	if e := w.write(a[2], b); e != api.OK {
		return 0, e
	}
	return ret, api.OK
}

// dice: the same numbers at each run.
type dice uint64

func (d *dice) below(n int) int {
	*d = *d*6364136223846793005 + 1442695040888963407
	return int(uint64(*d) >> 33 % uint64(n))
}

func (d *dice) of(list ...uint64) uint64 {
	return list[d.below(len(list))]
}

// address of some bytes: mostly of the desk, now and then of the packet, the context, a map, a record, or of nothing.
func (d *dice) address() uint64 {
	switch d.below(8) {
	case 0:
		return lies + uint64(d.below(20)) - 8
	case 1:
		return ctx + uint64(d.below(26)) - 1
	case 2:
		return d.of(value, value+4096, value+1<<32, value+1<<32+4096, value+2<<32, value+3<<32, 16*4294967296, 16*4294967296+4096, 0, 1<<64-1)
	}
	return desk + uint64(d.below(256))
}

func (d *dice) args(h api.Helper) []uint64 {
	a := make([]uint64, 5)
	for i := range a {
		a[i] = uint64(d.below(1 << 16))
	}
	switch h {
	case 1, 2, 3:
		a[0], a[1], a[2], a[3] = d.of(arr, hsh, hsh, lrum, lrum, lpmm, lpmm, arr+4, desk), d.address(), d.address(), uint64(d.below(4))
	case 6:
		a[0], a[1] = d.of(ctx, ctx, ctx, ctx, ctx, lies), uint64(d.below(24)-14)
	case 7:
		a[0], a[1], a[2], a[3] = d.of(ctx, ctx, ctx, ctx, ctx, lies), uint64(d.below(20)-1), d.address(), uint64(d.below(10))
	case 8:
		a[0] = uint64(d.below(67))
	case 9, 10:
		a[0] = d.of(0, 1, 2, 3, 4, 5, 6, 7, 8)*4096 + 16*4294967296
	}
	return a
}

// pair: a world, and the words beside it.
func pair(t *testing.T, d *dice) (*World, *words) {
	t.Helper()
	x, m := host(t)
	for n := range uint64(256) {
		m.Store(desk+n, 1, uint64(d.below(3)))
	}
	packet, tape, real := make([]byte, d.below(12)), []uint64{3, 4, 5}[:d.below(4)], d.below(2) == 0
	for n := range packet {
		packet[n] = byte(d.below(4))
	}
	w := &words{m: m.Copy(), hook: api.Hook(d.below(3) / 2), room: slices.Concat(make([]byte, 64), packet), first: 64, mark: 0x0a0b0c0d, tape: tape, real: real}
	w.x = x.Copy(w.m)
	w.r, _ = ring.New(w.m)
	return made(t, x, m, w.hook, packet, real, tape...), w
}

// P12.2 to P12.4: whatever is called, a world answers as the words say.
func TestAsTheWordsSay(t *testing.T) {
	d := dice(21)
	for range 400 {
		w, s := pair(t, &d)
		for range 150 {
			h := api.Helper(d.below(11) + d.below(40)/39)
			a := d.args(h)
			ret, e := w.Call(h, [5]uint64(a))
			if want, wante := s.call(h, a); ret != want || e != wante {
				t.Fatalf("Call(%d, %#x): %#x %v, want %#x %v", h, a, ret, e, want, wante)
			}
			if b := []byte{byte(d.below(4))}; d.below(3) == 0 { // the program's own stores
				addr := d.address()
				if e, want := w.Memory().Write(addr, b), s.write(addr, b); e != want {
					t.Fatalf("Write(%#x): %v, want %v", addr, e, want)
				}
			}
			s.holds(t, w)
		}
		w.Close()
		s.ends(t, w)
	}
}

// holds: does the world hold what the words have?
func (w *words) holds(t *testing.T, x *World) {
	t.Helper()
	first := lies - 64 + uint64(w.first)
	if len(w.room)-w.first > 0 {
		reads(t, x.Memory(), first, w.room[w.first:]...)
	}
	isFar(t, x.Memory(), first-1)
	isFar(t, x.Memory(), lies-64+uint64(len(w.room)))
	for at := 0; at < 24; {
		from, to := w.part(at)
		reads(t, x.Memory(), ctx+uint64(from), w.context()[from:to]...)
		at = to
	}
	if b := x.Packet(); !bytes.Equal(b, w.room[w.first:]) || x.Mark() != w.mark || x.Open() != w.r.Open() {
		t.Errorf("packet %x, mark %x, %d open, want %x, %x, %d", b, x.Mark(), x.Open(), w.room[w.first:], w.mark, w.r.Open())
	}
	if !slices.Equal(x.Log(), w.log) || !slices.EqualFunc(x.Out(), w.r.Out(), bytes.Equal) {
		t.Errorf("log %x, out %x, want %x, %x", x.Log(), x.Out(), w.log, w.r.Out())
	}
	w.maps(t, x)
	if t.Failed() {
		t.FailNow()
	}
}

// maps and desk alike?
func (w *words) maps(t *testing.T, x *World) {
	t.Helper()
	for i := range maps() {
		got, _ := x.Table().Dump(i)
		want, _ := w.x.Dump(i)
		alike := func(a, b api.Pair) bool { return bytes.Equal(a.Key, b.Key) && bytes.Equal(a.Value, b.Value) }
		if !slices.EqualFunc(got, want, alike) {
			t.Errorf("map %d: %x, want %x", i, got, want)
		}
	}
	b, _ := w.m.Read(desk, 256)
	reads(t, x.Memory(), desk, b...)
}

// ends: what the words have behind Close.
func (w *words) ends(t *testing.T, x *World) {
	t.Helper()
	for n := range uint64(8) {
		w.r.Discard(16*4294967296 + n*4096)
	}
	if x.Memory().Count() != w.m.Count() {
		t.Fatalf("%d regions, want %d", x.Memory().Count(), w.m.Count())
	}
	if !bytes.Equal(x.Packet(), w.room[w.first:]) || x.Mark() != w.mark || !slices.Equal(x.Log(), w.log) {
		t.Errorf("behind Close: %x %x", x.Packet(), x.Mark())
	}
	w.maps(t, x)
}
