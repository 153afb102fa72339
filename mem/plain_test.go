package mem

import (
	"bytes"
	"math"
	"testing"

	"postern/api"
)

// plain is the chapter's words taken one by one: each region a row that stays,
// each byte asked by itself. Memory is held against it.
type plain struct {
	rows []plainRow
}

type plainRow struct {
	live  bool
	base  uint64
	perm  api.Perm
	bytes []byte
	laid  []bool
}

func (p *plain) find(addr uint64) (int, int, bool) {
	for id, r := range p.rows {
		for at := range r.bytes {
			if r.live && r.base+uint64(at) == addr {
				return id, at, true
			}
		}
	}
	return 0, 0, false
}

func (p *plain) count() int {
	n := 0
	for _, r := range p.rows {
		if r.live {
			n++
		}
	}
	return n
}

func (p *plain) live(id int) bool {
	return id >= 0 && id < len(p.rows) && p.rows[id].live
}

func (p *plain) add(base uint64, size int, perm api.Perm) (int, api.Errno) {
	if size < 1 || size > api.MaxRegion || perm < 0 || perm > 7 || base+uint64(size)-1 < base {
		return 0, api.ErrArg
	}
	for at := range size {
		if _, _, ok := p.find(base + uint64(at)); ok {
			return 0, api.ErrBusy
		}
	}
	p.rows = append(p.rows, plainRow{true, base, perm, make([]byte, size), make([]bool, size)})
	return len(p.rows) - 1, api.OK
}

func (p *plain) kill(id int) api.Errno {
	if !p.live(id) {
		return api.ErrNone
	}
	p.rows[id].live = false
	return api.OK
}

// access: the row and the place of n bytes, n above 0.
func (p *plain) access(addr uint64, n int, perm api.Perm) (*plainRow, int, api.Errno) {
	id, at, ok := p.find(addr)
	if !ok || n > len(p.rows[id].bytes)-at || p.rows[id].perm&perm == 0 {
		return nil, 0, api.ErrAccess
	}
	return &p.rows[id], at, api.OK
}

func (p *plain) read(addr uint64, n int) ([]byte, api.Errno) {
	if n < 0 {
		return nil, api.ErrArg
	}
	if n == 0 {
		return nil, api.OK
	}
	r, at, e := p.access(addr, n, api.Read)
	if e != api.OK {
		return nil, e
	}
	for i := range n {
		if r.perm&api.Fresh != 0 && !r.laid[at+i] {
			return nil, api.ErrUnset
		}
	}
	return bytes.Clone(r.bytes[at : at+n]), api.OK
}

func (p *plain) write(addr uint64, b []byte) api.Errno {
	if len(b) == 0 {
		return api.OK
	}
	r, at, e := p.access(addr, len(b), api.Write)
	if e != api.OK {
		return e
	}
	r.lay(at, b)
	return api.OK
}

func (r *plainRow) lay(at int, b []byte) {
	for i, x := range b {
		r.bytes[at+i], r.laid[at+i] = x, true
	}
}

func (p *plain) poke(id, at int, b []byte) api.Errno {
	if !p.live(id) {
		return api.ErrNone
	}
	if at < 0 || len(b) > len(p.rows[id].bytes) || at > len(p.rows[id].bytes)-len(b) {
		return api.ErrArg
	}
	p.rows[id].lay(at, b)
	return api.OK
}

// dice is a row of numbers that is the same in every run.
type dice uint64

func (d *dice) roll(n int) int {
	*d = *d*6364136223846793005 + 1442695040888963407
	return int(uint64(*d) >> 33 % uint64(n))
}

// addr: a few places, low ones and those at the top, so that regions meet.
func (d *dice) addr() uint64 {
	if d.roll(3) == 0 {
		return last - uint64(d.roll(24))
	}
	return uint64(d.roll(48))
}

func (d *dice) bytes() []byte {
	b := make([]byte, d.roll(10))
	for i := range b {
		b[i] = byte(d.roll(256))
	}
	return b
}

func (d *dice) id(p *plain) int {
	return d.roll(len(p.rows)+3) - 1
}

// step does one call on both and tells whether the answers are one.
func step(d *dice, m *Memory, p *plain) (string, bool) {
	switch d.roll(8) {
	case 0, 1:
		base, size, perm := d.addr(), d.roll(12)-1, api.Perm(d.roll(10)-1)
		i, e := m.Add(base, size, perm)
		j, f := p.add(base, size, perm)
		return "Add", i == j && e == f
	case 2:
		id := d.id(p)
		return "Kill", m.Kill(id) == p.kill(id)
	case 3:
		addr, n := d.addr(), d.roll(12)-1
		b, e := m.Read(addr, n)
		c, f := p.read(addr, n)
		return "Read", bytes.Equal(b, c) && e == f
	case 4:
		addr, b := d.addr(), d.bytes()
		return "Write", m.Write(addr, b) == p.write(addr, b)
	case 5:
		id, at, b := d.id(p), d.roll(12)-1, d.bytes()
		return "Poke", m.Poke(id, at, b) == p.poke(id, at, b)
	case 6:
		addr, size := d.addr(), 1<<d.roll(4)
		v, e := m.Load(addr, size)
		b, f := p.read(addr, size)
		return "Load", e == f && v == number(b)
	default:
		addr, size, v := d.addr(), 1<<d.roll(4), uint64(d.roll(1<<31))<<33|uint64(d.roll(1<<31))
		word := spread(v)
		return "Store", m.Store(addr, size, v) == p.write(addr, word[:size])
	}
}

// same asks both about all that there is.
func same(t *testing.T, m *Memory, p *plain) {
	t.Helper()
	if m.Count() != p.count() {
		t.Fatalf("Count: %d, want %d", m.Count(), p.count())
	}
	for id := -1; id <= len(p.rows); id++ {
		b, e := m.Bytes(id)
		if m.Live(id) != p.live(id) || (e == api.OK) != p.live(id) {
			t.Fatalf("Live(%d): %v, Bytes %v", id, m.Live(id), e)
		}
		if p.live(id) && !bytes.Equal(b, p.rows[id].bytes) {
			t.Fatalf("Bytes(%d): %x, want %x", id, b, p.rows[id].bytes)
		}
	}
	for a := range uint64(96) {
		addr := a - 32 // the top and the bottom
		i, at, ok := m.Find(addr)
		j, bt, want := p.find(addr)
		if i != j || at != bt || ok != want {
			t.Fatalf("Find(%#x): %d %d %v, want %d %d %v", addr, i, at, ok, j, bt, want)
		}
	}
}

func TestAgainstPlainWords(t *testing.T) {
	for seed := range 40 {
		d := dice(seed)
		m, p := New(), &plain{}
		var kept *Memory
		var keptCount int
		for n := range 300 {
			if what, ok := step(&d, m, p); !ok {
				t.Fatalf("seed %d, call %d: %s differs", seed, n, what)
			}
			if n%50 == 49 {
				same(t, m, p)
				if kept != nil && kept.Count() != keptCount {
					t.Fatalf("seed %d, call %d: the memory copied from has changed", seed, n)
				}
				kept, keptCount = m, m.Count()
				m = m.Copy()
				same(t, m, p)
			}
		}
	}
}

// P1: every call ends and none panics, at all arguments.
func TestNoArgumentPanics(t *testing.T) {
	ints := []int{math.MinInt, -api.MaxRegion, -1, 0, 1, 2, 3, 8, 9, api.MaxRegion, api.MaxRegion + 1, math.MaxInt - 1, math.MaxInt}
	addrs := []uint64{0, 1, 99, 100, 107, 108, 1 << 63, last - 1, last}
	lists := [][]byte{nil, {}, {1}, make([]byte, 9), make([]byte, api.MaxRegion+1)}
	full := New()
	add(t, full, 100, 8, all, 0)
	add(t, full, last-1, 2, both, 1)
	for _, m := range []*Memory{nil, New(), full} {
		for _, a := range addrs {
			m.Find(a)
			for _, n := range ints {
				m.Load(a, n)
				m.Store(a, n, last)
				m.Read(a, n)
				m.Write(a, lists[n&3])
				for _, k := range ints {
					m.Copy().Add(a, n, api.Perm(k))
				}
			}
		}
		for _, id := range ints {
			m.Live(id)
			m.Bytes(id)
			for _, at := range ints {
				for _, b := range lists {
					m.Poke(id, at, b)
				}
			}
			m.Copy().Kill(id)
		}
		m.Count()
	}
}
