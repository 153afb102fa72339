package mem

import (
	"bytes"
	"math"
	"testing"

	"postern/api"
)

const (
	all  = api.Read | api.Write | api.Fresh
	both = api.Read | api.Write
	last = math.MaxUint64
)

// add is an Add that must answer that id.
func add(t *testing.T, m *Memory, base uint64, size int, perm api.Perm, want int) {
	t.Helper()
	if id, e := m.Add(base, size, perm); id != want || e != api.OK {
		t.Fatalf("Add(%#x, %d, %d): %d %v, want %d", base, size, perm, id, e, want)
	}
}

// refuses is an Add that must answer that error and change nothing.
func refuses(t *testing.T, m *Memory, base uint64, size int, perm api.Perm, want api.Errno) {
	t.Helper()
	n := m.Count()
	if id, e := m.Add(base, size, perm); id != 0 || e != want {
		t.Errorf("Add(%#x, %d, %d): %d %v, want 0 %v", base, size, perm, id, e, want)
	}
	if m.Count() != n {
		t.Errorf("Add(%#x, %d, %d): %d live, were %d", base, size, perm, m.Count(), n)
	}
}

func errno(t *testing.T, what string, got, want api.Errno) {
	t.Helper()
	if got != want {
		t.Errorf("%s: %v, want %v", what, got, want)
	}
}

func loads(t *testing.T, m *Memory, addr uint64, size int, v uint64, want api.Errno) {
	t.Helper()
	if got, e := m.Load(addr, size); got != v || e != want {
		t.Errorf("Load(%#x, %d): %#x %v, want %#x %v", addr, size, got, e, v, want)
	}
}

func reads(t *testing.T, m *Memory, addr uint64, n int, b []byte, want api.Errno) {
	t.Helper()
	if got, e := m.Read(addr, n); !bytes.Equal(got, b) || e != want {
		t.Errorf("Read(%#x, %d): %x %v, want %x %v", addr, n, got, e, b, want)
	}
}

func holds(t *testing.T, m *Memory, id int, want []byte) {
	t.Helper()
	if got, e := m.Bytes(id); !bytes.Equal(got, want) || e != api.OK {
		t.Errorf("Bytes(%d): %x %v, want %x", id, got, e, want)
	}
}

func finds(t *testing.T, m *Memory, addr uint64, id, at int, ok bool) {
	t.Helper()
	if i, a, o := m.Find(addr); i != id || a != at || o != ok {
		t.Errorf("Find(%#x): %d %d %v, want %d %d %v", addr, i, a, o, id, at, ok)
	}
}

// P1.1

func TestNewIsEmpty(t *testing.T) {
	m := New()
	if m == nil || m.Count() != 0 || m.Live(0) {
		t.Fatalf("New: regions live")
	}
	finds(t, m, 0, 0, 0, false)
	errno(t, "Kill", m.Kill(0), api.ErrNone)
}

func TestAddRefusesArguments(t *testing.T) {
	m := New()
	for _, size := range []int{0, -1, math.MinInt, api.MaxRegion + 1, math.MaxInt} {
		refuses(t, m, 100, size, both, api.ErrArg)
	}
	for _, perm := range []api.Perm{-1, 8, math.MinInt, math.MaxInt} {
		refuses(t, m, 100, 1, perm, api.ErrArg)
	}
	refuses(t, m, last, 2, both, api.ErrArg)
	refuses(t, m, last-api.MaxRegion+2, api.MaxRegion, both, api.ErrArg)
	add(t, m, 100, 1, both, 0)
}

func TestAddTakesSizesAndPermissions(t *testing.T) {
	m := New()
	add(t, m, 0, 1, 0, 0)
	add(t, m, 1, api.MaxRegion, 7, 1)
	for perm := range api.Perm(8) {
		add(t, m, 1<<40+uint64(perm), 1, perm, 2+int(perm))
	}
	holds(t, m, 0, []byte{0})
	holds(t, m, 1, make([]byte, api.MaxRegion))
}

func TestAddEndsAtTheTop(t *testing.T) {
	m := New()
	add(t, m, last, 1, both, 0)
	add(t, m, last-api.MaxRegion, api.MaxRegion, both, 1)
	finds(t, m, last, 0, 0, true)
	finds(t, m, last-1, 1, api.MaxRegion-1, true)
	errno(t, "Store", m.Store(last, 1, 0x1ff), api.OK)
	loads(t, m, last, 1, 0xff, api.OK)
	loads(t, m, last, 2, 0, api.ErrAccess)
	loads(t, m, last-1, 2, 0, api.ErrAccess)
	reads(t, m, last, math.MaxInt, nil, api.ErrAccess)
	refuses(t, m, last, 1, both, api.ErrBusy)
	finds(t, m, 0, 0, 0, false)

	whole := New()
	add(t, whole, last-api.MaxRegion+1, api.MaxRegion, both, 0)
	errno(t, "Store", whole.Store(last-7, 8, 0x0807060504030201), api.OK)
	loads(t, whole, last-7, 8, 0x0807060504030201, api.OK)
	loads(t, whole, last-6, 8, 0, api.ErrAccess)
}

func TestAddSharesNoByte(t *testing.T) {
	m := New()
	add(t, m, 100, 10, 0, 0)
	add(t, m, 120, 10, 0, 1)
	for _, c := range [][2]int{{100, 1}, {109, 1}, {95, 6}, {95, 20}, {105, 1}, {109, 11}, {109, 12}, {110, 11}, {129, 5}, {0, 101}, {90, 60}, {100, 10}} {
		refuses(t, m, uint64(c[0]), c[1], both, api.ErrBusy)
	}
	add(t, m, 110, 10, 0, 2)
	add(t, m, 99, 1, 0, 3)
	add(t, m, 130, api.MaxRegion, 0, 4)
	finds(t, m, 98, 0, 0, false)
	finds(t, m, 99, 3, 0, true)
	finds(t, m, 100, 0, 0, true)
	finds(t, m, 109, 0, 9, true)
	finds(t, m, 110, 2, 0, true)
	finds(t, m, 119, 2, 9, true)
	finds(t, m, 120, 1, 0, true)
	finds(t, m, 130+api.MaxRegion-1, 4, api.MaxRegion-1, true)
	finds(t, m, 130+api.MaxRegion, 0, 0, false)
}

func TestAddNamesTheFirstError(t *testing.T) {
	m := New()
	for i := range api.MaxRegions {
		add(t, m, uint64(2*i), 1, both, i)
	}
	refuses(t, m, 0, 0, both, api.ErrArg)
	refuses(t, m, 0, 1, 8, api.ErrArg)
	refuses(t, m, 0, 1, both, api.ErrBusy)
	refuses(t, m, 1, 1, both, api.ErrMany)
	if m.Count() != api.MaxRegions {
		t.Errorf("Count: %d", m.Count())
	}
	finds(t, m, 2*api.MaxRegions-2, api.MaxRegions-1, 0, true)
	finds(t, m, 2*api.MaxRegions-3, 0, 0, false)
	errno(t, "Kill", m.Kill(17), api.OK)
	add(t, m, 1, 1, both, api.MaxRegions)
	refuses(t, m, 3, 1, both, api.ErrMany)
}

func TestIdsGoOn(t *testing.T) {
	m := New()
	add(t, m, 10, 1, both, 0)
	refuses(t, m, 10, 1, both, api.ErrBusy)
	add(t, m, 5, 1, both, 1)
	errno(t, "Kill", m.Kill(1), api.OK)
	add(t, m, 5, 1, both, 2)
	if m.Live(1) || !m.Live(0) || !m.Live(2) || m.Live(3) || m.Live(-1) {
		t.Errorf("Live")
	}
	if m.Count() != 2 {
		t.Errorf("Count: %d", m.Count())
	}
}

func TestKill(t *testing.T) {
	for victim := range 3 {
		m := New()
		for i := range 3 {
			add(t, m, uint64(100+4*i), 4, both, i)
			errno(t, "Poke", m.Poke(i, 0, []byte{byte(i), 1, 2, 3}), api.OK)
		}
		for _, id := range []int{-1, 3, math.MinInt, math.MaxInt} {
			errno(t, "Kill of none", m.Kill(id), api.ErrNone)
		}
		errno(t, "Kill", m.Kill(victim), api.OK)
		errno(t, "Kill again", m.Kill(victim), api.ErrNone)
		loads(t, m, uint64(100+4*victim), 1, 0, api.ErrAccess)
		finds(t, m, uint64(103+4*victim), 0, 0, false)
		for i := range 3 {
			if m.Live(i) != (i != victim) {
				t.Errorf("killed %d: Live(%d)", victim, i)
			}
			if i != victim {
				loads(t, m, uint64(100+4*i), 4, uint64(0x03020100+i), api.OK)
			}
		}
		add(t, m, uint64(100+4*victim), 4, both, 3)
		holds(t, m, 3, make([]byte, 4))
	}
}

// P1.2

func TestLoadAndStoreSizes(t *testing.T) {
	m := New()
	add(t, m, 100, 8, both, 0)
	for size := -1; size <= 16; size++ {
		word := size == 1 || size == 2 || size == 4 || size == 8
		want := api.OK
		if !word {
			want = api.ErrArg
		}
		if _, e := m.Load(100, size); e != want {
			t.Errorf("Load of %d: %v", size, e)
		}
		errno(t, "Store", m.Store(100, size, 0), want)
	}
	for _, size := range []int{0, 3, math.MinInt, math.MaxInt} {
		loads(t, m, 5000, size, 0, api.ErrArg) // ahead of ErrAccess
		errno(t, "Store", m.Store(5000, size, 0), api.ErrArg)
	}
}

func TestLowestByteFirst(t *testing.T) {
	const v = 0xf8f7f6f5f4f3f2f1
	m := New()
	add(t, m, 100, 9, both, 0)
	for _, size := range []int{1, 2, 4, 8} {
		errno(t, "Poke", m.Poke(0, 0, bytes.Repeat([]byte{0xaa}, 9)), api.OK)
		errno(t, "Store", m.Store(100, size, v), api.OK)
		want := bytes.Repeat([]byte{0xaa}, 9)
		for i := range size {
			want[i] = byte(0xf1 + i)
		}
		holds(t, m, 0, want)
	}
	loads(t, m, 100, 1, 0xf1, api.OK)
	loads(t, m, 101, 2, 0xf3f2, api.OK)
	loads(t, m, 102, 4, 0xf6f5f4f3, api.OK)
	loads(t, m, 100, 8, v, api.OK)
	loads(t, m, 101, 8, 0xaaf8f7f6f5f4f3f2, api.OK)
}

func TestAccessLiesInOneRegion(t *testing.T) {
	m := New()
	add(t, m, 100, 4, both, 0)
	add(t, m, 104, 4, both, 1)
	for _, addr := range []uint64{99, 97, 101, 103, 105, 108, 0, last} {
		loads(t, m, addr, 4, 0, api.ErrAccess)
		errno(t, "Store", m.Store(addr, 4, last), api.ErrAccess)
		reads(t, m, addr, 4, nil, api.ErrAccess)
		errno(t, "Write", m.Write(addr, []byte{1, 2, 3, 4}), api.ErrAccess)
	}
	holds(t, m, 0, make([]byte, 4))
	holds(t, m, 1, make([]byte, 4))
	loads(t, m, 100, 8, 0, api.ErrAccess)
	loads(t, m, 104, 4, 0, api.OK)
}

func TestPermissions(t *testing.T) {
	for perm := range api.Perm(8) {
		m := New()
		add(t, m, 100, 2, perm, 0)
		load, store := api.ErrAccess, api.ErrAccess
		if perm&api.Write != 0 {
			store = api.OK
		}
		errno(t, "Store", m.Store(100, 1, 5), store)
		errno(t, "Write", m.Write(101, []byte{6}), store)
		if perm&api.Read != 0 {
			load = api.OK
			if perm&api.Fresh != 0 && perm&api.Write == 0 {
				load = api.ErrUnset
			}
		}
		var v uint64
		var b []byte
		if load == api.OK {
			b = []byte{0, 0}
			if store == api.OK {
				v, b = 0x0605, []byte{5, 6}
			}
		}
		loads(t, m, 100, 2, v, load)
		reads(t, m, 100, 2, b, load)
	}
}

func TestUnset(t *testing.T) {
	m := New()
	add(t, m, 200, 8, all, 0)
	for _, size := range []int{1, 2, 4, 8} {
		loads(t, m, 200, size, 0, api.ErrUnset)
		reads(t, m, 200, size, nil, api.ErrUnset)
	}
	errno(t, "Store", m.Store(202, 2, 0), api.OK)
	loads(t, m, 202, 2, 0, api.OK)
	loads(t, m, 201, 2, 0, api.ErrUnset)
	loads(t, m, 203, 2, 0, api.ErrUnset)
	loads(t, m, 200, 4, 0, api.ErrUnset)
	loads(t, m, 204, 8, 0, api.ErrAccess) // ahead of ErrUnset
	reads(t, m, 200, 9, nil, api.ErrAccess)
	errno(t, "Write", m.Write(200, []byte{1, 2}), api.OK)
	loads(t, m, 200, 4, 0x0201, api.OK)
	errno(t, "Poke", m.Poke(0, 4, []byte{3, 4, 5, 6}), api.OK)
	loads(t, m, 200, 8, 0x0605040300000201, api.OK)
	reads(t, m, 200, 8, []byte{1, 2, 0, 0, 3, 4, 5, 6}, api.OK)

	errno(t, "Kill", m.Kill(0), api.OK)
	add(t, m, 200, 8, all, 1)
	loads(t, m, 200, 1, 0, api.ErrUnset)
	holds(t, m, 1, make([]byte, 8))
}

// P1.3

func TestReadAndWrite(t *testing.T) {
	m := New()
	add(t, m, 100, 5, both, 0)
	errno(t, "Write", m.Write(101, []byte{1, 2, 3}), api.OK)
	reads(t, m, 100, 5, []byte{0, 1, 2, 3, 0}, api.OK)
	reads(t, m, 102, 1, []byte{2}, api.OK)
	errno(t, "Write", m.Write(102, []byte{9, 9, 9, 9}), api.ErrAccess)
	reads(t, m, 100, 5, []byte{0, 1, 2, 3, 0}, api.OK)
	for _, n := range []int{-1, math.MinInt} {
		reads(t, m, 100, n, nil, api.ErrArg)
		reads(t, m, 0, n, nil, api.ErrArg)
	}
	for _, n := range []int{6, api.MaxRegion, math.MaxInt} {
		reads(t, m, 100, n, nil, api.ErrAccess)
		reads(t, m, 104, n, nil, api.ErrAccess)
	}
}

func TestWholeRegion(t *testing.T) {
	m := New()
	add(t, m, 100, api.MaxRegion, all, 0)
	b := make([]byte, api.MaxRegion)
	for i := range b {
		b[i] = byte(i * 7)
	}
	errno(t, "Write", m.Write(100, b), api.OK)
	reads(t, m, 100, api.MaxRegion, b, api.OK)
	errno(t, "Write past the end", m.Write(101, b), api.ErrAccess)
	holds(t, m, 0, b)
}

func TestNoBytes(t *testing.T) {
	m := New()
	add(t, m, 100, 2, api.Fresh, 0)
	for _, addr := range []uint64{0, 100, 102, last} {
		reads(t, m, addr, 0, nil, api.OK)
		errno(t, "Write of nil", m.Write(addr, nil), api.OK)
		errno(t, "Write of none", m.Write(addr, []byte{}), api.OK)
	}
}

// P1.4

func TestBytesWhateverThePermission(t *testing.T) {
	m := New()
	for perm := range api.Perm(8) {
		id := int(perm)
		add(t, m, uint64(100*id), 3, perm, id)
		holds(t, m, id, []byte{0, 0, 0})
		errno(t, "Poke", m.Poke(id, 1, []byte{7, byte(id)}), api.OK)
		holds(t, m, id, []byte{0, 7, byte(id)})
		if perm&api.Read != 0 {
			reads(t, m, uint64(100*id+1), 2, []byte{7, byte(id)}, api.OK)
		}
	}
	for _, id := range []int{-1, 8, math.MinInt, math.MaxInt} {
		if b, e := m.Bytes(id); len(b) != 0 || e != api.ErrNone {
			t.Errorf("Bytes(%d): %x %v", id, b, e)
		}
	}
	errno(t, "Kill", m.Kill(3), api.OK)
	if b, e := m.Bytes(3); len(b) != 0 || e != api.ErrNone {
		t.Errorf("Bytes of a dead one: %x %v", b, e)
	}
}

func TestPokeRefuses(t *testing.T) {
	m := New()
	add(t, m, 100, 3, api.Read|api.Fresh, 0)
	add(t, m, 103, 3, both, 1)
	for _, id := range []int{-1, 2, math.MinInt, math.MaxInt} {
		errno(t, "Poke of none", m.Poke(id, 0, []byte{1}), api.ErrNone)
		errno(t, "Poke of none, wrong place", m.Poke(id, -1, []byte{1}), api.ErrNone)
	}
	for _, at := range []int{-1, math.MinInt, 2, 3, 4, math.MaxInt - 1, math.MaxInt} {
		errno(t, "Poke", m.Poke(0, at, []byte{1, 2}), api.ErrArg)
	}
	errno(t, "too many", m.Poke(0, 0, []byte{1, 2, 3, 4}), api.ErrArg)
	errno(t, "none, below", m.Poke(0, -1, nil), api.ErrArg)
	errno(t, "none, beyond", m.Poke(0, 4, nil), api.ErrArg)
	holds(t, m, 0, []byte{0, 0, 0})
	holds(t, m, 1, []byte{0, 0, 0})
	errno(t, "none", m.Poke(0, 0, nil), api.OK)
	errno(t, "none at the end", m.Poke(0, 3, []byte{}), api.OK)
	loads(t, m, 100, 1, 0, api.ErrUnset)
	errno(t, "the last two", m.Poke(0, 1, []byte{1, 2}), api.OK)
	loads(t, m, 101, 2, 0x0201, api.OK)
	loads(t, m, 100, 2, 0, api.ErrUnset)
	errno(t, "Kill", m.Kill(0), api.OK)
	errno(t, "dead", m.Poke(0, 0, []byte{1}), api.ErrNone)
}

func TestAnswersAreNewMemory(t *testing.T) {
	m := New()
	add(t, m, 100, 4, both, 0)
	in := []byte{1, 2, 3, 4, 5, 6}
	errno(t, "Write", m.Write(100, in[:4]), api.OK)
	in[0] = 99
	read, _ := m.Read(100, 2)
	whole, _ := m.Bytes(0)
	read[0], whole[1] = 88, 88
	_, _ = append(read, 77), append(whole, 77)
	reads(t, m, 100, 4, []byte{1, 2, 3, 4}, api.OK)
	errno(t, "Poke", m.Poke(0, 0, in[4:]), api.OK)
	in[4] = 99
	reads(t, m, 100, 4, []byte{5, 6, 3, 4}, api.OK)
}

func TestCopySharesNothing(t *testing.T) {
	m := New()
	add(t, m, 300, 2, both, 0)
	add(t, m, 100, 4, all, 1)
	add(t, m, 200, 2, 0, 2)
	errno(t, "Kill", m.Kill(0), api.OK)
	errno(t, "Store", m.Store(100, 2, 0x0201), api.OK)
	errno(t, "Poke", m.Poke(2, 0, []byte{8, 9}), api.OK)
	c := m.Copy()
	loads(t, c, 100, 2, 0x0201, api.OK)
	loads(t, c, 100, 4, 0, api.ErrUnset)
	loads(t, c, 200, 1, 0, api.ErrAccess)
	loads(t, c, 300, 1, 0, api.ErrAccess)
	holds(t, c, 2, []byte{8, 9})
	if c.Count() != 2 || c.Live(0) || !c.Live(1) || !c.Live(2) {
		t.Errorf("Copy: other regions")
	}

	errno(t, "Store", c.Store(102, 2, 0x0403), api.OK)
	loads(t, m, 100, 4, 0, api.ErrUnset)
	errno(t, "Store", m.Store(100, 1, 0x55), api.OK)
	loads(t, c, 100, 4, 0x04030201, api.OK)
	errno(t, "Kill", c.Kill(2), api.OK)
	holds(t, m, 2, []byte{8, 9})
	add(t, m, 300, 2, both, 3)
	add(t, c, 400, 2, both, 3)
	finds(t, c, 300, 0, 0, false)
	finds(t, m, 400, 0, 0, false)
	errno(t, "Kill", m.Kill(1), api.OK)
	loads(t, c, 100, 4, 0x04030201, api.OK)
}

func TestCopyKeepsLimits(t *testing.T) {
	m := New()
	if c := m.Copy(); c == nil || c == m || c.Count() != 0 {
		t.Errorf("Copy of an empty memory")
	}
	for i := range api.MaxRegions {
		add(t, m, uint64(i), 1, all, i)
	}
	c := m.Copy()
	refuses(t, c, api.MaxRegions, 1, both, api.ErrMany)
	errno(t, "Kill", c.Kill(api.MaxRegions-1), api.OK)
	add(t, c, api.MaxRegions, 1, both, api.MaxRegions)
	refuses(t, m, api.MaxRegions, 1, both, api.ErrMany)
}

// P1.5

func TestNilMemory(t *testing.T) {
	var m *Memory
	refuses(t, m, 100, 1, both, api.ErrNil)
	refuses(t, m, 100, 0, 8, api.ErrNil)
	errno(t, "Kill", m.Kill(0), api.ErrNil)
	loads(t, m, 100, 1, 0, api.ErrNil)
	loads(t, m, 100, 3, 0, api.ErrNil)
	errno(t, "Store", m.Store(100, 1, 0), api.ErrNil)
	errno(t, "Store", m.Store(100, 3, 0), api.ErrNil)
	reads(t, m, 100, 1, nil, api.ErrNil)
	reads(t, m, 100, 0, nil, api.ErrNil)
	reads(t, m, 100, -1, nil, api.ErrNil)
	errno(t, "Write", m.Write(100, []byte{1}), api.ErrNil)
	errno(t, "Write of none", m.Write(100, nil), api.ErrNil)
	if b, e := m.Bytes(0); len(b) != 0 || e != api.ErrNil {
		t.Errorf("Bytes: %x %v", b, e)
	}
	errno(t, "Poke", m.Poke(0, -1, nil), api.ErrNil)
	if m.Live(0) || m.Count() != 0 || m.Copy() != nil {
		t.Errorf("Live, Count or Copy")
	}
	finds(t, m, 0, 0, 0, false)
}
