package ring

import (
	"bytes"
	"math"
	"slices"
	"testing"

	"postern/api"
	"postern/mem"
)

const both = api.Read | api.Write

func made(t *testing.T, m *mem.Memory) *Ring {
	t.Helper()
	r, e := New(m)
	if r == nil || e != api.OK {
		t.Fatalf("New: %v %v", r, e)
	}
	return r
}

// empty: a ring, and the memory it is made over.
func empty(t *testing.T) (*Ring, *mem.Memory) {
	t.Helper()
	m := mem.New()
	return made(t, m), m
}

// at is the place of record n, written out.
func at(n int) uint64 {
	return 16*4294967296 + uint64(n)*4096
}

// reserves: a Reserve that must answer the place of record n.
func reserves(t *testing.T, r *Ring, size uint64, n int) {
	t.Helper()
	if addr, e := r.Reserve(size); addr != at(n) || e != api.OK {
		t.Errorf("Reserve(%d): %#x %v, want %#x", size, addr, e, at(n))
	}
}

// refuses: a Reserve that must answer that error, and change nothing, also in what number the next region gets.
func refuses(t *testing.T, r *Ring, m *mem.Memory, size uint64, want api.Errno) {
	t.Helper()
	was, open, out := m.Copy(), r.Open(), r.Out()
	if addr, e := r.Reserve(size); addr != 0 || e != want {
		t.Errorf("Reserve(%d): %#x %v, want 0 %v", size, addr, e, want)
	}
	same(t, m, was)
	stands(t, r, open, out...)
}

// same: do two memories have the same regions, and number the next one alike?
func same(t *testing.T, m, was *mem.Memory) {
	t.Helper()
	m, was = m.Copy(), was.Copy()
	if m.Count() != was.Count() {
		t.Fatalf("%d regions, were %d", m.Count(), was.Count())
	}
	for n := range api.MaxRecords {
		id, from, ok := m.Find(at(n))
		if i, f, o := was.Find(at(n)); id != i || from != f || ok != o {
			t.Errorf("at %#x: %d %d %v, was %d %d %v", at(n), id, from, ok, i, f, o)
		}
	}
	last := -1
	for id := 0; was.Count() > 0 && id < 2*api.MaxRegions; id++ {
		b, e := m.Bytes(id)
		wasb, wase := was.Bytes(id)
		if !bytes.Equal(b, wasb) || e != wase {
			t.Fatalf("region %d: %x %v, was %x %v", id, b, e, wasb, wase)
		}
		if e == api.OK {
			last = id
		}
	}
	m.Kill(last) // makes room for the next one
	was.Kill(last)
	id, e := m.Add(1<<62, 1, both)
	if wasid, wase := was.Add(1<<62, 1, both); id != wasid || e != wase {
		t.Errorf("the next region: %d %v, would have been %d %v", id, e, wasid, wase)
	}
}

func submits(t *testing.T, r *Ring, addr uint64, want api.Errno) {
	t.Helper()
	if e := r.Submit(addr); e != want {
		t.Errorf("Submit(%#x): %v, want %v", addr, e, want)
	}
}

func discards(t *testing.T, r *Ring, addr uint64, want api.Errno) {
	t.Helper()
	if e := r.Discard(addr); e != want {
		t.Errorf("Discard(%#x): %v, want %v", addr, e, want)
	}
}

// stands: so many are open, and this is out.
func stands(t *testing.T, r *Ring, open int, out ...[]byte) {
	t.Helper()
	if n := r.Open(); n != open {
		t.Errorf("Open: %d, want %d", n, open)
	}
	if b := r.Out(); !slices.EqualFunc(b, out, bytes.Equal) {
		t.Errorf("Out: %x, want %x", b, out)
	}
}

func lays(t *testing.T, m *mem.Memory, addr uint64, b ...byte) {
	t.Helper()
	if e := m.Write(addr, b); e != api.OK {
		t.Errorf("Write(%#x, %x): %v", addr, b, e)
	}
}

func lies(t *testing.T, m *mem.Memory, addr uint64, want ...byte) {
	t.Helper()
	if b, e := m.Read(addr, len(want)); !bytes.Equal(b, want) || e != api.OK {
		t.Errorf("at %#x: %x %v, want %x", addr, b, e, want)
	}
}

// gone: does no byte from the address on, as far as a record may reach, belong to a region?
func gone(t *testing.T, m *mem.Memory, addr uint64) {
	t.Helper()
	for n := range uint64(api.MaxValue) {
		if id, _, ok := m.Find(addr + n); ok {
			t.Errorf("at %#x and %d: region %d", addr, n, id)
		}
	}
}

// isRecord: does a region of so many zeros lie there that may be read and written?
func isRecord(t *testing.T, m *mem.Memory, addr uint64, size int) {
	t.Helper()
	id, n, ok := m.Find(addr)
	b, e := m.Bytes(id)
	if n != 0 || !ok || e != api.OK || !bytes.Equal(b, make([]byte, size)) {
		t.Fatalf("at %#x: %d %v, %x %v, want %d zeros", addr, n, ok, b, e, size)
	}
	lies(t, m, addr, make([]byte, size)...)
	lays(t, m, addr, make([]byte, size)...)
	if e := m.Write(addr, make([]byte, size+1)); e != api.ErrAccess {
		t.Errorf("at %#x: Write of %d: %v", addr, size+1, e)
	}
}

// wrongSizes are no record's; the low bits of some are.
var wrongSizes = []uint64{0, 65, 66, 127, 128, 255, 256, 257, 320, 1 << 16, 1<<16 + 1, 1<<31 + 1, 1 << 32, 1<<32 + 1, 1<<32 + 64, 1 << 63, 1<<63 + 1, 1<<63 + 64, math.MaxUint64 - 63, math.MaxUint64}

// wrongPlaces are no record's, whatever is open; the low bits of some are.
var wrongPlaces = []uint64{
	0, 1, 4096, 7, at(-1), at(8), at(9), at(16), at(1 << 20), at(0) - 1, at(0) + 1, at(0) + 2048, at(0) + 4095, at(1) - 8, at(1) + 1, at(1) + 63, at(7) + 1, at(7) + 64,
	at(0) + 1<<32, at(1) + 1<<32, at(0) + 1<<63, at(3) + 1<<63, 2 * at(0), at(0) / 2, api.ValueBase, api.MapBase, api.PacketBase, 1 << 63, math.MaxUint64, math.MaxUint64 - 4095,
}

func TestExamples(t *testing.T) {
	r, m := empty(t)
	reserves(t, r, 4, 0)
	reserves(t, r, 2, 1)
	if e := m.Store(at(0), 1, 5); e != api.OK {
		t.Errorf("Store: %v", e)
	}
	submits(t, r, api.RecordBase, api.OK)
	stands(t, r, 1, []byte{5, 0, 0, 0})
	submits(t, r, api.RecordBase, api.ErrNone)
	refuses(t, r, m, 65, api.ErrArg)
	reserves(t, r, 1, 0)
	stands(t, r, 2, []byte{5, 0, 0, 0})
}

// P11.1

func TestNewOfNoMemory(t *testing.T) {
	if r, e := New(nil); r != nil || e != api.ErrNil {
		t.Errorf("New(nil): %v %v", r, e)
	}
}

func TestNewHasNoRecords(t *testing.T) {
	m := mem.New()
	m.Add(at(2), 4, 0)
	was := m.Copy()
	r := made(t, m)
	same(t, m, was)
	stands(t, r, 0)
	for n := range api.MaxRecords {
		submits(t, r, at(n), api.ErrNone)
		discards(t, r, at(n), api.ErrNone)
	}
	same(t, m, was)
	stands(t, r, 0)
}

func TestNewOverAFullMemory(t *testing.T) {
	m := crowded(t, api.MaxRegions)
	stands(t, made(t, m), 0)
}

func TestNil(t *testing.T) {
	var r *Ring
	for _, size := range append(wrongSizes, 1, 8, 64) {
		if addr, e := r.Reserve(size); addr != 0 || e != api.ErrNil {
			t.Errorf("Reserve(%d): %#x %v", size, addr, e)
		}
	}
	for _, addr := range append(wrongPlaces, at(0), at(7)) {
		submits(t, r, addr, api.ErrNil)
		discards(t, r, addr, api.ErrNil)
	}
	stands(t, r, 0)
}

// P11.2

func TestReserveOfEverySize(t *testing.T) {
	for size := 1; size <= 64; size++ {
		r, m := empty(t)
		for n := range 8 {
			reserves(t, r, uint64(size), n)
			isRecord(t, m, at(n), size)
			stands(t, r, n+1)
			if m.Count() != n+1 {
				t.Errorf("%d regions, want %d", m.Count(), n+1)
			}
		}
	}
}

func TestReserveOfOtherSizes(t *testing.T) {
	r, m := empty(t)
	for _, size := range wrongSizes {
		refuses(t, r, m, size, api.ErrArg)
	}
	reserves(t, r, 3, 0)
	lays(t, m, at(0), 1, 2, 3)
	for _, size := range wrongSizes {
		refuses(t, r, m, size, api.ErrArg)
	}
	for size := uint64(65); size < 5000; size++ {
		if addr, e := r.Reserve(size); addr != 0 || e != api.ErrArg {
			t.Fatalf("Reserve(%d): %#x %v", size, addr, e)
		}
	}
	lies(t, m, at(0), 1, 2, 3)
	stands(t, r, 1)
}

func TestReserveWhereAllAreOpen(t *testing.T) {
	r, m := empty(t)
	for n := range 8 {
		reserves(t, r, uint64(n+1), n)
	}
	for _, size := range []uint64{1, 2, 8, 63, 64} {
		refuses(t, r, m, size, api.ErrFull)
	}
	discards(t, r, at(5), api.OK)
	reserves(t, r, 64, 5)
	refuses(t, r, m, 1, api.ErrFull)
	submits(t, r, at(7), api.OK)
	reserves(t, r, 1, 7)
	refuses(t, r, m, 1, api.ErrFull)
}

// Each set of records that are open leaves its least number to the next one.
func TestReserveTakesTheLeastNumber(t *testing.T) {
	for open := range 1 << 8 {
		r, m := empty(t)
		for n := range 8 {
			reserves(t, r, 4, n)
			lays(t, m, at(n), 9, 9, 9, byte(n))
		}
		want, out := open, [][]byte(nil)
		for n := range 8 {
			switch {
			case open>>n&1 == 1:
			case n%2 == 0:
				discards(t, r, at(n), api.OK)
			default:
				submits(t, r, at(n), api.OK)
				out = append(out, []byte{9, 9, 9, byte(n)})
			}
		}
		for n := range 8 {
			if want>>n&1 == 1 {
				continue
			}
			reserves(t, r, 7, n)
			isRecord(t, m, at(n), 7)
		}
		stands(t, r, 8, out...)
		for n := range 8 {
			if open>>n&1 == 1 {
				lies(t, m, at(n), 9, 9, 9, byte(n))
			}
		}
	}
}

func TestReserveWhereThePlaceIsTaken(t *testing.T) {
	for _, size := range []uint64{1, 2, 5, 64} {
		for n := range 8 {
			for from := range size {
				r, m := empty(t)
				id, _ := m.Add(at(n)+from, 1, 0)
				for k := range n {
					reserves(t, r, 1, k)
				}
				refuses(t, r, m, size, api.ErrBusy)
				if n > 0 {
					discards(t, r, at(0), api.OK)
					reserves(t, r, size, 0)
					refuses(t, r, m, size, api.ErrBusy)
				}
				m.Kill(id)
				reserves(t, r, size, n)
			}
		}
	}
}

func TestReserveWhereAGreatRegionLies(t *testing.T) {
	for _, c := range []struct {
		base uint64
		size int
		perm api.Perm
	}{{at(0) - 10, 11, both}, {at(0), 1, api.Fresh}, {at(0), 64, api.Read}, {at(0) - 100, 4096, 0}, {at(0), api.MaxRegion, 7}, {at(0) - api.MaxRegion + 1, api.MaxRegion, both}} {
		r, m := empty(t)
		id, e := m.Add(c.base, c.size, c.perm)
		if e != api.OK {
			t.Fatalf("Add: %v", e)
		}
		for _, size := range []uint64{1, 8, 64} {
			refuses(t, r, m, size, api.ErrBusy)
		}
		refuses(t, r, m, 65, api.ErrArg)
		discards(t, r, at(0), api.ErrNone)
		submits(t, r, at(0), api.ErrNone)
		if !m.Live(id) {
			t.Errorf("it was killed")
		}
		m.Kill(id)
		reserves(t, r, 8, 0)
	}
}

func TestReserveBesideOtherRegions(t *testing.T) {
	r, m := empty(t)
	for n := range 8 {
		for _, c := range []struct {
			base uint64
			size int
		}{{at(n) - 3, 3}, {at(n) + 5, 7}, {at(n) + 12, 4000}} {
			if _, e := m.Add(c.base, c.size, api.Read); e != api.OK {
				t.Fatalf("Add(%#x, %d): %v", c.base, c.size, e)
			}
		}
	}
	for n := range 8 {
		refuses(t, r, m, 6, api.ErrBusy)
		reserves(t, r, 5, n)
		isRecord(t, m, at(n), 5)
	}
	if m.Count() != 32 {
		t.Errorf("%d regions", m.Count())
	}
	refuses(t, r, m, 1, api.ErrFull)
}

// crowded: a memory with so many regions, of which none lies at a record's place; the last id was taken by one more.
func crowded(t *testing.T, n int) *mem.Memory {
	t.Helper()
	m := mem.New()
	id, _ := m.Add(1<<40, 1, both)
	m.Kill(id)
	for i := range n {
		if _, e := m.Add(uint64(i), 1, both); e != api.OK {
			t.Fatalf("region %d: %v", i, e)
		}
	}
	return m
}

func TestReserveWhereThereIsNoRoom(t *testing.T) {
	for room := range 9 {
		m := crowded(t, api.MaxRegions-room)
		r := made(t, m)
		for n := range room {
			reserves(t, r, 2, n)
		}
		if m.Count() != api.MaxRegions {
			t.Errorf("%d regions", m.Count())
		}
		want := api.ErrBusy
		if room == 8 {
			want = api.ErrFull
		}
		refuses(t, r, m, 1, want)
		refuses(t, r, m, 0, api.ErrArg)
		if room > 0 {
			submits(t, r, at(room-1), api.OK)
			reserves(t, r, 64, room-1)
			refuses(t, r, m, 1, want)
		} else {
			m.Kill(1)
			reserves(t, r, 64, 0)
		}
	}
}

func TestReserveNamesTheFirstError(t *testing.T) {
	r, m := empty(t)
	m.Add(at(0), 1, both)
	refuses(t, r, m, 0, api.ErrArg)
	refuses(t, r, m, 65, api.ErrArg)
	refuses(t, r, m, 1, api.ErrBusy)
	m = crowded(t, api.MaxRegions-8)
	r = made(t, m)
	for n := range 8 {
		reserves(t, r, 1, n)
	}
	refuses(t, r, m, 65, api.ErrArg)
	refuses(t, r, m, 0, api.ErrArg)
	refuses(t, r, m, 64, api.ErrFull)
	discards(t, r, at(3), api.OK)
	m.Add(at(3)+1, 1, both)
	refuses(t, r, m, 65, api.ErrArg)
	refuses(t, r, m, 64, api.ErrBusy)
	refuses(t, r, m, 1, api.ErrBusy)
}

func TestReserveOverTwoRings(t *testing.T) {
	r, m := empty(t)
	other := made(t, m)
	reserves(t, r, 4, 0)
	refuses(t, other, m, 4, api.ErrBusy)
	submits(t, other, at(0), api.ErrNone)
	discards(t, other, at(0), api.ErrNone)
	lays(t, m, at(0), 1, 2, 3, 4)
	submits(t, r, at(0), api.OK)
	stands(t, other, 0)
	reserves(t, other, 1, 0)
	refuses(t, r, m, 4, api.ErrBusy)
	discards(t, r, at(0), api.ErrNone)
	stands(t, other, 1)
	stands(t, r, 0, []byte{1, 2, 3, 4})

	far, n := empty(t)
	reserves(t, far, 2, 0)
	reserves(t, far, 2, 1)
	isRecord(t, n, at(0), 2)
	stands(t, far, 2)
	stands(t, r, 0, []byte{1, 2, 3, 4})
}

// P11.3

func TestSubmitOfEverySize(t *testing.T) {
	for size := 1; size <= 64; size++ {
		r, m := empty(t)
		var out [][]byte
		for n := range 8 {
			reserves(t, r, uint64(size), n)
			b := bytes.Repeat([]byte{byte(255 - n)}, size)
			b[size-1] = byte(size)
			lays(t, m, at(n), b...)
			out = append(out, b)
		}
		for n := range 8 {
			submits(t, r, at(n), api.OK)
			gone(t, m, at(n))
			stands(t, r, 7-n, out[:n+1]...)
		}
		if m.Count() != 0 {
			t.Errorf("%d regions", m.Count())
		}
	}
}

func TestDiscardOfEverySize(t *testing.T) {
	for size := 1; size <= 64; size++ {
		r, m := empty(t)
		for n := range 8 {
			reserves(t, r, uint64(size), n)
			lays(t, m, at(n), 7)
		}
		for n := range 8 {
			discards(t, r, at(n), api.OK)
			gone(t, m, at(n))
			stands(t, r, 7-n)
		}
		if m.Count() != 0 {
			t.Errorf("%d regions", m.Count())
		}
	}
}

func TestEachRecordIsLetGoOfOnce(t *testing.T) {
	for n := range 8 {
		r, m := empty(t)
		for k := range 8 {
			reserves(t, r, 2, k)
			lays(t, m, at(k), byte(k), 1)
		}
		submits(t, r, at(n), api.OK)
		was := m.Copy()
		submits(t, r, at(n), api.ErrNone)
		discards(t, r, at(n), api.ErrNone)
		same(t, m, was)
		stands(t, r, 7, []byte{byte(n), 1})
		reserves(t, r, 1, n)
		discards(t, r, at(n), api.OK)
		submits(t, r, at(n), api.ErrNone)
		discards(t, r, at(n), api.ErrNone)
		stands(t, r, 7, []byte{byte(n), 1})
		for k := range 8 {
			if k != n {
				lies(t, m, at(k), byte(k), 1)
			}
		}
	}
}

func TestOtherPlaces(t *testing.T) {
	r, m := empty(t)
	for open := range 9 {
		was := m.Copy()
		places := wrongPlaces
		for n := open; n < 8; n++ {
			places = append(places, at(n))
		}
		for _, addr := range places {
			submits(t, r, addr, api.ErrNone)
			discards(t, r, addr, api.ErrNone)
		}
		same(t, m, was)
		stands(t, r, open)
		if open < 8 {
			reserves(t, r, 64, open)
			lays(t, m, at(open), byte(open))
		}
	}
}

func TestNoPlaceButTheFirstByte(t *testing.T) {
	r, m := empty(t)
	reserves(t, r, 64, 0)
	reserves(t, r, 64, 1)
	for addr := at(0) - 4096; addr < at(2)+4096; addr++ {
		if addr != at(0) && addr != at(1) {
			submits(t, r, addr, api.ErrNone)
			discards(t, r, addr, api.ErrNone)
		}
	}
	stands(t, r, 2)
	if m.Count() != 2 {
		t.Errorf("%d regions", m.Count())
	}
}

func TestSubmitLeavesOtherRegions(t *testing.T) {
	r, m := empty(t)
	m.Add(at(0)+8, 4, both)
	m.Add(at(1)-1, 1, both)
	m.Add(at(8), 64, both)
	reserves(t, r, 8, 0)
	reserves(t, r, 8, 1)
	lays(t, m, at(0)+8, 1, 2, 3, 4)
	lays(t, m, at(1)-1, 5)
	submits(t, r, at(8), api.ErrNone)
	discards(t, r, at(8), api.ErrNone)
	submits(t, r, at(0), api.OK)
	discards(t, r, at(1), api.OK)
	lies(t, m, at(0)+8, 1, 2, 3, 4)
	lies(t, m, at(1)-1, 5)
	if m.Count() != 3 {
		t.Errorf("%d regions", m.Count())
	}
}

func TestOutIsInTheOrderOfSubmits(t *testing.T) {
	r, m := empty(t)
	for n := range 8 {
		reserves(t, r, 1, n)
		lays(t, m, at(n), byte(n))
	}
	for _, n := range []int{5, 0, 7, 3} {
		submits(t, r, at(n), api.OK)
	}
	discards(t, r, at(4), api.OK)
	stands(t, r, 3, []byte{5}, []byte{0}, []byte{7}, []byte{3})
	reserves(t, r, 2, 0)
	submits(t, r, at(0), api.OK)
	submits(t, r, at(6), api.OK)
	discards(t, r, at(1), api.OK)
	stands(t, r, 1, []byte{5}, []byte{0}, []byte{7}, []byte{3}, []byte{0, 0}, []byte{6})
}

func TestOutHasTheBytesAsTheyWere(t *testing.T) {
	r, m := empty(t)
	reserves(t, r, 4, 0)
	lays(t, m, at(0), 1, 2, 3, 4)
	m.Store(at(0)+1, 2, 0x0908)
	id, _, _ := m.Find(at(0))
	m.Poke(id, 3, []byte{7})
	stands(t, r, 1)
	submits(t, r, at(0), api.OK)
	stands(t, r, 0, []byte{1, 8, 9, 7})
	reserves(t, r, 4, 0)
	isRecord(t, m, at(0), 4)
	lays(t, m, at(0), 6, 6, 6, 6)
	stands(t, r, 1, []byte{1, 8, 9, 7})
	submits(t, r, at(0), api.OK)
	stands(t, r, 0, []byte{1, 8, 9, 7}, []byte{6, 6, 6, 6})
}

func TestOutIsNewMemory(t *testing.T) {
	r, m := empty(t)
	for n := range 3 {
		reserves(t, r, 2, n)
		lays(t, m, at(n), byte(n), 1)
		submits(t, r, at(n), api.OK)
		reserves(t, r, 1, n)
	}
	want := [][]byte{{0, 1}, {1, 1}, {2, 1}}
	first, second := r.Out(), r.Out()
	for i, b := range first {
		clear(b[:cap(b)])
		first[i] = append(b, 0xff)
	}
	for i := range first[:cap(first)] {
		first[:cap(first)][i] = nil
	}
	if !slices.EqualFunc(second, want, bytes.Equal) {
		t.Errorf("an answer's bytes were another's: %x", second)
	}
	stands(t, r, 3, want...)
	for i, b := range second {
		whole := b[:cap(b)]
		for n := range whole {
			whole[n] = 0xee
		}
		for k := i + 1; k < len(second); k++ {
			if !bytes.Equal(second[k], want[k]) {
				t.Errorf("list %d has the room of list %d", i, k)
			}
		}
	}
	stands(t, r, 3, want...)
}

func TestOutHoldsManyRecords(t *testing.T) {
	r, m := empty(t)
	var want [][]byte
	for i := range 3 * api.MaxRegions {
		size := 1 + i%64
		reserves(t, r, uint64(size), 0)
		if i%3 == 0 {
			discards(t, r, at(0), api.OK)
			continue
		}
		b := bytes.Repeat([]byte{byte(i)}, size)
		lays(t, m, at(0), b...)
		submits(t, r, at(0), api.OK)
		want = append(want, b)
	}
	stands(t, r, 0, want...)
	if m.Count() != 0 {
		t.Errorf("%d regions", m.Count())
	}
}

// Where somebody else killed a record's region, the record is open still, and what lies at its place now isn't the ring's.
func TestWhereARegionWasKilled(t *testing.T) {
	r, m := empty(t)
	for n := range 4 {
		reserves(t, r, 4, n)
		id, _, _ := m.Find(at(n))
		m.Kill(id)
	}
	m.Add(at(0), 2, both)
	m.Add(at(1), 2, both)
	lays(t, m, at(0), 1, 2)
	stands(t, r, 4)
	reserves(t, r, 1, 4)
	for n := range 2 {
		submits(t, r, at(2*n), api.OK)
		discards(t, r, at(2*n+1), api.OK)
	}
	stands(t, r, 1, nil, nil)
	lies(t, m, at(0), 1, 2)
	lies(t, m, at(1), 0, 0)
	refuses(t, r, m, 1, api.ErrBusy)
}
