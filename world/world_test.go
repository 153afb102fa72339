package world

import (
	"bytes"
	"math"
	"slices"
	"testing"

	"postern/api"
	"postern/mem"
	"postern/table"
)

const (
	both  = api.Read | api.Write
	ctx   = 4294967296        // written out, as the document has it
	lies  = 2*4294967296 + 64 // where a packet's first byte lies at first
	desk  = 65536             // where the tests lay keys, values and bytes
	no    = math.MaxUint64 - 1
	arr   = 1 << 48
	hsh   = arr + 1
	lrum  = arr + 2
	lpmm  = arr + 3
	value = 32 * 4294967296
)

// maps: one of each kind.
func maps() []api.MapDef {
	return []api.MapDef{{Kind: api.Array, Key: 4, Value: 8, Max: 2}, {Kind: api.Hash, Key: 2, Value: 4, Max: 2}, {Kind: api.Lru, Key: 1, Value: 2, Max: 2}, {Kind: api.Lpm, Key: 5, Value: 1, Max: 2}}
}

// host: a memory with those maps, and a desk of 256 bytes.
func host(t *testing.T) (*table.Table, *mem.Memory) {
	t.Helper()
	m := mem.New()
	x, e := table.New(m, maps())
	if e != api.OK {
		t.Fatalf("table.New: %v", e)
	}
	if _, e := m.Add(desk, 256, both); e != api.OK {
		t.Fatalf("Add: %v", e)
	}
	return x, m
}

func made(t *testing.T, x *table.Table, m *mem.Memory, hook api.Hook, packet []byte, real bool, tape ...uint64) *World {
	t.Helper()
	w, e := New(x, m, hook, packet, 0x0a0b0c0d, tape, real)
	if w == nil || e != api.OK {
		t.Fatalf("New: %v %v", w, e)
	}
	return w
}

// plain: a world at Xdp, and its memory.
func plain(t *testing.T, packet []byte, tape ...uint64) (*World, *mem.Memory) {
	t.Helper()
	x, m := host(t)
	return made(t, x, m, api.Xdp, packet, false, tape...), m
}

// answers: a Call that must answer that.
func answers(t *testing.T, w *World, want uint64, h api.Helper, args ...uint64) {
	t.Helper()
	a := [5]uint64{77, 78, 79, 80, 81} // those behind what it takes are no matter
	copy(a[:], args)
	if ret, e := w.Call(h, a); ret != want || e != api.OK {
		t.Errorf("Call(%d, %#x): %#x %v, want %#x", h, args, ret, e, want)
	}
}

// traps: a Call that must be that trap, and do nothing.
func traps(t *testing.T, w *World, want api.Errno, h api.Helper, args ...uint64) {
	t.Helper()
	a := [5]uint64{77, 78, 79, 80, 81}
	copy(a[:], args)
	was, log, out, open := w.Memory().Copy(), w.Log(), w.Out(), w.Open()
	if ret, e := w.Call(h, a); ret != 0 || e != want {
		t.Errorf("Call(%d, %#x): %#x %v, want 0 %v", h, args, ret, e, want)
	}
	same(t, w.Memory(), was)
	if !slices.Equal(w.Log(), log) || !slices.EqualFunc(w.Out(), out, bytes.Equal) || w.Open() != open {
		t.Errorf("Call(%d, %#x): it did something", h, args)
	}
}

// same: do two memories have the same regions, and number the next one alike?
func same(t *testing.T, m, was *mem.Memory) {
	t.Helper()
	if m.Count() != was.Count() {
		t.Fatalf("%d regions, were %d", m.Count(), was.Count())
	}
	last := -1
	for id, live := 0, was.Count(); live > 0; id++ {
		b, e := m.Bytes(id)
		wasb, wase := was.Bytes(id)
		if !bytes.Equal(b, wasb) || e != wase {
			t.Fatalf("region %d: %x %v, was %x %v", id, b, e, wasb, wase)
		}
		if e == api.OK {
			last = id
			live--
		}
	}
	m, was = m.Copy(), was.Copy()
	m.Kill(last) // makes room for the next one
	was.Kill(last)
	id, e := m.Add(1<<62, 1, both)
	if wasid, wase := was.Add(1<<62, 1, both); id != wasid || e != wase {
		t.Errorf("the next region: %d %v, would have been %d %v", id, e, wasid, wase)
	}
}

func lays(t *testing.T, m *mem.Memory, addr uint64, b ...byte) {
	t.Helper()
	if e := m.Write(addr, b); e != api.OK {
		t.Fatalf("Write(%#x): %v", addr, e)
	}
}

func reads(t *testing.T, m *mem.Memory, addr uint64, want ...byte) {
	t.Helper()
	if b, e := m.Read(addr, len(want)); !bytes.Equal(b, want) || e != api.OK {
		t.Errorf("at %#x: %x %v, want %x", addr, b, e, want)
	}
}

// isRegion: a region of just these bytes, with that permission, all of them laid.
func isRegion(t *testing.T, m *mem.Memory, addr uint64, perm api.Perm, want ...byte) {
	t.Helper()
	id, from, ok := m.Find(addr)
	if b, e := m.Bytes(id); !ok || from != 0 || !bytes.Equal(b, want) || e != api.OK {
		t.Errorf("at %#x: %v, place %d, %x, want %x", addr, ok, from, b, want)
	}
	reads(t, m, addr, want...)
	may := api.ErrAccess
	if perm&api.Write != 0 {
		may = api.OK
	}
	for n, b := range want {
		if e := m.Store(addr+uint64(n), 1, uint64(b)); e != may {
			t.Errorf("Store at %#x: %v, want %v", addr+uint64(n), e, may)
		}
	}
}

// isFar: no region has the byte.
func isFar(t *testing.T, m *mem.Memory, addr uint64) {
	t.Helper()
	if id, _, ok := m.Find(addr); ok {
		t.Errorf("at %#x: region %d", addr, id)
	}
}

// isContext: the regions of the context, as the layout has them.
func isContext(t *testing.T, m *mem.Memory, real bool, first uint64, size, mark uint32) {
	t.Helper()
	ends := slices.Concat(word(first, 8), word(first+uint64(size), 8))
	if real {
		isRegion(t, m, ctx, both, word(uint64(mark), 4)...)
		isRegion(t, m, ctx+4, api.Read, slices.Concat(word(uint64(size), 4), ends)...)
	} else {
		isRegion(t, m, ctx, api.Read, ends...)
		isRegion(t, m, ctx+16, both, word(uint64(mark), 4)...)
		isRegion(t, m, ctx+20, api.Read, word(uint64(size), 4)...)
	}
	isFar(t, m, ctx-1)
	isFar(t, m, ctx+24)
}

// isPacket: the world's packet, as all tell it.
func isPacket(t *testing.T, w *World, real bool, first uint64, want ...byte) {
	t.Helper()
	if b := w.Packet(); !bytes.Equal(b, want) {
		t.Errorf("Packet: %x, want %x", b, want)
	}
	perm := api.Perm(api.Read)
	if w.Hook() == api.Xdp {
		perm = both
	}
	if len(want) > 0 {
		isRegion(t, w.Memory(), first, perm, want...)
	}
	isFar(t, w.Memory(), first-1)
	isFar(t, w.Memory(), first+uint64(len(want)))
	isContext(t, w.Memory(), real, first, uint32(len(want)), w.Mark())
}

// word: a number, lowest byte first.
func word(v uint64, size int) []byte {
	var b []byte
	for range size {
		b = append(b, byte(v))
		v >>= 8
	}
	return b
}

// counted: 1, 2, ..
func counted(n int) []byte {
	b := make([]byte, n)
	for i := range b {
		b[i] = byte(i + 1)
	}
	return b
}

func isLog(t *testing.T, w *World, want ...api.Call) {
	t.Helper()
	if log := w.Log(); !slices.Equal(log, want) {
		t.Errorf("Log: %x, want %x", log, want)
	}
}

func call(ret uint64, h api.Helper, args ...uint64) api.Call {
	c := api.Call{Helper: h, Ret: ret}
	copy(c.Args[:], args)
	return c
}

// refused: the answer that tells an error.
func refused(e api.Errno) uint64 {
	return math.MaxUint64 - uint64(e) + 1
}

// fill a memory with regions that are in nobody's way.
func fill(t *testing.T, m *mem.Memory) {
	t.Helper()
	for n := uint64(0); m.Count() < api.MaxRegions; n++ {
		if _, e := m.Add(1<<40+16*n, 8, both); e != api.OK {
			t.Fatalf("Add: %v", e)
		}
	}
}

func TestExamples(t *testing.T) {
	w, m := plain(t, []byte{1, 2, 3})
	for _, x := range [][3]uint64{{ctx, 8, lies}, {ctx + 8, 8, lies + 3}, {ctx + 16, 4, 0x0a0b0c0d}, {ctx + 20, 4, 3}} {
		if v, e := m.Load(x[0], int(x[1])); v != x[2] || e != api.OK {
			t.Errorf("at %#x: %#x %v, want %#x", x[0], v, e, x[2])
		}
	}
	answers(t, w, 0, api.HelpAdjust, ctx, math.MaxUint64-1)
	isPacket(t, w, false, lies-2, 0, 0, 1, 2, 3)
	answers(t, w, no, api.HelpAdjust, ctx, 6)
	isPacket(t, w, false, lies-2, 0, 0, 1, 2, 3)
	answers(t, w, 0, api.HelpBytes, ctx, 2, desk, 2)
	reads(t, m, desk, 1, 2, 0)
	answers(t, w, no, api.HelpBytes, ctx, 4, desk, 2)
	reads(t, m, desk, 0, 0, 0)
	traps(t, w, api.ErrCode, 99)
}

// P12.1

func refusesNew(t *testing.T, x *table.Table, m *mem.Memory, hook api.Hook, packet []byte, real bool, want api.Errno) {
	t.Helper()
	was := m.Copy()
	if w, e := New(x, m, hook, packet, 1, []uint64{2}, real); w != nil || e != want {
		t.Errorf("New: %v %v, want nil %v", w, e, want)
	}
	if m != nil {
		same(t, m, was)
	}
}

func TestNewRefusesArguments(t *testing.T) {
	x, m := host(t)
	m.Add(ctx, 1, 0)
	for _, hook := range []api.Hook{api.Xdp, api.Filter, 2} {
		for _, size := range []int{0, 2048, 2049} {
			refusesNew(t, nil, m, hook, make([]byte, size), true, api.ErrNil)
			refusesNew(t, x, nil, hook, make([]byte, size), true, api.ErrNil)
			refusesNew(t, nil, nil, hook, make([]byte, size), true, api.ErrNil)
		}
	}
	for _, hook := range []api.Hook{2, 3, -1, 256, 1 << 32, math.MaxInt, math.MinInt} {
		refusesNew(t, x, m, hook, nil, false, api.ErrArg)
		refusesNew(t, x, m, hook, []byte{1}, true, api.ErrArg)
	}
	for _, size := range []int{2049, 2050, 4096, 1 << 17} {
		refusesNew(t, x, m, api.Xdp, make([]byte, size), false, api.ErrArg)
		refusesNew(t, x, m, api.Filter, make([]byte, size), true, api.ErrArg)
	}
	refusesNew(t, x, m, api.Xdp, make([]byte, 2048), false, api.ErrBusy)
}

func TestNewLaysContextAndPacket(t *testing.T) {
	for _, hook := range []api.Hook{api.Xdp, api.Filter} {
		for _, real := range []bool{false, true} {
			for _, size := range []int{0, 1, 2, 3, 8, 63, 64, 65, 255, 256, 257, 2047, 2048} {
				x, m := host(t)
				n := m.Count()
				w := made(t, x, m, hook, counted(size), real)
				if w.Mark() != 0x0a0b0c0d {
					t.Errorf("Mark: %x", w.Mark())
				}
				isPacket(t, w, real, lies, counted(size)...)
				isLog(t, w)
				if w.Hook() != hook || w.Memory() != m || w.Table() != x || w.Open() != 0 || len(w.Out()) != 0 {
					t.Errorf("a new world")
				}
				want := n + 3 + min(size, 1)
				if real {
					want--
				}
				if m.Count() != want {
					t.Errorf("%d regions, want %d", m.Count(), want)
				}
				for b := range uint64(64) {
					isFar(t, m, lies-64+b)
				}
			}
		}
	}
}

func TestNewOverWhatIsTaken(t *testing.T) {
	for _, hook := range []api.Hook{api.Xdp, api.Filter} {
		for _, real := range []bool{false, true} {
			for _, size := range []int{0, 1, 5} {
				x, m := host(t)
				var taken []uint64
				for n := range uint64(24) {
					taken = append(taken, ctx+n)
				}
				for n := range uint64(64 + size) {
					taken = append(taken, lies-64+n)
				}
				for _, addr := range taken {
					id, _ := m.Add(addr, 1, api.Perm(addr%8))
					refusesNew(t, x, m, hook, counted(size), real, api.ErrBusy)
					m.Kill(id)
				}
				free := []uint64{ctx - 1, ctx + 24, lies - 65, lies + uint64(size)}
				for _, addr := range free {
					m.Add(addr, 1, api.Read)
				}
				made(t, x, m, hook, counted(size), real)
			}
		}
	}
}

func TestNewOverGreatRegions(t *testing.T) {
	for _, addr := range []uint64{ctx - 65535, ctx - 100, ctx + 23, lies - 64 - 65535, lies - 1, lies + 1} {
		x, m := host(t)
		m.Add(addr, 65536, both)
		refusesNew(t, x, m, api.Xdp, counted(2), false, api.ErrBusy)
		refusesNew(t, x, m, api.Filter, counted(2), true, api.ErrBusy)
	}
}

func TestNewWhereTheMemoryIsFull(t *testing.T) {
	x, m := host(t)
	fill(t, m)
	for _, c := range []struct {
		size, want int
		real       bool
	}{{0, 3, false}, {1, 4, false}, {0, 2, true}, {2048, 3, true}} {
		full := m.Copy()
		y := x.Copy(full)
		for range c.want {
			refusesNew(t, y, full, api.Xdp, counted(c.size), c.real, api.ErrBusy)
			refusesNew(t, y, full, api.Filter, counted(c.size), c.real, api.ErrBusy)
			full.Kill(full.Count() - 1) // none was killed ahead: the last one's id
		}
		w := made(t, y, full, api.Xdp, counted(c.size), c.real)
		if full.Count() != api.MaxRegions || !bytes.Equal(w.Packet(), counted(c.size)) {
			t.Errorf("%d regions, packet %x", full.Count(), w.Packet())
		}
		isContext(t, full, c.real, lies, uint32(c.size), 0x0a0b0c0d)
	}
}

func TestNewKeepsNothingOfTheCaller(t *testing.T) {
	x, m := host(t)
	packet, tape := append(counted(3), 9, 9)[:3], []uint64{5, 6, 7}[:2]
	w := made(t, x, m, api.Xdp, packet, false, tape...)
	v, e := New(x.Copy(m.Copy()), mem.New(), api.Xdp, packet, 0, tape, false)
	if e != api.OK {
		t.Fatalf("New: %v", e)
	}
	packet[0], tape[0], tape[1] = 99, 99, 99
	isPacket(t, w, false, lies, 1, 2, 3)
	isPacket(t, v, false, lies, 1, 2, 3)
	for _, want := range []uint64{5, 6, 0} {
		answers(t, v, want, api.HelpTime)
	}
	lays(t, m, lies, 50, 51, 52)
	answers(t, w, 0, api.HelpAdjust, ctx, 2)
	answers(t, w, 0, api.HelpAdjust, ctx, math.MaxUint64-9)
	if !bytes.Equal(packet[:5], []byte{99, 2, 3, 9, 9}) || tape[:3][2] != 7 {
		t.Errorf("what was handed in: %x %v", packet[:5], tape[:3])
	}
}

// P12.3

func TestMarkAsItStands(t *testing.T) {
	for _, real := range []bool{false, true} {
		x, m := host(t)
		w := made(t, x, m, api.Filter, nil, real)
		at := uint64(ctx + 16)
		if real {
			at = ctx
		}
		for _, mark := range []uint32{0, 1, 0x01020304, math.MaxUint32} {
			if e := m.Store(at, 4, uint64(mark)); e != api.OK || w.Mark() != mark {
				t.Errorf("Mark: %x %v, want %x", w.Mark(), e, mark)
			}
		}
		m.Store(at+1, 1, 0x55)
		if w.Mark() != 0xffff55ff {
			t.Errorf("Mark: %x", w.Mark())
		}
		isContext(t, m, real, lies, 0, 0xffff55ff)
	}
}

func TestLog(t *testing.T) {
	w, m := plain(t, counted(3), 4)
	lays(t, m, desk, 0, 0, 0, 0, 0)
	answers(t, w, 4, api.HelpTime)
	answers(t, w, value, api.HelpLookup, arr, desk)
	answers(t, w, 0, api.HelpLookup, hsh, desk)
	answers(t, w, 0, api.HelpLookup, lrum, desk)
	answers(t, w, 0, api.HelpLookup, lpmm, desk)
	answers(t, w, 0, api.HelpUpdate, arr, desk, desk, 0)
	traps(t, w, api.ErrArg, api.HelpLookup, arr-1, desk)
	answers(t, w, no, api.HelpAdjust, ctx, 4)
	answers(t, w, 0, api.HelpAdjust, ctx, 1<<63+1)
	answers(t, w, 0, api.HelpBytes, ctx, 1, desk, 1)
	want := []api.Call{call(4, 4), call(0, 1, hsh, desk), call(0, 1, lrum, desk), call(0, 1, lpmm, desk), call(0, 2, arr, desk, desk, 0), call(no, 6, ctx, 4), call(0, 6, ctx, 1<<63+1), call(0, 7, ctx, 1, desk, 1)}
	isLog(t, w, want...)
	w.Log()[0] = api.Call{}
	_ = append(w.Log()[:1], api.Call{}, api.Call{})
	isLog(t, w, want...)
}

func TestAnswersAreTheCallersOwn(t *testing.T) {
	w, m := plain(t, counted(3))
	w.Packet()[1] = 99
	_ = append(w.Packet()[:1], 98, 97, 96)
	isPacket(t, w, false, lies, 1, 2, 3)
	b, log := w.Packet(), w.Log()
	lays(t, m, lies, 7)
	answers(t, w, 0, api.HelpAdjust, ctx, 1)
	if !bytes.Equal(b, []byte{1, 2, 3}) || len(log) != 0 {
		t.Errorf("what was answered ahead: %x %v", b, log)
	}
	answers(t, w, 16*4294967296, api.HelpReserve, 1)
	answers(t, w, 0, api.HelpSubmit, 16*4294967296)
	w.Out()[0][0] = 9
	if w.Out()[0][0] != 0 {
		t.Errorf("Out isn't the caller's own")
	}
}

// P12.4

func TestAdjustByEveryNumber(t *testing.T) {
	for size := range 6 {
		for by := -70; by <= 70; by++ {
			for _, high := range []uint64{0, 1 << 32, 1 << 63, 0xffffffff << 32} {
				w, m := plain(t, counted(size))
				arg, n := uint64(uint32(int32(by)))|high, m.Count()
				if by < -64 || by > size {
					answers(t, w, no, api.HelpAdjust, ctx, arg)
					isPacket(t, w, false, lies, counted(size)...)
					continue
				}
				answers(t, w, 0, api.HelpAdjust, ctx, arg)
				want := slices.Concat(make([]byte, max(0, -by)), counted(size)[max(0, by):])
				isPacket(t, w, false, uint64(lies+by), want...)
				if m.Count() != n-min(1, size)+min(1, len(want)) {
					t.Errorf("%d regions, were %d", m.Count(), n)
				}
				isLog(t, w, call(0, 6, ctx, arg))
			}
		}
	}
}

func TestAdjustByFarNumbers(t *testing.T) {
	w, _ := plain(t, make([]byte, 2048))
	for _, by := range []uint64{2049, 1 << 16, 1<<31 - 1, 1 << 31, 1<<31 + 1, 1<<32 - 65, 1<<32 + 2049, 1<<63 + 1<<31, math.MaxUint64 - 64, math.MaxUint64 - 2048} {
		answers(t, w, no, api.HelpAdjust, ctx, by)
	}
	isPacket(t, w, false, lies, make([]byte, 2048)...)
	answers(t, w, 0, api.HelpAdjust, ctx, 1<<32-64)
	isPacket(t, w, false, lies-64, make([]byte, 2112)...)
	answers(t, w, no, api.HelpAdjust, ctx, 1<<32-1)
	answers(t, w, 0, api.HelpAdjust, ctx, 2112)
	isPacket(t, w, false, lies+2048)
	answers(t, w, no, api.HelpAdjust, ctx, 1)
	answers(t, w, no, api.HelpAdjust, ctx, 1<<32-2113)
	answers(t, w, 0, api.HelpAdjust, ctx, 1<<32-2112)
	isPacket(t, w, false, lies-64, make([]byte, 2112)...)
}

func TestAdjustOfAnotherContext(t *testing.T) {
	w, _ := plain(t, counted(3))
	for _, c := range []uint64{0, ctx - 1, ctx + 1, 2 * ctx, ctx + 1<<63, lies, math.MaxUint64} {
		traps(t, w, api.ErrArg, api.HelpAdjust, c, 1)
		traps(t, w, api.ErrArg, api.HelpAdjust, c, 4)
		traps(t, w, api.ErrArg, api.HelpAdjust, c, 0)
	}
}

func TestWhatStoodInTheRoomStays(t *testing.T) {
	for _, real := range []bool{false, true} {
		x, m := host(t)
		w := made(t, x, m, api.Xdp, counted(4), real)
		answers(t, w, 0, api.HelpAdjust, ctx, 1<<32-3)
		lays(t, m, lies-3, 11, 12, 13, 14)
		isPacket(t, w, real, lies-3, 11, 12, 13, 14, 2, 3, 4)
		answers(t, w, 0, api.HelpAdjust, ctx, 5)
		isPacket(t, w, real, lies+2, 3, 4)
		lays(t, m, lies+3, 15)
		answers(t, w, 0, api.HelpAdjust, ctx, 2)
		isPacket(t, w, real, lies+4)
		answers(t, w, no, api.HelpBytes, ctx, 0, desk, 1)
		answers(t, w, 0, api.HelpAdjust, ctx, 1<<32-1)
		isPacket(t, w, real, lies+3, 15)
		answers(t, w, 0, api.HelpBytes, ctx, 0, desk, 1)
		answers(t, w, 0, api.HelpAdjust, ctx, 1<<32-2)
		isPacket(t, w, real, lies+1, 2, 3, 15)
		answers(t, w, 0, api.HelpBytes, ctx, 1, desk, 2)
		reads(t, m, desk, 3, 15)
		answers(t, w, 0, api.HelpAdjust, ctx, 1<<32-4)
		isPacket(t, w, real, lies-3, 11, 12, 13, 14, 2, 3, 15)
		answers(t, w, 0, api.HelpAdjust, ctx, 0)
		isPacket(t, w, real, lies-3, 11, 12, 13, 14, 2, 3, 15)
	}
}

// An empty packet that would get a byte needs a region, for which there may be no room by then.
func TestAdjustWhereThereIsNoRoom(t *testing.T) {
	w, m := plain(t, nil)
	fill(t, m)
	n := m.Count()
	answers(t, w, no, api.HelpAdjust, ctx, 1<<32-1)
	answers(t, w, 0, api.HelpAdjust, ctx, 0)
	isPacket(t, w, false, lies)
	if m.Count() != n {
		t.Errorf("%d regions, were %d", m.Count(), n)
	}

	w, m = plain(t, counted(2))
	fill(t, m)
	answers(t, w, 0, api.HelpAdjust, ctx, 1<<32-1)
	isPacket(t, w, false, lies-1, 0, 1, 2)

	w, m = plain(t, counted(2))
	m.Add(lies-3, 1, both)
	answers(t, w, no, api.HelpAdjust, ctx, 1<<32-3)
	answers(t, w, no, api.HelpAdjust, ctx, 1<<32-4)
	isPacket(t, w, false, lies, 1, 2)
	answers(t, w, 0, api.HelpAdjust, ctx, 1<<32-2)
	if b := w.Packet(); !bytes.Equal(b, []byte{0, 0, 1, 2}) {
		t.Errorf("Packet: %x", b)
	}
}

func TestClose(t *testing.T) {
	for _, real := range []bool{false, true} {
		for _, size := range []int{0, 3} {
			x, m := host(t)
			n := m.Count()
			w := made(t, x, m, api.Xdp, counted(size), real)
			answers(t, w, 0, api.HelpAdjust, ctx, uint64(size))
			answers(t, w, 0, api.HelpAdjust, ctx, 1<<32-1)
			for k := range uint64(8) {
				answers(t, w, 16*4294967296+4096*k, api.HelpReserve, k+1)
			}
			answers(t, w, 0, api.HelpSubmit, 16*4294967296)
			id, _ := m.Add(lies-40, 4, api.Read)
			lays(t, m, lies-1+uint64(size), 77)
			w.Close()
			if m.Count() != n+1 || !m.Live(id) {
				t.Errorf("%d regions, want %d", m.Count(), n+1)
			}
			m.Kill(id)
			if _, e := x.Lookup(3, make([]byte, 5)); e != api.OK || x.Count() != 4 {
				t.Errorf("the maps: %v", e)
			}
			if !bytes.Equal(w.Packet(), []byte{77}) || w.Mark() != 0x0a0b0c0d || len(w.Log()) != 11 || len(w.Out()) != 1 || w.Open() != 0 {
				t.Errorf("behind Close: %x %x %d %d %d", w.Packet(), w.Mark(), len(w.Log()), len(w.Out()), w.Open())
			}
			if w.Hook() != api.Xdp || w.Memory() != m || w.Table() != x {
				t.Errorf("behind Close: what was given")
			}
		}
	}
}

// Where a world was closed, another may be; the first has nothing to do with it.
func TestCloseMakesRoom(t *testing.T) {
	x, m := host(t)
	w := made(t, x, m, api.Xdp, counted(3), false)
	refusesNew(t, x, m, api.Xdp, nil, true, api.ErrBusy)
	m.Store(ctx+16, 4, 5)
	w.Close()
	v := made(t, x, m, api.Filter, counted(4), true, 7)
	answers(t, v, 16*4294967296, api.HelpReserve, 5)
	n := m.Count()
	w.Close()
	if m.Count() != n || v.Open() != 1 {
		t.Errorf("%d regions, were %d; %d open", m.Count(), n, v.Open())
	}
	isPacket(t, v, true, lies, counted(4)...)
	if !bytes.Equal(w.Packet(), counted(3)) || w.Mark() != 5 {
		t.Errorf("the first: %x %x", w.Packet(), w.Mark())
	}
}

// P1

func TestNoCallPanics(t *testing.T) {
	numbers := []uint64{0, 1, 2, 64, 65, desk, ctx, lies, arr, hsh, lrum, lpmm, 16 * 4294967296, value, 1 << 31, 1 << 32, 1 << 63, math.MaxUint64 - 1, math.MaxUint64}
	d := dice(12)
	for range 60 {
		x, m := host(t)
		w := made(t, x, m, api.Hook(d.below(2)), counted(d.below(9)), d.below(2) == 0, 1, 2)
		for n := range 400 {
			var args [5]uint64
			for i := range args {
				args[i] = numbers[d.below(len(numbers))]
			}
			w.Call(api.Helper(d.below(13)-1), args)
			switch {
			case n == 200: // others may take away whatever lies in the memory
				for id := range 40 {
					if d.below(3) == 0 {
						m.Kill(id)
					}
				}
			case n == 390:
				w.Close()
			}
			w.Packet()
			w.Mark()
		}
		w.Close()
	}
}
