package table

import (
	"bytes"
	"math"
	"slices"
	"testing"

	"postern/api"
	"postern/mem"
)

const both = api.Read | api.Write

func made(t *testing.T, m *mem.Memory, defs ...api.MapDef) *Table {
	t.Helper()
	x, e := New(m, defs)
	if x == nil || e != api.OK {
		t.Fatalf("New(%v): %v %v", defs, x, e)
	}
	return x
}

// refuses is a New that must answer that error and leave the memory as it was, also in what number the next region gets.
func refuses(t *testing.T, m *mem.Memory, want api.Errno, defs ...api.MapDef) {
	t.Helper()
	was := m.Copy()
	if x, e := New(m, defs); x != nil || e != want {
		t.Errorf("New(%v): %v %v, want %v", defs, x, e, want)
	}
	same(t, m, was)
}

// same: do two memories have the same regions, and number the next one alike?
func same(t *testing.T, m, was *mem.Memory) {
	t.Helper()
	m, was = m.Copy(), was.Copy()
	if m.Count() != was.Count() {
		t.Fatalf("%d regions, were %d", m.Count(), was.Count())
	}
	for id := range 2 * api.MaxRegions {
		b, e := m.Bytes(id)
		wasb, wase := was.Bytes(id)
		if !bytes.Equal(b, wasb) || e != wase {
			t.Fatalf("region %d: %x %v, was %x %v", id, b, e, wasb, wase)
		}
		if e == api.OK && m.Count() == api.MaxRegions { // makes room for the next one
			m.Kill(id)
			was.Kill(id)
		}
	}
	id, e := m.Add(1<<62, 1, both)
	if wasid, wase := was.Add(1<<62, 1, both); id != wasid || e != wase {
		t.Errorf("the next region: %d %v, would have been %d %v", id, e, wasid, wase)
	}
}

// at is the place of slot s of map i, written out.
func at(i, s int) uint64 {
	return 32*4294967296 + uint64(i)*4294967296 + uint64(s)*4096
}

func looks(t *testing.T, x *Table, i int, key []byte, addr uint64, want api.Errno) {
	t.Helper()
	if a, e := x.Lookup(i, key); a != addr || e != want {
		t.Errorf("Lookup(%d, %x): %#x %v, want %#x %v", i, key, a, e, addr, want)
	}
}

func updates(t *testing.T, x *Table, i int, key, value []byte, flags uint64, want api.Errno) {
	t.Helper()
	if e := x.Update(i, key, value, flags); e != want {
		t.Errorf("Update(%d, %x, %x, %d): %v, want %v", i, key, value, flags, e, want)
	}
}

func deletes(t *testing.T, x *Table, i int, key []byte, want api.Errno) {
	t.Helper()
	if e := x.Delete(i, key); e != want {
		t.Errorf("Delete(%d, %x): %v, want %v", i, key, e, want)
	}
}

func gets(t *testing.T, x *Table, i int, key, value []byte, want api.Errno) {
	t.Helper()
	if v, e := x.Get(i, key); !bytes.Equal(v, value) || e != want {
		t.Errorf("Get(%d, %x): %x %v, want %x %v", i, key, v, e, value, want)
	}
}

// dumps: the map tells these keys and values, one ahead of the other.
func dumps(t *testing.T, x *Table, i int, want ...[]byte) {
	t.Helper()
	pairs, e := x.Dump(i)
	var got [][]byte
	for _, p := range pairs {
		got = append(got, p.Key, p.Value)
	}
	if e != api.OK || !slices.EqualFunc(got, want, bytes.Equal) {
		t.Errorf("Dump(%d): %x %v, want %x", i, got, e, want)
	}
}

func lies(t *testing.T, m *mem.Memory, addr uint64, want ...byte) {
	t.Helper()
	if b, e := m.Read(addr, len(want)); !bytes.Equal(b, want) || e != api.OK {
		t.Errorf("at %#x: %x %v, want %x", addr, b, e, want)
	}
}

// Maps of each kind, small.
var (
	anArray = api.MapDef{Kind: api.Array, Key: 4, Value: 2, Max: 3}
	aHash   = api.MapDef{Kind: api.Hash, Key: 2, Value: 3, Max: 2}
	anLru   = api.MapDef{Kind: api.Lru, Key: 1, Value: 1, Max: 2}
	anLpm   = api.MapDef{Kind: api.Lpm, Key: 5, Value: 8, Max: 4}
)

func four(t *testing.T) (*Table, *mem.Memory) {
	t.Helper()
	m := mem.New()
	return made(t, m, anArray, aHash, anLru, anLpm), m
}

// farNumbers are neither a key's size nor a value's nor how many there may be; the low bits of some are.
var farNumbers = []int{math.MinInt, math.MinInt + 5, math.MinInt32, -64, -4, -1, 0, 65, 256, 257, 260, math.MaxInt32, 1<<32 + 1, 1<<32 + 4, 1<<32 + 5, math.MaxInt}

func TestExamples(t *testing.T) {
	m := mem.New()
	x := made(t, m, api.MapDef{Kind: api.Hash, Key: 1, Value: 2, Max: 2})
	updates(t, x, 0, []byte{7}, []byte{1, 2}, 0, api.OK)
	looks(t, x, 0, []byte{7}, api.ValueBase, api.OK)
	lies(t, m, api.ValueBase, 1, 2)
	updates(t, x, 0, []byte{8}, []byte{3, 4}, 0, api.OK)
	looks(t, x, 0, []byte{8}, api.ValueBase+4096, api.OK)
	lies(t, m, api.ValueBase+4096, 3, 4)
	updates(t, x, 0, []byte{9}, []byte{3, 4}, 0, api.ErrFull)
	deletes(t, x, 0, []byte{7}, api.OK)
	looks(t, x, 0, []byte{7}, 0, api.OK)
	dumps(t, x, 0, []byte{8}, []byte{3, 4})
	looks(t, x, 1, []byte{8}, 0, api.ErrNone)
	looks(t, x, 0, []byte{7, 7}, 0, api.ErrArg)
}

// P10.1

// mayBe: the chapter's words of a map, written out with those of the indexes.
func mayBe(d api.MapDef) bool {
	least, most := 1, 16
	switch d.Kind {
	case 0:
		least, most = 4, 4
	case 1, 2:
	case 3:
		least = 5
	default:
		return false
	}
	return d.Key >= least && d.Key <= most && d.Value >= 1 && d.Value <= 64 && d.Max >= 1 && d.Max <= 64
}

// stands: is the table that of these maps, and are the places of all their slots zeros that may be read and written?
func stands(t *testing.T, x *Table, m *mem.Memory, defs ...api.MapDef) {
	t.Helper()
	if x.Count() != len(defs) {
		t.Errorf("Count: %d, want %d", x.Count(), len(defs))
	}
	regions := 0
	for i, want := range defs {
		if d, ok := x.Def(i); d != want || !ok {
			t.Errorf("Def(%d): %v %v, want %v", i, d, ok, want)
		}
		regions += want.Max
		for s := range want.Max {
			isPlace(t, m, at(i, s), want.Value)
		}
	}
	if m.Count() != regions {
		t.Errorf("%d regions, want %d", m.Count(), regions)
	}
}

// isPlace: does a region of so many zeros lie there?
func isPlace(t *testing.T, m *mem.Memory, addr uint64, size int) {
	t.Helper()
	id, n, ok := m.Find(addr)
	b, e := m.Bytes(id)
	if n != 0 || !ok || e != api.OK || !bytes.Equal(b, make([]byte, size)) {
		t.Fatalf("at %#x: %d %v, %x %v, want %d zeros", addr, n, ok, b, e, size)
	}
	if v, e := m.Read(addr, size); e != api.OK {
		t.Errorf("at %#x: Read: %x %v", addr, v, e)
	}
	if e := m.Write(addr, b); e != api.OK {
		t.Errorf("at %#x: Write: %v", addr, e)
	}
}

func TestNewOfEachSize(t *testing.T) {
	for kind := api.MapKind(-2); kind <= 6; kind++ {
		for key := -1; key <= 18; key++ {
			for _, value := range []int{-1, 0, 1, 2, 8, 63, 64, 65} {
				for _, most := range []int{-1, 0, 1, 2, 3, 63, 64, 65} {
					d := api.MapDef{Kind: kind, Key: key, Value: value, Max: most}
					m := mem.New()
					if mayBe(d) {
						stands(t, made(t, m, d), m, d)
					} else if x, e := New(m, []api.MapDef{d}); x != nil || e != api.ErrArg || m.Count() != 0 {
						t.Errorf("New(%v): %v %v, %d regions", d, x, e, m.Count())
					}
				}
			}
		}
	}
}

func TestNewOfEveryValueAndMax(t *testing.T) {
	for n := 1; n <= 64; n++ {
		for kind, key := range []int{4, 16, 1, 16} {
			m := mem.New()
			d := api.MapDef{Kind: api.MapKind(kind), Key: key, Value: n, Max: 65 - n}
			stands(t, made(t, m, d), m, d)
		}
	}
}

func TestNewOfFarNumbers(t *testing.T) {
	m := mem.New()
	for _, n := range farNumbers {
		for kind, key := range []int{4, 4, 4, 5} {
			refuses(t, m, api.ErrArg, api.MapDef{Kind: api.MapKind(kind), Key: n, Value: 1, Max: 1})
			refuses(t, m, api.ErrArg, api.MapDef{Kind: api.MapKind(kind), Key: key, Value: n, Max: 1})
			refuses(t, m, api.ErrArg, api.MapDef{Kind: api.MapKind(kind), Key: key, Value: 1, Max: n})
		}
		if n != 0 {
			refuses(t, m, api.ErrArg, api.MapDef{Kind: api.MapKind(n), Key: 4, Value: 1, Max: 1})
		}
	}
}

func TestNewOfNoMaps(t *testing.T) {
	for _, defs := range [][]api.MapDef{nil, {}} {
		m := mem.New()
		x := made(t, m, defs...)
		stands(t, x, m)
		looks(t, x, 0, nil, 0, api.ErrNone)
		if d, ok := x.Def(0); d != (api.MapDef{}) || ok {
			t.Errorf("Def(0): %v %v", d, ok)
		}
	}
}

func TestNewOfManyMaps(t *testing.T) {
	kinds := []api.MapDef{anLpm, anLru, anArray, aHash}
	var defs []api.MapDef
	for n := range 8 {
		d := kinds[n%4]
		d.Value, d.Max = n+1, 64-n
		defs = append(defs, d)
		m := mem.New()
		stands(t, made(t, m, defs...), m, defs...)
	}
	for range 4 {
		defs = append(defs, anArray)
		refuses(t, mem.New(), api.ErrArg, defs...)
	}
	refuses(t, mem.New(), api.ErrArg, make([]api.MapDef, 500)...)
}

func TestNewOfTheGreatestMaps(t *testing.T) {
	m := mem.New()
	defs := slices.Repeat([]api.MapDef{{Kind: api.Hash, Key: 16, Value: 64, Max: 64}}, 8)
	stands(t, made(t, m, defs...), m, defs...)
}

func TestNewRefusesAnyOfTheMaps(t *testing.T) {
	wrong := []api.MapDef{
		{}, {Kind: api.Array, Key: 5, Value: 1, Max: 1}, {Kind: api.Array, Key: 3, Value: 1, Max: 1}, {Kind: api.Hash, Key: 17, Value: 1, Max: 1},
		{Kind: api.Lru, Key: 1, Value: 0, Max: 1}, {Kind: api.Lpm, Key: 4, Value: 1, Max: 1}, {Kind: api.Lpm, Key: 5, Value: 65, Max: 1}, {Kind: 4, Key: 4, Value: 1, Max: 1},
	}
	for _, d := range wrong {
		for i := range 8 {
			defs := slices.Repeat([]api.MapDef{aHash}, 8)
			defs[i] = d
			refuses(t, mem.New(), api.ErrArg, defs...)
		}
	}
}

func TestNewNamesTheFirstError(t *testing.T) {
	for _, defs := range [][]api.MapDef{nil, {anArray}, {{}}, make([]api.MapDef, 9)} {
		if x, e := New(nil, defs); x != nil || e != api.ErrNil {
			t.Errorf("New(nil, %v): %v %v", defs, x, e)
		}
	}
	m := mem.New()
	m.Add(at(0, 0), 1, both)
	refuses(t, m, api.ErrBusy, anArray)
	refuses(t, m, api.ErrArg, anArray, api.MapDef{})
	refuses(t, m, api.ErrArg, slices.Repeat([]api.MapDef{anArray}, 9)...)
}

func TestNewWhereAPlaceIsTaken(t *testing.T) {
	defs := []api.MapDef{anArray, aHash, anLru, anLpm}
	for i, d := range defs {
		for s := range d.Max {
			for n := range d.Value {
				m := mem.New()
				m.Add(at(i, s)+uint64(n), 1, 0)
				refuses(t, m, api.ErrBusy, defs...)
			}
		}
	}
	for _, base := range []uint64{at(0, 0) - 10, at(1, 1) - 10, at(3, 3) - 10} {
		m := mem.New()
		m.Add(base, 11, api.Fresh)
		refuses(t, m, api.ErrBusy, defs...)
		m = mem.New()
		m.Add(base, api.MaxRegion, both)
		refuses(t, m, api.ErrBusy, defs...)
	}
}

func TestNewBesideOtherRegions(t *testing.T) {
	m := mem.New()
	d := api.MapDef{Kind: api.Hash, Key: 1, Value: 5, Max: 2}
	for _, r := range []struct {
		base uint64
		size int
	}{{at(0, 0) - 7, 7}, {at(0, 0) + 5, 4091}, {at(0, 1) + 5, 1}, {at(0, 2), 64}, {at(1, 0) - 1, 1}, {at(1, 1) + 5, api.MaxRegion}, {at(2, 0), 9}, {at(0, 0) + 1<<63, 5}, {0, 1}} {
		if _, e := m.Add(r.base, r.size, both); e != api.OK {
			t.Fatalf("Add(%#x, %d): %v", r.base, r.size, e)
		}
	}
	refuses(t, m, api.ErrBusy, d, d, d)
	made(t, m, d, d)
	if m.Count() != 13 {
		t.Errorf("%d regions", m.Count())
	}
}

func TestNewOverATable(t *testing.T) {
	x, m := four(t)
	updates(t, x, 2, []byte{1}, []byte{9}, 0, api.OK)
	refuses(t, m, api.ErrBusy, anArray)
	refuses(t, m, api.ErrBusy, anArray, aHash, anLru, anLpm)
	lies(t, m, at(2, 0), 9)
}

// crowded: a memory with so many regions, the last of which lives no more.
func crowded(t *testing.T, n int) *mem.Memory {
	t.Helper()
	m := mem.New()
	for i := range n {
		if _, e := m.Add(uint64(i), 1, both); e != api.OK {
			t.Fatalf("region %d: %v", i, e)
		}
	}
	id, _ := m.Add(1<<40, 1, both)
	m.Kill(id)
	return m
}

func TestNewWhereThereIsNoRoom(t *testing.T) {
	for _, defs := range [][]api.MapDef{{anArray}, {anArray, aHash, anLru, anLpm}, slices.Repeat([]api.MapDef{{Kind: api.Lru, Key: 3, Value: 1, Max: 64}}, 8)} {
		need := 0
		for _, d := range defs {
			need += d.Max
		}
		for _, n := range []int{1, 2, need - 1, need} {
			refuses(t, crowded(t, api.MaxRegions-need+n), api.ErrBusy, defs...)
		}
		m := crowded(t, api.MaxRegions-need)
		made(t, m, defs...)
		if m.Count() != api.MaxRegions {
			t.Errorf("%d regions", m.Count())
		}
	}
	m := crowded(t, api.MaxRegions-1)
	m.Add(1<<41, 1, both)
	made(t, m)
}

func TestNewKeepsNoMaps(t *testing.T) {
	defs := []api.MapDef{anArray, aHash, anLru}
	m := mem.New()
	x := made(t, m, defs[:2]...)
	if !slices.Equal(defs, []api.MapDef{anArray, aHash, anLru}) {
		t.Errorf("they were changed: %v", defs)
	}
	clear(defs)
	stands(t, x, m, anArray, aHash)
	updates(t, x, 1, []byte{1, 2}, []byte{1, 2, 3}, 0, api.OK)
	refuses(t, m, api.ErrArg, defs...)
}

func TestDefOfNoMap(t *testing.T) {
	x, _ := four(t)
	for _, i := range []int{-1, 4, 5, 8, math.MinInt, math.MaxInt, 1 << 32, 1<<32 + 1, -1 << 32} {
		if d, ok := x.Def(i); d != (api.MapDef{}) || ok {
			t.Errorf("Def(%d): %v %v", i, d, ok)
		}
	}
}

// P10.2

func TestNil(t *testing.T) {
	var x *Table
	for _, i := range []int{0, 1, -1, math.MaxInt} {
		for _, key := range [][]byte{nil, {1}, {0, 0, 0, 0}} {
			looks(t, x, i, key, 0, api.ErrNil)
			updates(t, x, i, key, []byte{1}, 0, api.ErrNil)
			deletes(t, x, i, key, api.ErrNil)
			gets(t, x, i, key, nil, api.ErrNil)
		}
		if pairs, e := x.Dump(i); len(pairs) != 0 || e != api.ErrNil {
			t.Errorf("Dump(%d): %v %v", i, pairs, e)
		}
		if d, ok := x.Def(i); d != (api.MapDef{}) || ok {
			t.Errorf("Def(%d): %v %v", i, d, ok)
		}
	}
	if x.Count() != 0 {
		t.Errorf("Count: %d", x.Count())
	}
	if x.Copy(nil) != nil || x.Copy(mem.New()) != nil {
		t.Errorf("Copy of a nil Table")
	}
}

func TestNoSuchMap(t *testing.T) {
	x, m := four(t)
	was := m.Copy()
	for _, i := range []int{-1, 4, 5, 8, math.MinInt, math.MaxInt, 1 << 32, -1 << 32} {
		for _, key := range [][]byte{nil, {1}, {0, 0}, {0, 0, 0, 0}, {0, 0, 0, 0, 0}} {
			looks(t, x, i, key, 0, api.ErrNone)
			updates(t, x, i, key, []byte{1}, 9, api.ErrNone)
			deletes(t, x, i, key, api.ErrNone)
			gets(t, x, i, key, nil, api.ErrNone)
		}
		if pairs, e := x.Dump(i); len(pairs) != 0 || e != api.ErrNone {
			t.Errorf("Dump(%d): %v %v", i, pairs, e)
		}
	}
	same(t, m, was)
}

func TestKeysOfWrongSize(t *testing.T) {
	x, m := four(t)
	was := m.Copy()
	for i, d := range []api.MapDef{anArray, aHash, anLru, anLpm} {
		for n := range 20 {
			if n == d.Key {
				continue
			}
			key := make([]byte, n, 20)
			looks(t, x, i, key, 0, api.ErrArg)
			deletes(t, x, i, key, api.ErrArg)
			gets(t, x, i, key, nil, api.ErrArg)
			for flags := range uint64(4) {
				updates(t, x, i, key, make([]byte, d.Value), flags, api.ErrArg)
				updates(t, x, i, key, nil, flags, api.ErrArg)
			}
		}
	}
	for i := 1; i < 4; i++ {
		dumps(t, x, i)
	}
	same(t, m, was)
}

func TestValuesOfWrongSize(t *testing.T) {
	x, m := four(t)
	was := m.Copy()
	for i, d := range []api.MapDef{anArray, aHash, anLru, anLpm} {
		for n := range 70 {
			if n == d.Value {
				continue
			}
			for _, flags := range []uint64{0, 1, 2, 3, 1 << 32} {
				updates(t, x, i, make([]byte, d.Key), bytes.Repeat([]byte{1}, n), flags, api.ErrArg)
			}
		}
	}
	for i := 1; i < 4; i++ {
		dumps(t, x, i)
	}
	same(t, m, was)
}

func TestValuesOfWrongSizeTouchNoKey(t *testing.T) {
	x := made(t, mem.New(), anLru)
	updates(t, x, 0, []byte{1}, []byte{1}, 0, api.OK)
	updates(t, x, 0, []byte{2}, []byte{2}, 0, api.OK)
	updates(t, x, 0, []byte{1}, []byte{3, 4}, 0, api.ErrArg)
	updates(t, x, 0, []byte{1}, nil, 0, api.ErrArg)
	updates(t, x, 0, []byte{3}, []byte{3}, 0, api.OK)
	dumps(t, x, 0, []byte{3}, []byte{3}, []byte{2}, []byte{2})
}

func TestUpdateHasTheIndexsErrors(t *testing.T) {
	x, m := four(t)
	updates(t, x, 1, []byte{1, 0}, []byte{1, 1, 1}, 1, api.OK)
	updates(t, x, 1, []byte{2, 0}, []byte{2, 2, 2}, 0, api.OK)
	updates(t, x, 2, []byte{5}, []byte{5}, 0, api.OK)
	was := m.Copy()
	one, three, eight := []byte{9}, []byte{9, 9, 9}, bytes.Repeat([]byte{9}, 8)
	for _, flags := range []uint64{3, 4, 255, 256, 257, 1 << 32, 1<<32 + 1, math.MaxUint64} {
		updates(t, x, 0, []byte{0, 0, 0, 0}, []byte{9, 9}, flags, api.ErrFlags)
		updates(t, x, 1, []byte{1, 0}, three, flags, api.ErrFlags)
		updates(t, x, 2, []byte{5}, one, flags, api.ErrFlags)
		updates(t, x, 3, []byte{8, 0, 0, 0, 1}, eight, flags, api.ErrFlags)
		updates(t, x, 3, []byte{9, 0, 0, 0, 1}, eight, flags, api.ErrArg)
	}
	updates(t, x, 0, []byte{3, 0, 0, 0}, []byte{9, 9}, 0, api.ErrFull)
	updates(t, x, 0, []byte{0, 0, 0, 1}, []byte{9, 9}, 2, api.ErrFull)
	updates(t, x, 0, []byte{2, 0, 0, 0}, []byte{9, 9}, 1, api.ErrExist)
	updates(t, x, 1, []byte{3, 0}, three, 0, api.ErrFull)
	updates(t, x, 1, []byte{3, 0}, three, 1, api.ErrFull)
	updates(t, x, 1, []byte{3, 0}, three, 2, api.ErrNone)
	updates(t, x, 1, []byte{2, 0}, three, 1, api.ErrExist)
	updates(t, x, 2, []byte{5}, one, 1, api.ErrExist)
	updates(t, x, 2, []byte{6}, one, 2, api.ErrNone)
	updates(t, x, 3, []byte{0, 0, 0, 0, 0}, eight, 2, api.ErrNone)
	same(t, m, was)
}

func TestDeleteHasTheIndexsErrors(t *testing.T) {
	x, m := four(t)
	was := m.Copy()
	for n := range 4 {
		deletes(t, x, 0, []byte{byte(n), 0, 0, 0}, api.ErrArg)
	}
	deletes(t, x, 1, []byte{0, 0}, api.ErrNone)
	deletes(t, x, 2, []byte{0}, api.ErrNone)
	deletes(t, x, 3, []byte{0, 0, 0, 0, 0}, api.ErrNone)
	deletes(t, x, 3, []byte{9, 0, 0, 0, 0}, api.ErrArg)
	dumps(t, x, 0, []byte{0, 0, 0, 0}, []byte{0, 0}, []byte{1, 0, 0, 0}, []byte{0, 0}, []byte{2, 0, 0, 0}, []byte{0, 0})
	same(t, m, was)
}

// numbered: a key of the map that no other number below 64 has, of the greatest length for a map of prefixes.
func numbered(d api.MapDef, n int) []byte {
	key := make([]byte, d.Key)
	switch d.Kind {
	case api.Array:
		key[0] = byte(n)
	case api.Lpm:
		key[0], key[d.Key-1] = byte(8*(d.Key-4)), byte(n)
	default:
		key[d.Key-1] = byte(n)
	}
	return key
}

// valued: a value of the map that tells a number.
func valued(d api.MapDef, n int) []byte {
	return bytes.Repeat([]byte{byte(n + 1)}, d.Value)
}

func TestPlacesOfAllSlots(t *testing.T) {
	var defs []api.MapDef
	for n := range 8 {
		defs = append(defs, api.MapDef{Kind: api.MapKind(n % 4), Key: []int{4, 1, 16, 5}[n%4], Value: []int{1, 8, 63, 64, 64, 3, 2, 1}[n], Max: 64})
	}
	m := mem.New()
	x := made(t, m, defs...)
	for i, d := range defs {
		for n := range d.Max {
			updates(t, x, i, numbered(d, n), valued(d, n^i), 0, api.OK)
		}
	}
	for i, d := range defs {
		var want [][]byte
		for n := range d.Max {
			looks(t, x, i, numbered(d, n), at(i, n), api.OK)
			lies(t, m, at(i, n), valued(d, n^i)...)
			gets(t, x, i, numbered(d, n), valued(d, n^i), api.OK)
			want = append(want, numbered(d, n), valued(d, n^i))
		}
		dumps(t, x, i, want...)
	}
}

func TestArraysHaveTheirKeysFromTheFirst(t *testing.T) {
	x, _ := four(t)
	for n := range 3 {
		looks(t, x, 0, []byte{byte(n), 0, 0, 0}, at(0, n), api.OK)
		gets(t, x, 0, []byte{byte(n), 0, 0, 0}, []byte{0, 0}, api.OK)
	}
	for _, key := range [][]byte{{3, 0, 0, 0}, {0, 1, 0, 0}, {0, 0, 0, 1}, {255, 255, 255, 255}} {
		looks(t, x, 0, key, 0, api.OK)
		gets(t, x, 0, key, nil, api.ErrNone)
	}
	updates(t, x, 0, []byte{2, 0, 0, 0}, []byte{7, 8}, 2, api.OK)
	gets(t, x, 0, []byte{2, 0, 0, 0}, []byte{7, 8}, api.OK)
	dumps(t, x, 0, []byte{0, 0, 0, 0}, []byte{0, 0}, []byte{1, 0, 0, 0}, []byte{0, 0}, []byte{2, 0, 0, 0}, []byte{7, 8})
}

func TestHashesHoldWhatIsPut(t *testing.T) {
	x, m := four(t)
	a, b := []byte{1, 2}, []byte{2, 1}
	looks(t, x, 1, a, 0, api.OK)
	gets(t, x, 1, a, nil, api.ErrNone)
	updates(t, x, 1, a, []byte{1, 2, 3}, 1, api.OK)
	updates(t, x, 1, b, []byte{4, 5, 6}, 0, api.OK)
	updates(t, x, 1, a, []byte{7, 8, 9}, 2, api.OK)
	lies(t, m, at(1, 0), 7, 8, 9)
	lies(t, m, at(1, 1), 4, 5, 6)
	gets(t, x, 1, a, []byte{7, 8, 9}, api.OK)
	gets(t, x, 1, []byte{1, 1}, nil, api.ErrNone)
}

func TestDeleteLeavesThePlace(t *testing.T) {
	for kind := api.Hash; kind <= api.Lpm; kind++ {
		m := mem.New()
		d := api.MapDef{Kind: kind, Key: 5, Value: 2, Max: 2}
		x := made(t, m, d)
		updates(t, x, 0, numbered(d, 0), []byte{1, 2}, 0, api.OK)
		updates(t, x, 0, numbered(d, 1), []byte{3, 4}, 0, api.OK)
		deletes(t, x, 0, numbered(d, 0), api.OK)
		lies(t, m, at(0, 0), 1, 2)
		looks(t, x, 0, numbered(d, 0), 0, api.OK)
		gets(t, x, 0, numbered(d, 0), nil, api.ErrNone)
		deletes(t, x, 0, numbered(d, 0), api.ErrNone)
		if m.Count() != 2 {
			t.Errorf("%d regions", m.Count())
		}
		updates(t, x, 0, numbered(d, 2), []byte{5, 6}, 0, api.OK)
		looks(t, x, 0, numbered(d, 2), at(0, 0), api.OK)
		looks(t, x, 0, numbered(d, 1), at(0, 1), api.OK)
		lies(t, m, at(0, 0), 5, 6)
	}
}

// oldest: of a full map of two, does this key's touch lie longest ago?
func oldest(t *testing.T, x *Table, slot int) {
	t.Helper()
	c := x.Copy(x.memory.Copy())
	updates(t, c, 0, []byte{99}, []byte{0}, 0, api.OK)
	looks(t, c, 0, []byte{99}, at(0, slot), api.OK)
}

func TestLruTouches(t *testing.T) {
	x := made(t, mem.New(), anLru)
	a, b := []byte{1}, []byte{2}
	updates(t, x, 0, a, []byte{1}, 0, api.OK)
	updates(t, x, 0, b, []byte{2}, 0, api.OK)
	oldest(t, x, 0)
	looks(t, x, 0, a, at(0, 0), api.OK)
	oldest(t, x, 1)
	gets(t, x, 0, b, []byte{2}, api.OK)
	oldest(t, x, 0)
	dumps(t, x, 0, a, []byte{1}, b, []byte{2})
	oldest(t, x, 0)
	updates(t, x, 0, a, []byte{9}, 1, api.ErrExist)
	oldest(t, x, 0)
	updates(t, x, 0, a, []byte{9}, 2, api.OK)
	oldest(t, x, 1)
	dumps(t, x, 0, a, []byte{9}, b, []byte{2})
	oldest(t, x, 1)
}

func TestLruForgets(t *testing.T) {
	x, m := four(t)
	for n := range 7 {
		updates(t, x, 2, []byte{byte(n)}, []byte{byte(10 + n)}, 1, api.OK)
		looks(t, x, 2, []byte{byte(n)}, at(2, n%2), api.OK)
		lies(t, m, at(2, n%2), byte(10+n))
	}
	looks(t, x, 2, []byte{4}, 0, api.OK)
	gets(t, x, 2, []byte{4}, nil, api.ErrNone)
	dumps(t, x, 2, []byte{6}, []byte{16}, []byte{5}, []byte{15})
}

func TestLpmFindsTheLongest(t *testing.T) {
	x := made(t, mem.New(), api.MapDef{Kind: api.Lpm, Key: 5, Value: 1, Max: 4})
	updates(t, x, 0, []byte{4, 0, 0, 0, 0xaf}, []byte{1}, 0, api.OK)
	updates(t, x, 0, []byte{0, 0, 0, 0, 0}, []byte{2}, 0, api.OK)
	gets(t, x, 0, []byte{8, 0, 0, 0, 0xa1}, []byte{1}, api.OK)
	gets(t, x, 0, []byte{8, 0, 0, 0, 0xb0}, []byte{2}, api.OK)
	gets(t, x, 0, []byte{9, 0, 0, 0, 0xa1}, nil, api.ErrNone)
	looks(t, x, 0, []byte{9, 0, 0, 0, 0xa1}, 0, api.OK)
	updates(t, x, 0, []byte{8, 0, 0, 0, 0xa1}, []byte{3}, 0, api.OK)
	updates(t, x, 0, []byte{4, 0, 0, 0, 0xa0}, []byte{4}, 2, api.OK)
	looks(t, x, 0, []byte{8, 0, 0, 0, 0xa1}, at(0, 2), api.OK)
	deletes(t, x, 0, []byte{0, 0, 0, 0, 0xff}, api.OK)
	looks(t, x, 0, []byte{8, 0, 0, 0, 0xb0}, 0, api.OK)
	dumps(t, x, 0, []byte{4, 0, 0, 0, 0xa0}, []byte{4}, []byte{8, 0, 0, 0, 0xa1}, []byte{3})
}

func TestValuesAreTheMemorys(t *testing.T) {
	x, m := four(t)
	updates(t, x, 1, []byte{1, 1}, []byte{1, 2, 3}, 0, api.OK)
	if e := m.Store(at(1, 0)+1, 2, 0x0908); e != api.OK {
		t.Fatal(e)
	}
	gets(t, x, 1, []byte{1, 1}, []byte{1, 8, 9}, api.OK)
	dumps(t, x, 1, []byte{1, 1}, []byte{1, 8, 9})
	m.Store(at(0, 2), 1, 5)
	gets(t, x, 0, []byte{2, 0, 0, 0}, []byte{5, 0}, api.OK)
}

func TestTablesAreApart(t *testing.T) {
	x, _ := four(t)
	y, _ := four(t)
	updates(t, x, 2, []byte{1}, []byte{1}, 0, api.OK)
	looks(t, y, 2, []byte{1}, 0, api.OK)
	updates(t, y, 2, []byte{2}, []byte{2}, 0, api.OK)
	gets(t, x, 2, []byte{1}, []byte{1}, api.OK)
	dumps(t, y, 2, []byte{2}, []byte{2})
}

func TestMapsOfATableAreApart(t *testing.T) {
	m := mem.New()
	x := made(t, m, anLru, anLru)
	updates(t, x, 1, []byte{1}, []byte{1}, 0, api.OK)
	looks(t, x, 0, []byte{1}, 0, api.OK)
	updates(t, x, 0, []byte{1}, []byte{2}, 0, api.OK)
	gets(t, x, 1, []byte{1}, []byte{1}, api.OK)
	deletes(t, x, 0, []byte{1}, api.OK)
	dumps(t, x, 0)
	dumps(t, x, 1, []byte{1}, []byte{1})
}

// What has no place any more, since somebody took its region out of the memory, is told by the memory's error.
func TestKilledPlaces(t *testing.T) {
	x, m := four(t)
	updates(t, x, 1, []byte{1, 1}, []byte{1, 2, 3}, 0, api.OK)
	id, _, _ := m.Find(at(1, 0))
	m.Kill(id)
	gets(t, x, 1, []byte{1, 1}, nil, api.ErrAccess)
	updates(t, x, 1, []byte{1, 1}, []byte{1, 2, 3}, 0, api.ErrAccess)
	if pairs, e := x.Dump(1); len(pairs) != 0 || e != api.ErrAccess {
		t.Errorf("Dump: %v %v", pairs, e)
	}
}

func TestWhatIsHandedInIsLeft(t *testing.T) {
	x, _ := four(t)
	whole := []byte{2, 0, 0, 0, 5, 6, 7, 8, 0xaa, 0xbb}
	was := bytes.Clone(whole)
	for i, d := range []api.MapDef{anArray, aHash, anLru, anLpm} {
		for n := range len(whole) + 1 {
			key, value := whole[:n], whole[10-d.Value:10-d.Value+d.Value:10]
			for flags := range uint64(4) {
				x.Update(i, key, value, flags)
				x.Update(i, key, key, flags)
			}
			x.Lookup(i, key)
			x.Get(i, key)
			x.Dump(i)
			x.Delete(i, key)
			if !bytes.Equal(whole, was) {
				t.Fatalf("map %d, %d bytes: %x", i, n, whole)
			}
		}
	}
}

func TestWhatIsHandedInIsNotKept(t *testing.T) {
	for kind := api.Hash; kind <= api.Lpm; kind++ {
		d := api.MapDef{Kind: kind, Key: 5, Value: 2, Max: 2}
		x := made(t, mem.New(), d)
		key, value := append(numbered(d, 1), 1, 2), []byte{1, 2, 3}
		updates(t, x, 0, key[:5], value[:2], 0, api.OK)
		clear(key)
		clear(value)
		dumps(t, x, 0, numbered(d, 1), []byte{1, 2})
		gets(t, x, 0, numbered(d, 1), []byte{1, 2}, api.OK)
	}
}

// P10.3

func TestDumpIsBySlots(t *testing.T) {
	for kind := api.Hash; kind <= api.Lpm; kind++ {
		d := api.MapDef{Kind: kind, Key: 5, Value: 3, Max: 64}
		x := made(t, mem.New(), anLpm, d)
		dumps(t, x, 1)
		for n := range 64 {
			updates(t, x, 1, numbered(d, 199-3*n), valued(d, n), 0, api.OK)
		}
		for n := range 64 {
			looks(t, x, 1, numbered(d, 199-3*(63-n)), at(1, 63-n), api.OK)
		}
		var want [][]byte
		for n := range 64 {
			if n%5 == 0 || n > 60 {
				deletes(t, x, 1, numbered(d, 199-3*n), api.OK)
				continue
			}
			want = append(want, numbered(d, 199-3*n), valued(d, n))
		}
		dumps(t, x, 1, want...)
		updates(t, x, 1, numbered(d, 7), valued(d, 7), 0, api.OK)
		dumps(t, x, 1, append([][]byte{numbered(d, 7), valued(d, 7)}, want...)...)
		dumps(t, x, 0)
	}
}

func TestDumpTouchesNone(t *testing.T) {
	d := api.MapDef{Kind: api.Lru, Key: 1, Value: 1, Max: 5}
	x := made(t, mem.New(), d)
	for n := range 5 {
		updates(t, x, 0, []byte{byte(n)}, []byte{byte(n)}, 0, api.OK)
	}
	for _, n := range []int{3, 1, 4, 0, 2} {
		gets(t, x, 0, []byte{byte(n)}, []byte{byte(n)}, api.OK)
	}
	for i, n := range []int{3, 1, 4, 0, 2} {
		x.Dump(0)
		x.Dump(0)
		updates(t, x, 0, []byte{byte(50 + i)}, []byte{9}, 0, api.OK)
		looks(t, x, 0, []byte{byte(50 + i)}, at(0, n), api.OK)
	}
}

// spoil a list and its spare room.
func spoil(b []byte) {
	for i := range b[:cap(b)] {
		b[:cap(b)][i] ^= 0xee
	}
}

func TestAnswersAreNewMemory(t *testing.T) {
	x, m := four(t)
	updates(t, x, 0, []byte{1, 0, 0, 0}, []byte{1, 2}, 0, api.OK)
	for i, d := range []api.MapDef{anArray, aHash, anLru, anLpm} {
		for n := range d.Max {
			updates(t, x, i, numbered(d, n), valued(d, n), 0, api.OK)
		}
		was := m.Copy()
		pairs, _ := x.Dump(i)
		for n, p := range pairs {
			v, _ := x.Get(i, numbered(d, n))
			spoil(v)
			spoil(p.Key)
			if !bytes.Equal(p.Value, valued(d, n)) {
				t.Errorf("map %d: value %d shares with another list: %x", i, n, p.Value)
			}
			spoil(p.Value)
			if n+1 < len(pairs) && !bytes.Equal(pairs[n+1].Key, numbered(d, n+1)) {
				t.Errorf("map %d: key %d shares with another list: %x", i, n+1, pairs[n+1].Key)
			}
		}
		clear(pairs[:cap(pairs)])
		for n := range d.Max {
			gets(t, x, i, numbered(d, n), valued(d, n), api.OK)
		}
		if pairs, _ := x.Dump(i); len(pairs) != d.Max {
			t.Errorf("map %d: %v", i, pairs)
		}
		same(t, m, was)
	}
}

// P10.4

func TestCopyOverNoMemory(t *testing.T) {
	x, _ := four(t)
	if c := x.Copy(nil); c != nil {
		t.Errorf("Copy(nil): %v", c)
	}
	dumps(t, x, 1)
}

func TestCopy(t *testing.T) {
	defs := []api.MapDef{anArray, aHash, anLru, anLpm}
	x, m := four(t)
	for i, d := range defs {
		for n := range d.Max {
			updates(t, x, i, numbered(d, n), valued(d, n+i), 0, api.OK)
		}
	}
	other := m.Copy()
	c := x.Copy(other)
	if c == nil || c == x || c.Count() != 4 {
		t.Fatalf("Copy: %p of %p", c, x)
	}
	same(t, other, m)
	for i, d := range defs {
		if got, ok := c.Def(i); got != d || !ok {
			t.Errorf("Def(%d): %v %v", i, got, ok)
		}
		for n := range d.Max {
			looks(t, c, i, numbered(d, n), at(i, n), api.OK)
			gets(t, c, i, numbered(d, n), valued(d, n+i), api.OK)
		}
	}
	looks(t, c, 4, nil, 0, api.ErrNone)
	updates(t, c, 1, []byte{9, 9}, []byte{1, 2, 3}, 0, api.ErrFull)
	lies(t, other, at(3, 2), valued(anLpm, 5)...)
}

func TestCopySharesNothing(t *testing.T) {
	for kind := api.Hash; kind <= api.Lpm; kind++ {
		d := api.MapDef{Kind: kind, Key: 5, Value: 1, Max: 3}
		m := mem.New()
		x := made(t, m, d)
		updates(t, x, 0, numbered(d, 0), []byte{1}, 0, api.OK)
		updates(t, x, 0, numbered(d, 1), []byte{2}, 0, api.OK)
		other := m.Copy()
		c := x.Copy(other)
		updates(t, c, 0, numbered(d, 0), []byte{3}, 0, api.OK)
		updates(t, c, 0, numbered(d, 9), []byte{4}, 0, api.OK)
		deletes(t, c, 0, numbered(d, 1), api.OK)
		dumps(t, x, 0, numbered(d, 0), []byte{1}, numbered(d, 1), []byte{2})
		dumps(t, c, 0, numbered(d, 0), []byte{3}, numbered(d, 9), []byte{4})
		lies(t, m, at(0, 0), 1)
		lies(t, m, at(0, 2), 0)
		lies(t, other, at(0, 0), 3)
		deletes(t, x, 0, numbered(d, 0), api.OK)
		updates(t, x, 0, numbered(d, 8), []byte{5}, 0, api.OK)
		dumps(t, x, 0, numbered(d, 8), []byte{5}, numbered(d, 1), []byte{2})
		dumps(t, c, 0, numbered(d, 0), []byte{3}, numbered(d, 9), []byte{4})
	}
}

func TestCopyOfArraysSharesNoValues(t *testing.T) {
	x, m := four(t)
	c := x.Copy(m.Copy())
	updates(t, c, 0, []byte{1, 0, 0, 0}, []byte{1, 2}, 0, api.OK)
	gets(t, x, 0, []byte{1, 0, 0, 0}, []byte{0, 0}, api.OK)
	updates(t, x, 0, []byte{2, 0, 0, 0}, []byte{3, 4}, 0, api.OK)
	gets(t, c, 0, []byte{2, 0, 0, 0}, []byte{0, 0}, api.OK)
	updates(t, c, 0, []byte{3, 0, 0, 0}, []byte{3, 4}, 0, api.ErrFull)
}

func TestCopySharesNoTouches(t *testing.T) {
	x := made(t, mem.New(), anLru)
	updates(t, x, 0, []byte{1}, []byte{1}, 0, api.OK)
	updates(t, x, 0, []byte{2}, []byte{2}, 0, api.OK)
	gets(t, x, 0, []byte{1}, []byte{1}, api.OK)
	c := x.Copy(x.memory.Copy())
	oldest(t, c, 1)
	gets(t, c, 0, []byte{2}, []byte{2}, api.OK)
	oldest(t, x, 1)
	oldest(t, c, 0)
}
