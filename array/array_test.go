package array

import (
	"bytes"
	"math"
	"slices"
	"testing"

	"postern/api"
)

// key of a number, as the chapter has it: the lowest byte first.
func key(n uint32) []byte {
	return []byte{byte(n), byte(n >> 8), byte(n >> 16), byte(n >> 24)}
}

func made(t *testing.T, max int) *Index {
	t.Helper()
	x, e := New(max)
	if x == nil || e != api.OK {
		t.Fatalf("New(%d): %v %v", max, x, e)
	}
	return x
}

func finds(t *testing.T, x *Index, key []byte, slot int, ok bool) {
	t.Helper()
	if s, o := x.Find(key); s != slot || o != ok {
		t.Errorf("Find(%x): %d %v, want %d %v", key, s, o, slot, ok)
	}
}

func puts(t *testing.T, x *Index, key []byte, flags uint64, slot int, want api.Errno) {
	t.Helper()
	if s, isNew, e := x.Put(key, flags); s != slot || isNew || e != want {
		t.Errorf("Put(%x, %d): %d %v %v, want %d false %v", key, flags, s, isNew, e, slot, want)
	}
}

func deletes(t *testing.T, x *Index, key []byte, want api.Errno) {
	t.Helper()
	if s, e := x.Del(key); s != 0 || e != want {
		t.Errorf("Del(%x): %d %v, want 0 %v", key, s, e, want)
	}
}

// holds the numbers below max, and tells them, and nothing else.
func holds(t *testing.T, x *Index, max int) {
	t.Helper()
	keys := x.Keys()
	if len(keys) != max {
		t.Fatalf("Keys: %d, want %d", len(keys), max)
	}
	for i, k := range keys {
		if !bytes.Equal(k, key(uint32(i))) {
			t.Errorf("key %d: %x", i, k)
		}
		finds(t, x, k, i, true)
	}
	finds(t, x, key(uint32(max)), 0, false)
}

// wrongKeys haven't four bytes; one begins as a held key does.
var wrongKeys = [][]byte{nil, {}, {0}, {0, 0, 0}, {0, 0, 0, 0, 0}, make([]byte, 8), make([]byte, 100)}

// farNumbers are above every max; the low bits of some are held.
var farNumbers = []uint32{api.MaxEntries, 255, 256, 257, 1 << 16, 1<<16 + 1, 1 << 24, 1<<24 + 2, math.MaxInt32, 1 << 31, 1<<31 + 1, math.MaxUint32 - 1, math.MaxUint32}

func TestExamples(t *testing.T) {
	x := made(t, 3)
	finds(t, x, []byte{2, 0, 0, 0}, 2, true)
	finds(t, x, []byte{3, 0, 0, 0}, 0, false)
	puts(t, x, []byte{2, 0, 0, 0}, 1, 0, api.ErrExist)
	puts(t, x, []byte{9, 0, 0, 0}, 0, 0, api.ErrFull)
	deletes(t, x, []byte{2, 0, 0, 0}, api.ErrArg)
}

// P6.1

func TestNew(t *testing.T) {
	for max := -3; max <= api.MaxEntries+3; max++ {
		x, e := New(max)
		if max < 1 || max > api.MaxEntries {
			if x != nil || e != api.ErrArg {
				t.Errorf("New(%d): %v %v", max, x, e)
			}
			continue
		}
		if x == nil || e != api.OK {
			t.Fatalf("New(%d): %v %v", max, x, e)
		}
		holds(t, x, max)
	}
}

func TestNewOfFarNumbers(t *testing.T) {
	for _, max := range []int{math.MinInt, math.MinInt + 1, math.MinInt32, -api.MaxEntries, 257, math.MaxInt32, math.MaxInt - 1, math.MaxInt} {
		if x, e := New(max); x != nil || e != api.ErrArg {
			t.Errorf("New(%d): %v %v", max, x, e)
		}
	}
}

// P6.2

func TestFind(t *testing.T) {
	for max := 1; max <= api.MaxEntries; max++ {
		x := made(t, max)
		for n := range 300 {
			if n < max {
				finds(t, x, key(uint32(n)), n, true)
			} else {
				finds(t, x, key(uint32(n)), 0, false)
			}
		}
	}
}

func TestFindTakesAllFourBytes(t *testing.T) {
	for _, max := range []int{1, 3, api.MaxEntries} {
		x := made(t, max)
		for _, n := range farNumbers {
			finds(t, x, key(n), 0, false)
		}
		finds(t, x, []byte{0, 1, 0, 0}, 0, false)
		finds(t, x, []byte{0, 0, 1, 0}, 0, false)
		finds(t, x, []byte{0, 0, 0, 1}, 0, false)
		finds(t, x, []byte{0, 0, 0, 0x80}, 0, false)
	}
}

func TestFindOfWrongKeys(t *testing.T) {
	x := made(t, api.MaxEntries)
	for _, k := range wrongKeys {
		finds(t, x, k, 0, false)
	}
	finds(t, x, []byte{1, 0, 0}, 0, false)
	finds(t, x, []byte{1, 0, 0, 0, 0}, 0, false)
}

// P6.3

func TestPut(t *testing.T) {
	for _, max := range []int{1, 2, 3, api.MaxEntries} {
		x := made(t, max)
		for n := range max {
			puts(t, x, key(uint32(n)), api.AnyKey, n, api.OK)
			puts(t, x, key(uint32(n)), api.NoExist, 0, api.ErrExist)
			puts(t, x, key(uint32(n)), api.Exist, n, api.OK)
		}
		holds(t, x, max)
	}
}

func TestPutOfWhatIsNotHeld(t *testing.T) {
	for _, max := range []int{1, 3, api.MaxEntries} {
		x := made(t, max)
		for _, n := range append([]uint32{uint32(max)}, farNumbers...) {
			for flags := range uint64(3) {
				puts(t, x, key(n), flags, 0, api.ErrFull)
			}
		}
		holds(t, x, max)
	}
}

func TestPutNamesTheFirstError(t *testing.T) {
	x := made(t, 3)
	for _, flags := range []uint64{3, 4, 5, 1 << 32, 1<<32 + 1, 1 << 63, 1<<63 + 2, math.MaxUint64} {
		puts(t, x, key(2), flags, 0, api.ErrFlags)
		puts(t, x, key(3), flags, 0, api.ErrFlags)
		puts(t, x, key(math.MaxUint32), flags, 0, api.ErrFlags)
		for _, k := range wrongKeys {
			puts(t, x, k, flags, 0, api.ErrArg)
		}
	}
	for flags := range uint64(3) {
		for _, k := range wrongKeys {
			puts(t, x, k, flags, 0, api.ErrArg)
		}
	}
	holds(t, x, 3)
}

func TestDel(t *testing.T) {
	x := made(t, 3)
	for n := range uint32(5) {
		deletes(t, x, key(n), api.ErrArg)
	}
	for _, k := range wrongKeys {
		deletes(t, x, k, api.ErrArg)
	}
	holds(t, x, 3)
	puts(t, x, key(2), api.Exist, 2, api.OK)
}

// P6.4

func TestKeys(t *testing.T) {
	for max := 1; max <= api.MaxEntries; max++ {
		x := made(t, max)
		for range 2 {
			holds(t, x, max)
		}
	}
	want := [][]byte{{0, 0, 0, 0}, {1, 0, 0, 0}, {2, 0, 0, 0}}
	if keys := made(t, 3).Keys(); !slices.EqualFunc(keys, want, bytes.Equal) {
		t.Errorf("Keys: %x", keys)
	}
}

// P6.5

func TestNil(t *testing.T) {
	var x *Index
	for _, k := range append([][]byte{key(0), key(9)}, wrongKeys...) {
		finds(t, x, k, 0, false)
		for _, flags := range []uint64{0, 1, 2, 3, math.MaxUint64} {
			puts(t, x, k, flags, 0, api.ErrNil)
		}
		deletes(t, x, k, api.ErrNil)
	}
	if keys := x.Keys(); len(keys) != 0 {
		t.Errorf("Keys: %x", keys)
	}
	if c := x.Copy(); c != nil {
		t.Errorf("Copy: %v", c)
	}
}

func TestCopy(t *testing.T) {
	for max := 1; max <= api.MaxEntries; max++ {
		x := made(t, max)
		c := x.Copy()
		if c == nil || c == x {
			t.Fatalf("Copy of %d: %p of %p", max, c, x)
		}
		holds(t, c, max)
		holds(t, c.Copy(), max)
		puts(t, c, key(0), api.AnyKey, 0, api.OK)
		puts(t, c, key(uint32(max)), api.AnyKey, 0, api.ErrFull)
		deletes(t, c, key(0), api.ErrArg)
		holds(t, x, max)
	}
}

func TestCopySharesNoKeys(t *testing.T) {
	x := made(t, 3)
	c := x.Copy()
	overwrite(x.Keys())
	holds(t, c, 3)
	overwrite(c.Keys())
	holds(t, x, 3)
	holds(t, c, 3)
}

// overwrite a list of keys and its spare room.
func overwrite(keys [][]byte) {
	for _, k := range keys {
		for i := range k[:cap(k)] {
			k[:cap(k)][i] = 0xee
		}
	}
	clear(keys[:cap(keys)])
}

func TestKeysAreNewMemory(t *testing.T) {
	x := made(t, api.MaxEntries)
	old := x.Keys()
	overwrite(x.Keys())
	for i, k := range old {
		if !bytes.Equal(k, key(uint32(i))) {
			t.Errorf("key %d became %x", i, k)
		}
	}
	holds(t, x, api.MaxEntries)

	for i := range old {
		overwrite(old[i : i+1 : i+1])
		for j := i + 1; j < len(old); j++ {
			if !bytes.Equal(old[j], key(uint32(j))) {
				t.Fatalf("keys %d and %d share memory", i, j)
			}
		}
	}
}

func TestKeysHandedInAreLeft(t *testing.T) {
	x := made(t, 3)
	whole := []byte{1, 0, 0, 0, 0xaa, 0xbb}
	for _, n := range []int{0, 3, 4, 5, 6} {
		k := whole[:n]
		x.Find(k)
		for flags := range uint64(4) {
			x.Put(k, flags)
		}
		x.Del(k)
		if !bytes.Equal(whole, []byte{1, 0, 0, 0, 0xaa, 0xbb}) {
			t.Fatalf("a key of %d bytes was changed: %x", n, whole)
		}
	}
	puts(t, x, whole[:4], api.AnyKey, 1, api.OK)
	whole[0] = 2
	finds(t, x, whole[:4], 2, true)
	holds(t, x, 3)
}
