package lru

import (
	"bytes"
	"math"
	"slices"
	"testing"

	"postern/api"
)

func made(t *testing.T, size, max int) *Index {
	t.Helper()
	x, e := New(size, max)
	if x == nil || e != api.OK {
		t.Fatalf("New(%d, %d): %v %v", size, max, x, e)
	}
	return x
}

func finds(t *testing.T, x *Index, key []byte, slot int, ok bool) {
	t.Helper()
	if s, o := x.Find(key); s != slot || o != ok {
		t.Errorf("Find(%x): %d %v, want %d %v", key, s, o, slot, ok)
	}
}

func puts(t *testing.T, x *Index, key []byte, flags uint64, slot int, isNew bool) {
	t.Helper()
	if s, n, e := x.Put(key, flags); s != slot || n != isNew || e != api.OK {
		t.Errorf("Put(%x, %d): %d %v %v, want %d %v", key, flags, s, n, e, slot, isNew)
	}
}

func refuses(t *testing.T, x *Index, key []byte, flags uint64, want api.Errno) {
	t.Helper()
	if s, n, e := x.Put(key, flags); s != 0 || n || e != want {
		t.Errorf("Put(%x, %d): %d %v %v, want 0 false %v", key, flags, s, n, e, want)
	}
}

func deletes(t *testing.T, x *Index, key []byte, slot int, want api.Errno) {
	t.Helper()
	if s, e := x.Del(key); s != slot || e != want {
		t.Errorf("Del(%x): %d %v, want %d %v", key, s, e, slot, want)
	}
}

// holds these keys by their slots, nil where none has the slot, and tells them, and nothing else. A copy is asked, as asking touches.
func holds(t *testing.T, x *Index, want ...[]byte) {
	t.Helper()
	var held [][]byte
	c := x.Copy()
	for slot, key := range want {
		if key != nil {
			held = append(held, key)
			finds(t, c, key, slot, true)
		}
	}
	if keys := x.Keys(); !slices.EqualFunc(keys, held, bytes.Equal) {
		t.Errorf("Keys: %x, want %x", keys, held)
	}
}

// forgets, as long as new keys come, these slots' keys, one after another: a full index's slots, that of the key that was touched longest ago first. A copy is filled.
func forgets(t *testing.T, x *Index, slots ...int) {
	t.Helper()
	c := x.Copy()
	for i, slot := range slots {
		puts(t, c, fresh(c.size, i), api.AnyKey, slot, true)
	}
}

// numbered: a key of that size which no other number has, as long as size and number are small; its first byte is the number's.
func numbered(size, n int) []byte {
	key := make([]byte, size)
	for i := range key {
		key[i] = byte(n >> (8 * i))
	}
	return key
}

// fresh: a key that no number below 128 has.
func fresh(size, n int) []byte {
	return numbered(size, 128+n)
}

// filled: an index of max keys, numbered from 0 on, each at its number's slot, and touched in that order.
func filled(t *testing.T, size, max int) (*Index, [][]byte) {
	t.Helper()
	x := made(t, size, max)
	var keys [][]byte
	for n := range max {
		keys = append(keys, numbered(size, n))
		puts(t, x, keys[n], api.AnyKey, n, true)
	}
	return x, keys
}

// wrongKeys haven't two bytes; some begin as a held key does.
var wrongKeys = [][]byte{nil, {}, {0}, {1}, {0, 0, 0}, {0, 1, 0}, make([]byte, api.MaxKey), make([]byte, 17), make([]byte, 300)}

// wrongFlags are above Exist; the low bits of some aren't.
var wrongFlags = []uint64{3, 4, 5, 6, 255, 256, 257, 258, 1 << 32, 1<<32 + 1, 1<<32 + 2, 1 << 63, 1<<63 + 1, math.MaxUint64}

// farNumbers are neither a size nor a max; the low bits of some are.
var farNumbers = []int{math.MinInt, math.MinInt + 1, math.MinInt32, -65, -64, -16, -1, 0, 65, 256, 257, math.MaxInt32, 1<<32 + 1, math.MaxInt - 1, math.MaxInt}

func TestExamples(t *testing.T) {
	x := made(t, 1, 2)
	a, b, c := []byte("a"), []byte("b"), []byte("c")
	puts(t, x, a, 0, 0, true)
	puts(t, x, b, 0, 1, true)
	finds(t, x, a, 0, true)
	puts(t, x, c, 0, 1, true)
	finds(t, x, b, 0, false)
	holds(t, x, a, c)
}

// P8.1

func TestNew(t *testing.T) {
	for size := -2; size <= api.MaxKey+2; size++ {
		for max := -2; max <= api.MaxEntries+2; max++ {
			x, e := New(size, max)
			if size < 1 || size > api.MaxKey || max < 1 || max > api.MaxEntries {
				if x != nil || e != api.ErrArg {
					t.Errorf("New(%d, %d): %v %v", size, max, x, e)
				}
				continue
			}
			if x == nil || e != api.OK {
				t.Fatalf("New(%d, %d): %v %v", size, max, x, e)
			}
			holds(t, x)
			finds(t, x, make([]byte, size), 0, false)
			deletes(t, x, make([]byte, size), 0, api.ErrNone)
		}
	}
}

func TestNewOfFarNumbers(t *testing.T) {
	for _, far := range farNumbers {
		for _, near := range append([]int{1, 16}, farNumbers...) {
			if x, e := New(far, near); x != nil || e != api.ErrArg {
				t.Errorf("New(%d, %d): %v %v", far, near, x, e)
			}
			if x, e := New(near, far); x != nil || e != api.ErrArg {
				t.Errorf("New(%d, %d): %v %v", near, far, x, e)
			}
		}
	}
}

func TestIndexesAreApart(t *testing.T) {
	x, y := made(t, 1, 2), made(t, 1, 2)
	puts(t, x, []byte{7}, api.AnyKey, 0, true)
	holds(t, y)
	puts(t, y, []byte{8}, api.AnyKey, 0, true)
	puts(t, y, []byte{9}, api.AnyKey, 1, true)
	puts(t, y, []byte{10}, api.AnyKey, 0, true)
	holds(t, x, []byte{7})
	holds(t, y, []byte{10}, []byte{9})
}

// P8.2

func TestFindHoldsWholeKeys(t *testing.T) {
	for size := 1; size <= api.MaxKey; size++ {
		x := made(t, size, api.MaxEntries)
		key := bytes.Repeat([]byte{0xff}, size)
		puts(t, x, key, api.AnyKey, 0, true)
		for i := range key {
			for _, b := range []byte{0, 1, 0x7f, 0xfe} {
				other := slices.Clone(key)
				other[i] = b
				finds(t, x, other, 0, false)
			}
		}
		holds(t, x, key)
	}
}

func TestFindTakesAnyBytes(t *testing.T) {
	x := made(t, 1, api.MaxEntries)
	for n := range 256 {
		key := []byte{byte(n)}
		finds(t, x, key, 0, false)
		puts(t, x, key, api.AnyKey, 0, true)
		for other := range 256 {
			finds(t, x, []byte{byte(other)}, 0, other == n)
		}
		deletes(t, x, key, 0, api.OK)
	}
}

func TestFindTakesBytesThatAreNoText(t *testing.T) {
	x := made(t, 3, 4)
	keys := [][]byte{{0xff, 0xfe, 0xfd}, {0xef, 0xbf, 0xbd}, {0, 0, 0}, {0xed, 0xa0, 0x80}}
	for slot, key := range keys {
		puts(t, x, key, api.NoExist, slot, true)
	}
	holds(t, x, keys...)
}

func TestFindTouches(t *testing.T) {
	x, keys := filled(t, 1, 4)
	forgets(t, x, 0, 1, 2, 3)
	finds(t, x, keys[0], 0, true)
	forgets(t, x, 1, 2, 3, 0)
	finds(t, x, keys[2], 2, true)
	forgets(t, x, 1, 3, 0, 2)
	finds(t, x, keys[2], 2, true)
	forgets(t, x, 1, 3, 0, 2)
	for _, slot := range []int{3, 2, 1, 0} {
		finds(t, x, keys[slot], slot, true)
	}
	forgets(t, x, 3, 2, 1, 0)
	holds(t, x, keys...)
}

func TestFindOfWrongKeysTouchesNothing(t *testing.T) {
	x, keys := filled(t, 2, 4)
	for _, key := range append([][]byte{{9, 9}, {0, 1}}, wrongKeys...) {
		finds(t, x, key, 0, false)
	}
	forgets(t, x, 0, 1, 2, 3)
	holds(t, x, keys...)
}

// P8.3

func TestPutFillsAllSlots(t *testing.T) {
	for _, size := range []int{1, 2, 4, api.MaxKey} {
		for max := 1; max <= api.MaxEntries; max++ {
			x, keys := filled(t, size, max)
			refuses(t, x, numbered(size, max), api.Exist, api.ErrNone)
			finds(t, x, numbered(size, max), 0, false)
			holds(t, x, keys...)
		}
	}
}

func TestPutForgetsTheKeyTouchedLongestAgo(t *testing.T) {
	for max := 1; max <= api.MaxEntries; max++ {
		x, keys := filled(t, 2, max)
		for n := range 3*max + 1 {
			slot, key := n%max, numbered(2, 1000+n)
			puts(t, x, key, []uint64{api.AnyKey, api.NoExist}[n%2], slot, true)
			finds(t, x, keys[slot], 0, false)
			keys[slot] = key
			holds(t, x, keys...)
		}
	}
}

func TestPutTouchesHeldKeys(t *testing.T) {
	for _, flags := range []uint64{api.AnyKey, api.Exist} {
		x, keys := filled(t, 1, 4)
		puts(t, x, keys[1], flags, 1, false)
		forgets(t, x, 0, 2, 3, 1)
		puts(t, x, keys[0], flags, 0, false)
		forgets(t, x, 2, 3, 1, 0)
		puts(t, x, keys[0], flags, 0, false)
		forgets(t, x, 2, 3, 1, 0)
		puts(t, x, keys[3], flags, 3, false)
		forgets(t, x, 2, 1, 0, 3)
		holds(t, x, keys...)
	}
}

func TestPutOfTheKeyTouchedLongestAgoForgetsNone(t *testing.T) {
	for max := 1; max <= api.MaxEntries; max++ {
		x, keys := filled(t, 1, max)
		for slot, key := range keys {
			puts(t, x, key, api.AnyKey, slot, false)
			holds(t, x, keys...)
		}
	}
}

func TestForgottenKeysAreNew(t *testing.T) {
	x, keys := filled(t, 2, 3)
	puts(t, x, []byte{50, 0}, api.AnyKey, 0, true)
	finds(t, x, keys[0], 0, false)
	refuses(t, x, keys[0], api.Exist, api.ErrNone)
	deletes(t, x, keys[0], 0, api.ErrNone)
	holds(t, x, []byte{50, 0}, keys[1], keys[2])
	puts(t, x, keys[0], api.NoExist, 1, true)
	holds(t, x, []byte{50, 0}, keys[0], keys[2])
	forgets(t, x, 2, 0, 1)
}

func TestPutByFlags(t *testing.T) {
	x := made(t, 2, 2)
	a, b := []byte{1, 2}, []byte{2, 1}
	refuses(t, x, a, api.Exist, api.ErrNone)
	holds(t, x)
	puts(t, x, a, api.NoExist, 0, true)
	puts(t, x, b, api.AnyKey, 1, true)
	for range 2 {
		refuses(t, x, b, api.NoExist, api.ErrExist)
		puts(t, x, b, api.AnyKey, 1, false)
		puts(t, x, b, api.Exist, 1, false)
		puts(t, x, a, api.Exist, 0, false)
	}
	holds(t, x, a, b)
}

func TestPutNamesTheFirstError(t *testing.T) {
	for _, max := range []int{3, 5} {
		x := made(t, 2, max)
		keys := [][]byte{{0, 0}, {1, 0}, {2, 0}}
		for slot, key := range keys {
			puts(t, x, key, api.AnyKey, slot, true)
		}
		for _, key := range wrongKeys {
			for _, flags := range append([]uint64{0, 1, 2}, wrongFlags...) {
				refuses(t, x, key, flags, api.ErrArg)
			}
		}
		for _, flags := range wrongFlags {
			refuses(t, x, keys[1], flags, api.ErrFlags)
			refuses(t, x, []byte{9, 9}, flags, api.ErrFlags)
		}
		holds(t, x, keys...)
		finds(t, x, []byte{9, 9}, 0, false)
	}
}

func TestPutThatIsRefusedTouchesNothing(t *testing.T) {
	x, keys := filled(t, 2, 4)
	for _, key := range keys[:3] {
		refuses(t, x, key, api.NoExist, api.ErrExist)
		refuses(t, x, key, 3, api.ErrFlags)
		refuses(t, x, key[:1], api.AnyKey, api.ErrArg)
	}
	refuses(t, x, []byte{9, 9}, api.Exist, api.ErrNone)
	refuses(t, x, []byte{9, 9}, 3, api.ErrFlags)
	forgets(t, x, 0, 1, 2, 3)
	holds(t, x, keys...)
}

func TestPutTakesTheLeastFreeSlot(t *testing.T) {
	x, keys := filled(t, 1, 5)
	for _, slot := range []int{3, 0, 4} {
		deletes(t, x, keys[slot], slot, api.OK)
	}
	holds(t, x, nil, keys[1], keys[2])
	puts(t, x, []byte{90}, api.AnyKey, 0, true)
	puts(t, x, []byte{91}, api.NoExist, 3, true)
	holds(t, x, []byte{90}, keys[1], keys[2], []byte{91})
	deletes(t, x, keys[1], 1, api.OK)
	puts(t, x, keys[4], api.AnyKey, 1, true)
	puts(t, x, keys[3], api.AnyKey, 4, true)
	holds(t, x, []byte{90}, keys[4], keys[2], []byte{91}, keys[3])
	forgets(t, x, 2, 0, 3, 1, 4)
}

func TestDelMakesRoomAheadOfForgetting(t *testing.T) {
	x, keys := filled(t, 1, 3)
	deletes(t, x, keys[2], 2, api.OK)
	puts(t, x, []byte{90}, api.AnyKey, 2, true)
	holds(t, x, keys[0], keys[1], []byte{90})
	forgets(t, x, 0, 1, 2)
	deletes(t, x, keys[0], 0, api.OK)
	puts(t, x, []byte{91}, api.AnyKey, 0, true)
	holds(t, x, []byte{91}, keys[1], []byte{90})
	forgets(t, x, 1, 2, 0)
}

func TestDelTouchesNoOther(t *testing.T) {
	x, keys := filled(t, 1, 4)
	finds(t, x, keys[0], 0, true)
	deletes(t, x, keys[2], 2, api.OK)
	deletes(t, x, keys[2], 0, api.ErrNone)
	deletes(t, x, keys[1][:0], 0, api.ErrArg)
	holds(t, x, keys[0], keys[1], nil, keys[3])
	forgets(t, x, 2, 1, 3, 0)
}

func TestDelOfAllKeys(t *testing.T) {
	x, keys := filled(t, 2, api.MaxEntries)
	for slot, key := range keys {
		deletes(t, x, key, slot, api.OK)
		deletes(t, x, key, 0, api.ErrNone)
		finds(t, x, key, 0, false)
		refuses(t, x, key, api.Exist, api.ErrNone)
	}
	holds(t, x)
	for n := range api.MaxEntries {
		puts(t, x, numbered(2, 1000+n), api.AnyKey, n, true)
	}
	puts(t, x, keys[0], api.AnyKey, 0, true)
	puts(t, x, keys[1], api.AnyKey, 1, true)
}

func TestDelOfWhatIsNotHeld(t *testing.T) {
	x, keys := filled(t, 2, 4)
	empty := made(t, 2, 4)
	for _, key := range wrongKeys {
		deletes(t, x, key, 0, api.ErrArg)
		deletes(t, empty, key, 0, api.ErrArg)
	}
	deletes(t, x, []byte{9, 9}, 0, api.ErrNone)
	deletes(t, x, []byte{0, 1}, 0, api.ErrNone)
	deletes(t, empty, []byte{0, 0}, 0, api.ErrNone)
	holds(t, x, keys...)
	forgets(t, x, 0, 1, 2, 3)
}

// P8.4

func TestKeysAreBySlotsNotByBytesNorByTouches(t *testing.T) {
	x := made(t, 1, api.MaxEntries)
	var want [][]byte
	for n := range api.MaxEntries {
		want = append(want, []byte{byte(200 - 3*n)})
		puts(t, x, want[n], api.AnyKey, n, true)
	}
	for n := range 20 {
		finds(t, x, want[7*n%64], 7*n%64, true)
		holds(t, x, want...)
	}
}

func TestKeysTouchesNone(t *testing.T) {
	x, keys := filled(t, 1, 4)
	finds(t, x, keys[1], 1, true)
	for range 5 {
		x.Keys()
	}
	forgets(t, x, 0, 2, 3, 1)
}

func TestKeysOfAnyLength(t *testing.T) {
	for size := 1; size <= api.MaxKey; size++ {
		x, keys := filled(t, size, 7)
		deletes(t, x, keys[0], 0, api.OK)
		deletes(t, x, keys[5], 5, api.OK)
		holds(t, x, nil, keys[1], keys[2], keys[3], keys[4], nil, keys[6])
	}
}

// P8.5

func TestNil(t *testing.T) {
	var x *Index
	for _, key := range append([][]byte{{0, 0}, {9, 9}}, wrongKeys...) {
		finds(t, x, key, 0, false)
		for _, flags := range append([]uint64{0, 1, 2}, wrongFlags...) {
			refuses(t, x, key, flags, api.ErrNil)
		}
		deletes(t, x, key, 0, api.ErrNil)
	}
	if keys := x.Keys(); len(keys) != 0 {
		t.Errorf("Keys: %x", keys)
	}
	if c := x.Copy(); c != nil {
		t.Errorf("Copy: %v", c)
	}
}

func TestCopy(t *testing.T) {
	for max := 1; max <= api.MaxEntries; max++ {
		x, keys := filled(t, 3, max)
		c := x.Copy()
		if c == nil || c == x {
			t.Fatalf("Copy of %d: %p of %p", max, c, x)
		}
		holds(t, c, keys...)
		holds(t, c.Copy(), keys...)
		refuses(t, c, []byte{9, 9}, api.AnyKey, api.ErrArg)
		deletes(t, c, keys[max-1], max-1, api.OK)
		puts(t, c, []byte{9, 9, 9}, api.AnyKey, max-1, true)
		holds(t, x, keys...)
		finds(t, x, []byte{9, 9, 9}, 0, false)
	}
}

func TestCopyKeepsWhatWasTouchedWhen(t *testing.T) {
	x, keys := filled(t, 1, 5)
	for _, slot := range []int{3, 0, 4} {
		finds(t, x, keys[slot], slot, true)
	}
	want := []int{1, 2, 3, 0, 4}
	forgets(t, x, want...)
	forgets(t, x.Copy().Copy(), want...)
	c := x.Copy()
	for i, slot := range want {
		puts(t, c, fresh(1, i), api.AnyKey, slot, true)
		puts(t, x, fresh(1, i), api.AnyKey, slot, true)
	}
}

func TestCopyKeepsGaps(t *testing.T) {
	x, keys := filled(t, 1, 4)
	deletes(t, x, keys[0], 0, api.OK)
	deletes(t, x, keys[2], 2, api.OK)
	for _, y := range []*Index{x.Copy(), x} {
		holds(t, y, nil, keys[1], nil, keys[3])
		puts(t, y, []byte{50}, api.AnyKey, 0, true)
		puts(t, y, []byte{51}, api.AnyKey, 2, true)
		puts(t, y, []byte{52}, api.AnyKey, 1, true)
		holds(t, y, []byte{50}, []byte{52}, []byte{51}, keys[3])
	}
}

func TestCopySharesNothing(t *testing.T) {
	x := made(t, 1, 3)
	c := x.Copy()
	puts(t, x, []byte{1}, api.AnyKey, 0, true)
	holds(t, c)
	puts(t, c, []byte{2}, api.AnyKey, 0, true)
	holds(t, x, []byte{1})
	d := c.Copy()
	deletes(t, c, []byte{2}, 0, api.OK)
	holds(t, d, []byte{2})
	overwrite(d.Keys())
	holds(t, d, []byte{2})
	holds(t, x, []byte{1})
}

func TestCopySharesNoTouches(t *testing.T) {
	x, keys := filled(t, 1, 4)
	c := x.Copy()
	finds(t, x, keys[0], 0, true)
	finds(t, c, keys[2], 2, true)
	puts(t, c, keys[1], api.Exist, 1, false)
	forgets(t, x, 1, 2, 3, 0)
	forgets(t, c, 0, 3, 2, 1)
	deletes(t, c, keys[3], 3, api.OK)
	forgets(t, x, 1, 2, 3, 0)
	forgets(t, c, 3, 0, 2, 1)
}

// overwrite a list of keys and its spare room.
func overwrite(keys [][]byte) {
	for _, k := range keys {
		for i := range k[:cap(k)] {
			k[:cap(k)][i] = 0xee
		}
	}
	clear(keys[:cap(keys)])
}

func TestKeysAreNewMemory(t *testing.T) {
	for size := 1; size <= api.MaxKey; size++ {
		x, keys := filled(t, size, api.MaxEntries)
		told := x.Keys()
		overwrite(x.Keys())
		holds(t, x, keys...)
		for i := range told {
			if !bytes.Equal(told[i], keys[i]) {
				t.Fatalf("size %d: key %d became %x", size, i, told[i])
			}
			overwrite(told[i : i+1 : i+1])
		}
		holds(t, x, keys...)
	}
}

func TestKeysHandedInAreLeft(t *testing.T) {
	x := made(t, 4, 3)
	same := []byte{1, 0, 0, 0, 0xaa, 0xbb}
	whole := slices.Clone(same)
	for n := range len(whole) + 1 {
		key := whole[:n]
		x.Find(key)
		for flags := range uint64(4) {
			x.Put(key, flags)
		}
		x.Find(key)
		x.Keys()
		x.Del(key)
		if !bytes.Equal(whole, same) {
			t.Fatalf("a key of %d bytes was changed: %x", n, whole)
		}
	}
}

func TestKeysHandedInAreNotKept(t *testing.T) {
	x := made(t, 2, 3)
	key := []byte{1, 1, 0xaa}[:2]
	puts(t, x, key, api.AnyKey, 0, true)
	key[0] = 2
	holds(t, x, []byte{1, 1})
	finds(t, x, key, 0, false)
	puts(t, x, key, api.AnyKey, 1, true)
	puts(t, x, key, api.Exist, 1, false)
	key[0] = 3
	deletes(t, x, []byte{2, 1}, 1, api.OK)
	holds(t, x, []byte{1, 1})
}
