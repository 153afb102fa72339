package lpm

import (
	"bytes"
	"math"
	"slices"
	"testing"

	"postern/api"
)

func made(t *testing.T, size, max int) *Index {
	t.Helper()
	x, e := New(size, max)
	if x == nil || e != api.OK {
		t.Fatalf("New(%d, %d): %v %v", size, max, x, e)
	}
	return x
}

func finds(t *testing.T, x *Index, key []byte, slot int, ok bool) {
	t.Helper()
	if s, o := x.Find(key); s != slot || o != ok {
		t.Errorf("Find(%x): %d %v, want %d %v", key, s, o, slot, ok)
	}
}

func puts(t *testing.T, x *Index, key []byte, flags uint64, slot int, isNew bool) {
	t.Helper()
	if s, n, e := x.Put(key, flags); s != slot || n != isNew || e != api.OK {
		t.Errorf("Put(%x, %d): %d %v %v, want %d %v", key, flags, s, n, e, slot, isNew)
	}
}

func refuses(t *testing.T, x *Index, key []byte, flags uint64, want api.Errno) {
	t.Helper()
	if s, n, e := x.Put(key, flags); s != 0 || n || e != want {
		t.Errorf("Put(%x, %d): %d %v %v, want 0 false %v", key, flags, s, n, e, want)
	}
}

func deletes(t *testing.T, x *Index, key []byte, slot int, want api.Errno) {
	t.Helper()
	if s, e := x.Del(key); s != slot || e != want {
		t.Errorf("Del(%x): %d %v, want %d %v", key, s, e, slot, want)
	}
}

// holds these keys in form by their slots, nil where none has the slot, and tells them, and nothing else.
func holds(t *testing.T, x *Index, want ...[]byte) {
	t.Helper()
	var held [][]byte
	for slot, key := range want {
		if key != nil {
			held = append(held, key)
			finds(t, x, key, slot, true)
		}
	}
	if keys := x.Keys(); !slices.EqualFunc(keys, held, bytes.Equal) {
		t.Errorf("Keys: %x, want %x", keys, held)
	}
}

// prefix: a key of that length and those bytes of bits.
func prefix(length int, bits ...byte) []byte {
	return append([]byte{byte(length), byte(length >> 8), byte(length >> 16), byte(length >> 24)}, bits...)
}

// sized: a key of size bytes, of that length, all of whose bits are as those of b.
func sized(size, length int, b byte) []byte {
	return prefix(length, bytes.Repeat([]byte{b}, size-4)...)
}

// numbered: a key of size bytes and of the greatest length, which no other number below 256 has.
func numbered(size, n int) []byte {
	key := sized(size, 8*(size-4), 0)
	key[size-1] = byte(n)
	return key
}

// filled: an index of max keys, numbered from 0 on, each at its number's slot.
func filled(t *testing.T, size, max int) (*Index, [][]byte) {
	t.Helper()
	x := made(t, size, max)
	var keys [][]byte
	for n := range max {
		keys = append(keys, numbered(size, n))
		puts(t, x, keys[n], api.AnyKey, n, true)
	}
	return x, keys
}

// wrongKeys may not be keys of five bytes: by how many they have, or by their length.
var wrongKeys = [][]byte{
	nil, {}, {0}, {0, 0, 0, 0}, {8, 0, 0, 0}, {0, 0, 0, 0, 0, 0}, {8, 0, 0, 0, 1, 1}, make([]byte, api.MaxKey), make([]byte, 17), make([]byte, 300),
	prefix(9, 0), prefix(16, 0), prefix(128, 1), prefix(255, 0), prefix(256, 0), prefix(257, 1), prefix(264, 0), prefix(1<<16, 0), prefix(1<<16+8, 1),
	prefix(1<<24, 0), prefix(1<<31-1, 0), prefix(1<<31, 0), prefix(1<<31+8, 1), prefix(1<<32-8, 0), prefix(1<<32-1, 0xff), {0, 0, 0, 8, 1}, {0, 0, 0, 1, 0},
}

// wrongFlags are above Exist; the low bits of some aren't.
var wrongFlags = []uint64{3, 4, 5, 6, 255, 256, 257, 258, 1 << 32, 1<<32 + 1, 1<<32 + 2, 1 << 63, 1<<63 + 1, math.MaxUint64}

// farNumbers are neither a size nor a max; the low bits of some are.
var farNumbers = []int{math.MinInt, math.MinInt + 1, math.MinInt + 5, math.MinInt32, -65, -64, -16, -5, -1, 0, 65, 256, 261, math.MaxInt32, 1<<32 + 5, math.MaxInt - 1, math.MaxInt}

func TestExamples(t *testing.T) {
	x := made(t, 5, 4)
	puts(t, x, prefix(4, 0xaf), 0, 0, true)
	puts(t, x, prefix(0, 0), 0, 1, true)
	puts(t, x, prefix(8, 0xa1), 0, 2, true)
	finds(t, x, prefix(8, 0xa1), 2, true)
	finds(t, x, prefix(8, 0xa2), 0, true)
	finds(t, x, prefix(3, 0xa0), 1, true)
	finds(t, x, prefix(8, 0xb0), 1, true)
	refuses(t, x, prefix(9, 0), 0, api.ErrArg)
	holds(t, x, []byte{4, 0, 0, 0, 0xa0}, []byte{0, 0, 0, 0, 0}, []byte{8, 0, 0, 0, 0xa1})
}

// P9.1

func TestNew(t *testing.T) {
	for size := -2; size <= api.MaxKey+2; size++ {
		for max := -2; max <= api.MaxEntries+2; max++ {
			x, e := New(size, max)
			if size < 5 || size > api.MaxKey || max < 1 || max > api.MaxEntries {
				if x != nil || e != api.ErrArg {
					t.Errorf("New(%d, %d): %v %v", size, max, x, e)
				}
				continue
			}
			if x == nil || e != api.OK {
				t.Fatalf("New(%d, %d): %v %v", size, max, x, e)
			}
			holds(t, x)
			for _, length := range []int{0, 1, 8 * (size - 4)} {
				finds(t, x, sized(size, length, 0), 0, false)
				deletes(t, x, sized(size, length, 0), 0, api.ErrNone)
			}
		}
	}
}

func TestNewOfFarNumbers(t *testing.T) {
	for _, far := range farNumbers {
		for _, near := range append([]int{5, 16}, farNumbers...) {
			if x, e := New(far, near); x != nil || e != api.ErrArg {
				t.Errorf("New(%d, %d): %v %v", far, near, x, e)
			}
			if x, e := New(near, far); x != nil || e != api.ErrArg {
				t.Errorf("New(%d, %d): %v %v", near, far, x, e)
			}
		}
	}
}

func TestIndexesAreApart(t *testing.T) {
	x, y := made(t, 5, 2), made(t, 5, 2)
	puts(t, x, prefix(8, 7), api.AnyKey, 0, true)
	holds(t, y)
	puts(t, y, prefix(0, 0), api.AnyKey, 0, true)
	holds(t, x, prefix(8, 7))
	holds(t, y, prefix(0, 0))
}

// P9.2

func TestFindTakesTheLongest(t *testing.T) {
	for size := 5; size <= api.MaxKey; size++ {
		for _, b := range []byte{0, 0xff, 0xaa, 0x55, 0x93} {
			x := made(t, size, api.MaxEntries)
			want := map[int]int{}
			for slot, length := 0, 0; length <= 8*(size-4); slot, length = slot+1, length+2 {
				puts(t, x, sized(size, length, b), api.AnyKey, slot, true)
				want[length], want[length+1] = slot, slot
			}
			for length := range 8*(size-4) + 1 {
				finds(t, x, sized(size, length, b), want[length], true)
			}
		}
	}
}

// A key begins others in all its bits, the highest of each byte first, and in no other bits.
func TestFindHoldsTheBitsThatCount(t *testing.T) {
	for size := 5; size <= api.MaxKey; size++ {
		whole := 8 * (size - 4)
		for length := range whole + 1 {
			x := made(t, size, 1)
			puts(t, x, sized(size, length, 0x5a), api.AnyKey, 0, true)
			for bit := range whole {
				key := sized(size, whole, 0x5a)
				key[4+bit/8] ^= 0x80 >> (bit % 8)
				finds(t, x, key, 0, bit >= length)
			}
		}
	}
}

func TestFindOfShorterKeys(t *testing.T) {
	for size := 5; size <= api.MaxKey; size++ {
		whole := 8 * (size - 4)
		for length := range whole + 1 {
			x := made(t, size, 1)
			puts(t, x, sized(size, length, 0), api.AnyKey, 0, true)
			for other := range whole + 1 {
				finds(t, x, sized(size, other, 0), 0, other >= length)
			}
		}
	}
}

// Bits of the asked key that don't count begin with none.
func TestFindLeavesOutWhatDoesNotCount(t *testing.T) {
	x := made(t, 6, 4)
	puts(t, x, prefix(4, 0xa0, 0), api.AnyKey, 0, true)
	puts(t, x, prefix(9, 0xab, 0x80), api.AnyKey, 1, true)
	puts(t, x, prefix(16, 0xab, 0xcd), api.AnyKey, 2, true)
	for length, slot := range []int{-1, -1, -1, -1, 0, 0, 0, 0, 0, 1, 1, 1, 1, 1, 1, 1, 2} {
		finds(t, x, prefix(length, 0xab, 0xcd), max(slot, 0), slot >= 0)
	}
	finds(t, x, prefix(4, 0xaf, 0xff), 0, true)
	finds(t, x, prefix(5, 0xaf, 0xff), 0, true)
	finds(t, x, prefix(9, 0xab, 0x7f), 0, true)
	finds(t, x, prefix(9, 0xab, 0xff), 1, true)
	finds(t, x, prefix(4, 0xbf, 0xff), 0, false)
}

func TestFindOfTheEmptyPrefix(t *testing.T) {
	x := made(t, 5, 2)
	puts(t, x, prefix(0, 0xff), api.AnyKey, 0, true)
	for length := range 9 {
		for b := range 256 {
			finds(t, x, prefix(length, byte(b)), 0, true)
		}
	}
	holds(t, x, prefix(0, 0))
}

func TestFindOfWrongKeys(t *testing.T) {
	x := made(t, 5, 4)
	keys := [][]byte{prefix(0, 0), prefix(8, 1), prefix(1, 0x80)}
	for slot, key := range keys {
		puts(t, x, key, api.AnyKey, slot, true)
	}
	for _, key := range wrongKeys {
		finds(t, x, key, 0, false)
	}
	holds(t, x, keys...)
}

func TestLengthsOfAllSizes(t *testing.T) {
	for size := 5; size <= api.MaxKey; size++ {
		whole := 8 * (size - 4)
		x := made(t, size, api.MaxEntries)
		puts(t, x, sized(size, whole, 0xff), api.AnyKey, 0, true)
		puts(t, x, sized(size, 0, 0xff), api.AnyKey, 1, true)
		for _, length := range []int{whole + 1, whole + 2, whole + 8, 127, 128, 255, 256, 256 + whole, 1<<16 + whole, 1 << 24, 1<<31 + whole, 1<<32 - 1, 1<<32 - whole} {
			key := sized(size, length, 0xff)
			finds(t, x, key, 0, false)
			refuses(t, x, key, api.AnyKey, api.ErrArg)
			deletes(t, x, key, 0, api.ErrArg)
		}
		holds(t, x, sized(size, whole, 0xff), sized(size, 0, 0))
	}
}

// P9.3

func TestPutFillsAllSlots(t *testing.T) {
	for _, size := range []int{5, 6, 8, api.MaxKey} {
		for max := 1; max <= api.MaxEntries; max++ {
			x, keys := filled(t, size, max)
			refuses(t, x, numbered(size, max), api.AnyKey, api.ErrFull)
			refuses(t, x, numbered(size, max), api.NoExist, api.ErrFull)
			refuses(t, x, numbered(size, max), api.Exist, api.ErrNone)
			refuses(t, x, sized(size, 0, 0), api.AnyKey, api.ErrFull)
			finds(t, x, numbered(size, max), 0, false)
			holds(t, x, keys...)
		}
	}
}

func TestPutByFlags(t *testing.T) {
	x := made(t, 5, 3)
	a, b := prefix(4, 0xa0), prefix(5, 0xa0)
	refuses(t, x, a, api.Exist, api.ErrNone)
	holds(t, x)
	puts(t, x, a, api.NoExist, 0, true)
	refuses(t, x, b, api.Exist, api.ErrNone)
	puts(t, x, b, api.AnyKey, 1, true)
	for range 2 {
		refuses(t, x, b, api.NoExist, api.ErrExist)
		puts(t, x, b, api.AnyKey, 1, false)
		puts(t, x, b, api.Exist, 1, false)
		puts(t, x, a, api.Exist, 0, false)
	}
	holds(t, x, a, b)
}

func TestPutOfKeysThatAreOneInForm(t *testing.T) {
	for length := range 9 {
		x := made(t, 5, 2)
		form := prefix(length, 0xff<<(8-length))
		puts(t, x, prefix(length, 0xff), api.AnyKey, 0, true)
		for loose := range 1 << (8 - length) {
			key := prefix(length, 0xff<<(8-length)|byte(loose))
			puts(t, x, key, api.AnyKey, 0, false)
			puts(t, x, key, api.Exist, 0, false)
			refuses(t, x, key, api.NoExist, api.ErrExist)
			finds(t, x, key, 0, true)
			holds(t, x, form)
			deletes(t, x, key, 0, api.OK)
			deletes(t, x, form, 0, api.ErrNone)
			holds(t, x)
			puts(t, x, key, api.NoExist, 0, true)
			holds(t, x, form)
		}
	}
}

func TestPutOfEachLengthIsAKeyOfItsOwn(t *testing.T) {
	for _, b := range []byte{0, 0xff} {
		x := made(t, 8, api.MaxEntries)
		var keys [][]byte
		for length := range 33 {
			keys = append(keys, keyOf(bitsOf(length, b), 4))
			puts(t, x, keys[length], api.NoExist, length, true)
		}
		holds(t, x, keys...)
		deletes(t, x, keys[17], 17, api.OK)
		refuses(t, x, keys[17], api.Exist, api.ErrNone)
		finds(t, x, keys[17], 16, true)
		finds(t, x, keys[18], 18, true)
	}
}

// bitsOf: so many bits, all of them the lowest of b.
func bitsOf(length int, b byte) []int {
	return slices.Repeat([]int{int(b & 1)}, length)
}

func TestPutOfHeldKeysInAFullIndex(t *testing.T) {
	x, keys := filled(t, 5, 3)
	for slot, key := range keys {
		puts(t, x, key, api.AnyKey, slot, false)
		puts(t, x, key, api.Exist, slot, false)
		refuses(t, x, key, api.NoExist, api.ErrExist)
	}
	holds(t, x, keys...)
}

func TestPutNamesTheFirstError(t *testing.T) {
	for _, max := range []int{3, 5} {
		x := made(t, 5, max)
		keys := [][]byte{prefix(0, 0), prefix(8, 1), prefix(1, 0x80)}
		for slot, key := range keys {
			puts(t, x, key, api.AnyKey, slot, true)
		}
		for _, key := range wrongKeys {
			for _, flags := range append([]uint64{0, 1, 2}, wrongFlags...) {
				refuses(t, x, key, flags, api.ErrArg)
			}
		}
		for _, flags := range wrongFlags {
			refuses(t, x, keys[1], flags, api.ErrFlags)
			refuses(t, x, prefix(7, 0x40), flags, api.ErrFlags)
		}
		holds(t, x, keys...)
		finds(t, x, prefix(7, 0x40), 0, true)
	}
}

func TestPutTakesTheLeastFreeSlot(t *testing.T) {
	x, keys := filled(t, 5, 5)
	for _, slot := range []int{3, 0, 4} {
		deletes(t, x, keys[slot], slot, api.OK)
	}
	holds(t, x, nil, keys[1], keys[2])
	puts(t, x, prefix(0, 0), api.AnyKey, 0, true)
	puts(t, x, prefix(8, 91), api.NoExist, 3, true)
	holds(t, x, prefix(0, 0), keys[1], keys[2], prefix(8, 91))
	deletes(t, x, keys[1], 1, api.OK)
	puts(t, x, keys[4], api.AnyKey, 1, true)
	puts(t, x, keys[3], api.AnyKey, 4, true)
	refuses(t, x, keys[0], api.AnyKey, api.ErrFull)
	holds(t, x, prefix(0, 0), keys[4], keys[2], prefix(8, 91), keys[3])
}

func TestDelLeavesShorterAndLongerKeys(t *testing.T) {
	for gone := range 9 {
		x := made(t, 5, 9)
		var keys [][]byte
		for length := range 9 {
			keys = append(keys, prefix(length, 0xff<<(8-length)))
			puts(t, x, keys[length], api.AnyKey, length, true)
		}
		deletes(t, x, keys[gone], gone, api.OK)
		deletes(t, x, keys[gone], 0, api.ErrNone)
		finds(t, x, keys[gone], max(gone-1, 0), gone > 0)
		same := slices.Clone(keys)
		same[gone] = nil
		holds(t, x, same...)
		puts(t, x, keys[gone], api.NoExist, gone, true)
		holds(t, x, keys...)
	}
}

func TestDelOfAllKeys(t *testing.T) {
	for size := 5; size <= api.MaxKey; size++ {
		x, keys := filled(t, size, api.MaxEntries)
		for slot, key := range keys {
			deletes(t, x, key, slot, api.OK)
			deletes(t, x, key, 0, api.ErrNone)
			finds(t, x, key, 0, false)
			refuses(t, x, key, api.Exist, api.ErrNone)
		}
		holds(t, x)
		for n := range api.MaxEntries {
			puts(t, x, numbered(size, 100+n), api.AnyKey, n, true)
		}
		refuses(t, x, keys[0], api.AnyKey, api.ErrFull)
	}
}

func TestDelKeepsTheOthersSlots(t *testing.T) {
	x, keys := filled(t, 5, 4)
	deletes(t, x, keys[1], 1, api.OK)
	holds(t, x, keys[0], nil, keys[2], keys[3])
	puts(t, x, keys[3], api.AnyKey, 3, false)
	deletes(t, x, keys[3], 3, api.OK)
	holds(t, x, keys[0], nil, keys[2])
}

// A held key that begins what is to go, or begins with it, isn't meant.
func TestDelOfWhatIsNotHeld(t *testing.T) {
	x, empty := made(t, 5, 4), made(t, 5, 4)
	keys := [][]byte{prefix(0, 0), prefix(8, 1), prefix(4, 0xa0)}
	for slot, key := range keys {
		puts(t, x, key, api.AnyKey, slot, true)
	}
	for _, key := range wrongKeys {
		deletes(t, x, key, 0, api.ErrArg)
		deletes(t, empty, key, 0, api.ErrArg)
	}
	for _, key := range [][]byte{prefix(7, 1), prefix(7, 0), prefix(3, 0xa0), prefix(5, 0xa0), prefix(8, 0xa0), prefix(1, 0), prefix(8, 0), prefix(4, 0xb0)} {
		deletes(t, x, key, 0, api.ErrNone)
	}
	deletes(t, empty, prefix(0, 0), 0, api.ErrNone)
	holds(t, x, keys...)
	holds(t, empty)
}

// P9.4

func TestKeysAreBySlotsNotByBits(t *testing.T) {
	x := made(t, 5, api.MaxEntries)
	var want [][]byte
	for n := range api.MaxEntries {
		want = append(want, prefix(8, byte(200-3*n)))
		puts(t, x, want[n], api.AnyKey, n, true)
	}
	for range 20 {
		holds(t, x, want...)
	}
}

func TestKeysAreInForm(t *testing.T) {
	for size := 5; size <= api.MaxKey; size++ {
		for length := range 8*(size-4) + 1 {
			x := made(t, size, 1)
			form := sized(size, length, 0)
			for bit := range length {
				form[4+bit/8] |= 0x80 >> (bit % 8)
			}
			puts(t, x, sized(size, length, 0xff), api.AnyKey, 0, true)
			holds(t, x, form)
		}
	}
}

func TestKeysOfAnySize(t *testing.T) {
	for size := 5; size <= api.MaxKey; size++ {
		x, keys := filled(t, size, 7)
		deletes(t, x, keys[0], 0, api.OK)
		deletes(t, x, keys[5], 5, api.OK)
		holds(t, x, nil, keys[1], keys[2], keys[3], keys[4], nil, keys[6])
	}
}

// P9.5

func TestNil(t *testing.T) {
	var x *Index
	for _, key := range append([][]byte{prefix(0, 0), prefix(8, 1)}, wrongKeys...) {
		finds(t, x, key, 0, false)
		for _, flags := range append([]uint64{0, 1, 2}, wrongFlags...) {
			refuses(t, x, key, flags, api.ErrNil)
		}
		deletes(t, x, key, 0, api.ErrNil)
	}
	if keys := x.Keys(); len(keys) != 0 {
		t.Errorf("Keys: %x", keys)
	}
	if c := x.Copy(); c != nil {
		t.Errorf("Copy: %v", c)
	}
}

func TestCopy(t *testing.T) {
	for max := 1; max <= api.MaxEntries; max++ {
		x, keys := filled(t, 7, max)
		c := x.Copy()
		if c == nil || c == x {
			t.Fatalf("Copy of %d: %p of %p", max, c, x)
		}
		holds(t, c, keys...)
		holds(t, c.Copy(), keys...)
		other := prefix(9, 9, 0x80, 0)
		refuses(t, c, other, api.AnyKey, api.ErrFull)
		refuses(t, c, prefix(25, 9, 9, 9), api.AnyKey, api.ErrArg)
		refuses(t, c, prefix(8, 9, 9), api.AnyKey, api.ErrArg)
		deletes(t, c, keys[max-1], max-1, api.OK)
		puts(t, c, other, api.AnyKey, max-1, true)
		holds(t, x, keys...)
		finds(t, x, other, 0, false)
	}
}

func TestCopyKeepsGaps(t *testing.T) {
	x, keys := filled(t, 5, 4)
	deletes(t, x, keys[0], 0, api.OK)
	deletes(t, x, keys[2], 2, api.OK)
	for _, y := range []*Index{x.Copy(), x} {
		holds(t, y, nil, keys[1], nil, keys[3])
		puts(t, y, prefix(8, 50), api.AnyKey, 0, true)
		puts(t, y, prefix(0, 0), api.AnyKey, 2, true)
		refuses(t, y, prefix(8, 52), api.AnyKey, api.ErrFull)
	}
}

func TestCopySharesNothing(t *testing.T) {
	x := made(t, 5, 3)
	c := x.Copy()
	puts(t, x, prefix(8, 1), api.AnyKey, 0, true)
	holds(t, c)
	puts(t, c, prefix(8, 2), api.AnyKey, 0, true)
	holds(t, x, prefix(8, 1))
	d := c.Copy()
	puts(t, d, prefix(6, 0), api.AnyKey, 1, true)
	finds(t, c, prefix(7, 2), 0, false)
	deletes(t, c, prefix(8, 2), 0, api.OK)
	holds(t, d, prefix(8, 2), prefix(6, 0))
	overwrite(d.Keys())
	holds(t, d, prefix(8, 2), prefix(6, 0))
	holds(t, x, prefix(8, 1))
	holds(t, c)
}

// overwrite a list of keys and its spare room.
func overwrite(keys [][]byte) {
	for _, k := range keys {
		for i := range k[:cap(k)] {
			k[:cap(k)][i] = 0xee
		}
	}
	clear(keys[:cap(keys)])
}

func TestKeysAreNewMemory(t *testing.T) {
	for size := 5; size <= api.MaxKey; size++ {
		x, keys := filled(t, size, api.MaxEntries)
		told := x.Keys()
		overwrite(x.Keys())
		holds(t, x, keys...)
		for i := range told {
			if !bytes.Equal(told[i], keys[i]) {
				t.Fatalf("size %d: key %d became %x", size, i, told[i])
			}
			overwrite(told[i : i+1 : i+1])
		}
		holds(t, x, keys...)
	}
}

func TestKeysHandedInAreLeft(t *testing.T) {
	x := made(t, 6, 3)
	same := []byte{3, 0, 0, 0, 0xff, 0xff, 0xaa, 0xbb}
	whole := slices.Clone(same)
	for n := range len(whole) + 1 {
		key := whole[:n]
		x.Find(key)
		for flags := range uint64(4) {
			x.Put(key, flags)
		}
		x.Find(key)
		x.Keys()
		x.Del(key)
		if !bytes.Equal(whole, same) {
			t.Fatalf("a key of %d bytes was changed: %x", n, whole)
		}
	}
}

func TestKeysHandedInAreNotKept(t *testing.T) {
	x := made(t, 5, 3)
	key := []byte{8, 0, 0, 0, 1, 0xaa}[:5]
	puts(t, x, key, api.AnyKey, 0, true)
	key[4] = 2
	holds(t, x, prefix(8, 1))
	finds(t, x, key, 0, false)
	puts(t, x, key, api.AnyKey, 1, true)
	puts(t, x, key, api.Exist, 1, false)
	key[0] = 3
	deletes(t, x, prefix(8, 2), 1, api.OK)
	holds(t, x, prefix(8, 1))
}

// What is taken out leaves nothing behind, however long it goes on: a tree has no more nodes than its keys need.
func TestDelLeavesNoNodes(t *testing.T) {
	x := made(t, api.MaxKey, 3)
	long := sized(api.MaxKey, 96, 0xff)
	puts(t, x, long, api.AnyKey, 0, true)
	for n := range 200 {
		puts(t, x, numbered(api.MaxKey, n), api.AnyKey, 1, true)
		puts(t, x, sized(api.MaxKey, 50, 0xff), api.AnyKey, 2, true)
		deletes(t, x, numbered(api.MaxKey, n), 1, api.OK)
		deletes(t, x, sized(api.MaxKey, 50, 0xff), 2, api.OK)
	}
	if n := nodes(x.root); n != 97 {
		t.Errorf("a key of 96 bits: %d nodes", n)
	}
	deletes(t, x, long, 0, api.OK)
	if n := nodes(x.root); n != 0 {
		t.Errorf("no key: %d nodes", n)
	}
}

func nodes(n *node) int {
	if n == nil {
		return 0
	}
	return 1 + nodes(n.next[0]) + nodes(n.next[1])
}
