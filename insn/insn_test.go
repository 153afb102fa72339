package insn

import (
	"bytes"
	"math"
	"slices"
	"testing"

	"postern/api"
)

func decodes(t *testing.T, b []byte, want ...api.Inst) {
	t.Helper()
	if got, e := Decode(b); !slices.Equal(got, want) || e != api.OK {
		t.Errorf("Decode(%x): %v %v, want %v", b, got, e, want)
	}
}

func encodes(t *testing.T, want []byte, list ...api.Inst) {
	t.Helper()
	if got := Encode(list...); !bytes.Equal(got, want) {
		t.Errorf("Encode(%v): %x, want %x", list, got, want)
	}
}

// both: bytes and slots that are one.
func both(t *testing.T, b []byte, list ...api.Inst) {
	t.Helper()
	decodes(t, b, list...)
	encodes(t, b, list...)
}

// P2.1

func TestSlotsAndBytes(t *testing.T) {
	both(t, nil)
	both(t, []byte{0xb7, 1, 0, 0, 5, 0, 0, 0}, api.Inst{Op: 0xb7, Dst: 1, Imm: 5})
	both(t, make([]byte, 8), api.Inst{})
	both(t, bytes.Repeat([]byte{0xff}, 8), api.Inst{Op: 0xff, Dst: 15, Src: 15, Off: -1, Imm: -1})
	both(t, []byte{0x12, 0x43, 0x65, 0x07, 0xa9, 0xcb, 0xed, 0x0f},
		api.Inst{Op: 0x12, Dst: 3, Src: 4, Off: 0x0765, Imm: 0x0fedcba9})
	both(t, []byte{1, 0, 0, 0x80, 0, 0, 0, 0x80}, api.Inst{Op: 1, Off: math.MinInt16, Imm: math.MinInt32})
	both(t, []byte{1, 0, 0xff, 0x7f, 0xff, 0xff, 0xff, 0x7f}, api.Inst{Op: 1, Off: math.MaxInt16, Imm: math.MaxInt32})
	both(t, []byte{0x5e, 0x21, 0xfd, 0xff, 0, 0, 0, 0, 0x95, 0, 0, 0, 0, 0, 0, 0, 0, 0, 0, 0, 0xfe, 0xff, 0xff, 0xff},
		api.Inst{Op: 0x5e, Dst: 1, Src: 2, Off: -3}, api.Inst{Op: 0x95}, api.Inst{Imm: -2})
}

func TestDecodeNoBytes(t *testing.T) {
	for _, b := range [][]byte{nil, {}, make([]byte, 0, 8)} {
		decodes(t, b)
	}
}

func TestDecodeCut(t *testing.T) {
	whole := bytes.Repeat([]byte{0x95}, 41)
	for n := range whole {
		got, e := Decode(whole[:n])
		if n%8 == 0 {
			if len(got) != n/8 || e != api.OK {
				t.Errorf("%d bytes: %v %v", n, got, e)
			}
		} else if len(got) != 0 || e != api.ErrCut {
			t.Errorf("%d bytes: %v %v, want ErrCut", n, got, e)
		}
	}
}

func TestDecodeTakesAnyOperation(t *testing.T) {
	for op := range 256 {
		both(t, []byte{byte(op), 0xba, 0, 0, 0, 0, 0, 0}, api.Inst{Op: uint8(op), Dst: 10, Src: 11})
	}
}

func TestEncodeLowFourBits(t *testing.T) {
	for r := range 256 {
		low := byte(r & 15)
		encodes(t, []byte{7, low, 0, 0, 0, 0, 0, 0}, api.Inst{Op: 7, Dst: uint8(r)})
		encodes(t, []byte{7, low << 4, 0, 0, 0, 0, 0, 0}, api.Inst{Op: 7, Src: uint8(r)})
		encodes(t, []byte{7, low<<4 | 15 - low, 0, 0, 0, 0, 0, 0}, api.Inst{Op: 7, Dst: ^uint8(r), Src: uint8(r)})
	}
}

func TestMoreSlotsThanAProgramHas(t *testing.T) {
	list := make([]api.Inst, 5*api.MaxInsns+1)
	for i := range list {
		list[i] = api.Inst{Op: uint8(i), Dst: uint8(i % 16), Src: uint8(i / 16 % 16), Off: int16(-i), Imm: int32(i * 1e6)}
	}
	decodes(t, Encode(list...), list...)
}

func TestCodecSharesNothing(t *testing.T) {
	in := []byte{0xb7, 1, 0, 0, 5, 0, 0, 0, 0x95, 0, 0, 0, 0, 0, 0, 0}
	kept := slices.Clone(in)
	short, _ := Decode(in[:8])
	_ = append(short, api.Inst{Op: 0xff})
	short[0].Imm = 9
	if !bytes.Equal(in, kept) {
		t.Errorf("Decode has changed the bytes: %x", in)
	}
	decodes(t, in, api.Inst{Op: 0xb7, Dst: 1, Imm: 5}, api.Inst{Op: 0x95})

	list := []api.Inst{{Op: 0x07, Dst: 0xff}, {Op: 0x95}}
	one := Encode(list[:1]...)
	_ = append(one, 0xff)
	one[0] = 0
	if list[0] != (api.Inst{Op: 0x07, Dst: 0xff}) || list[1] != (api.Inst{Op: 0x95}) {
		t.Errorf("Encode has changed the list: %v", list)
	}
	encodes(t, []byte{0x07, 0x0f, 0, 0, 0, 0, 0, 0, 0x95, 0, 0, 0, 0, 0, 0, 0}, list...)
}

// P2.2

// known is the chapter's list, written out, each with what it uses beside the
// operation: D and S registers, s a Src of 0 or 1, O Off, I Imm, W a second slot.
func known() map[uint8]string {
	ops := map[uint8]string{0x18: "DsIW", 0x05: "O", 0x85: "sI", 0x95: "", 0x84: "D", 0x87: "D"}
	for _, op := range []uint8{0x61, 0x69, 0x71, 0x79, 0x63, 0x6b, 0x73, 0x7b} {
		ops[op] = "DSO"
	}
	for _, op := range []uint8{0x62, 0x6a, 0x72, 0x7a} {
		ops[op] = "DOI"
	}
	for _, kind := range []uint8{0x00, 0x10, 0x20, 0x30, 0x40, 0x50, 0x60, 0x70, 0x90, 0xa0, 0xb0, 0xc0} {
		for _, class := range []uint8{4, 7} {
			ops[kind|class], ops[kind|8|class] = "DI", "DS"
		}
	}
	for _, kind := range []uint8{0x10, 0x20, 0x30, 0x40, 0x50, 0x60, 0x70, 0xa0, 0xb0, 0xc0, 0xd0} {
		for _, class := range []uint8{5, 6} {
			ops[kind|class], ops[kind|8|class] = "DOI", "DSO"
		}
	}
	return ops
}

func TestKnown(t *testing.T) {
	ops := known()
	if len(ops) != 110 {
		t.Fatalf("%d operations", len(ops))
	}
	for op := range 256 {
		_, want := ops[uint8(op)]
		if Known(uint8(op)) != want {
			t.Errorf("Known(%#x): %v", op, !want)
		}
	}
}

func TestPiecesOfOperations(t *testing.T) {
	for op := range 256 {
		o := uint8(op)
		if Class(o) != op%8 {
			t.Errorf("Class(%#x): %d", op, Class(o))
		}
		if Kind(o) != op/16*16 {
			t.Errorf("Kind(%#x): %#x", op, Kind(o))
		}
		if ByReg(o) != (op/8%2 == 1) {
			t.Errorf("ByReg(%#x): %v", op, ByReg(o))
		}
		if Wide(o) != (op == 24) {
			t.Errorf("Wide(%#x): %v", op, Wide(o))
		}
	}
	if Class(0xb7) != 7 || Kind(0xb7) != 0xb0 || ByReg(0xb7) || !ByReg(0xbf) || Kind(0xff) != 0xf0 {
		t.Errorf("mov")
	}
}

func TestSize(t *testing.T) {
	sizes := map[int]int{
		0x61: 4, 0x69: 2, 0x71: 1, 0x79: 8,
		0x62: 4, 0x6a: 2, 0x72: 1, 0x7a: 8,
		0x63: 4, 0x6b: 2, 0x73: 1, 0x7b: 8,
	}
	for op := range 256 {
		if Size(uint8(op)) != sizes[op] {
			t.Errorf("Size(%#x): %d, want %d", op, Size(uint8(op)), sizes[op])
		}
	}
}

// P2.3

func TestLong(t *testing.T) {
	for _, c := range []struct {
		lo, hi int32
		want   uint64
	}{
		{0, 0, 0},
		{1, 0, 1},
		{0, 1, 1 << 32},
		{-1, 0, 0xffffffff},
		{0, -1, 0xffffffff00000000},
		{-1, -1, math.MaxUint64},
		{math.MinInt32, 0, 1 << 31},
		{0, math.MinInt32, 1 << 63},
		{0x55667788, 0x11223344, 0x1122334455667788},
	} {
		if got := Long(api.Inst{Imm: c.lo}, api.Inst{Imm: c.hi}); got != c.want {
			t.Errorf("Long of %d, %d: %#x, want %#x", c.lo, c.hi, got, c.want)
		}
		noise := api.Inst{Op: 0xff, Dst: 0xff, Src: 0xff, Off: -1}
		lo, hi := noise, noise
		lo.Imm, hi.Imm = c.lo, c.hi
		if got := Long(lo, hi); got != c.want {
			t.Errorf("Long of %v, %v: %#x, want %#x", lo, hi, got, c.want)
		}
	}
}

func TestSplit(t *testing.T) {
	for _, c := range []struct {
		v      uint64
		lo, hi int32
	}{
		{0, 0, 0},
		{1 << 31, math.MinInt32, 0},
		{1<<32 - 1, -1, 0},
		{1 << 32, 0, 1},
		{1 << 63, 0, math.MinInt32},
		{math.MaxUint64, -1, -1},
		{0x1122334455667788, 0x55667788, 0x11223344},
	} {
		for _, r := range []uint8{0, 1, 10, 15, 16, 255} {
			want := []api.Inst{{Op: 0x18, Dst: r, Src: ^r, Imm: c.lo}, {Imm: c.hi}}
			got := Split(r, ^r, c.v)
			if !slices.Equal(got, want) {
				t.Errorf("Split(%d, %d, %#x): %v, want %v", r, ^r, c.v, got, want)
			} else if Long(got[0], got[1]) != c.v {
				t.Errorf("Long of Split of %#x: %#x", c.v, Long(got[0], got[1]))
			}
		}
	}
}

func TestSplitIsNewMemory(t *testing.T) {
	a, b := Split(1, 0, 5), Split(1, 0, 5)
	_ = append(a, api.Inst{Op: 0xff})
	a[0], a[1] = api.Inst{}, api.Inst{Op: 9}
	if !slices.Equal(b, []api.Inst{{Op: 0x18, Dst: 1, Imm: 5}, {}}) {
		t.Errorf("two answers share memory: %v", b)
	}
}

// P2.4

// dice rolls the same numbers on every run.
type dice uint64

func (d *dice) roll() uint64 {
	*d = *d*6364136223846793005 + 1442695040888963407
	v := uint64(*d)
	return v ^ v>>29
}

func TestThereAndBack(t *testing.T) {
	d := dice(2)
	for n := range 200 {
		b := make([]byte, 8*(n%20))
		for i := range b {
			b[i] = byte(d.roll() >> 20)
		}
		list, e := Decode(b)
		if e != api.OK || !bytes.Equal(Encode(list...), b) {
			t.Fatalf("Encode of Decode of %x: %x %v", b, Encode(list...), e)
		}
		for i := range list {
			list[i] = api.Inst{Op: uint8(d.roll() >> 20), Dst: uint8(d.roll() >> 20 % 16), Src: uint8(d.roll() >> 20 % 16),
				Off: int16(d.roll() >> 20), Imm: int32(d.roll() >> 20)}
		}
		decodes(t, Encode(list...), list...)
	}
}

func TestEveryRegisterByteThereAndBack(t *testing.T) {
	for r := range 256 {
		both(t, []byte{0x0f, byte(r), 0, 0, 0, 0, 0, 0}, api.Inst{Op: 0x0f, Dst: uint8(r % 16), Src: uint8(r / 16)})
	}
}
