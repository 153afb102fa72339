package alu

import (
	"math"
	"testing"

	"postern/api"
)

const (
	all  = math.MaxUint64
	low  = math.MaxUint32
	top  = 1 << 63
	bit  = 1 << 31
	over = 1 << 32
)

func does(t *testing.T, kind int, wide bool, a, b, want uint64) {
	t.Helper()
	if got, e := Do(kind, wide, a, b); got != want || e != api.OK {
		t.Errorf("Do(%#x, %v, %#x, %#x): %#x %v, want %#x", kind, wide, a, b, got, e, want)
	}
}

func holds(t *testing.T, kind int, wide bool, a, b uint64, want bool) {
	t.Helper()
	if got, e := Holds(kind, wide, a, b); got != want || e != api.OK {
		t.Errorf("Holds(%#x, %v, %#x, %#x): %v %v, want %v", kind, wide, a, b, got, e, want)
	}
}

func operand(t *testing.T, in api.Inst, src, want uint64) {
	t.Helper()
	if got := Operand(in, src); got != want {
		t.Errorf("Operand(%v, %#x): %#x, want %#x", in, src, got, want)
	}
}

func TestExamples(t *testing.T) {
	does(t, 0x30, true, 7, 0, 0)
	does(t, 0x90, false, over+7, 0, 7)
	does(t, 0x70, false, bit, 33, 1<<30)
	does(t, 0xc0, false, bit, 1, 0xc0000000)
	does(t, 0x80, false, 1, 0, low)
	if v, e := Do(0xd0, true, 1, 1); v != 0 || e != api.ErrArg {
		t.Errorf("Do of 0xd0: %d %v", v, e)
	}
	holds(t, 0x60, false, 0, low, true)
	operand(t, api.Inst{Op: 0x07, Imm: -1}, 5, all)
}

// P5.1

func TestAddSubMul(t *testing.T) {
	does(t, 0x00, true, 3, 4, 7)
	does(t, 0x00, true, all, 1, 0)
	does(t, 0x00, true, low, 1, over)
	does(t, 0x00, false, low, 1, 0)
	does(t, 0x00, false, over+3, over+4, 7)
	does(t, 0x10, true, 7, 4, 3)
	does(t, 0x10, true, 0, 1, all)
	does(t, 0x10, true, over, 1, low)
	does(t, 0x10, false, 0, 1, low)
	does(t, 0x10, false, over, 1, low)
	does(t, 0x20, true, 6, 7, 42)
	does(t, 0x20, true, top, 2, 0)
	does(t, 0x20, true, all, all, 1)
	does(t, 0x20, true, bit, 2, over)
	does(t, 0x20, false, bit, 2, 0)
	does(t, 0x20, false, low, low, 1)
}

func TestDivAndMod(t *testing.T) {
	does(t, 0x30, true, 23, 5, 4)
	does(t, 0x30, true, all, 2, top-1)
	does(t, 0x30, true, 5, all, 0)
	does(t, 0x30, true, all, 0, 0)
	does(t, 0x30, true, over, over, 1)
	does(t, 0x30, false, over+9, over+2, 4)
	does(t, 0x30, false, 9, over, 0)
	does(t, 0x30, false, low, 2, bit-1)
	does(t, 0x90, true, 23, 5, 3)
	does(t, 0x90, true, all, 10, 5)
	does(t, 0x90, true, 5, all, 5)
	does(t, 0x90, true, over+7, 0, over+7)
	does(t, 0x90, true, 0, 0, 0)
	does(t, 0x90, false, over+9, over+2, 1)
	does(t, 0x90, false, over+9, over, 9)
	does(t, 0x90, false, low, 10, 5)
}

func TestBitByBit(t *testing.T) {
	const a, b = 0xff00ff00f0f01234, 0x0ff00ff0ffff0f0f
	does(t, 0x40, true, a, b, 0xfff0fff0ffff1f3f)
	does(t, 0x40, false, a, b, 0xffff1f3f)
	does(t, 0x50, true, a, b, 0x0f000f00f0f00204)
	does(t, 0x50, false, a, b, 0xf0f00204)
	does(t, 0xa0, true, a, b, 0xf0f0f0f00f0f1d3b)
	does(t, 0xa0, false, a, b, 0x0f0f1d3b)
	does(t, 0xa0, true, a, a, 0)
}

func TestShifts(t *testing.T) {
	does(t, 0x60, true, 1, 63, top)
	does(t, 0x60, true, 3, 63, top)
	does(t, 0x60, true, 1, 64, 1)
	does(t, 0x60, true, 1, all, top)
	does(t, 0x60, true, bit, 1, over)
	does(t, 0x60, false, 1, 31, bit)
	does(t, 0x60, false, 3, 31, bit)
	does(t, 0x60, false, 1, 32, 1)
	does(t, 0x60, false, over+1, 0, 1)
	does(t, 0x60, false, 1, low, bit)
	does(t, 0x70, true, top, 63, 1)
	does(t, 0x70, true, top, 64, top)
	does(t, 0x70, true, top, 32, bit)
	does(t, 0x70, false, low, 31, 1)
	does(t, 0x70, false, all, 1, bit-1)
	does(t, 0x70, false, bit, 32, bit)
	does(t, 0x70, false, over, 1, 0)
	does(t, 0xc0, true, top, 63, all)
	does(t, 0xc0, true, top-1, 62, 1)
	does(t, 0xc0, true, top, 64, top)
	does(t, 0xc0, true, bit, 31, 1)
	does(t, 0xc0, false, bit, 31, low)
	does(t, 0xc0, false, bit-1, 30, 1)
	does(t, 0xc0, false, bit, 32, bit)
	does(t, 0xc0, false, top+4, 1, 2)
	does(t, 0xc0, false, over+bit, 0, bit)
}

func TestNegAndMov(t *testing.T) {
	does(t, 0x80, true, 1, 9, all)
	does(t, 0x80, true, 0, 9, 0)
	does(t, 0x80, true, top, 9, top)
	does(t, 0x80, false, 0, 9, 0)
	does(t, 0x80, false, over, 9, 0)
	does(t, 0x80, false, bit, 9, bit)
	does(t, 0x80, false, over+1, 9, low)
	does(t, 0xb0, true, 1, over+9, over+9)
	does(t, 0xb0, true, 1, all, all)
	does(t, 0xb0, false, 1, over+9, 9)
	does(t, 0xb0, false, 1, all, low)
}

func TestKindsOfOperations(t *testing.T) {
	for kind := -512; kind <= 1024; kind++ {
		want := api.ErrArg
		if kind >= 0 && kind <= 0xc0 && kind&15 == 0 {
			want = api.OK
		}
		for _, wide := range []bool{false, true} {
			v, e := Do(kind, wide, 7, 7)
			if e != want || e != api.OK && v != 0 {
				t.Errorf("Do(%#x, %v, 7, 7): %d %v, want %v", kind, wide, v, e, want)
			}
		}
	}
}

// P5.2

func TestConditions(t *testing.T) {
	type row struct {
		kind                 int
		less, equal, greater bool
	}
	for _, r := range []row{
		{0x10, false, true, false}, {0x50, true, false, true},
		{0x20, false, false, true}, {0x30, false, true, true},
		{0xa0, true, false, false}, {0xb0, true, true, false},
	} {
		for _, wide := range []bool{false, true} {
			holds(t, r.kind, wide, 3, 4, r.less)
			holds(t, r.kind, wide, 4, 4, r.equal)
			holds(t, r.kind, wide, 4, 3, r.greater)
			holds(t, r.kind, wide, 0, low, r.less)
			holds(t, r.kind, wide, low, 0, r.greater)
			holds(t, r.kind, wide, bit-1, bit, r.less)
		}
		holds(t, r.kind, true, top-1, top, r.less)
		holds(t, r.kind, true, all, 0, r.greater)
		holds(t, r.kind, true, over+3, 4, r.greater)
		holds(t, r.kind, false, over+3, 4, r.less)
		holds(t, r.kind, true, over+4, 4, r.greater)
		holds(t, r.kind, false, 4, over+4, r.equal)
	}
}

func TestSignedConditions(t *testing.T) {
	type row struct {
		kind                 int
		less, equal, greater bool
	}
	for _, r := range []row{
		{0x60, false, false, true}, {0x70, false, true, true},
		{0xc0, true, false, false}, {0xd0, true, true, false},
	} {
		for _, wide := range []bool{false, true} {
			holds(t, r.kind, wide, 3, 4, r.less)
			holds(t, r.kind, wide, 4, 4, r.equal)
			holds(t, r.kind, wide, 4, 3, r.greater)
			holds(t, r.kind, wide, all, 0, r.less)
			holds(t, r.kind, wide, 0, all, r.greater)
			holds(t, r.kind, wide, all-1, all, r.less)
			holds(t, r.kind, wide, all, all, r.equal)
		}
		holds(t, r.kind, true, top, top-1, r.less)
		holds(t, r.kind, true, low, 0, r.greater)
		holds(t, r.kind, false, low, 0, r.less)
		holds(t, r.kind, false, low, all, r.equal)
		holds(t, r.kind, true, low, all, r.greater)
		holds(t, r.kind, false, bit, bit-1, r.less)
		holds(t, r.kind, true, bit, bit-1, r.greater)
		holds(t, r.kind, false, top+3, 4, r.less)
		holds(t, r.kind, false, over+4, 4, r.equal)
	}
}

func TestSharedBits(t *testing.T) {
	for _, wide := range []bool{false, true} {
		holds(t, 0x40, wide, 6, 3, true)
		holds(t, 0x40, wide, 4, 3, false)
		holds(t, 0x40, wide, 0, all, false)
		holds(t, 0x40, wide, 0, 0, false)
		holds(t, 0x40, wide, bit, bit, true)
		holds(t, 0x40, wide, over, over, wide)
		holds(t, 0x40, wide, top, all, wide)
	}
}

func TestKindsOfConditions(t *testing.T) {
	for kind := -512; kind <= 1024; kind++ {
		want := api.ErrArg
		if kind&15 == 0 && (kind >= 0x10 && kind <= 0x70 || kind >= 0xa0 && kind <= 0xd0) {
			want = api.OK
		}
		for _, wide := range []bool{false, true} {
			v, e := Holds(kind, wide, 7, 7)
			if e != want || e != api.OK && v {
				t.Errorf("Holds(%#x, %v, 7, 7): %v %v, want %v", kind, wide, v, e, want)
			}
		}
	}
}

// P5.3

func TestOperands(t *testing.T) {
	for _, src := range []uint64{0, 5, bit, low, over, top, all} {
		for op := range 256 {
			in := api.Inst{Op: uint8(op), Dst: 3, Src: 4, Off: -7, Imm: -1}
			if op&8 != 0 {
				operand(t, in, src, src)
				continue
			}
			operand(t, in, src, all)
			in.Imm = 0
			operand(t, in, src, 0)
			in.Imm = 7
			operand(t, in, src, 7)
			in.Imm = math.MinInt32
			operand(t, in, src, 0xffffffff80000000)
			in.Imm = math.MaxInt32
			operand(t, in, src, bit-1)
		}
	}
}
