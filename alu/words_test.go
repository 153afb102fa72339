package alu

import (
	"math"
	"math/big"
	"testing"

	"postern/api"
)

// The chapter's words over whole numbers without an end, held against the
// package at many numbers.

type dice uint64

func (d *dice) below(n uint64) uint64 {
	*d = *d*6364136223846793005 + 1442695040888963407
	return uint64(*d) >> 33 % n
}

// number of any size, often one beside a power of 2.
func (d *dice) number() uint64 {
	n := uint64(1)<<d.below(64) + d.below(5) - 2
	switch d.below(4) {
	case 0:
		return n
	case 1:
		return -n
	case 2:
		return d.below(1<<31) << (d.below(8) * 4)
	}
	return d.below(1<<31)<<33 ^ d.below(1<<31)<<11 ^ d.below(1<<31)
}

func whole(a uint64) *big.Int {
	return new(big.Int).SetUint64(a)
}

func power(n uint) *big.Int {
	return new(big.Int).Lsh(big.NewInt(1), n)
}

// modulo 2^n, from 0 on.
func modulo(a *big.Int, n uint) *big.Int {
	return new(big.Int).Mod(a, power(n))
}

// complement: a number of n bits that may lie below 0.
func complement(a *big.Int, n uint) *big.Int {
	if a.Bit(int(n)-1) == 0 {
		return a
	}
	return new(big.Int).Sub(a, power(n))
}

func sizeOf(wide bool) uint {
	if wide {
		return 64
	}
	return 32
}

var operations = [...]string{"add", "sub", "mul", "div", "or", "and", "lsh", "rsh", "neg", "mod", "xor", "mov", "arsh"}

func doneByWords(name string, n uint, a, b *big.Int) *big.Int {
	v := new(big.Int)
	by := uint(new(big.Int).Mod(b, big.NewInt(int64(n))).Uint64())
	switch name {
	case "add":
		return v.Add(a, b)
	case "sub":
		return v.Sub(a, b)
	case "mul":
		return v.Mul(a, b)
	case "div":
		if b.Sign() == 0 {
			return v
		}
		return v.Quo(a, b)
	case "mod":
		if b.Sign() == 0 {
			return a
		}
		return v.Rem(a, b)
	case "or":
		return v.Or(a, b)
	case "and":
		return v.And(a, b)
	case "xor":
		return v.Xor(a, b)
	case "lsh":
		return v.Mul(a, power(by))
	case "rsh":
		return v.Quo(a, power(by))
	case "arsh":
		// Div rounds towards what is less, for a divisor above 0.
		return v.Div(complement(a, n), power(by))
	case "neg":
		return v.Neg(a)
	}
	return b
}

func TestDoByWords(t *testing.T) {
	d := dice(51)
	for range 40000 {
		a, b, wide := d.number(), d.number(), d.below(2) == 0
		if d.below(6) == 0 {
			b = a
		}
		if d.below(12) == 0 {
			b = d.below(2) << 32
		}
		n := sizeOf(wide)
		for i, name := range operations {
			w := doneByWords(name, n, modulo(whole(a), n), modulo(whole(b), n))
			does(t, i<<4, wide, a, b, modulo(w, n).Uint64())
		}
		if t.Failed() {
			return
		}
	}
}

var conditions = [...]string{1: "eq", 2: "gt", 3: "ge", 4: "set", 5: "ne", 6: "sgt", 7: "sge", 10: "lt", 11: "le", 12: "slt", 13: "sle"}

func heldByWords(name string, n uint, a, b *big.Int) bool {
	if name == "set" {
		return new(big.Int).And(a, b).Sign() != 0
	}
	if name[0] == 's' {
		name, a, b = name[1:], complement(a, n), complement(b, n)
	}
	way := a.Cmp(b)
	switch name {
	case "eq":
		return way == 0
	case "ne":
		return way != 0
	case "gt":
		return way > 0
	case "ge":
		return way >= 0
	case "lt":
		return way < 0
	}
	return way <= 0
}

func TestHoldsByWords(t *testing.T) {
	d := dice(52)
	for range 40000 {
		a, b, wide := d.number(), d.number(), d.below(2) == 0
		switch d.below(6) {
		case 0:
			b = a
		case 1:
			b = a ^ 1<<d.below(64)
		case 2:
			b = a + d.below(3) - 1
		}
		n := sizeOf(wide)
		for i, name := range conditions {
			if name != "" {
				want := heldByWords(name, n, modulo(whole(a), n), modulo(whole(b), n))
				holds(t, i<<4, wide, a, b, want)
			}
		}
		if t.Failed() {
			return
		}
	}
}

func TestOperandByWords(t *testing.T) {
	d := dice(53)
	for range 40000 {
		in := api.Inst{Op: uint8(d.below(256)), Dst: uint8(d.below(16)), Src: uint8(d.below(16)), Off: int16(d.number()), Imm: int32(d.number())}
		src := d.number()
		want := modulo(big.NewInt(int64(in.Imm)), 64).Uint64()
		if in.Op>>3%2 == 1 {
			want = src
		}
		operand(t, in, src, want)
	}
}

// P1

func TestNoArgumentPanics(t *testing.T) {
	edges := []uint64{0, 1, 31, 32, 63, 64, math.MaxInt32, 1 << 31, math.MaxUint32, 1 << 32, math.MaxInt64, 1 << 63, math.MaxUint64}
	kinds := []int{math.MinInt, math.MinInt32, -0x100, -0x10, -1, math.MaxInt32, math.MaxInt - 15, math.MaxInt}
	for kind := range 0x200 {
		kinds = append(kinds, kind)
	}
	for _, kind := range kinds {
		for _, a := range edges {
			for _, b := range edges {
				for _, wide := range []bool{false, true} {
					v, e := Do(kind, wide, a, b)
					if e != api.OK && v != 0 || !wide && v > math.MaxUint32 {
						t.Fatalf("Do(%#x, %v, %#x, %#x): %#x %v", kind, wide, a, b, v, e)
					}
					if held, e := Holds(kind, wide, a, b); e != api.OK && held {
						t.Fatalf("Holds(%#x, %v, %#x, %#x): %v %v", kind, wide, a, b, held, e)
					}
				}
			}
		}
	}
}
