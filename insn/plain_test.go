package insn

import (
	"math"
	"slices"
	"strings"
	"testing"

	"postern/api"
)

// P2.5

func plain(t *testing.T, want int, wantErr api.Errno, at int, list ...api.Inst) {
	t.Helper()
	kept := slices.Clone(list)
	if n, e := Plain(list, at); n != want || e != wantErr {
		t.Errorf("Plain(%v, %d): %d %v, want %d %v", list, at, n, e, want, wantErr)
	}
	if !slices.Equal(list, kept) {
		t.Errorf("Plain(%v, %d) has changed the list", kept, at)
	}
}

func TestPlainPlaces(t *testing.T) {
	for _, at := range []int{math.MinInt, -1, 0, 1, math.MaxInt} {
		plain(t, 0, api.ErrArg, at)
	}
	bad := api.Inst{Op: 0xff, Dst: 99}
	for _, at := range []int{math.MinInt, -2, -1, 2, 3, math.MaxInt} {
		plain(t, 0, api.ErrArg, at, bad, bad)
	}
	exit := api.Inst{Op: 0x95}
	plain(t, 1, api.OK, 0, exit, bad)
	plain(t, 0, api.ErrCode, 1, exit, bad)
	plain(t, 1, api.OK, 1, bad, exit)
	spare := []api.Inst{{Op: 0x18}, {}}
	plain(t, 0, api.ErrField, 0, spare[:1]...) // what lies in the spare room is no slot
	plain(t, 0, api.ErrArg, 1, spare[:1]...)
}

func TestPlainCodeAheadOfField(t *testing.T) {
	ops := known()
	for op := range 256 {
		want := api.ErrField
		if _, ok := ops[uint8(op)]; !ok {
			want = api.ErrCode
			plain(t, 0, want, 0, api.Inst{Op: uint8(op)}, api.Inst{})
		}
		plain(t, 0, want, 0, api.Inst{Op: uint8(op), Dst: 11, Src: 11, Off: 1, Imm: 1}, api.Inst{})
	}
}

// mayHold: may a field of an operation with those uses hold that number?
func mayHold(uses, register, sort string, v int) bool {
	switch {
	case strings.Contains(uses, register):
		return v <= 10
	case sort != "" && strings.Contains(uses, sort):
		return v <= 1
	}
	return v == 0
}

// wantPlain is P2.5 for an instruction with a second slot of nothing but an Imm.
func wantPlain(uses string, in api.Inst) (int, api.Errno) {
	ok := mayHold(uses, "D", "", int(in.Dst)) && mayHold(uses, "S", "s", int(in.Src))
	ok = ok && (in.Off == 0 || strings.Contains(uses, "O")) && (in.Imm == 0 || strings.Contains(uses, "I"))
	switch {
	case !ok:
		return 0, api.ErrField
	case strings.Contains(uses, "W"):
		return 2, api.OK
	}
	return 1, api.OK
}

func TestPlainFields(t *testing.T) {
	regs := []uint8{0, 1, 2, 9, 10, 11, 15, 16, 128, 255}
	offs := []int16{0, 1, -1, math.MinInt16, math.MaxInt16, 256}
	imms := []int32{0, 1, -1, math.MinInt32, math.MaxInt32, 1 << 16}
	for op, uses := range known() {
		for _, dst := range regs {
			for _, src := range regs {
				for _, off := range offs {
					for _, imm := range imms {
						in := api.Inst{Op: op, Dst: dst, Src: src, Off: off, Imm: imm}
						n, e := wantPlain(uses, in)
						if m, f := Plain([]api.Inst{in, {Imm: imm}}, 0); m != n || f != e {
							t.Fatalf("Plain(%v): %d %v, want %d %v", in, m, f, n, e)
						}
					}
				}
			}
		}
	}
}

// Each register on its own, all 256 numbers.
func TestPlainRegisters(t *testing.T) {
	for op, uses := range known() {
		for r := range 256 {
			for _, in := range []api.Inst{{Op: op, Dst: uint8(r)}, {Op: op, Src: uint8(r)}} {
				n, e := wantPlain(uses, in)
				plain(t, n, e, 0, in, api.Inst{})
			}
		}
	}
}

func TestPlainByName(t *testing.T) {
	for _, c := range []struct {
		what string
		in   api.Inst
		want api.Errno
	}{
		{"mov r1 5", api.Inst{Op: 0xb7, Dst: 1, Imm: 5}, api.OK},
		{"mov r1 5 with a Src", api.Inst{Op: 0xb7, Dst: 1, Src: 1, Imm: 5}, api.ErrField},
		{"mov r10 r10", api.Inst{Op: 0xbf, Dst: 10, Src: 10}, api.OK},
		{"mov r11 r1", api.Inst{Op: 0xbf, Dst: 11, Src: 1}, api.ErrField},
		{"mov r1 r11", api.Inst{Op: 0xbf, Dst: 1, Src: 11}, api.ErrField},
		{"mov r1 r2 with an Imm", api.Inst{Op: 0xbf, Dst: 1, Src: 2, Imm: 1}, api.ErrField},
		{"mov r1 r2 with an Off", api.Inst{Op: 0xbf, Dst: 1, Src: 2, Off: 8}, api.ErrField},
		{"div r0 0", api.Inst{Op: 0x37}, api.OK},
		{"lsh32 r0 99", api.Inst{Op: 0x64, Imm: 99}, api.OK},
		{"neg32 r2", api.Inst{Op: 0x84, Dst: 2}, api.OK},
		{"neg r2 with a Src", api.Inst{Op: 0x87, Dst: 2, Src: 1}, api.ErrField},
		{"neg r2 with an Imm", api.Inst{Op: 0x87, Dst: 2, Imm: -1}, api.ErrField},
		{"neg by register", api.Inst{Op: 0x8f, Dst: 2}, api.ErrCode},
		{"ldxw r1 r2 -4", api.Inst{Op: 0x61, Dst: 1, Src: 2, Off: -4}, api.OK},
		{"ldxw with an Imm", api.Inst{Op: 0x61, Dst: 1, Src: 2, Imm: 1}, api.ErrField},
		{"stb r1 0 -1", api.Inst{Op: 0x72, Dst: 1, Imm: -1}, api.OK},
		{"stb with a Src", api.Inst{Op: 0x72, Dst: 1, Src: 2}, api.ErrField},
		{"stxdw r10 -8 r3", api.Inst{Op: 0x7b, Dst: 10, Src: 3, Off: -8}, api.OK},
		{"stxdw with an Imm", api.Inst{Op: 0x7b, Dst: 10, Src: 3, Imm: 8}, api.ErrField},
		{"ja -1", api.Inst{Op: 0x05, Off: -1}, api.OK},
		{"ja with a Dst", api.Inst{Op: 0x05, Dst: 1}, api.ErrField},
		{"ja with a Src", api.Inst{Op: 0x05, Src: 1}, api.ErrField},
		{"ja with an Imm", api.Inst{Op: 0x05, Imm: 1}, api.ErrField},
		{"jne32 r1 r2 -3", api.Inst{Op: 0x5e, Dst: 1, Src: 2, Off: -3}, api.OK},
		{"jne32 r1 r2 with an Imm", api.Inst{Op: 0x5e, Dst: 1, Src: 2, Imm: 1}, api.ErrField},
		{"jeq r1 -1 7", api.Inst{Op: 0x15, Dst: 1, Off: 7, Imm: -1}, api.OK},
		{"jeq r1 -1 with a Src", api.Inst{Op: 0x15, Dst: 1, Src: 1, Imm: -1}, api.ErrField},
		{"call 0", api.Inst{Op: 0x85}, api.OK},
		{"call -1", api.Inst{Op: 0x85, Imm: -1}, api.OK},
		{"callp 1", api.Inst{Op: 0x85, Src: 1, Imm: 1}, api.OK},
		{"call with Src 2", api.Inst{Op: 0x85, Src: 2, Imm: 1}, api.ErrField},
		{"call with a Dst", api.Inst{Op: 0x85, Dst: 1, Imm: 1}, api.ErrField},
		{"call with an Off", api.Inst{Op: 0x85, Off: 1, Imm: 1}, api.ErrField},
		{"call by register", api.Inst{Op: 0x8d}, api.ErrCode},
		{"exit", api.Inst{Op: 0x95}, api.OK},
		{"exit with a Dst", api.Inst{Op: 0x95, Dst: 1}, api.ErrField},
		{"exit with a Src", api.Inst{Op: 0x95, Src: 1}, api.ErrField},
		{"exit with an Off", api.Inst{Op: 0x95, Off: 1}, api.ErrField},
		{"exit with an Imm", api.Inst{Op: 0x95, Imm: 1}, api.ErrField},
		{"ja of JMP32", api.Inst{Op: 0x06}, api.ErrCode},
		{"call of JMP32", api.Inst{Op: 0x86}, api.ErrCode},
		{"exit of JMP32", api.Inst{Op: 0x96}, api.ErrCode},
	} {
		n := 0
		if c.want == api.OK {
			n = 1
		}
		if m, e := Plain([]api.Inst{c.in}, 0); m != n || e != c.want {
			t.Errorf("%s: %d %v, want %d %v", c.what, m, e, n, c.want)
		}
	}
}

func TestPlainWide(t *testing.T) {
	exit := api.Inst{Op: 0x95}
	for _, v := range []uint64{0, 1, 1 << 31, 1 << 32, 1 << 63, math.MaxUint64} {
		for dst := range uint8(16) {
			for src := range uint8(16) {
				want, e := 2, api.OK
				if dst > 10 || src > 1 {
					want, e = 0, api.ErrField
				}
				s := Split(dst, src, v)
				plain(t, want, e, 0, s...)
				plain(t, want, e, 1, exit, s[0], s[1], exit)
				plain(t, 0, api.ErrField, 1, exit, s[0])
				plain(t, 0, api.ErrField, 0, s[0], exit, s[1])
			}
		}
	}
	low := api.Inst{Op: 0x18, Dst: 3, Src: 1, Imm: 7}
	for _, high := range []api.Inst{{Op: 0x18}, {Op: 1}, {Dst: 1}, {Src: 1}, {Off: 1}, {Off: -1, Imm: 1}} {
		plain(t, 0, api.ErrField, 0, low, high)
	}
	off := low
	off.Off = 1
	plain(t, 0, api.ErrField, 0, off, api.Inst{})
	plain(t, 0, api.ErrCode, 1, low, api.Inst{Imm: 5}) // the second slot has no operation of its own
}

// P1: every call ends and none panics, at all arguments.
func TestNoArgumentPanics(t *testing.T) {
	places := []int{math.MinInt, -1, 0, 1, 2, math.MaxInt}
	for op := range 256 {
		o := uint8(op)
		Known(o)
		Class(o)
		Kind(o)
		ByReg(o)
		Size(o)
		Wide(o)
		for _, in := range []api.Inst{{Op: o}, {Op: o, Dst: 255, Src: 255, Off: -1, Imm: -1}} {
			Long(in, in)
			Split(in.Dst, in.Src, math.MaxUint64)
			Encode(in)
			for _, at := range places {
				Plain(nil, at)
				Plain([]api.Inst{}, at)
				Plain([]api.Inst{in}, at)
				Plain([]api.Inst{in, in}, at)
			}
		}
	}
	for n := range 64 {
		Decode(make([]byte, n))
	}
	Decode(nil)
	Encode()
	Encode(nil...)
}
