package shape

import (
	"math"
	"slices"
	"strconv"
	"strings"
	"testing"

	"postern/api"
	"postern/asm"
	"postern/insn"
)

// slots of a text whose lines are parted by ";".
func slots(t *testing.T, text string) []api.Inst {
	t.Helper()
	list, _, e := asm.Parse(strings.ReplaceAll(text, ";", "\n"))
	if e != api.OK {
		t.Fatalf("%q is no text", text)
	}
	return list
}

func number(n int) string {
	return strconv.Itoa(n)
}

func checks(t *testing.T, list []api.Inst, at int, want api.Errno) {
	t.Helper()
	kept := slices.Clone(list)
	if got, e := Check(list); got != at || e != want {
		t.Errorf("Check(%v): %d %v, want %d %v", list, got, e, at, want)
	}
	if !slices.Equal(list, kept) {
		t.Errorf("Check(%v) has changed the list", kept)
	}
}

func check(t *testing.T, text string, at int, want api.Errno) {
	t.Helper()
	if got, e := Check(slots(t, text)); got != at || e != want {
		t.Errorf("Check(%q): %d %v, want %d %v", text, got, e, at, want)
	}
}

func starts(t *testing.T, list []api.Inst, want ...int) {
	t.Helper()
	var got []int
	all := Starts(list)
	for slot, begins := range all {
		if begins {
			got = append(got, slot)
		}
	}
	if len(all) != len(list) || !slices.Equal(got, want) {
		t.Errorf("Starts(%v): %v, want %v of %d", list, all, want, len(list))
	}
}

func targets(t *testing.T, list []api.Inst, at, want int, ok bool) {
	t.Helper()
	if got, found := Target(list, at); got != want || found != ok {
		t.Errorf("Target(%v, %d): %d %v, want %d %v", list, at, got, found, want, ok)
	}
}

func begin(t *testing.T, list []api.Inst, want ...int) {
	t.Helper()
	if got := Parts(list); !slices.Equal(got, want) {
		t.Errorf("Parts(%v): %v, want %v", list, got, want)
	}
}

func TestExamples(t *testing.T) {
	check(t, "mov r0 0;exit", 0, api.OK)
	checks(t, nil, 0, api.ErrSize)
	check(t, "ja 0", 0, api.ErrJump)
	check(t, "ja -1", 0, api.OK)
	check(t, "mov r10 1;exit", 0, api.ErrField)
	check(t, "div r0 0;exit", 0, api.ErrField)
	check(t, "lsh32 r0 32;exit", 0, api.ErrField)
	check(t, "mov r0 0", 0, api.ErrEnd)
	check(t, "ja 1;lddw r0 1;exit", 0, api.ErrJump)
	check(t, "callp 1;exit;mov r0 0;exit", 0, api.OK)
	begin(t, slots(t, "callp 1;exit;mov r0 0;exit"), 0, 2)
	check(t, "callp 1;ja 0;exit", 1, api.ErrJump)
}

// P4.1: sizes

func TestSizes(t *testing.T) {
	checks(t, []api.Inst{}, 0, api.ErrSize)
	checks(t, make([]api.Inst, 0, 8), 0, api.ErrSize)
	exit := slices.Repeat([]api.Inst{{Op: 0x95}}, api.MaxInsns+1)
	for _, n := range []int{1, 2, api.MaxInsns - 1, api.MaxInsns} {
		checks(t, exit[:n], 0, api.OK)
	}
	checks(t, exit, 0, api.ErrSize)
	checks(t, slices.Repeat(exit, 100), 0, api.ErrSize)
	wrong := slices.Repeat([]api.Inst{{Op: 0xff}}, api.MaxInsns+1)
	checks(t, wrong, 0, api.ErrSize)
	checks(t, wrong[:api.MaxInsns], 0, api.ErrCode)
	wide := slices.Repeat([]api.Inst{{Op: 0x18}, {}}, api.MaxInsns/2)
	checks(t, append(slices.Clone(wide), api.Inst{Op: 0x95}), 0, api.ErrSize)
	checks(t, wide, api.MaxInsns-2, api.ErrEnd)
}

// P4.1: each instruction

func TestEveryOperation(t *testing.T) {
	exit := api.Inst{Op: 0x95}
	for op := range 256 {
		in := api.Inst{Op: uint8(op), Imm: 1}
		if op == 0x87 || op == 0x84 || op == 0x05 || op == 0x95 || insn.ByReg(uint8(op)) || insn.Class(uint8(op)) == 1 || insn.Class(uint8(op)) == 3 {
			in.Imm = 0
		}
		list := []api.Inst{exit, in, exit}
		if op == 0x18 {
			list = []api.Inst{exit, {Op: 0x18, Imm: 1}, {Imm: 1}, exit}
		}
		if insn.Known(uint8(op)) {
			checks(t, list, 0, api.OK)
		} else {
			checks(t, list, 1, api.ErrCode)
		}
	}
}

func TestFieldsThatAreNotPlain(t *testing.T) {
	exit := api.Inst{Op: 0x95}
	wide := api.Inst{Op: 0x18, Dst: 2, Imm: 7}
	for _, c := range []struct {
		list []api.Inst
		want api.Errno
	}{
		{[]api.Inst{{}}, api.ErrCode},
		{[]api.Inst{{Op: 0xff, Dst: 11}}, api.ErrCode},
		{[]api.Inst{{Op: 0x06}}, api.ErrCode},
		{[]api.Inst{{Op: 0x8f, Dst: 10}}, api.ErrCode},
		{[]api.Inst{{Op: 0xb7, Dst: 11}}, api.ErrField},
		{[]api.Inst{{Op: 0xb7, Src: 1}}, api.ErrField},
		{[]api.Inst{{Op: 0xbf, Imm: 1}}, api.ErrField},
		{[]api.Inst{{Op: 0x05, Imm: 1}}, api.ErrField},
		{[]api.Inst{{Op: 0x95, Off: 1}}, api.ErrField},
		{[]api.Inst{{Op: 0x85, Src: 2}}, api.ErrField},
		{[]api.Inst{{Op: 0x18, Src: 2}, {}}, api.ErrField},
		{[]api.Inst{wide}, api.ErrField},
		{[]api.Inst{wide, exit}, api.ErrField},
		{[]api.Inst{wide, wide}, api.ErrField},
		{[]api.Inst{wide, {Off: 1}}, api.ErrField},
	} {
		checks(t, c.list, 0, c.want)
		checks(t, slices.Concat([]api.Inst{exit, wide, {Imm: 9}}, c.list), 3, c.want)
		checks(t, append(slices.Clone(c.list), api.Inst{Op: 0xff}), 0, c.want)
	}
	checks(t, []api.Inst{exit, wide, {Imm: 9}, {Imm: 9}, exit}, 3, api.ErrCode) // a third slot is no part of it
	spare := []api.Inst{wide, {}, exit}
	checks(t, spare[:1], 0, api.ErrField)
}

func TestWritesOfR10(t *testing.T) {
	alu := []string{"add", "sub", "mul", "div", "or", "and", "lsh", "rsh", "mod", "xor", "mov", "arsh"}
	for _, name := range alu {
		for _, end := range []string{"", "32"} {
			for _, operand := range []string{" 1", " r0", " r10"} {
				check(t, name+end+" r10"+operand+";exit", 0, api.ErrField)
				check(t, name+end+" r9"+operand+";exit", 0, api.OK)
			}
		}
	}
	for _, name := range []string{"neg", "neg32"} {
		check(t, name+" r10;exit", 0, api.ErrField)
		check(t, name+" r9;exit", 0, api.OK)
	}
	for _, size := range []string{"b", "h", "w", "dw"} {
		check(t, "ldx"+size+" r10 r1 0;exit", 0, api.ErrField)
		check(t, "ldx"+size+" r1 r10 -8;exit", 0, api.OK)
		check(t, "st"+size+" r10 -8 1;exit", 0, api.OK)
		check(t, "stx"+size+" r10 -8 r10;exit", 0, api.OK)
	}
	check(t, "lddw r10 1;exit", 0, api.ErrField)
	check(t, "ldmap r10 1;exit", 0, api.ErrField)
	check(t, "lddw r9 1;exit", 0, api.OK)
	check(t, "exit;lddw r0 1;ldmap r10 1;exit", 3, api.ErrField)
	for _, name := range []string{"jeq", "jgt", "jge", "jset", "jne", "jsgt", "jsge", "jlt", "jle", "jslt", "jsle"} {
		for _, end := range []string{"", "32"} {
			check(t, name+end+" r10 1 0;exit", 0, api.OK)
			check(t, name+end+" r10 r10 0;exit", 0, api.OK)
		}
	}
}

func TestDivisionByNought(t *testing.T) {
	for _, name := range []string{"div", "mod", "div32", "mod32"} {
		check(t, name+" r0 0;exit", 0, api.ErrField)
		check(t, "exit;"+name+" r9 0;exit", 1, api.ErrField)
		for _, operand := range []string{"1", "-1", "64", "2147483647", "-2147483648", "r0", "r10"} {
			check(t, name+" r0 "+operand+";exit", 0, api.OK)
		}
	}
	for _, name := range []string{"add", "sub", "mul", "or", "and", "xor", "mov", "lsh", "rsh", "arsh"} {
		check(t, name+" r0 0;exit", 0, api.OK)
		check(t, name+"32 r0 0;exit", 0, api.OK)
	}
}

func TestShifts(t *testing.T) {
	list := []api.Inst{{}, {Op: 0x95}}
	for _, kind := range []uint8{0x60, 0x70, 0xc0} {
		for class, top := range map[uint8]int32{4: 31, 7: 63} {
			for imm := int32(-70); imm <= 300; imm++ {
				list[0] = api.Inst{Op: kind | class, Imm: imm}
				want := api.OK
				if imm < 0 || imm > top {
					want = api.ErrField
				}
				checks(t, list, 0, want)
			}
			for _, imm := range []int32{math.MinInt32, math.MinInt32 + 1, 1 << 16, math.MaxInt32} {
				list[0] = api.Inst{Op: kind | class, Imm: imm}
				checks(t, list, 0, api.ErrField)
			}
			list[0] = api.Inst{Op: kind | class | 8, Src: 10}
			checks(t, list, 0, api.OK)
		}
	}
	for _, name := range []string{"add", "sub", "mul", "div", "or", "and", "mod", "xor", "mov"} {
		for _, imm := range []string{"-1", "32", "64", "2147483647", "-2147483648"} {
			check(t, name+" r0 "+imm+";exit", 0, api.OK)
			check(t, name+"32 r0 "+imm+";exit", 0, api.OK)
		}
	}
}

func TestTheFirstWrongInstruction(t *testing.T) {
	check(t, "mov r0 0;div r0 0;mov r10 0;exit", 1, api.ErrField)
	check(t, "mov r0 0;lddw r0 0;lsh r0 64;mov r10 0", 3, api.ErrField)
	wrong := api.Inst{Op: 0xff}
	checks(t, append(slots(t, "mov r10 0"), wrong), 0, api.ErrField)
	checks(t, append([]api.Inst{wrong}, slots(t, "mov r10 0")...), 0, api.ErrCode)
	checks(t, append(slots(t, "ja 99;ja -99;callp 99"), wrong), 3, api.ErrCode) // instructions come ahead of jumps
	check(t, "ja 99;jeq r0 0 99;mod32 r1 0", 2, api.ErrField)
}

// P4.1: jumps

func TestStrayJumps(t *testing.T) {
	for _, name := range []string{"ja", "jeq r1 2", "jne32 r1 2", "jsle r1 r2", "jlt32 r1 r2"} {
		for _, off := range []string{"-2", "-1", "0", "2"} {
			check(t, "exit;"+name+" "+off+";lddw r0 1;exit", 0, api.OK)
		}
		for _, off := range []string{"-32768", "-4", "-3", "1", "3", "4", "254", "32767"} {
			check(t, "exit;"+name+" "+off+";lddw r0 1;exit", 1, api.ErrJump)
		}
	}
	check(t, "exit;callp -2;lddw r0 1;exit", 0, api.OK)
	check(t, "exit;callp -1;lddw r0 1;exit", 0, api.OK)
	check(t, "exit;callp 1;exit;exit", 0, api.OK)
	for _, off := range []string{"-2147483648", "-32768", "-4", "-3", "1", "3", "4", "254", "2147483647"} {
		check(t, "exit;callp "+off+";lddw r0 1;exit", 1, api.ErrJump)
	}
	check(t, "callp 2147483647;exit", 0, api.ErrJump)
	check(t, "callp -2147483648;exit", 0, api.ErrJump)
	check(t, "exit;ja 0", 1, api.ErrJump)
	check(t, "ja -2;exit", 0, api.ErrJump)
	check(t, "lddw r0 1;ja -2", 2, api.ErrJump)
	check(t, "lddw r0 1;ja -3", 0, api.OK)
	check(t, "lddw r0 1;callp -2;exit", 2, api.ErrJump)
	check(t, "ja 0;lddw r0 1;ja 99;ja 99", 3, api.ErrJump)
}

func TestWhatIsNoJump(t *testing.T) {
	check(t, "call 2147483647;exit", 0, api.OK)
	check(t, "call -2147483648;exit", 0, api.OK)
	check(t, "call 1;lddw r0 1;exit", 0, api.OK)
	check(t, "ldxb r0 r1 32767;stb r1 -32768 1;stxb r1 32767 r0;exit", 0, api.OK)
}

func TestCrossJumps(t *testing.T) {
	check(t, "callp 2;mov r0 0;exit;mov r0 1;exit", 0, api.OK) // parts 0 and 3
	for _, name := range []string{"ja", "jeq r1 2", "jne32 r1 2", "jsle r1 r2", "jlt32 r1 r2"} {
		for off := -2; off <= 2; off++ {
			text := "callp 2;" + name + " " + number(off) + ";exit;mov r0 1;exit"
			if off >= 1 {
				check(t, text, 1, api.ErrJump)
			} else {
				check(t, text, 0, api.OK)
			}
			text = "callp 2;mov r0 0;exit;" + name + " " + number(off-2) + ";exit"
			if off < 1 {
				check(t, text, 3, api.ErrJump)
			} else {
				check(t, text, 0, api.OK)
			}
		}
	}
	check(t, "callp 1;exit;callp 1;exit;ja -2", 4, api.ErrJump) // between other parts than the first
	check(t, "callp 1;exit;callp 1;ja -2;exit", 0, api.OK)
	check(t, "callp 2;ja 0;exit;callp -4;exit", 0, api.OK) // calls may lead anywhere
	check(t, "ja 1;exit;callp -1;exit", 0, api.ErrJump)    // a part may begin where a jump leads, and the jump lies outside
	check(t, "callp 1;exit;jeq r0 0 -1;exit", 0, api.OK)   // a jump to its part's own beginning
	check(t, "callp 1;exit;exit;callp -2;exit", 0, api.OK) // two calls of one part
	check(t, "exit;callp -2;exit", 0, api.OK)              // the first part by a call
}

func TestStrayAheadOfCross(t *testing.T) {
	check(t, "callp 1;ja 0;exit;ja 99", 3, api.ErrJump)
	check(t, "callp 1;ja 0;callp 99;exit", 2, api.ErrJump)
	check(t, "callp 1;ja 0;mov r0 0", 1, api.ErrJump) // and both ahead of ends
	check(t, "callp 1;mov r0 0;jeq r0 0 9", 2, api.ErrJump)
	check(t, "callp 1;mov r0 0;jeq r0 0 -3;ja -3", 2, api.ErrJump)
}

// P4.1: ends

func TestEnds(t *testing.T) {
	for _, last := range []string{
		"mov r0 0", "neg r0", "ldxb r0 r1 0", "stb r1 0 0", "stxb r1 0 r1", "jeq r0 0 -1", "jne32 r0 r1 -2", "call 1", "callp -2", "lddw r0 1", "ldmap r0 1",
	} {
		check(t, "exit;"+last, 1, api.ErrEnd)
		check(t, "exit;"+last+";exit", 0, api.OK)
		check(t, "exit;"+last+";ja -1", 0, api.OK)
		n := len(slots(t, last))
		check(t, "callp "+number(n)+";"+last+";exit", 1, api.ErrEnd)
	}
	check(t, "exit", 0, api.OK)
	check(t, "lddw r0 1", 0, api.ErrEnd)
	check(t, "callp -1", 0, api.ErrEnd)
	check(t, "callp 0;exit", 0, api.ErrEnd)
	check(t, "callp 1;ja -1;ja -1", 0, api.OK)
	check(t, "mov r0 1;mov r0 2;mov r0 3", 2, api.ErrEnd)
	check(t, "callp 1;mov r0 0;mov r0 0", 1, api.ErrEnd) // the first of two parts
	check(t, "callp 1;exit;mov r0 0", 2, api.ErrEnd)
	check(t, "callp 2;callp 2;exit;mov r0 0;mov r0 0", 3, api.ErrEnd)
	check(t, "callp 3;callp 1;exit;exit;lddw r0 1", 4, api.ErrEnd)
	check(t, "callp 3;lddw r0 1;mov r0 0;exit", 3, api.ErrEnd)
	check(t, "callp 3;mov r0 0;lddw r0 1;exit", 2, api.ErrEnd) // by its first slot
}

func TestWholePrograms(t *testing.T) {
	check(t, "mov r7 10;add r8 1;sub r7 1;jne r7 0 -3;mov r0 0;exit", 0, api.OK)
	check(t, "ldxdw r2 r1 0;ldxdw r3 r1 8;mov r4 r2;add r4 1;jgt r4 r3 2;ldxb r0 r2 0;exit;mov r0 0;exit", 0, api.OK)
	check(t, "stw r10 -4 7;ldmap r1 3;mov r2 r10;add r2 -4;call 1;jeq r0 0 1;ldxb r7 r0 0;mov r0 2;exit", 0, api.OK)
	long := slots(t, "ja 254"+strings.Repeat(";mov r0 0", 254)+";exit")
	checks(t, long, 0, api.OK)
	checks(t, append(long[:255:255], api.Inst{Op: 0x05, Off: -256}), 0, api.OK)
	checks(t, append(long[:255:255], api.Inst{Op: 0x05, Off: -257}), 255, api.ErrJump)
}

// P4.2

func TestStarts(t *testing.T) {
	starts(t, nil)
	starts(t, []api.Inst{})
	starts(t, slots(t, "mov r0 0;exit"), 0, 1)
	starts(t, slots(t, "callp 1;exit;lddw r0 1;exit"), 0, 1, 2, 4)
	starts(t, slots(t, "lddw r0 1;ldmap r1 2;lddw r2 3"), 0, 2, 4)
	starts(t, slots(t, "mov r10 1;div r0 0;lsh r0 64;ja 99;callp -99;mov r0 0"), 0, 1, 2, 3, 4, 5) // plain, though not well formed
	wrong := api.Inst{Op: 0xff}
	exit := api.Inst{Op: 0x95}
	wide := api.Inst{Op: 0x18}
	starts(t, []api.Inst{wrong, exit})
	starts(t, []api.Inst{exit, wrong, exit, exit}, 0)
	starts(t, []api.Inst{exit, {Op: 0x95, Imm: 1}, exit}, 0)
	starts(t, []api.Inst{exit, wide}, 0)
	starts(t, []api.Inst{exit, wide, {Off: 1}, exit}, 0)
	starts(t, []api.Inst{wide, {}, {}, exit}, 0)
	starts(t, []api.Inst{exit, wide, exit, exit}, 0)
	if got := Starts(slices.Repeat([]api.Inst{exit}, 3*api.MaxInsns)); slices.Contains(got, false) || len(got) != 3*api.MaxInsns {
		t.Errorf("Starts of more slots than a program has: %v", got)
	}
}

func TestTarget(t *testing.T) {
	for _, name := range []string{"ja", "jeq r1 2", "jne32 r1 2", "jsle r1 r2", "jlt32 r1 r2", "callp"} {
		for off := -6; off <= 6; off++ {
			list := slots(t, "exit;"+name+" "+number(off)+";lddw r0 1;exit")
			want := 2 + off
			if ok := want >= 0 && want < 5; ok {
				targets(t, list, 1, want, true) // the middle of a wide load is a slot too
			} else {
				targets(t, list, 1, 0, false)
			}
			for _, at := range []int{math.MinInt, -2, -1, 0, 2, 3, 4, 5, 6, math.MaxInt} {
				targets(t, list, at, 0, false)
			}
		}
	}
	for _, text := range []string{"ja 32767", "ja -32768", "jeq r0 0 32767", "callp 2147483647", "callp -2147483648", "call 0", "call -1", "exit", "ldxb r0 r1 0", "stb r1 0 0", "add r0 0", "lddw r0 0"} {
		targets(t, slots(t, text+";exit;exit"), 0, 0, false)
	}
	for _, at := range []int{math.MinInt, -1, 0, 1, math.MaxInt} {
		targets(t, nil, at, 0, false)
	}
}

func TestTargetBehindWhatIsNotPlain(t *testing.T) {
	ja := api.Inst{Op: 0x05}
	wrong := api.Inst{Op: 0xff}
	list := []api.Inst{ja, wrong, ja, ja}
	targets(t, list, 0, 1, true) // a slot, though nothing begins there
	targets(t, list, 1, 0, false)
	targets(t, list, 2, 0, false)
	targets(t, []api.Inst{{Op: 0x05, Dst: 1}, ja}, 0, 0, false)
	targets(t, []api.Inst{{Op: 0x85, Src: 2}, ja}, 0, 0, false)
	targets(t, []api.Inst{{Op: 0x05, Off: 2}, ja, wrong, ja}, 0, 3, true)
	spare := []api.Inst{ja, ja}
	targets(t, spare[:1], 0, 0, false) // what lies in the spare room is no slot
}

func TestParts(t *testing.T) {
	begin(t, nil)
	begin(t, []api.Inst{})
	begin(t, slots(t, "exit"), 0)
	begin(t, []api.Inst{{Op: 0xff}}, 0)
	begin(t, slots(t, "callp 1;exit;mov r0 0;exit"), 0, 2)
	begin(t, slots(t, "callp -1;exit"), 0)
	begin(t, slots(t, "callp 4;callp 2;callp 2;exit;exit;exit"), 0, 4, 5) // told once, and rising
	begin(t, slots(t, "callp 0;callp 0;callp 0;callp 0"), 0, 1, 2, 3)
	begin(t, slots(t, "callp 99;callp -99;callp 2147483647;callp -2147483648"), 0)
	begin(t, slots(t, "callp 1;callp 0"), 0) // both lead to the end
	begin(t, slots(t, "callp 1;lddw r0 1"), 0, 2)
	begin(t, slots(t, "call 1;exit;ja -1;jeq r0 0 -2;exit"), 0)
	begin(t, append(slots(t, "callp 2"), api.Inst{Op: 0xff}, api.Inst{Op: 0x85, Src: 1}, api.Inst{}, api.Inst{}), 0, 3)
	begin(t, append([]api.Inst{{Op: 0xff}}, slots(t, "callp 0;exit")...), 0) // no call behind what isn't plain
	begin(t, []api.Inst{{Op: 0x85, Src: 1, Off: 1}, {}}, 0)
	begin(t, []api.Inst{{Op: 0x85, Src: 3}, {}}, 0)
}

func TestAnswersAreNewMemory(t *testing.T) {
	list := slots(t, "callp 1;exit;lddw r0 1;exit")
	kept := slices.Clone(list)
	one, two := Starts(list), Parts(list)
	one[0], two[1] = false, 77
	_, _ = append(one, false), append(two, 88)
	starts(t, list, 0, 1, 2, 4)
	begin(t, list, 0, 2)
	targets(t, list, 0, 2, true)
	if !slices.Equal(list, kept) {
		t.Errorf("the list has changed: %v", list)
	}
}
