package asm

import (
	"math"
	"slices"
	"strconv"
	"strings"
	"testing"

	"postern/api"
	"postern/insn"
)

func prints(t *testing.T, want string, list ...api.Inst) {
	t.Helper()
	if got, e := Print(list...); got != want || e != api.OK {
		t.Errorf("Print(%v): %q %v, want %q", list, got, e, want)
	}
}

func unprinted(t *testing.T, list ...api.Inst) {
	t.Helper()
	if got, e := Print(list...); got != "" || e != api.ErrWord {
		t.Errorf("Print(%v): %q %v, want ErrWord", list, got, e)
	}
}

func parses(t *testing.T, text string, want ...api.Inst) {
	t.Helper()
	if got, n, e := Parse(text); !slices.Equal(got, want) || n != 0 || e != api.OK {
		t.Errorf("Parse(%q): %v %d %v, want %v", text, got, n, e, want)
	}
}

func refuses(t *testing.T, text string, at int) {
	t.Helper()
	if got, n, e := Parse(text); len(got) != 0 || n != at || e != api.ErrWord {
		t.Errorf("Parse(%q): %v %d %v, want ErrWord at %d", text, got, n, e, at)
	}
}

// both: a line and the slots that are one with it.
func both(t *testing.T, line string, list ...api.Inst) {
	t.Helper()
	prints(t, line+"\n", list...)
	parses(t, line+"\n", list...)
	parses(t, line, list...)
}

// row of the chapter's table, its operation written out. The words behind the
// name: D and S registers, V a register or a number, O, I and N numbers.
type row struct {
	name  string
	op    uint8
	src   uint8
	words string
}

// table is the chapter's, a row for each name.
func table() []row {
	rows := []row{
		{"neg", 0x87, 0, "D"}, {"neg32", 0x84, 0, "D"},
		{"ldxb", 0x71, 0, "DSO"}, {"ldxh", 0x69, 0, "DSO"}, {"ldxw", 0x61, 0, "DSO"}, {"ldxdw", 0x79, 0, "DSO"},
		{"stb", 0x72, 0, "DOI"}, {"sth", 0x6a, 0, "DOI"}, {"stw", 0x62, 0, "DOI"}, {"stdw", 0x7a, 0, "DOI"},
		{"stxb", 0x73, 0, "DOS"}, {"stxh", 0x6b, 0, "DOS"}, {"stxw", 0x63, 0, "DOS"}, {"stxdw", 0x7b, 0, "DOS"},
		{"ja", 0x05, 0, "O"},
		{"call", 0x85, 0, "I"}, {"callp", 0x85, 1, "I"},
		{"exit", 0x95, 0, ""},
		{"lddw", 0x18, 0, "DN"}, {"ldmap", 0x18, 1, "DN"},
	}
	alu := map[string]uint8{
		"add": 0x00, "sub": 0x10, "mul": 0x20, "div": 0x30, "or": 0x40, "and": 0x50,
		"lsh": 0x60, "rsh": 0x70, "mod": 0x90, "xor": 0xa0, "mov": 0xb0, "arsh": 0xc0,
	}
	for name, kind := range alu {
		rows = append(rows, row{name, kind | 7, 0, "DV"}, row{name + "32", kind | 4, 0, "DV"})
	}
	jumps := map[string]uint8{
		"jeq": 0x10, "jgt": 0x20, "jge": 0x30, "jset": 0x40, "jne": 0x50, "jsgt": 0x60, "jsge": 0x70,
		"jlt": 0xa0, "jle": 0xb0, "jslt": 0xc0, "jsle": 0xd0,
	}
	for name, kind := range jumps {
		rows = append(rows, row{name, kind | 5, 0, "DVO"}, row{name + "32", kind | 6, 0, "DVO"})
	}
	return rows
}

// numbers are what a row's words are filled with.
type numbers struct {
	dst, src uint8
	byReg    bool
	off      int16
	imm      int32
	long     uint64
}

// with: the row's line and its slots.
func (r row) with(n numbers) (string, []api.Inst) {
	line := r.name
	in := api.Inst{Op: r.op, Src: r.src}
	var second []api.Inst
	for _, w := range r.words {
		line += " "
		if w == 'V' {
			w = 'I'
			if n.byReg {
				in.Op |= 8
				w = 'S'
			}
		}
		switch w {
		case 'D':
			in.Dst = n.dst
			line += "r" + strconv.Itoa(int(n.dst))
		case 'S':
			in.Src = n.src
			line += "r" + strconv.Itoa(int(n.src))
		case 'O':
			in.Off = n.off
			line += strconv.Itoa(int(n.off))
		case 'I':
			in.Imm = n.imm
			line += strconv.Itoa(int(n.imm))
		case 'N':
			in.Imm = int32(n.long)
			second = []api.Inst{{Imm: int32(n.long >> 32)}}
			line += strconv.FormatUint(n.long, 10)
		}
	}
	return line, append([]api.Inst{in}, second...)
}

// somewhere: numbers of which no two are the same, so that none can stand in for another.
var somewhere = numbers{dst: 3, src: 4, off: -5, imm: 6, long: 7<<32 | 8}

func TestTableIsWhole(t *testing.T) {
	if n := len(table()); n != 20+24+22 {
		t.Fatalf("%d rows", n)
	}
	ops := map[uint8]int{}
	for _, r := range table() {
		for _, byReg := range []bool{false, true} {
			n := somewhere
			n.byReg = byReg
			_, slots := r.with(n)
			if got, e := insn.Plain(slots, 0); got != len(slots) || e != api.OK {
				t.Errorf("%s: %v isn't plain: %v", r.name, slots, e)
			}
			ops[slots[0].Op]++
		}
	}
	for op := range 256 {
		if insn.Known(uint8(op)) != (ops[uint8(op)] > 0) {
			t.Errorf("operation %#x: %d rows", op, ops[uint8(op)])
		}
	}
}

// P3.1, P3.2: each name, with every register and the ends of every number.
func TestEveryName(t *testing.T) {
	for _, r := range table() {
		for _, byReg := range []bool{false, true} {
			n := somewhere
			n.byReg = byReg
			try := func(n numbers) {
				t.Helper()
				line, slots := r.with(n)
				both(t, line, slots...)
			}
			try(n)
			for reg := range uint8(11) {
				n.dst, n.src = reg, 10-reg
				try(n)
			}
			for _, off := range []int16{math.MinInt16, -10, -1, 0, 1, 10, math.MaxInt16} {
				n.off = off
				try(n)
			}
			for _, imm := range []int32{math.MinInt32, math.MinInt32 + 1, -100, -1, 0, 1, 9, math.MaxInt32} {
				n.imm = imm
				try(n)
			}
			for _, long := range []uint64{0, 1, 10, 1<<31 - 1, 1 << 31, 1<<32 - 1, 1 << 32, 1<<63 - 1, 1 << 63, math.MaxUint64} {
				n.long = long
				try(n)
			}
		}
	}
}

func TestExamples(t *testing.T) {
	both(t, "mov r0 1\nexit", api.Inst{Op: 0xb7, Imm: 1}, api.Inst{Op: 0x95})
	both(t, "jne32 r1 r2 -3", api.Inst{Op: 0x5e, Dst: 1, Src: 2, Off: -3})
	both(t, "lddw r3 4294967296", api.Inst{Op: 0x18, Dst: 3}, api.Inst{Imm: 1})
	for _, s := range []string{"mov r11 0", "mov r0 01", "ldxw r1 r2", "exit 0"} {
		refuses(t, s, 1)
	}
	parses(t, "#x\n\n  call   5", api.Inst{Op: 0x85, Imm: 5})
}

// P3.1

func TestPrintNothing(t *testing.T) {
	prints(t, "")
	prints(t, "", []api.Inst{}...)
	prints(t, "", nil...)
}

func TestPrintInOrder(t *testing.T) {
	prints(t, "exit\nldmap r1 18446744073709551615\nlddw r0 0\nexit\ncallp -1\n",
		api.Inst{Op: 0x95},
		api.Inst{Op: 0x18, Dst: 1, Src: 1, Imm: -1}, api.Inst{Imm: -1},
		api.Inst{Op: 0x18}, api.Inst{},
		api.Inst{Op: 0x95},
		api.Inst{Op: 0x85, Src: 1, Imm: -1})
}

func TestPrintWhatIsNotPlain(t *testing.T) {
	exit := api.Inst{Op: 0x95}
	wide := api.Inst{Op: 0x18, Dst: 2, Imm: 7}
	lists := [][]api.Inst{
		{{}}, {{Op: 0xff}}, {{Op: 0x06}}, {{Op: 0x86}}, {{Op: 0x96}}, {{Op: 0x8c}}, {{Op: 0x8f}}, {{Op: 0x0d}}, {{Op: 0x8d}}, {{Op: 0x9d}},
		{{Op: 0xb7, Dst: 11}}, {{Op: 0xbf, Src: 11}}, {{Op: 0xb7, Dst: 255}},
		{{Op: 0xb7, Src: 1}}, {{Op: 0xbf, Imm: 1}}, {{Op: 0xb7, Off: 1}}, {{Op: 0x87, Imm: 1}}, {{Op: 0x87, Src: 1}},
		{{Op: 0x61, Imm: 1}}, {{Op: 0x62, Src: 1}}, {{Op: 0x63, Imm: 1}},
		{{Op: 0x05, Imm: 1}}, {{Op: 0x05, Dst: 1}}, {{Op: 0x15, Src: 1}}, {{Op: 0x1d, Imm: 1}},
		{{Op: 0x95, Imm: 1}}, {{Op: 0x95, Dst: 1}}, {{Op: 0x85, Dst: 1}}, {{Op: 0x85, Src: 2}}, {{Op: 0x85, Off: 1}},
		{wide}, {wide, exit}, {wide, {Dst: 1}}, {wide, {Src: 1}}, {wide, {Off: 1}}, {wide, wide},
		{{Op: 0x18, Src: 2}, {}}, {{Op: 0x18, Dst: 11}, {}}, {{Op: 0x18, Off: 1}, {}},
		{wide, {}, {}},
	}
	for _, l := range lists {
		unprinted(t, l...)
		unprinted(t, append([]api.Inst{exit, wide, {Imm: 9}}, l...)...)
		unprinted(t, append(slices.Clone(l), exit)...)
	}
}

func TestPrintEveryOperation(t *testing.T) {
	for op := range 256 {
		list := []api.Inst{{Op: uint8(op)}, {}}
		n, e := insn.Plain(list, 0)
		if e != api.OK {
			unprinted(t, list...)
			unprinted(t, list[0])
			continue
		}
		if s, e := Print(list[:n]...); e != api.OK || strings.Count(s, "\n") != 1 || !strings.HasSuffix(s, "\n") {
			t.Errorf("Print(%#x): %q %v", op, s, e)
		}
		if n == 1 {
			unprinted(t, list...) // the slot of zeros is no instruction
		}
	}
}

func TestPrintLeavesTheList(t *testing.T) {
	list := []api.Inst{{Op: 0x18, Dst: 1, Imm: 2}, {Imm: 3}, {Op: 0xbf, Dst: 4, Src: 5}, {Op: 0xff}}
	kept := slices.Clone(list)
	for n := range list {
		Print(list[:n]...)
		Print(list...)
	}
	if !slices.Equal(list, kept) {
		t.Errorf("Print has changed the list: %v", list)
	}
}

// P3.2

func TestParseNothing(t *testing.T) {
	for _, s := range []string{
		"", "\n", "\n\n\n", " ", "   \n  ", "#", "#\n", "# mov r0 r99", "  #x  y", "#mov r0 1\n#\n \n", "##", "#\x00\xff\t\r", "# \t",
	} {
		parses(t, s)
	}
}

func TestParseBlanks(t *testing.T) {
	mov := api.Inst{Op: 0xb7, Dst: 1, Imm: -2}
	exit := api.Inst{Op: 0x95}
	for _, s := range []string{"mov r1 -2", "  mov r1 -2", "mov r1 -2   ", "mov   r1  -2", "    mov  r1    -2 "} {
		parses(t, s, mov)
		parses(t, s+"\nexit", mov, exit)
		parses(t, "exit \n"+s, exit, mov)
		parses(t, "\n#x\n"+s+"\n\n#y\nexit\n\n", mov, exit)
	}
	parses(t, strings.Repeat(" ", 100000)+"exit"+strings.Repeat(" ", 100000), exit)
}

func TestParseOtherBlanks(t *testing.T) {
	for _, s := range []string{"\t", "\r", "\v", "\f", "\x00", "\u00a0", "\u0085", "\u2003", "\x85", "\xa0", "\xff"} {
		for _, text := range []string{s, "exit" + s, s + "exit", "exit " + s, s + " exit", "mov r0" + s + "1", "mov" + s + "r0 1", "mov r0 1" + s, s + "#"} {
			refuses(t, text, 1)
			refuses(t, "exit\n"+text+"\n", 2)
		}
	}
	refuses(t, "exit\r\nexit\r\n", 1)
	refuses(t, "exit\n\r\n", 2)
}

func TestParseNames(t *testing.T) {
	for _, s := range []string{
		"x", "nop", "32", "p", "r0", "0", "-1", "mov#", "Exit 0", "EXIT", "exit;", "exit,", ";", "é", "\xc3",
		"add3232 r0 1", "add64 r0 1", "add 32 r0 1", "ad r0 1", "addr0 1", "ADD r0 1", "Mov r0 1", "neg3 r0", "neg323 r0",
		"ja32 0", "call32 1", "callp32 1", "exit32", "lddw32 r0 1", "ldmap32 r0 1", "ldxw32 r0 r1 0", "stw32 r0 0 1", "stxw32 r0 0 r1",
		"ldx r0 r1 0", "ldw r0 r1 0", "ldxd r0 r1 0", "ldxwd r0 r1 0", "ldxx r0 r1 0", "st r0 0 1", "stx r0 0 r1", "stxx r0 0 r1", "ldb r0 r1 0", "stxd r0 0 r1",
		"jgt64 r0 1 0", "j r0 1 0", "jeq3 r0 1 0", "jmp 0", "be16 r0", "le32 r0", "bswap r0", "movsx r0 r1", "sdiv r0 r1", "lddx r0 1", "ldd r0 1",
	} {
		refuses(t, s, 1)
	}
}

func TestParseWordCounts(t *testing.T) {
	for _, r := range table() {
		for _, byReg := range []bool{false, true} {
			n := somewhere
			n.byReg = byReg
			line, _ := r.with(n)
			words := strings.Split(line, " ")
			for k := 1; k < len(words); k++ {
				refuses(t, strings.Join(words[:k], " "), 1)
				refuses(t, strings.Join(words[:k], " ")+" \nexit", 1)
				refuses(t, strings.Join(words[:k], " ")+"\n"+strings.Join(words[k:], " "), 1)
			}
			for _, more := range []string{"0", "r0", "#", "# and so on", "exit", "x", line} {
				refuses(t, line+" "+more, 1)
			}
		}
	}
}

// TestParseWords puts into each place of each line words that can't stand there.
func TestParseWords(t *testing.T) {
	registers := []string{"r", "r11", "r00", "r01", "r010", "r-1", "r-0", "r+1", "r1.", "r1,", "R1", "rr1", "r 1", "r100", "r256", "r266", "r4294967296", "r18446744073709551616", "rx", "x1", "#", "r\xff", "r１"}
	either := []string{"", "+1", "-", "--1", "-0", "00", "01", "-01", "0x1", "1_0", "1e1", "1.0", "1-", "0b1", "0o7", "a", "#0", "+", "- 1", "１", "\xff", "9999999999999999999999999999", "-9999999999999999999999999999"}
	bad := map[rune][]string{
		'D': slices.Concat(registers, either, []string{"0", "1", "-1"}),
		'S': slices.Concat(registers, either, []string{"0", "1", "-1"}),
		'V': slices.Concat(registers, either, []string{"2147483648", "-2147483649", "4294967295", "9223372036854775808"}),
		'I': slices.Concat(registers, either, []string{"r0", "r10", "2147483648", "-2147483649", "4294967295"}),
		'O': slices.Concat(registers, either, []string{"r0", "r10", "32768", "-32769", "65535", "65536", "2147483647"}),
		'N': slices.Concat(registers, either, []string{"r0", "r10", "-1", "18446744073709551616", "18446744073709551625"}),
	}
	for _, r := range table() {
		line, _ := r.with(somewhere)
		words := strings.Split(line, " ")
		for k, w := range r.words {
			for _, b := range bad[w] {
				with := slices.Clone(words)
				with[k+1] = b
				refuses(t, strings.Join(with, " "), 1)
			}
		}
	}
}

func TestParseLineNumbers(t *testing.T) {
	refuses(t, "x", 1)
	refuses(t, "x\n", 1)
	refuses(t, "\nx", 2)
	refuses(t, "exit\n#\n\n  \nx\ny", 5)
	refuses(t, "exit\nmov r0\nexit\nx", 2)
	refuses(t, strings.Repeat("exit\n", 1000)+"exit exit", 1001)
	refuses(t, strings.Repeat("\n", 100000)+"x", 100001)
}

func TestParseMoreThanAProgramHas(t *testing.T) {
	want := slices.Repeat([]api.Inst{{Op: 0x18, Dst: 1, Imm: 2}, {}}, 5*api.MaxInsns)
	parses(t, strings.Repeat("lddw r1 2\n", 5*api.MaxInsns), want...)
}

func TestParseAnswersItsOwn(t *testing.T) {
	text := "mov r0 1\nexit\n"
	one, _, _ := Parse(text)
	two, _, _ := Parse(text)
	one[0] = api.Inst{}
	_ = append(one, api.Inst{Op: 0xff})
	if !slices.Equal(two, []api.Inst{{Op: 0xb7, Imm: 1}, {Op: 0x95}}) {
		t.Errorf("two answers share memory: %v", two)
	}
	parses(t, text, two...)
}

// P3.3

// dice: numbers that go up and down, the same in each run.
type dice uint64

func (d *dice) next(n int) int {
	*d = *d*6364136223846793005 + 1442695040888963407
	return int(uint64(*d) >> 33 % uint64(n))
}

func TestThereAndBack(t *testing.T) {
	d := dice(1)
	rows := table()
	slices.SortFunc(rows, func(a, b row) int { return strings.Compare(a.name, b.name) })
	for range 500 {
		var text string
		var list []api.Inst
		for range d.next(20) {
			line, slots := rows[d.next(len(rows))].with(numbers{
				dst: uint8(d.next(11)), src: uint8(d.next(11)), byReg: d.next(2) == 1,
				off: int16(d.next(1 << 16)), imm: int32(d.next(1<<31) << d.next(2)), long: uint64(d.next(1<<31))<<d.next(64) ^ uint64(d.next(1<<31)),
			})
			text += line + "\n"
			list = append(list, slots...)
		}
		prints(t, text, list...)
		parses(t, text, list...)
	}
}

// TestAnySlots: whatever the slots, Print says what Plain says, and its text
// goes back to them.
func TestAnySlots(t *testing.T) {
	d := dice(2)
	for op := range 256 {
		for range 200 {
			in := api.Inst{Op: uint8(op), Dst: uint8(d.next(12)), Src: uint8(d.next(12))}
			if d.next(2) == 0 {
				in.Src = uint8(d.next(3))
			}
			if d.next(2) == 0 {
				in.Off = int16(d.next(1 << 16))
			}
			if d.next(2) == 0 {
				in.Imm = int32(d.next(1 << 31))
			}
			for _, list := range [][]api.Inst{{in}, {in, {Imm: in.Imm}}} {
				if n, e := insn.Plain(list, 0); e != api.OK || n != len(list) {
					unprinted(t, list...)
					continue
				}
				text, _ := Print(list...)
				both(t, strings.TrimSuffix(text, "\n"), list...)
			}
		}
	}
}

// P1: every call ends and none panics, at all arguments.
func TestAnyText(t *testing.T) {
	d := dice(3)
	bits := []string{" ", "  ", "\n", "#", "r", "r1", "r10", "r11", "0", "-", "1", "32", "mov", "jeq", "ldxw", "stb", "stxdw", "lddw", "ldmap", "ja", "call", "callp", "exit", "neg32", "\x00", "\xff", "\t", "18446744073709551615"}
	for range 50000 {
		var text string
		for range d.next(8) {
			text += bits[d.next(len(bits))]
			if d.next(3) > 0 {
				text += " "
			}
		}
		list, n, e := Parse(text)
		if e != api.OK {
			if e != api.ErrWord || len(list) != 0 || n < 1 || n > 1+strings.Count(text, "\n") {
				t.Fatalf("Parse(%q): %v %d %v", text, list, n, e)
			}
			continue
		}
		said, e := Print(list...)
		if n != 0 || e != api.OK {
			t.Fatalf("Parse(%q): %v %d; Print: %v", text, list, n, e)
		}
		parses(t, said, list...)
	}
	for a := range 256 {
		for b := range 256 {
			Parse(string([]byte{byte(a), byte(b)}))
		}
	}
	refuses(t, strings.Repeat("mov ", 100000), 1)
	refuses(t, "mov r0 "+strings.Repeat("1", 1000000), 1)
	refuses(t, strings.Repeat("r", 1000000), 1)
}
