package shape

import (
	"math"
	"slices"
	"strconv"
	"strings"
	"testing"

	"postern/api"
	"postern/asm"
	"postern/insn"
)

// read is an instruction by the words of its line, not by its bits: the
// chapter's words are taken one by one over these, and the package is held
// against what comes of it.
type read struct {
	at    int
	words []string
}

// reading: the instructions as far as they are plain; the slot and the error
// of the first that isn't.
func reading(list []api.Inst) ([]read, int, api.Errno) {
	var all []read
	for at := 0; at < len(list); {
		n, e := insn.Plain(list, at)
		if e != api.OK {
			return all, at, e
		}
		text, _ := asm.Print(list[at : at+n]...)
		all = append(all, read{at, strings.Fields(text)})
		at += n
	}
	return all, 0, api.OK
}

func (r read) name() string {
	return strings.TrimSuffix(r.words[0], "32")
}

func (r read) last() string {
	return r.words[len(r.words)-1]
}

func (r read) jumps() bool {
	return r.words[0][0] == 'j'
}

// to: the target, as a number that may be no slot.
func (r read) to() (int, bool) {
	if !r.jumps() && r.words[0] != "callp" {
		return 0, false
	}
	n, _ := strconv.Atoi(r.last())
	return r.at + 1 + n, true
}

func (r read) wrong() bool {
	narrow := strings.HasSuffix(r.words[0], "32")
	n, err := strconv.Atoi(r.last())
	switch r.name() {
	case "add", "sub", "mul", "or", "and", "xor", "mov", "neg", "ldxb", "ldxh", "ldxw", "ldxdw", "lddw", "ldmap":
		return r.words[1] == "r10"
	case "div", "mod":
		return r.words[1] == "r10" || r.last() == "0"
	case "lsh", "rsh", "arsh":
		return r.words[1] == "r10" || err == nil && (n < 0 || n > 63 || narrow && n > 31)
	}
	return false
}

func begins(all []read, slot int) bool {
	return slices.ContainsFunc(all, func(r read) bool { return r.at == slot })
}

// partOf by counting down: the slot, or the next one ahead of it, at which a
// part begins.
func partOf(all []read, slot int) int {
	for ; slot > 0; slot-- {
		for _, r := range all {
			if to, _ := r.to(); r.words[0] == "callp" && to == slot {
				return slot
			}
		}
	}
	return 0
}

func wantCheck(list []api.Inst) (int, api.Errno) {
	if len(list) < 1 || len(list) > 256 {
		return 0, api.ErrSize
	}
	all, at, e := reading(list)
	for _, r := range all {
		if r.wrong() {
			return r.at, api.ErrField
		}
	}
	if e != api.OK {
		return at, e
	}
	for _, r := range all {
		if to, ok := r.to(); ok && !begins(all, to) {
			return r.at, api.ErrJump
		}
	}
	for _, r := range all {
		if to, _ := r.to(); r.jumps() && partOf(all, to) != partOf(all, r.at) {
			return r.at, api.ErrJump
		}
	}
	for i, r := range all {
		last := i+1 == len(all) || partOf(all, all[i+1].at) != partOf(all, r.at)
		if last && r.words[0] != "exit" && r.words[0] != "ja" {
			return r.at, api.ErrEnd
		}
	}
	return 0, api.OK
}

// against holds all four calls against the reading.
func against(t *testing.T, list []api.Inst) api.Errno {
	t.Helper()
	at, e := wantCheck(list)
	checks(t, list, at, e)
	all, _, _ := reading(list)
	var slots, parts []int
	for _, r := range all {
		slots = append(slots, r.at)
	}
	starts(t, list, slots...)
	for slot := range list {
		called := slices.ContainsFunc(all, func(r read) bool {
			to, ok := r.to()
			return ok && !r.jumps() && to == slot
		})
		if slot == 0 || called {
			parts = append(parts, slot)
		}
	}
	begin(t, list, parts...)
	for at := -1; at <= len(list); at++ {
		want, ok := 0, false
		for _, r := range all {
			if to, leads := r.to(); r.at == at && leads && to >= 0 && to < len(list) {
				want, ok = to, true
			}
		}
		targets(t, list, at, want, ok)
	}
	return e
}

// dice: numbers that go up and down, the same in each run.
type dice uint64

func (d *dice) roll(n int) int {
	*d = *d*6364136223846793005 + 1442695040888963407
	return int(uint64(*d) >> 33 % uint64(n))
}

// line that is mostly right, so that what comes late in Check is come to.
func (d *dice) line(n int) string {
	near := strconv.Itoa(d.roll(n+2) - (n+2)/2)
	switch d.roll(12) {
	case 0, 1:
		return "exit"
	case 2:
		return "ja " + near
	case 3:
		return "jeq r1 0 " + near
	case 4:
		return "jsle32 r1 r2 " + near
	case 5, 6:
		return "callp " + near
	case 7:
		return "lddw r1 " + strconv.Itoa(d.roll(3))
	case 8:
		return "call " + near
	case 9:
		return "stxw r10 -4 r1"
	case 10:
		return "lsh32 r0 " + strconv.Itoa(d.roll(32)+d.roll(60)/59)
	default:
		return "div r" + strconv.Itoa(9+d.roll(40)/39) + " " + strconv.Itoa(1-d.roll(40)/39)
	}
}

func TestAgainstPlainWords(t *testing.T) {
	d := dice(1)
	seen := map[api.Errno]int{}
	for range 30000 {
		n := 1 + d.roll(8)
		var lines []string
		for range n {
			lines = append(lines, d.line(n))
		}
		if d.roll(2) == 0 {
			lines = append(lines, "exit")
		}
		list := slots(t, strings.Join(lines, ";"))
		if d.roll(30) == 0 {
			list[d.roll(len(list))].Op = uint8(d.roll(256))
		}
		seen[against(t, list)]++
	}
	for _, e := range []api.Errno{api.OK, api.ErrCode, api.ErrField, api.ErrJump, api.ErrEnd} {
		if seen[e] < 100 {
			t.Errorf("%v was come to %d times", e, seen[e])
		}
	}
}

// Each instruction by itself, with fields at their edges.
func TestEveryFieldAgainstPlainWords(t *testing.T) {
	exit := api.Inst{Op: 0x95}
	for op := range 256 {
		for _, dst := range []uint8{0, 9, 10, 11} {
			for _, src := range []uint8{0, 1, 2, 10} {
				for _, off := range []int16{0, 1, -1, -2, math.MinInt16, math.MaxInt16} {
					for _, imm := range []int32{0, 1, -1, -2, 31, 32, 63, 64, math.MinInt32, math.MaxInt32} {
						in := api.Inst{Op: uint8(op), Dst: dst, Src: src, Off: off, Imm: imm}
						against(t, []api.Inst{exit, in, {Imm: imm}, exit})
						against(t, []api.Inst{exit, in, exit})
						against(t, []api.Inst{in})
					}
				}
			}
		}
	}
}

// P1: every call ends and none panics, at all arguments.
func TestNoArgumentPanics(t *testing.T) {
	lists := [][]api.Inst{nil, {}, slices.Repeat([]api.Inst{{Op: 0x85, Src: 1, Imm: -1}}, 100000)}
	for op := range 256 {
		in := api.Inst{Op: uint8(op), Dst: 255, Src: 255, Off: math.MinInt16, Imm: math.MinInt32}
		lists = append(lists, []api.Inst{in}, []api.Inst{{Op: uint8(op)}}, []api.Inst{{Op: uint8(op), Src: 1}, in})
	}
	for _, l := range lists {
		Check(l)
		Starts(l)
		Parts(l)
		for _, at := range []int{math.MinInt, -1, 0, 1, 2, math.MaxInt} {
			Target(l, at)
		}
	}
}
