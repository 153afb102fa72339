package world

import (
	"bytes"
	"math"
	"testing"

	"postern/api"
	"postern/mem"
	"postern/table"
)

// P12.2

func TestNil(t *testing.T) {
	var w *World
	for _, h := range []api.Helper{-1, 0, 1, 2, 3, 4, 5, 6, 7, 8, 9, 10, 11, 99} {
		if ret, e := w.Call(h, [5]uint64{ctx, 0, 1, 1}); ret != 0 || e != api.ErrNil {
			t.Errorf("Call(%d): %#x %v", h, ret, e)
		}
	}
	w.Close()
	if w.Packet() != nil || w.Mark() != 0 || w.Log() != nil || w.Out() != nil || w.Open() != 0 || w.Hook() != 0 || w.Memory() != nil || w.Table() != nil {
		t.Errorf("a nil World tells something")
	}
}

func TestTakes(t *testing.T) {
	for h, want := range []int{-1, 2, 4, 2, 0, 0, 2, 4, 1, 1, 1, -1, -1} {
		n, ok := Takes(api.Helper(h))
		if ok != (want >= 0) || n != max(want, 0) {
			t.Errorf("Takes(%d): %d %v", h, n, ok)
		}
	}
	for _, h := range []api.Helper{-1, -10, 99, 257, 1 << 16, math.MaxInt32, math.MinInt32} {
		if n, ok := Takes(h); n != 0 || ok {
			t.Errorf("Takes(%d): %d %v", h, n, ok)
		}
	}
}

func TestOtherHelpers(t *testing.T) {
	w, _ := plain(t, counted(3), 5)
	for _, h := range []api.Helper{0, 11, 12, -1, 99, 257, 1<<16 + 4, math.MaxInt32, math.MinInt32} {
		traps(t, w, api.ErrCode, h)
		traps(t, w, api.ErrCode, h, ctx, 0, desk, 1, 0)
	}
	answers(t, w, 5, api.HelpTime)
}

func TestAdjustAtFilter(t *testing.T) {
	x, m := host(t)
	w := made(t, x, m, api.Filter, counted(3), true)
	for _, c := range []uint64{ctx, ctx + 1, 0} {
		for _, by := range []uint64{0, 1, 3, 4, math.MaxUint64} {
			traps(t, w, api.ErrCode, api.HelpAdjust, c, by)
		}
	}
	isPacket(t, w, true, lies, 1, 2, 3)
	isLog(t, w)
}

func TestTape(t *testing.T) {
	w, _ := plain(t, nil, 5, 0, math.MaxUint64, 6)
	answers(t, w, 5, api.HelpTime)
	answers(t, w, 0, api.HelpRandom)
	traps(t, w, api.ErrArg, api.HelpReserve, 0)
	answers(t, w, math.MaxUint64, api.HelpRandom)
	answers(t, w, 6, api.HelpTime)
	for range 3 {
		answers(t, w, 0, api.HelpTime)
		answers(t, w, 0, api.HelpRandom)
	}
	isLog(t, w, call(5, 4), call(0, 5), call(math.MaxUint64, 5), call(6, 4), call(0, 4), call(0, 5), call(0, 4), call(0, 5), call(0, 4), call(0, 5))
}

func TestLookup(t *testing.T) {
	w, m := plain(t, counted(3))
	lays(t, m, desk, 1, 0, 0, 0, 7)
	answers(t, w, value+4096, api.HelpLookup, arr, desk)
	answers(t, w, value, api.HelpLookup, arr, desk+8)
	answers(t, w, 0, api.HelpLookup, arr, desk+1)
	answers(t, w, 0, api.HelpLookup, hsh, desk)
	if e := w.Table().Update(1, []byte{1, 0}, []byte{1, 2, 3, 4}, 0); e != api.OK {
		t.Fatal(e)
	}
	answers(t, w, value+1<<32, api.HelpLookup, hsh, desk)
	answers(t, w, 0, api.HelpLookup, hsh, desk+1)
	answers(t, w, 0, api.HelpLookup, hsh, lies+1)
	if e := w.Table().Update(1, []byte{2, 3}, []byte{1, 2, 3, 4}, 0); e != api.OK {
		t.Fatal(e)
	}
	answers(t, w, value+1<<32+4096, api.HelpLookup, hsh, lies+1)
	isLog(t, w, call(0, 1, hsh, desk), call(value+1<<32, 1, hsh, desk), call(0, 1, hsh, desk+1), call(0, 1, hsh, lies+1), call(value+1<<32+4096, 1, hsh, lies+1))
}

// wrongMaps name none, with four of them there.
var wrongMaps = []uint64{0, 1, 3, arr - 1, arr + 4, arr + 5, arr + 8, arr + 1<<32, arr + 1<<63, arr + 1<<32 + 1, ctx, value, desk, math.MaxUint64, math.MaxUint64 - 3}

func TestMapsThatAreNotThere(t *testing.T) {
	w, _ := plain(t, counted(3))
	for _, n := range wrongMaps {
		for _, h := range []api.Helper{api.HelpLookup, api.HelpUpdate, api.HelpDelete} {
			traps(t, w, api.ErrArg, h, n, desk, desk, 0)
			traps(t, w, api.ErrArg, h, n, 0, 0, 9)
		}
	}
	m := mem.New()
	x, e := table.New(m, nil)
	if e != api.OK {
		t.Fatal(e)
	}
	m.Add(desk, 64, both)
	traps(t, made(t, x, m, api.Xdp, nil, true), api.ErrArg, api.HelpLookup, arr, desk)
}

func TestKeysThatCannotBeRead(t *testing.T) {
	w, m := plain(t, counted(3))
	m.Add(1000, 16, api.Read|api.Write|api.Fresh)
	m.Add(2000, 16, api.Write)
	lays(t, m, 1000, 0, 0, 0)
	for _, h := range []api.Helper{api.HelpLookup, api.HelpUpdate, api.HelpDelete} {
		for _, key := range []uint64{0, 500, 999, 1015, 2000, desk - 1, desk + 253, math.MaxUint64, lies + 2, lies - 1, ctx + 21} {
			traps(t, w, api.ErrAccess, h, arr, key, desk, 0)
		}
		traps(t, w, api.ErrUnset, h, arr, 1000, desk, 0)
		traps(t, w, api.ErrUnset, h, arr, 1004, 0, 0)
		traps(t, w, api.ErrUnset, h, lpmm, 1000, 0, 0)
		traps(t, w, api.ErrAccess, h, lpmm, desk+252, desk, 0)
	}
	answers(t, w, 0, api.HelpLookup, hsh, 1000)
	answers(t, w, 0, api.HelpLookup, hsh, 1001)
	traps(t, w, api.ErrUnset, api.HelpLookup, hsh, 1002)
	answers(t, w, 0, api.HelpLookup, lrum, 1002)
}

func TestUpdate(t *testing.T) {
	w, m := plain(t, counted(4))
	lays(t, m, desk, 1, 2, 3, 4, 5, 6, 7, 8, 9, 10, 11, 12)
	answers(t, w, 0, api.HelpUpdate, hsh, desk, desk+1, 0)
	answers(t, w, 0, api.HelpUpdate, hsh, desk+2, lies, 1)
	reads(t, m, value+1<<32, 2, 3, 4, 5)
	reads(t, m, value+1<<32+4096, 1, 2, 3, 4)
	answers(t, w, refused(api.ErrExist), api.HelpUpdate, hsh, desk, desk, 1)
	answers(t, w, refused(api.ErrNone), api.HelpUpdate, hsh, desk+4, desk, 2)
	answers(t, w, refused(api.ErrFull), api.HelpUpdate, hsh, desk+4, desk, 0)
	answers(t, w, refused(api.ErrFlags), api.HelpUpdate, hsh, desk, desk, 3)
	answers(t, w, refused(api.ErrFlags), api.HelpUpdate, hsh, desk, desk, 1<<32)
	answers(t, w, refused(api.ErrArg), api.HelpUpdate, lpmm, desk, desk, 0)
	reads(t, m, value+1<<32, 2, 3, 4, 5)
	reads(t, m, value+1<<32+4096, 1, 2, 3, 4)
	answers(t, w, 0, api.HelpUpdate, hsh, desk, desk+5, 2)
	reads(t, m, value+1<<32, 6, 7, 8, 9)
	isLog(t, w, call(0, 2, hsh, desk, desk+1, 0), call(0, 2, hsh, desk+2, lies, 1), call(refused(api.ErrExist), 2, hsh, desk, desk, 1), call(refused(api.ErrNone), 2, hsh, desk+4, desk, 2),
		call(refused(api.ErrFull), 2, hsh, desk+4, desk, 0), call(refused(api.ErrFlags), 2, hsh, desk, desk, 3), call(refused(api.ErrFlags), 2, hsh, desk, desk, 1<<32), call(refused(api.ErrArg), 2, lpmm, desk, desk, 0), call(0, 2, hsh, desk, desk+5, 2))
}

func TestUpdateTraps(t *testing.T) {
	w, m := plain(t, counted(3))
	m.Add(1000, 16, both|api.Fresh)
	lays(t, m, desk, 1, 2, 3, 4)
	for _, key := range []uint64{0, 500, desk + 255} {
		traps(t, w, api.ErrAccess, api.HelpUpdate, hsh, key, desk, 0)
		traps(t, w, api.ErrAccess, api.HelpUpdate, hsh, key, 1000, 0)
		traps(t, w, api.ErrUnset, api.HelpUpdate, hsh, 1000, key, 0)
		traps(t, w, api.ErrAccess, api.HelpUpdate, hsh, desk, key, 0)
		traps(t, w, api.ErrAccess, api.HelpUpdate, hsh, desk, key, 9)
	}
	traps(t, w, api.ErrUnset, api.HelpUpdate, hsh, desk, 1000, 0)
	traps(t, w, api.ErrAccess, api.HelpUpdate, hsh, desk, desk+253, 0)
	traps(t, w, api.ErrAccess, api.HelpUpdate, hsh, desk, lies, 0)
	answers(t, w, 0, api.HelpLookup, hsh, desk)
	answers(t, w, 0, api.HelpUpdate, hsh, desk, desk+252, 0)
	answers(t, w, 0, api.HelpUpdate, lrum, desk, lies+1, 0)
	reads(t, m, value+2<<32, 2, 3)
}

func TestDelete(t *testing.T) {
	w, m := plain(t, counted(3))
	lays(t, m, desk, 1, 2, 3, 4, 5, 6)
	answers(t, w, 0, api.HelpUpdate, hsh, desk, desk, 0)
	answers(t, w, refused(api.ErrNone), api.HelpDelete, hsh, desk+1)
	answers(t, w, 0, api.HelpDelete, hsh, desk)
	answers(t, w, refused(api.ErrNone), api.HelpDelete, hsh, desk)
	answers(t, w, 0, api.HelpLookup, hsh, desk)
	e := w.Table().Delete(0, []byte{1, 2, 3, 4})
	answers(t, w, refused(e), api.HelpDelete, arr, desk)
	answers(t, w, refused(api.ErrArg), api.HelpDelete, lpmm, desk)
	isLog(t, w, call(0, 2, hsh, desk, desk, 0), call(refused(api.ErrNone), 3, hsh, desk+1), call(0, 3, hsh, desk), call(refused(api.ErrNone), 3, hsh, desk), call(0, 1, hsh, desk), call(refused(e), 3, arr, desk), call(refused(api.ErrArg), 3, lpmm, desk))
}

// A key that couldn't be read touches none of a map that forgets.
func TestTrapsForgetNothing(t *testing.T) {
	w, m := plain(t, nil)
	lays(t, m, desk, 1, 2, 3, 4)
	answers(t, w, 0, api.HelpUpdate, lrum, desk, desk, 0)
	answers(t, w, 0, api.HelpUpdate, lrum, desk+1, desk, 0)
	traps(t, w, api.ErrAccess, api.HelpUpdate, lrum, desk, 0, 0)
	traps(t, w, api.ErrAccess, api.HelpLookup, lrum, 0)
	answers(t, w, 0, api.HelpUpdate, lrum, desk+2, desk, 0)
	answers(t, w, 0, api.HelpLookup, lrum, desk)
	answers(t, w, value+2<<32+4096, api.HelpLookup, lrum, desk+1)
	answers(t, w, 0, api.HelpUpdate, lrum, desk, desk, 0)
	answers(t, w, 0, api.HelpLookup, lrum, desk+2)
}

func TestBytes(t *testing.T) {
	for _, real := range []bool{false, true} {
		for _, size := range []int{0, 1, 7, 64, 65, 70} {
			x, m := host(t)
			w := made(t, x, m, api.Filter, counted(size), real)
			for from := range 72 {
				for many := 1; many <= 64; many++ {
					want, ret := make([]byte, many), uint64(no)
					if from+many <= size {
						ret = 0
						copy(want, counted(size)[from:])
					}
					lays(t, m, desk, bytes.Repeat([]byte{200}, many+1)...)
					answers(t, w, ret, api.HelpBytes, ctx, uint64(from), desk, uint64(many))
					reads(t, m, desk, append(want, 200)...)
				}
			}
		}
	}
}

func TestBytesFromFar(t *testing.T) {
	w, m := plain(t, counted(70))
	for _, from := range []uint64{70, 71, 1 << 16, 1 << 31, 1 << 32, 1<<32 + 1, 1 << 63, 1<<63 + 1, math.MaxUint64, math.MaxUint64 - 1, math.MaxUint64 - 63, math.MaxUint64 - 64} {
		for _, many := range []uint64{1, 2, 63, 64} {
			lays(t, m, desk, bytes.Repeat([]byte{200}, 65)...)
			answers(t, w, no, api.HelpBytes, ctx, from, desk, many)
			reads(t, m, desk, append(make([]byte, many), 200)...)
		}
	}
}

func TestBytesTraps(t *testing.T) {
	x, m := host(t)
	m.Add(1000, 8, both|api.Fresh)
	m.Add(2000, 8, api.Read)
	w := made(t, x, m, api.Filter, counted(10), false)
	for _, many := range []uint64{0, 65, 66, 1 << 16, 1 << 32, 1<<32 + 1, 1 << 63, 1<<63 + 1, math.MaxUint64, math.MaxUint64 - 63} {
		for _, from := range []uint64{0, 9, 10, math.MaxUint64} {
			traps(t, w, api.ErrArg, api.HelpBytes, ctx, from, desk, many)
			traps(t, w, api.ErrArg, api.HelpBytes, ctx, from, 0, many)
		}
	}
	for _, c := range []uint64{0, 1, ctx - 1, ctx + 1, ctx + 16, 2 * ctx, ctx + 1<<63, lies, desk, math.MaxUint64} {
		traps(t, w, api.ErrArg, api.HelpBytes, c, 0, desk, 1)
		traps(t, w, api.ErrArg, api.HelpBytes, c, 0, 0, 1)
		traps(t, w, api.ErrArg, api.HelpBytes, c, 0, 0, 0)
	}
	for _, to := range []uint64{0, 999, 1007, 2000, ctx, ctx + 14, ctx + 15, ctx + 19, ctx + 20, lies, lies + 3, lies + 9, desk - 1, desk + 255, math.MaxUint64} {
		for _, from := range []uint64{0, 8, 9, 10, 11, math.MaxUint64} {
			traps(t, w, api.ErrAccess, api.HelpBytes, ctx, from, to, 2)
		}
	}
	answers(t, w, 0, api.HelpBytes, ctx, 0, 1000, 2)
	answers(t, w, no, api.HelpBytes, ctx, 9, 1004, 4)
	reads(t, m, 1000, 1, 2)
	reads(t, m, 1004, 0, 0, 0, 0)
	if _, e := m.Load(1002, 1); e != api.ErrUnset {
		t.Errorf("a byte that wasn't laid: %v", e)
	}
	isPacket(t, w, false, lies, counted(10)...)
}

func TestBytesIntoPacketAndMark(t *testing.T) {
	w, _ := plain(t, counted(8))
	answers(t, w, 0, api.HelpBytes, ctx, 0, lies+2, 6)
	isPacket(t, w, false, lies, 1, 2, 1, 2, 3, 4, 5, 6)
	answers(t, w, 0, api.HelpBytes, ctx, 3, lies, 5)
	isPacket(t, w, false, lies, 2, 3, 4, 5, 6, 4, 5, 6)
	answers(t, w, 0, api.HelpBytes, ctx, 1, ctx+16, 4)
	if w.Mark() != 0x06050403 {
		t.Errorf("Mark: %x", w.Mark())
	}
	answers(t, w, no, api.HelpBytes, ctx, 8, lies+7, 1)
	isPacket(t, w, false, lies, 2, 3, 4, 5, 6, 4, 5, 0)
}

// What a program has laid into the packet is what is taken of it, also if nobody has asked for the packet since.
func TestBytesOfWhatWasLaid(t *testing.T) {
	w, m := plain(t, counted(4))
	lays(t, m, lies+1, 20, 21)
	answers(t, w, 0, api.HelpBytes, ctx, 0, desk, 4)
	reads(t, m, desk, 1, 20, 21, 4)
	lays(t, m, lies+2, 30)
	answers(t, w, 0, api.HelpAdjust, ctx, 1)
	answers(t, w, 0, api.HelpBytes, ctx, 1, desk, 2)
	reads(t, m, desk, 30, 4)
	lays(t, m, lies+3, 40)
	answers(t, w, 0, api.HelpAdjust, ctx, 1<<32-2)
	reads(t, m, lies-1, 0, 1, 20, 30, 40)
}

func TestReserve(t *testing.T) {
	w, m := plain(t, nil)
	var log []api.Call
	for n := range uint64(8) {
		place := 16*4294967296 + n*4096
		answers(t, w, place, api.HelpReserve, 8*n+1)
		isRegion(t, m, place, both, make([]byte, 8*n+1)...)
		log = append(log, call(place, 8, 8*n+1))
		if w.Open() != int(n)+1 {
			t.Errorf("Open: %d", w.Open())
		}
	}
	answers(t, w, 0, api.HelpReserve, 64)
	isLog(t, w, append(log, call(0, 8, 64))...)
	for _, size := range []uint64{0, 65, 66, 1 << 32, 1<<32 + 1, 1 << 63, math.MaxUint64, math.MaxUint64 - 63} {
		traps(t, w, api.ErrArg, api.HelpReserve, size)
	}
	isLog(t, w, append(log, call(0, 8, 64))...)
}

func TestReserveWhereThereIsNoRoom(t *testing.T) {
	w, m := plain(t, nil)
	id, _ := m.Add(16*4294967296+3, 1, 0)
	answers(t, w, 16*4294967296, api.HelpReserve, 3)
	answers(t, w, 0, api.HelpDiscard, 16*4294967296)
	answers(t, w, 0, api.HelpReserve, 4)
	traps(t, w, api.ErrArg, api.HelpReserve, 65)
	m.Kill(id)
	fill(t, m)
	answers(t, w, 0, api.HelpReserve, 4)
	isLog(t, w, call(16*4294967296, 8, 3), call(0, 10, 16*4294967296), call(0, 8, 4), call(0, 8, 4))
	if w.Open() != 0 {
		t.Errorf("Open: %d", w.Open())
	}
}

func TestSubmitAndDiscard(t *testing.T) {
	const first, second = 16 * 4294967296, 16*4294967296 + 4096
	w, m := plain(t, nil)
	for _, h := range []api.Helper{api.HelpSubmit, api.HelpDiscard} {
		for _, addr := range []uint64{0, 1, first, second, ctx, math.MaxUint64} {
			traps(t, w, api.ErrNone, h, addr)
		}
	}
	answers(t, w, first, api.HelpReserve, 3)
	answers(t, w, second, api.HelpReserve, 2)
	lays(t, m, first, 1, 2, 3)
	lays(t, m, second, 4, 5)
	for _, h := range []api.Helper{api.HelpSubmit, api.HelpDiscard} {
		for _, addr := range []uint64{0, 1, first + 1, second - 1, second + 4096, ctx} {
			traps(t, w, api.ErrNone, h, addr)
		}
	}
	answers(t, w, 0, api.HelpSubmit, second)
	answers(t, w, 0, api.HelpDiscard, first)
	traps(t, w, api.ErrNone, api.HelpSubmit, first)
	traps(t, w, api.ErrNone, api.HelpDiscard, second)
	answers(t, w, first, api.HelpReserve, 1)
	answers(t, w, 0, api.HelpSubmit, first)
	if out := w.Out(); len(out) != 2 || !bytes.Equal(out[0], []byte{4, 5}) || !bytes.Equal(out[1], []byte{0}) || w.Open() != 0 {
		t.Errorf("Out: %x", out)
	}
	isFar(t, m, first)
	isFar(t, m, second)
	isLog(t, w, call(first, 8, 3), call(second, 8, 2), call(0, 9, second), call(0, 10, first), call(first, 8, 1), call(0, 9, first))
}
