package world

import "postern/api"

// help: what a helper answers. Traps.
func (w *World) help(h api.Helper, a [5]uint64) (uint64, api.Errno) {
	switch h {
	case api.HelpLookup:
		return w.lookup(a[0], a[1])
	case api.HelpUpdate:
		return w.update(a[0], a[1], a[2], a[3])
	case api.HelpDelete:
		return w.delete(a[0], a[1])
	case api.HelpTime, api.HelpRandom:
		return w.next(), api.OK
	case api.HelpAdjust:
		return w.adjust(a[0], a[1])
	case api.HelpBytes:
		return w.bytes(a[0], a[1], a[2], a[3])
	case api.HelpReserve:
		return w.reserve(a[0])
	case api.HelpSubmit:
		return 0, w.ring.Submit(a[0])
	case api.HelpDiscard:
		return 0, w.ring.Discard(a[0])
	}
	return 0, api.ErrCode
}

// untold: does the log leave this call out? Lookups in arrays are no calls any more in a program that was made ready.
func (w *World) untold(h api.Helper, addr uint64) bool {
	if h != api.HelpLookup {
		return false
	}
	_, def, _ := w.named(addr)
	return def.Kind == api.Array
}

// refusal: the answer that tells an error.
func refusal(e api.Errno) uint64 {
	return -uint64(e)
}

// named: the map that an argument names. ErrArg.
func (w *World) named(addr uint64) (int, api.MapDef, api.Errno) {
	n := addr - api.MapBase
	if n >= uint64(w.table.Count()) {
		return 0, api.MapDef{}, api.ErrArg
	}
	def, _ := w.table.Def(int(n))
	return int(n), def, api.OK
}

// keyed: the map that an argument names, and the key at an address. ErrArg, the memory's errors.
func (w *World) keyed(addr, key uint64) (int, api.MapDef, []byte, api.Errno) {
	n, def, e := w.named(addr)
	if e != api.OK {
		return 0, def, nil, e
	}
	b, e := w.memory.Read(key, def.Key)
	return n, def, b, e
}

// lookup the place of a key's value.
func (w *World) lookup(addr, key uint64) (uint64, api.Errno) {
	n, _, k, e := w.keyed(addr, key)
	if e != api.OK {
		return 0, e
	}
	at, e := w.table.Lookup(n, k)
	if e != api.OK {
		return refusal(e), api.OK
	}
	return at, api.OK
}

// update a key.
func (w *World) update(addr, key, value, flags uint64) (uint64, api.Errno) {
	n, def, k, e := w.keyed(addr, key)
	if e != api.OK {
		return 0, e
	}
	v, e := w.memory.Read(value, def.Value)
	if e != api.OK {
		return 0, e
	}
	return refusal(w.table.Update(n, k, v, flags)), api.OK
}

// delete a key.
func (w *World) delete(addr, key uint64) (uint64, api.Errno) {
	n, _, k, e := w.keyed(addr, key)
	if e != api.OK {
		return 0, e
	}
	return refusal(w.table.Delete(n, k)), api.OK
}

// next number of the tape.
func (w *World) next() uint64 {
	if len(w.tape) == 0 {
		return 0
	}
	v := w.tape[0]
	w.tape = w.tape[1:]
	return v
}

// adjust where the packet begins.
func (w *World) adjust(ctx, by uint64) (uint64, api.Errno) {
	if ctx != api.CtxBase {
		return 0, api.ErrArg
	}
	first := w.packet.first + int(int32(by))
	if !w.packet.mayBegin(w.memory, first) {
		return refusal(api.ErrArg), api.OK
	}
	w.packet.begin(w.memory, first)
	w.tell()
	return 0, api.OK
}

// tell the context where the packet lies.
func (w *World) tell() {
	w.context.tell(w.memory, place(w.packet.first), place(w.packet.end))
}

// bytes of the packet are laid elsewhere; zeros, if it hasn't as many.
func (w *World) bytes(ctx, from, to, many uint64) (uint64, api.Errno) {
	if ctx != api.CtxBase || many < 1 || many > api.MaxValue {
		return 0, api.ErrArg
	}
	b := w.packet.bytes(w.memory)
	size := uint64(len(b))
	ret, laid := refusal(api.ErrArg), make([]byte, many)
	if from <= size && many <= size-from {
		ret = 0
		copy(laid, b[from:])
	}
	if e := w.memory.Write(to, laid); e != api.OK {
		return 0, e
	}
	return ret, api.OK
}

// reserve a record; 0: there is no room for one.
func (w *World) reserve(size uint64) (uint64, api.Errno) {
	at, e := w.ring.Reserve(size)
	if e == api.ErrArg {
		return 0, e
	}
	return at, api.OK
}
