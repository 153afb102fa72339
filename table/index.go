package table

import (
	"postern/api"
	"postern/array"
	"postern/hash"
	"postern/lpm"
	"postern/lru"
)

// index is what layers 6 to 9 have in common.
type index interface {
	Find(key []byte) (int, bool)
	Put(key []byte, flags uint64) (int, bool, api.Errno)
	Del(key []byte) (int, api.Errno)
	Keys() [][]byte
}

// arrayKey: how many bytes a key of an array has.
const arrayKey = 4

// newIndex: that of a map's kind; of use only beside OK. ErrArg.
func newIndex(def api.MapDef) (index, api.Errno) {
	switch def.Kind {
	case api.Array:
		if def.Key == arrayKey {
			return array.New(def.Max)
		}
	case api.Hash:
		return hash.New(def.Key, def.Max)
	case api.Lru:
		return lru.New(def.Key, def.Max)
	case api.Lpm:
		return lpm.New(def.Key, def.Max)
	}
	return nil, api.ErrArg
}

// twin: an equal index that shares nothing with this one. Each kind's Copy answers a type of its own, so that no interface can have it.
func twin(keys index) index {
	var c index
	switch x := keys.(type) {
	case *array.Index:
		c = x.Copy()
	case *hash.Index:
		c = x.Copy()
	case *lru.Index:
		c = x.Copy()
	case *lpm.Index:
		c = x.Copy()
	}
	return c
}
