package lpm

// lengthBytes is how many bytes of a key tell its length.
const lengthBytes = 4

// pathOf: the bits of a key that count, from the first on, if it may be a key. Bits that don't count are left out, so that keys which are one in form have one path.
func pathOf(key []byte, width int) ([]int, bool) {
	if len(key) != lengthBytes+width {
		return nil, false
	}
	n := length(key[:lengthBytes])
	if n > uint32(8*width) {
		return nil, false
	}
	path := make([]int, n)
	for i := range path {
		path[i] = int(key[lengthBytes+i/8]>>(7-i%8)) & 1
	}
	return path, true
}

// length: the number of bytes that lie lowest first.
func length(b []byte) uint32 {
	var n uint32
	for i, x := range b {
		n |= uint32(x) << (8 * i)
	}
	return n
}

// keyOf: the key in form that has this path, in new memory.
func keyOf(path []int, width int) []byte {
	key := make([]byte, lengthBytes+width)
	for i := range lengthBytes {
		key[i] = byte(len(path) >> (8 * i))
	}
	for i, bit := range path {
		key[lengthBytes+i/8] |= byte(bit << (7 - i%8))
	}
	return key
}
