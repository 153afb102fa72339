package array

// keySize is how many bytes a key has.
const keySize = 4

// number of a key that has keySize bytes.
func number(key []byte) uint32 {
	n := uint32(0)
	for i := range keySize {
		n |= uint32(key[i]) << (8 * i)
	}
	return n
}

// spread: the key of a number.
func spread(n uint32) []byte {
	key := make([]byte, keySize)
	for i := range key {
		key[i] = byte(n >> (8 * i))
	}
	return key
}
