// Package bits is layer 1: bit fields of 64-bit words: see shared/doc/01-bits.md.
package bits

const (
	wordBits  = 64
	byteBits  = 8
	wordBytes = wordBits / byteBits

	allMask  uint64 = 1<<wordBits - 1
	byteMask uint64 = 1<<byteBits - 1
	lowMask  uint64 = 1 << 0
	highMask uint64 = 1 << (wordBits - 1)
)

// Field returns the bits lo to hi of v; 0, if there are no such bits.
func Field(v uint64, hi, lo int) uint64 {
	if !within(hi, lo) {
		return 0
	}
	return v >> lo & lowest(hi-lo+1)
}

// Put returns v with x in its bits lo to hi; v, if there are no such bits.
func Put(v uint64, hi, lo int, x uint64) uint64 {
	if !within(hi, lo) {
		return v
	}
	m := lowest(hi-lo+1) << lo
	return v&^m | x<<lo&m
}

// Sext returns the lowest n bits of v, sign-extended.
func Sext(v uint64, n int) uint64 {
	low := Zext(v, n)
	if n < 1 || n >= wordBits || low>>(n-1) == 0 {
		return low
	}
	return low | allMask<<n
}

// Zext returns the lowest n bits of v, zero-extended.
func Zext(v uint64, n int) uint64 {
	switch {
	case n < 1:
		return 0
	case n >= wordBits:
		return v
	}
	return v & lowest(n)
}

// Aligned reports whether v is a multiple of n, of which only a positive one has any.
func Aligned(v uint64, n int) bool {
	return n >= 1 && v%uint64(n) == 0
}

// Bytes returns the lowest n bytes of v, little-endian.
func Bytes(v uint64, n int) []byte {
	// Held to the word before anything is made of it: n may be any number.
	n = max(0, min(n, wordBytes))
	b := make([]byte, n)
	for i := range n {
		b[i] = byte(v >> (i * byteBits) & byteMask)
	}
	return b
}

// Word returns the number of the first eight of the little-endian bytes b.
func Word(b []byte) uint64 {
	v := uint64(0)
	for i := range min(len(b), wordBytes) {
		v |= uint64(b[i]) << (i * byteBits)
	}
	return v
}

// Ones returns how many bits of v are set.
func Ones(v uint64) int {
	n := 0
	for i := range wordBits {
		n += int(v >> i & lowMask)
	}
	return n
}

// High returns the index of the highest bit of v that is set; false, if none is.
func High(v uint64) (int, bool) {
	for i := range wordBits {
		if v&(highMask>>i) != 0 {
			return wordBits - 1 - i, true
		}
	}
	return 0, false
}

// Low returns the index of the lowest bit of v that is set; false, if none is.
func Low(v uint64) (int, bool) {
	for i := range wordBits {
		if v&(lowMask<<i) != 0 {
			return i, true
		}
	}
	return 0, false
}

// within asks for the whole order at once, so that no shift by a negative number is ever reached.
func within(hi, lo int) bool {
	return 0 <= lo && lo <= hi && hi < wordBits
}

// lowest is the mask of the n lowest bits, n from 1 to 64; its callers see to it that n is no other.
func lowest(n int) uint64 {
	return allMask >> (wordBits - n)
}
