package ram

import "math"

var (
	sizes = [...]int{1, 2, 4, 8}

	noSizes = [...]int{
		0, 3, 5, 6, 7, 9, 10, 12, 15, 16, 32, 64, 128, 4096, -1, -2, -3, -4, -8, -16,
		1<<32 + 1, 1<<32 + 2, 1<<32 + 4, 1<<32 + 8, -1 << 32, math.MaxInt, math.MaxInt - 7, math.MinInt, math.MinInt + 8,
	}

	// belowZero and great are numbers of bytes that no memory has; some of the great ones, behind an address, come past 2^63, or with one just below 2^64 to one in RAM.
	belowZero = [...]int{-1, -2, -8, -4095, -4096, -16384, math.MinInt32, -1 << 32, -1<<32 + 1, math.MinInt, math.MinInt + 1}
	great     = [...]int{
		1<<20 + 1, 1 << 21, math.MaxInt32, 1 << 31, 1<<31 + 1, 1<<31 + 16, 1 << 32, 1<<32 + 1, 1<<32 + 16384,
		math.MaxInt - 1<<31, math.MaxInt - 16384, math.MaxInt - 1, math.MaxInt,
	}

	tooFew  = [...]int{3, 2, 1, 0, -1, -3, -4, -5, -255, -256, -257, math.MinInt32, -1<<32 + 8, -1 << 52, 8 - 1<<52, math.MinInt, math.MinInt + 1, math.MinInt + 5}
	tooMany = [...]int{257, 258, 300, 511, 512, 1 << 16, 1<<16 + 5, math.MaxInt32, 1 << 32, 1<<32 + 5, 1 << 51, 1 << 52, 1<<52 + 5, math.MaxInt - 1, math.MaxInt}

	few = [...]int{4, 5, 16, 255, 256}
)

// around are the addresses from 9 below addr to 9 above it.
func around(addr uint64) []uint64 {
	var l []uint64
	for i := range uint64(19) {
		l = append(l, addr-9+i)
	}
	return l
}

// borders are the addresses around the first byte, the last one, and the first ones of some pages.
func borders(pages int) []uint64 {
	end := 0x80000000 + 0x1000*uint64(pages)
	l := append(around(0x80000000), around(0x80001000)...)
	return append(append(append(l, around(0x80002000)...), around(end-0x1000)...), around(end)...)
}

// outside are addresses of which none is in RAM, nor are the eight bytes from it on: some have bits in common with those in RAM.
func outside() []uint64 {
	l := []uint64{
		0, 1, 8, 0x1000, 0x1ffc, 0x2000000, 0xc000000, 0x10000000, 0x10000ff8, 0x40000000, 0x7ffff000, 0x7ffffff8,
		0x80100000, 0x80100008, 0x88000000, 0xc0000000, 0xffffffff80000000, 1 << 63, 1<<64 - 16, 1<<64 - 9, 1<<64 - 8,
	}
	for bit := 20; bit < 64; bit++ {
		l = append(l, 0x80000000^1<<bit, 0x80001000^1<<bit)
	}
	return l
}

// topmost are the addresses whose bytes, but for the first one to eight, are past 2^64.
func topmost() []uint64 {
	var l []uint64
	for i := range uint64(8) {
		l = append(l, 1<<64-8+i)
	}
	return l
}

// anywhere are addresses in RAM, at its ends, and elsewhere.
func anywhere(pages int) []uint64 {
	return append(append(borders(pages), outside()...), topmost()...)
}

// lengths are numbers of bytes within a page, about as long as pages, and about as long as RAM.
func lengths(pages int) []int {
	l := []int{63, 64, 65, 4095, 4096, 4097, 8191, 8192, 8193}
	for n := range 18 {
		l = append(l, n)
	}
	for n := range 5 {
		l = append(l, 0x1000*pages-2+n, 0x1000*(pages-1)-2+n)
	}
	return l
}

// pattern is n bytes of which none is 0, and which repeat themselves after 251.
func pattern(n, from int) []byte {
	b := make([]byte, n)
	for i := range b {
		b[i] = byte(1 + (i+from)%251)
	}
	return b
}

// dice gives numbers that look like chance, the same ones each time.
type dice uint64

func (d *dice) next() uint64 {
	*d = *d*6364136223846793005 + 1442695040888963407
	x := uint64(*d)
	return x ^ x>>29 ^ x>>47
}

// below is one of 0 to n - 1.
func (d *dice) below(n int) int { return int(d.next() >> 1 % uint64(n)) }
