package clint

import "math"

// registers are the rows of the chapter's table.
var registers = [...]struct {
	off  uint64
	size int
}{{0, 4}, {0x4000, 8}, {0xbff8, 8}}

var (
	sizes = [...]int{1, 2, 4, 8}

	noSizes = [...]int{
		0, 3, 5, 6, 7, 9, 10, 12, 15, 16, 32, 64, 128, 256, 4096, 16384, -1, -2, -3, -4, -5, -8, -16, -256,
		256 + 4, 256 + 8, 1<<16 + 4, 1<<16 + 8, 1<<32 + 4, 1<<32 + 8, -1 << 32, 4 - 1<<32, 8 - 1<<32, 1<<62 + 4, 1<<62 + 8,
		math.MaxInt32, math.MinInt32, math.MaxInt, math.MaxInt - 3, math.MaxInt - 7, math.MinInt, math.MinInt + 4, math.MinInt + 8,
	}

	// values are numbers whose lowest bit is set, and such where it isn't and others are.
	values = [...]uint64{
		0, 1, 2, 3, 4, 7, 8, 0x80, 0xfe, 0xff, 0x100, 0x101, 0x7fffffff, 0x80000000, 0xfffffffe, 0xffffffff, 0x100000000, 0x100000001,
		0x123456789abcdef0, 0x123456789abcdef1, 0x7ffffffffffffffe, 0x7fffffffffffffff, 0x8000000000000000, 0x8000000000000001,
		0xffffffff00000000, 0xffffffff00000001, 0xfffffffffffffffe, 0xffffffffffffffff,
	}
)

// around are the offsets from 9 below off to 9 above it; below 0, those just below 2^64.
func around(off uint64) []uint64 {
	var l []uint64
	for i := range uint64(19) {
		l = append(l, off-9+i)
	}
	return l
}

// offsets are those of the registers, those about them and within them, and others, some of which have bits in common with a register's.
func offsets() []uint64 {
	l := []uint64{0x2000000, 0x2004000, 0x200bff8, 0x4ff8, 0xb000, 0xbf00, 0x8000, 0xffffffffffff4000}
	for _, off := range []uint64{0, 0x4000, 0xbff8, 0x8000, 0xc000, 0x10000} {
		l = append(l, around(off)...)
	}
	for _, r := range registers {
		for bit := range 64 {
			l = append(l, r.off^1<<bit)
		}
	}
	return l
}

// dice gives numbers that look like chance, the same ones each time.
type dice uint64

func (d *dice) next() uint64 {
	*d = *d*6364136223846793005 + 1442695040888963407
	x := uint64(*d)
	return x ^ x>>29 ^ x>>47
}

// below is one of 0 to n - 1.
func (d *dice) below(n int) int { return int(d.next() >> 1 % uint64(n)) }
