package plic

import "math"

// What a row of the chapter's table is.
const (
	aPriority = iota
	thePending
	anEnable
	aThreshold
	aClaim
)

// registers are the rows of the chapter's table: which one it is, and of which source or context.
var registers = [...]struct {
	off  uint64
	what int
	of   int
}{
	{0x4, aPriority, 1}, {0x8, aPriority, 2}, {0xc, aPriority, 3}, {0x10, aPriority, 4}, {0x14, aPriority, 5}, {0x18, aPriority, 6}, {0x1c, aPriority, 7},
	{0x1000, thePending, 0},
	{0x2000, anEnable, 0}, {0x2080, anEnable, 1},
	{0x200000, aThreshold, 0}, {0x201000, aThreshold, 1},
	{0x200004, aClaim, 0}, {0x201004, aClaim, 1},
}

// Where the registers of a context are.
var (
	enableOf    = [...]uint64{0x2000, 0x2080}
	thresholdOf = [...]uint64{0x200000, 0x201000}
	claimOf     = [...]uint64{0x200004, 0x201004}
)

var (
	noSizes = [...]int{
		0, 1, 2, 3, 5, 6, 7, 8, 9, 10, 12, 15, 16, 32, 64, 128, 256, 4096, 16384, -1, -2, -3, -4, -5, -8, -16, -256,
		256 + 4, 1<<16 + 4, 1<<31 + 4, 1<<32 + 4, 1<<33 + 4, -1 << 32, 4 - 1<<32, 1<<62 + 4, 1<<63 - 4,
		math.MaxInt32, math.MinInt32, math.MaxInt, math.MaxInt - 3, math.MaxInt - 7, math.MinInt, math.MinInt + 4,
	}

	noContexts = [...]int{
		-1, -2, -3, 2, 3, 4, 5, 7, 8, 16, 256, 1 << 16, 1<<16 + 1, 1 << 32, 1<<32 + 1, 1 << 62, 1<<62 + 1,
		math.MaxInt32, math.MinInt32, math.MaxInt, math.MaxInt - 1, math.MinInt, math.MinInt + 1,
	}

	// values are such that have all bits of a register, none, or some, and others besides.
	values = [...]uint64{
		0, 1, 2, 3, 4, 5, 6, 7, 8, 9, 0xe, 0xf, 0x10, 0x2a, 0x54, 0x7f, 0x80, 0x81, 0xfe, 0xff, 0x100, 0x101, 0x1fe, 0xff00, 0xffff,
		0x7fffffff, 0x80000000, 0x80000002, 0xfffffff8, 0xfffffffe, 0xffffffff, 0x100000000, 0x100000001, 0x10000002a, 0x700000000, 0xfe00000000,
		0x123456789abcdef1, 0x123456789abcde55, 0x7fffffffffffffff, 0x8000000000000000, 0x8000000000000007,
		0xffffffff00000000, 0xffffffff00000005, 0xfffffffffffffff8, 0xffffffffffffff01, 0xfffffffffffffffe, 0xffffffffffffffff,
	}
)

// around are the offsets from 9 below off to 9 above it; below 0, those just below 2^64.
func around(off uint64) []uint64 {
	var l []uint64
	for i := range uint64(19) {
		l = append(l, off-9+i)
	}
	return l
}

// offsets are those of the registers, those about them and within them, and others: where those of further contexts would be, and some that have bits in common with a register's.
func offsets() []uint64 {
	var l []uint64
	for _, off := range []uint64{
		0, 0x20, 0x1080, 0x1100, 0x1f80, 0x2100, 0x3000, 0x1ff000, 0x1ff004, 0x202000, 0x202004, 0x200080, 0x400000,
		0xc000000, 0xc000004, 0xc001000, 0xc002000, 0xc200000, 0xc200004,
	} {
		l = append(l, around(off)...)
	}
	for _, r := range registers {
		l = append(l, around(r.off)...)
		for bit := range 64 {
			l = append(l, r.off^1<<bit)
		}
	}
	return l
}

// dice gives numbers that look like chance, the same ones each time.
type dice uint64

func (d *dice) next() uint64 {
	*d = *d*6364136223846793005 + 1442695040888963407
	x := uint64(*d)
	return x ^ x>>29 ^ x>>47
}

// below is one of 0 to n - 1.
func (d *dice) below(n int) int { return int(d.next() >> 1 % uint64(n)) }
