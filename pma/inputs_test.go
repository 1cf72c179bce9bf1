package pma

import "math"

var (
	sizes   = [...]int{1, 2, 4, 8}
	kinds   = [...]int{fetch, load, store}
	atomics = [...]bool{false, true}

	noSizes = [...]int{
		0, 3, 5, 6, 7, 9, 10, 12, 15, 16, 32, 64, 128, 4096, -1, -2, -4, -8, -16,
		1<<32 + 1, 1<<32 + 2, 1<<32 + 4, 1<<32 + 8, -1 << 32, math.MaxInt, math.MaxInt - 7, math.MinInt, math.MinInt + 8,
	}
	noKinds = [...]int{
		3, 4, 5, 8, 255, 256, 257, 258, -1, -2, -3, -255, -254,
		1 << 32, 1<<32 + 1, 1<<32 + 2, math.MaxInt, math.MaxInt - 1, math.MinInt, math.MinInt + 1, math.MinInt + 2,
	}

	// tooFew and tooMany: 1 << 52 pages of 4,096 bytes are 1 << 64 bytes.
	tooFew  = [...]int{3, 2, 1, 0, -1, -3, -4, -5, -255, -256, -257, math.MinInt32, -1<<32 + 8, -1 << 52, 8 - 1<<52, math.MinInt, math.MinInt + 1, math.MinInt + 5}
	tooMany = [...]int{257, 258, 300, 511, 512, 1 << 16, 1<<16 + 5, math.MaxInt32, 1 << 32, 1<<32 + 5, 1 << 51, 1 << 52, 1<<52 + 5, math.MaxInt - 1, math.MaxInt}
)

// counts are all numbers of pages there are, and those right beside them.
func counts() []int {
	var l []int
	for n := 3; n <= 257; n++ {
		l = append(l, n)
	}
	return l
}

func allCounts() []int {
	return append(append(counts(), tooFew[:]...), tooMany[:]...)
}

// few are some of allCounts: the ends, those beside them, and some between.
func few() []int {
	return append(append([]int{4, 5, 6, 7, 8, 100, 128, 255, 256}, tooFew[:]...), tooMany[:]...)
}

// around are the addresses from 17 below addr to 17 above it.
func around(addr uint64) []uint64 {
	var l []uint64
	for i := range uint64(35) {
		l = append(l, addr-17+i)
	}
	return l
}

// edges are the addresses around the first and the last byte of each region.
func edges(pages int) []uint64 {
	var l []uint64
	for _, p := range plainParts(pages) {
		l = append(append(l, around(p.first)...), around(p.last)...)
	}
	return l
}

// places are the edges; those that RAM has with fewer and with more pages; the middle of each region; addresses of which some bits are those of one in a region; the lowest and the highest ones.
func places(pages int) []uint64 {
	l := append(append(edges(pages), edges(pages-1)...), edges(pages+1)...)
	l = append(append(l, edges(4)...), edges(256)...)
	for _, p := range plainParts(pages) {
		middle := p.first + (p.last-p.first)/2
		l = append(l, middle, middle+1)
		for bit := range 64 {
			l = append(l, p.first^1<<bit, p.last^1<<bit, 1<<bit, 1<<bit-1)
		}
	}
	return append(l, around(0)...)
}
