package amo

import (
	"math"
	"testing"

	"tappet/api"
)

func minus(n uint64) uint64 { return -n }

type row struct {
	fun, size    int
	old, x, want uint64
}

// expect holds New against rows that are written out by hand.
func expect(t *testing.T, rows ...row) {
	t.Helper()
	for _, r := range rows {
		if got, e := New(r.fun, r.size, r.old, r.x); got != r.want || e != api.OK {
			t.Errorf("P6.1: New(%d, %d, %#x, %#x) = %#x, %d, want %#x", r.fun, r.size, r.old, r.x, got, e, r.want)
		}
	}
}

func TestSwapsSumsAndBits(t *testing.T) {
	for _, size := range sizes {
		expect(t,
			row{api.AmoSwap, size, 5, 7, 7},
			row{api.AmoSwap, size, 7, 0, 0},
			row{api.AmoAdd, size, 5, 7, 12},
			row{api.AmoAdd, size, 5, minus(2), 3},
			row{api.AmoAdd, size, all, 1, 0},
			row{api.AmoXor, size, 0b1100, 0b1010, 0b0110},
			row{api.AmoOr, size, 0b1100, 0b1010, 0b1110},
			row{api.AmoAnd, size, 0b1100, 0b1010, 0b1000},
			row{api.AmoXor, size, all, all, 0},
			row{api.AmoAnd, size, all, 1, 1},
		)
	}
	expect(t,
		row{api.AmoSwap, 8, 5, all, all},
		row{api.AmoSwap, 8, 5, 1 << 40, 1 << 40},
		row{api.AmoAdd, 8, all, all, all - 1},
		row{api.AmoAdd, 8, 1 << 63, 1 << 63, 0},
		row{api.AmoAdd, 8, 1<<63 - 1, 1, 1 << 63},
		row{api.AmoAdd, 8, 1<<32 - 1, 1, 1 << 32},
		row{api.AmoAdd, 8, 5, minus(7), minus(2)},
		row{api.AmoXor, 8, 3 << 62, 1 << 63, 1 << 62},
		row{api.AmoOr, 8, 1 << 63, 1, 1<<63 | 1},
		row{api.AmoAnd, 8, 3 << 62, 1 << 63, 1 << 63},
	)
	expect(t,
		row{api.AmoSwap, 4, 5, all, 0xffffffff},
		row{api.AmoSwap, 4, 5, 1 << 31, 1 << 31},
		row{api.AmoSwap, 4, 5, 1 << 40, 0},
		row{api.AmoAdd, 4, 0xffffffff, 0xffffffff, 0xfffffffe},
		row{api.AmoAdd, 4, 1 << 31, 1 << 31, 0},
		row{api.AmoAdd, 4, 1<<31 - 1, 1, 1 << 31},
		row{api.AmoAdd, 4, 1<<32 - 1, 1, 0},
		row{api.AmoAdd, 4, 5, minus(7), 0xfffffffe},
		row{api.AmoAdd, 4, 0xdead00000003, 0xbeef00000004, 7},
		row{api.AmoXor, 4, minus(1), 1, 0xfffffffe},
		row{api.AmoOr, 4, 1 << 63, 1 << 31, 1 << 31},
		row{api.AmoAnd, 4, all, 3 << 31, 1 << 31},
	)
}

// order says of two numbers which is the smaller and the larger, with signs and without.
type order struct{ old, x, min, max, minu, maxu uint64 }

func expectOrder(t *testing.T, size int, o order) {
	t.Helper()
	expect(t,
		row{api.AmoMin, size, o.old, o.x, o.min},
		row{api.AmoMax, size, o.old, o.x, o.max},
		row{api.AmoMinu, size, o.old, o.x, o.minu},
		row{api.AmoMaxu, size, o.old, o.x, o.maxu},
	)
}

func TestSmallerAndLarger(t *testing.T) {
	const least, most = 1 << 63, 1<<63 - 1
	for _, o := range []order{
		{2, 3, 2, 3, 2, 3},
		{5, 5, 5, 5, 5, 5},
		{0, 0, 0, 0, 0, 0},
		{all, 1, all, 1, 1, all},
		{all, 0, all, 0, 0, all},
		{all, all, all, all, all, all},
		{all - 1, all, all - 1, all, all - 1, all},
		{least, most, least, most, most, least},
		{least, 0, least, 0, 0, least},
		{least, all, least, all, least, all},
		{least, least, least, least, least, least},
		{most, 0, 0, most, 0, most},
		{most, all, all, most, most, all},
		{most, most, most, most, most, most},
		{1 << 31, 1, 1, 1 << 31, 1, 1 << 31},
		{1 << 32, 1, 1, 1 << 32, 1, 1 << 32},
	} {
		expectOrder(t, 8, o)
		o.old, o.x = o.x, o.old
		expectOrder(t, 8, o)
	}
}

func TestSmallerAndLargerOfTheLowestBytes(t *testing.T) {
	const top, least, most = 0xffffffff, 1 << 31, 1<<31 - 1
	rows := []order{
		{2, 3, 2, 3, 2, 3},
		{5, 5, 5, 5, 5, 5},
		{top, 1, top, 1, 1, top},
		{top, top, top, top, top, top},
		{top - 1, top, top - 1, top, top - 1, top},
		{least, most, least, most, most, least},
		{least, 0, least, 0, 0, least},
		{least, top, least, top, least, top},
		{least, least, least, least, least, least},
		{most, 0, 0, most, 0, most},
		{most, top, top, most, most, top},
	}
	for _, above := range []uint64{0, 1 << 32, top << 32} {
		for _, other := range []uint64{0, 2 << 32, top << 32} {
			for _, o := range rows {
				o.old, o.x = o.old|above, o.x|other
				expectOrder(t, 4, o)
				o.old, o.x = o.x, o.old
				expectOrder(t, 4, o)
			}
		}
	}
}

func checkNew(t *testing.T, fun, size int, old, x uint64) {
	t.Helper()
	got, e := New(fun, size, old, x)
	if want, wantE := plainNew(fun, size, old, x); got != want || e != wantE {
		t.Fatalf("P6.1: New(%d, %d, %#x, %#x) = %#x, %d, want %#x, %d", fun, size, old, x, got, e, want, wantE)
	}
}

func TestNewEverywhere(t *testing.T) {
	for _, fun := range funs {
		for _, size := range sizes {
			for _, old := range words() {
				for _, x := range words() {
					checkNew(t, fun, size, old, x)
				}
			}
		}
	}
}

func TestNewOfFourBytesMindsThemAlone(t *testing.T) {
	const high = math.MaxUint32 << 32
	for _, fun := range funs {
		for _, old := range ends {
			for _, x := range ends {
				want, _ := New(fun, 4, old, x)
				if want&high != 0 {
					t.Fatalf("P6.1: New(%d, 4, %#x, %#x) = %#x, which is not zero-extended", fun, old, x, want)
				}
				for _, h := range [][2]uint64{{0, 0}, {0, high}, {high, 0}, {high, high}} {
					o, y := old&^high|h[0], x&^high|h[1]
					if got, _ := New(fun, 4, o, y); got != want {
						t.Fatalf("P6.1: New(%d, 4, %#x, %#x) = %#x, and %#x with other high bits", fun, o, y, got, want)
					}
				}
			}
		}
	}
}

func refuse(t *testing.T, fun, size int) {
	t.Helper()
	for _, old := range ends {
		for _, x := range ends {
			if got, e := New(fun, size, old, x); got != 0 || e != api.ErrArg {
				t.Fatalf("P6.1: New(%d, %d, %#x, %#x) = %#x, %d, want 0, ErrArg", fun, size, old, x, got, e)
			}
		}
	}
}

func TestNewRefusesOtherSizes(t *testing.T) {
	for _, size := range strangeSizes(sizes[:]...) {
		for _, fun := range funs {
			refuse(t, fun, size)
		}
		refuse(t, 2, size)
		refuse(t, -1, size)
	}
}

func TestNewRefusesOtherFuns(t *testing.T) {
	for _, fun := range strangeFuns() {
		for _, size := range sizes {
			refuse(t, fun, size)
		}
	}
}

func TestSwappingTwiceRestores(t *testing.T) {
	for _, size := range sizes {
		for _, old := range words() {
			for _, x := range words() {
				// The second swap has what the first one read as its operand.
				stored, _ := New(api.AmoSwap, size, old, x)
				if got, e := New(api.AmoSwap, size, stored, old); got != plainExtend(old, size, false) || e != api.OK {
					t.Fatalf("What follows: %#x, swapped for %#x and back (size %d): %#x, %d", old, x, size, got, e)
				}
			}
		}
	}
}

func TestMinimumAndMaximumAreTheTwo(t *testing.T) {
	for _, pair := range [][2]int{{api.AmoMin, api.AmoMax}, {api.AmoMinu, api.AmoMaxu}} {
		for _, size := range sizes {
			for _, old := range words() {
				for _, x := range words() {
					low, _ := New(pair[0], size, old, x)
					high, _ := New(pair[1], size, old, x)
					a, b := plainExtend(old, size, false), plainExtend(x, size, false)
					if !(low == a && high == b || low == b && high == a) {
						t.Fatalf("What follows: of %#x and %#x (size %d), %d and %d answer %#x and %#x", old, x, size, pair[0], pair[1], low, high)
					}
				}
			}
		}
	}
}

func TestExtend(t *testing.T) {
	for _, r := range []struct {
		v            uint64
		size         int
		signed, bare uint64
	}{
		{0, 1, 0, 0},
		{0x7f, 1, 0x7f, 0x7f},
		{0x80, 1, minus(128), 0x80},
		{0xff, 1, all, 0xff},
		{0x17f, 1, 0x7f, 0x7f},
		{all - 0x80, 1, 0x7f, 0x7f},
		{0x180, 1, minus(128), 0x80},
		{0x7fff, 2, 0x7fff, 0x7fff},
		{0x80, 2, 0x80, 0x80},
		{0x8000, 2, minus(1 << 15), 0x8000},
		{0xffff, 2, all, 0xffff},
		{0x17fff, 2, 0x7fff, 0x7fff},
		{0xabcd8001, 2, minus(0x7fff), 0x8001},
		{0x7fffffff, 4, 0x7fffffff, 0x7fffffff},
		{0x8000, 4, 0x8000, 0x8000},
		{0x80000000, 4, minus(1 << 31), 0x80000000},
		{0xffffffff, 4, all, 0xffffffff},
		{0xffffffff7fffffff, 4, 0x7fffffff, 0x7fffffff},
		{0x180000000, 4, minus(1 << 31), 0x80000000},
		{0x80000000, 8, 0x80000000, 0x80000000},
		{1<<63 - 1, 8, 1<<63 - 1, 1<<63 - 1},
		{1 << 63, 8, 1 << 63, 1 << 63},
		{all, 8, all, all},
	} {
		if got := Extend(r.v, r.size, true); got != r.signed {
			t.Errorf("P6.2: Extend(%#x, %d, true) = %#x, want %#x", r.v, r.size, got, r.signed)
		}
		if got := Extend(r.v, r.size, false); got != r.bare {
			t.Errorf("P6.2: Extend(%#x, %d, false) = %#x, want %#x", r.v, r.size, got, r.bare)
		}
	}
}

// Each size with its sign bit clear and set, and with each of the bits above it.
func TestExtendEverywhere(t *testing.T) {
	for _, size := range []int{1, 2, 4, 8} {
		l := words()
		for bit := range 64 {
			sign := uint64(1) << (8*size - 1)
			l = append(l, 1<<bit, 1<<bit-1, 1<<bit|sign, 1<<bit&^sign|1)
		}
		for _, v := range l {
			for _, signed := range []bool{false, true} {
				if got, want := Extend(v, size, signed), plainExtend(v, size, signed); got != want {
					t.Fatalf("P6.2: Extend(%#x, %d, %t) = %#x, want %#x", v, size, signed, got, want)
				}
			}
		}
	}
}

func TestExtendOfOtherSizes(t *testing.T) {
	for _, size := range strangeSizes(1, 2, 4, 8) {
		for _, v := range words() {
			for _, signed := range []bool{false, true} {
				if got := Extend(v, size, signed); got != 0 {
					t.Fatalf("P6.2: Extend(%#x, %d, %t) = %#x, want 0", v, size, signed, got)
				}
			}
		}
	}
}
