package muldiv

import (
	"math"
	"math/big"
	"testing"

	"tappet/api"
)

const (
	least     = 1 << 63
	leastWord = 1<<64 - 1<<31
)

func minus(n uint64) uint64 { return -n }

func checkResult(t *testing.T, fun int, a, b uint64) {
	t.Helper()
	for _, word := range []bool{false, true} {
		if got, want := Result(fun, word, a, b), plainResult(fun, word, a, b); got != want {
			t.Fatalf("P5.1: Result(%d, %t, %#x, %#x) = %#x, want %#x", fun, word, a, b, got, want)
		}
	}
}

type row struct {
	fun  int
	word bool
	a, b uint64
	want uint64
}

// expect holds Result against rows that are written out by hand.
func expect(t *testing.T, rows ...row) {
	t.Helper()
	for _, r := range rows {
		if got := Result(r.fun, r.word, r.a, r.b); got != r.want {
			t.Errorf("P5.1: Result(%d, %t, %#x, %#x) = %#x, want %#x", r.fun, r.word, r.a, r.b, got, r.want)
		}
	}
}

func TestProducts(t *testing.T) {
	expect(t,
		row{api.Mul, false, 6, 7, 42},
		row{api.Mul, false, minus(6), 7, minus(42)},
		row{api.Mul, false, all, all, 1},
		row{api.Mul, false, least, 2, 0},
		row{api.Mul, false, 1 << 32, 1 << 31, least},
		row{api.Mulh, false, 6, 7, 0},
		row{api.Mulh, false, minus(6), 7, all},
		row{api.Mulh, false, 7, minus(6), all},
		row{api.Mulh, false, all, all, 0},
		row{api.Mulh, false, least, least, 1 << 62},
		row{api.Mulh, false, least, least - 1, minus(1 << 62)},
		row{api.Mulh, false, least - 1, least - 1, 1<<62 - 1},
		row{api.Mulhsu, false, minus(6), 7, all},
		row{api.Mulhsu, false, 7, minus(6), 6},
		row{api.Mulhsu, false, all, all, all},
		row{api.Mulhsu, false, least, least, minus(1 << 62)},
		row{api.Mulhsu, false, least - 1, all, least - 2},
		row{api.Mulhu, false, least, 4, 2},
		row{api.Mulhu, false, minus(6), 7, 6},
		row{api.Mulhu, false, all, all, all - 1},
		row{api.Mulhu, false, least, least, 1 << 62},
		row{api.Mul, true, 6, 7, 42},
		row{api.Mul, true, 1 << 16, 1 << 15, leastWord},
		row{api.Mul, true, 1 << 16, 1 << 16, 0},
		row{api.Mul, true, 0xffffffff, 0xffffffff, 1},
		row{api.Mul, true, 0xdead00000006, 0xbeef00000007, 42},
	)
}

// A carry comes up from the lowest parts, from each of the middle ones, and from their sum.
func TestProductsWhoseMiddlePartsCarry(t *testing.T) {
	expect(t,
		row{api.Mulhu, false, 0x00000001ffffffff, 0x00000001ffffffff, 3},
		row{api.Mulhu, false, 0x00000000ffffffff, 0x0000000100000002, 1},
		row{api.Mulhu, false, 0x0000000100000002, 0x00000000ffffffff, 1},
		row{api.Mulhu, false, 0x00000000ffffffff, 0x0000000100000001, 0},
		row{api.Mulhu, false, 0x8000000080000000, 0x8000000080000000, 0x4000000080000000},
		row{api.Mulhu, false, 0xffffffff00000000, 0x00000000ffffffff, 0xfffffffe},
		row{api.Mulhu, false, 0xfffffffeffffffff, 0xfffffffeffffffff, 0xfffffffdffffffff},
	)
	halves := []uint64{0, 1, 2, 3, 0x7fffffff, 0x80000000, 0x80000001, 0xaaaaaaab, 0xfffffffe, 0xffffffff}
	var l []uint64
	for _, low := range halves {
		for _, high := range halves {
			l = append(l, high<<32|low)
		}
	}
	for _, a := range l {
		for _, b := range l {
			for _, fun := range funs[:4] {
				checkResult(t, fun, a, b)
			}
		}
	}
}

func TestQuotientsOfEachPairOfSigns(t *testing.T) {
	for _, word := range []bool{false, true} {
		expect(t,
			row{api.Div, word, 7, 2, 3},
			row{api.Rem, word, 7, 2, 1},
			row{api.Div, word, 7, minus(2), minus(3)},
			row{api.Rem, word, 7, minus(2), 1},
			row{api.Div, word, minus(7), 2, minus(3)},
			row{api.Rem, word, minus(7), 2, minus(1)},
			row{api.Div, word, minus(7), minus(2), 3},
			row{api.Rem, word, minus(7), minus(2), minus(1)},
			row{api.Div, word, 6, minus(2), minus(3)},
			row{api.Rem, word, minus(6), 2, 0},
			row{api.Div, word, 1, minus(2), 0},
			row{api.Rem, word, minus(1), 2, minus(1)},
			row{api.Divu, word, 7, 2, 3},
			row{api.Remu, word, 7, 2, 1},
			row{api.Divu, word, 7, minus(2), 0},
			row{api.Remu, word, 7, minus(2), 7},
			row{api.Divu, word, minus(1), minus(2), 1},
			row{api.Remu, word, minus(1), minus(2), 1},
			row{api.Remu, word, minus(2), minus(1), minus(2)},
		)
	}
	expect(t,
		row{api.Divu, false, minus(7), 2, least - 4},
		row{api.Remu, false, minus(7), 2, 1},
		row{api.Divu, true, minus(7), 2, 1<<31 - 4},
		row{api.Remu, true, minus(7), 2, 1},
		row{api.Divu, true, 0xfffffffe, 1, minus(2)},
	)
}

func TestDivisionByZero(t *testing.T) {
	for _, a := range words() {
		expect(t,
			row{api.Div, false, a, 0, all},
			row{api.Divu, false, a, 0, all},
			row{api.Rem, false, a, 0, a},
			row{api.Remu, false, a, 0, a},
		)
		// Of 32 bits, what lies above the lowest ones of the divisor is not looked at.
		for _, b := range []uint64{0, 1 << 32, least, math.MaxUint32 << 32} {
			low := a & math.MaxUint32
			if low >= 1<<31 {
				low += math.MaxUint32 << 32
			}
			expect(t,
				row{api.Div, true, a, b, all},
				row{api.Divu, true, a, b, all},
				row{api.Rem, true, a, b, low},
				row{api.Remu, true, a, b, low},
			)
		}
	}
}

func TestTheSmallestByMinusOne(t *testing.T) {
	expect(t,
		row{api.Div, false, least, all, least},
		row{api.Rem, false, least, all, 0},
		row{api.Div, false, least, 1, least},
		row{api.Div, false, least + 1, all, least - 1},
		row{api.Divu, false, least, all, 0},
		row{api.Remu, false, least, all, least},
		row{api.Div, false, leastWord, all, 1 << 31},
		row{api.Divu, true, 1 << 31, all, 0},
		row{api.Remu, true, 1 << 31, all, leastWord},
		row{api.Div, true, 1<<31 + 1, all, 1<<31 - 1},
		row{api.Div, true, least, all, 0},
	)
	for _, a := range []uint64{1 << 31, leastWord, least | 1<<31} {
		for _, b := range []uint64{all, math.MaxUint32, least | math.MaxUint32} {
			expect(t, row{api.Div, true, a, b, leastWord}, row{api.Rem, true, a, b, 0})
		}
	}
}

func TestResultEverywhere(t *testing.T) {
	for _, fun := range funs {
		for _, a := range words() {
			for _, b := range words() {
				checkResult(t, fun, a, b)
			}
		}
	}
}

// What is defined answers other than 0 to some pair of words; what is none answers 0 to all.
func TestResultOfNone(t *testing.T) {
	for _, fun := range append(strange(), funs[:]...) {
		for _, word := range []bool{false, true} {
			some := false
			for _, a := range words() {
				for _, b := range []uint64{0, 1, 3, least, 0x89abcdef, all} {
					some = some || Result(fun, word, a, b) != 0
				}
			}
			if some != defined(fun, word) {
				t.Errorf("P5.1: Result(%d, %t, ..) answers other than 0 to some operands: %t", fun, word, some)
			}
		}
	}
}

func TestWordMindsTheLowestBitsAlone(t *testing.T) {
	const high = math.MaxUint32 << 32
	for _, fun := range funs {
		for _, a := range words() {
			for _, b := range words() {
				want := Result(fun, true, a, b)
				if top := want >> 31; top != 0 && top != 1<<33-1 {
					t.Fatalf("P5.1: Result(%d, true, %#x, %#x) = %#x, which is not sign-extended", fun, a, b, want)
				}
				for _, h := range [][2]uint64{{0, 0}, {0, high}, {high, 0}, {high, high}} {
					x, y := a&^high|h[0], b&^high|h[1]
					if got := Result(fun, true, x, y); got != want {
						t.Fatalf("P5.1: Result(%d, true, %#x, %#x) = %#x, and %#x with other high bits", fun, x, y, got, want)
					}
				}
			}
		}
	}
}

func TestQuotientTimesDivisorPlusRemainder(t *testing.T) {
	for _, c := range []struct {
		div, rem int
		signed   bool
	}{{api.Div, api.Rem, true}, {api.Divu, api.Remu, false}} {
		for _, word := range []bool{false, true} {
			width := widthOf(word)
			for _, a := range words() {
				for _, b := range words() {
					divisor := number(b, width, c.signed)
					if divisor.Sign() == 0 {
						continue
					}
					q, r := Result(c.div, word, a, b), Result(c.rem, word, a, b)
					if cut(new(big.Int).SetUint64(q*b+r), width) != cut(new(big.Int).SetUint64(a), width) {
						t.Fatalf("What follows: word %t: %#x by %#x: quotient %#x, remainder %#x", word, a, b, q, r)
					}
					if number(r, width, c.signed).CmpAbs(divisor) >= 0 {
						t.Fatalf("What follows: word %t: %#x by %#x: the remainder is %#x", word, a, b, r)
					}
				}
			}
		}
	}
}
