package alu

import (
	"math"
	"testing"

	"tappet/api"
)

const all = math.MaxUint64

func TestAluOfOne(t *testing.T) {
	for _, c := range []struct {
		fun  int
		word bool
		a, b uint64
		want uint64
	}{
		{api.Add, false, 3, 4, 7},
		{api.Add, false, all, 1, 0},
		{api.Add, false, all, all, all - 1},
		{api.Add, false, 1 << 63, 1 << 63, 0},
		{api.Add, false, 0x7fffffff, 1, 0x80000000},
		{api.Add, false, 0xffffffff, 1, 1 << 32},
		{api.Sub, false, 7, 4, 3},
		{api.Sub, false, 0, 1, all},
		{api.Sub, false, 0, 1 << 63, 1 << 63},
		{api.Sub, false, 1 << 63, 1, 1<<63 - 1},
		{api.Sub, false, 5, 0, 5},
		{api.Sll, false, 1, 0, 1},
		{api.Sll, false, 1, 1, 2},
		{api.Sll, false, 1, 31, 1 << 31},
		{api.Sll, false, 1, 32, 1 << 32},
		{api.Sll, false, 1, 63, 1 << 63},
		{api.Sll, false, 1, 64, 1},
		{api.Sll, false, 3, 63, 1 << 63},
		{api.Sll, false, 1, 1<<63 | 4, 16},
		{api.Srl, false, 1 << 63, 63, 1},
		{api.Srl, false, 1 << 63, 64, 1 << 63},
		{api.Srl, false, all, 1, 1<<63 - 1},
		{api.Srl, false, all, all, 1},
		{api.Sra, false, 1 << 63, 63, all},
		{api.Sra, false, 1 << 63, 1, 3 << 62},
		{api.Sra, false, 1 << 63, 64, 1 << 63},
		{api.Sra, false, 1<<63 - 1, 62, 1},
		{api.Sra, false, 1<<63 - 1, 63, 0},
		{api.Sra, false, 1 << 31, 31, 1},
		{api.Slt, false, 1, 2, 1},
		{api.Slt, false, 2, 2, 0},
		{api.Slt, false, 2, 1, 0},
		{api.Slt, false, all, 0, 1},
		{api.Slt, false, 0, all, 0},
		{api.Slt, false, 1 << 63, 1<<63 - 1, 1},
		{api.Slt, false, 1<<63 - 1, 1 << 63, 0},
		{api.Slt, false, all - 1, all, 1},
		{api.Sltu, false, 1, 2, 1},
		{api.Sltu, false, 2, 2, 0},
		{api.Sltu, false, 2, 1, 0},
		{api.Sltu, false, all, 0, 0},
		{api.Sltu, false, 0, all, 1},
		{api.Sltu, false, 1 << 63, 1<<63 - 1, 0},
		{api.Sltu, false, 1<<63 - 1, 1 << 63, 1},
		{api.Xor, false, 0b1100, 0b1010, 0b0110},
		{api.Or, false, 0b1100, 0b1010, 0b1110},
		{api.And, false, 0b1100, 0b1010, 0b1000},
		{api.Xor, false, all, 1 << 63, 1<<63 - 1},

		{api.Add, true, 3, 4, 7},
		{api.Add, true, 0x7fffffff, 1, 0xffffffff80000000},
		{api.Add, true, 0xffffffff, 1, 0},
		{api.Add, true, all, all, all - 1},
		{api.Add, true, 0xdead00000003, 0xbeef00000004, 7},
		{api.Sub, true, 0, 1, all},
		{api.Sub, true, 0, 1 << 31, 0xffffffff80000000},
		{api.Sub, true, 0x80000000, 1, 0x7fffffff},
		{api.Sub, true, 1 << 32, 1, all},
		{api.Sll, true, 1, 31, 0xffffffff80000000},
		{api.Sll, true, 1, 32, 1},
		{api.Sll, true, 1, 63, 0xffffffff80000000},
		{api.Sll, true, 3, 31, 0xffffffff80000000},
		{api.Sll, true, 0x40000000, 1, 0xffffffff80000000},
		{api.Sll, true, 0x80000000, 1, 0},
		{api.Sll, true, 0x80000000, 0, 0xffffffff80000000},
		{api.Srl, true, 0x80000000, 31, 1},
		{api.Srl, true, 0x80000000, 1, 0x40000000},
		{api.Srl, true, 0x80000000, 0, 0xffffffff80000000},
		{api.Srl, true, 0x80000000, 32, 0xffffffff80000000},
		{api.Srl, true, all, 4, 0x0fffffff},
		{api.Srl, true, 1 << 32, 1, 0},
		{api.Sra, true, 0x80000000, 31, all},
		{api.Sra, true, 0x80000000, 1, 0xffffffffc0000000},
		{api.Sra, true, 0x80000000, 64, 0xffffffff80000000},
		{api.Sra, true, 0xffffffff7fffffff, 30, 1},
		{api.Sra, true, 0xffffffff7fffffff, 31, 0},
	} {
		if got := Alu(c.fun, c.word, c.a, c.b); got != c.want {
			t.Errorf("P4.1: Alu(%d, %t, %#x, %#x) = %#x, want %#x", c.fun, c.word, c.a, c.b, got, c.want)
		}
	}
}

func checkAlu(t *testing.T, fun int, a, b uint64) {
	t.Helper()
	for _, word := range []bool{false, true} {
		if got, want := Alu(fun, word, a, b), plainAlu(fun, word, a, b); got != want {
			t.Fatalf("P4.1: Alu(%d, %t, %#x, %#x) = %#x, want %#x", fun, word, a, b, got, want)
		}
	}
}

// Every fun at every pair of words, those that are none among them.
func TestAluEverywhere(t *testing.T) {
	for _, fun := range funs() {
		for _, a := range words() {
			for _, b := range words() {
				checkAlu(t, fun, a, b)
			}
		}
	}
}

func TestShiftsByEveryAmount(t *testing.T) {
	for _, fun := range []int{api.Sll, api.Srl, api.Sra} {
		for _, a := range words() {
			for _, b := range amounts() {
				checkAlu(t, fun, a, b)
			}
		}
	}
}

// What is defined answers other than 0 to some pair of words; what is none answers 0 to all.
func TestAluOfNone(t *testing.T) {
	defined := func(fun int, word bool) bool {
		switch fun {
		case api.Add, api.Sub, api.Sll, api.Srl, api.Sra:
			return true
		case api.Slt, api.Sltu, api.Xor, api.Or, api.And:
			return !word
		}
		return false
	}
	for _, fun := range funs() {
		for _, word := range []bool{false, true} {
			some := false
			for _, a := range words() {
				for _, b := range words() {
					some = some || Alu(fun, word, a, b) != 0
				}
			}
			if some != defined(fun, word) {
				t.Errorf("P4.1: Alu(%d, %t, ..) answers other than 0 to some operands: %t", fun, word, some)
			}
		}
	}
}

func TestWordMindsTheLowestBitsAlone(t *testing.T) {
	const low = math.MaxUint32
	for _, fun := range funs() {
		for _, a := range words() {
			for _, b := range words() {
				got := Alu(fun, true, a, b)
				if want := Alu(fun, true, a&low, b|^uint64(low)); got != want {
					t.Fatalf("P4.1: Alu(%d, true, %#x, %#x) = %#x, and %#x with other high bits", fun, a, b, got, want)
				}
				if top := got >> 31; top != 0 && top != 1<<33-1 {
					t.Fatalf("P4.1: Alu(%d, true, %#x, %#x) = %#x, which is not sign-extended", fun, a, b, got)
				}
			}
		}
	}
}

func TestLessIffGreater(t *testing.T) {
	for _, a := range words() {
		for _, b := range words() {
			for _, c := range []struct {
				name    string
				less    bool
				greater bool
			}{
				{"Slt", Alu(api.Slt, false, a, b) == 1, Branch(api.Bge, b, a) && Branch(api.Bne, b, a)},
				{"Sltu", Alu(api.Sltu, false, a, b) == 1, Branch(api.Bgeu, b, a) && Branch(api.Bne, b, a)},
				{"Blt", Branch(api.Blt, a, b), signed(b, 64).Cmp(signed(a, 64)) > 0},
				{"Bltu", Branch(api.Bltu, a, b), unsigned(b, 64).Cmp(unsigned(a, 64)) > 0},
			} {
				if c.less != c.greater {
					t.Fatalf("What follows: %s of %#x and %#x: less: %t, the other is greater: %t", c.name, a, b, c.less, c.greater)
				}
			}
		}
	}
}

func TestLeftAndRightAgain(t *testing.T) {
	for _, a := range words() {
		for n := range uint64(64) {
			want := a & (all >> n)
			if got := Alu(api.Srl, false, Alu(api.Sll, false, a, n), n); got != want {
				t.Fatalf("What follows: %#x shifted left and right by %d: %#x, want %#x", a, n, got, want)
			}
		}
		for n := range uint64(32) {
			// After no shift at all bit 31 may be set; then it is the sign.
			want := a & (math.MaxUint32 >> n)
			if want >= 1<<31 {
				want += math.MaxUint32 << 32
			}
			if got := Alu(api.Srl, true, Alu(api.Sll, true, a, n), n); got != want {
				t.Fatalf("What follows: the word %#x shifted left and right by %d: %#x, want %#x", a, n, got, want)
			}
		}
	}
}
