package muldiv

import (
	"math"
	"math/big"

	"tappet/api"
)

const all = math.MaxUint64

// funs are those of the chapter, products first.
var funs = [...]int{api.Mul, api.Mulh, api.Mulhsu, api.Mulhu, api.Div, api.Divu, api.Rem, api.Remu}

// strange are no funs: some near to those that are, others that would be one if bits of them were lost.
func strange() []int {
	l := []int{math.MinInt, math.MinInt32, math.MaxInt32, math.MaxInt}
	for n := 1; n <= 100; n++ {
		l = append(l, -n, 7+n)
	}
	for _, fun := range funs {
		for bit := 3; bit < 63; bit++ {
			l = append(l, fun+1<<bit, fun-1<<bit)
		}
	}
	return l
}

// words are the ends of numbers of 32 and of 64 bits and their neighbours, small numbers and mixtures; each with its highest 32 bits as they are, all clear and all set.
func words() []uint64 {
	var l []uint64
	for _, v := range []uint64{
		0, 1, 2, 3, 7, 10, all, all - 1, all - 6,
		1<<31 - 1, 1 << 31, 1<<31 + 1, 1<<32 - 1, 1 << 32, 1<<32 + 1, 1<<63 - 1, 1 << 63, 1<<63 + 1,
		0x0123456789abcdef, 0xfedcba9876543210, 0x5555555555555555, 0xaaaaaaaaaaaaaaaa, 0xdeadbeef00000000,
	} {
		l = append(l, v, v&math.MaxUint32, v|math.MaxUint32<<32)
	}
	return l
}

func allOf(width int) *big.Int {
	n := new(big.Int).Lsh(big.NewInt(1), uint(width))
	return n.Sub(n, big.NewInt(1))
}

// number is what the lowest width bits of v are.
func number(v uint64, width int, signed bool) *big.Int {
	n := new(big.Int).SetUint64(v)
	n.And(n, allOf(width))
	if signed && n.Bit(width-1) == 1 {
		n.Sub(n, allOf(width)).Sub(n, big.NewInt(1))
	}
	return n
}

// cut is the lowest width bits of n, sign-extended to 64.
func cut(n *big.Int, width int) uint64 {
	low := new(big.Int).And(n, allOf(width)).Uint64()
	return new(big.Int).And(number(low, width, true), allOf(64)).Uint64()
}

func widthOf(word bool) int {
	if word {
		return 32
	}
	return 64
}

// operands are a and b, as the chapter says that fun takes them.
func operands(fun int, word bool, a, b uint64) (*big.Int, *big.Int) {
	signedA, signedB := true, true
	switch fun {
	case api.Mulhsu:
		signedB = false
	case api.Mulhu, api.Divu, api.Remu:
		signedA, signedB = false, false
	}
	return number(a, widthOf(word), signedA), number(b, widthOf(word), signedB)
}

func defined(fun int, word bool) bool {
	return fun >= 0 && fun <= 7 && !(word && fun >= 1 && fun <= 3)
}

// plainResult is what P5.1 says, in numbers that have no greatest one.
func plainResult(fun int, word bool, a, b uint64) uint64 {
	if !defined(fun, word) {
		return 0
	}
	x, y := operands(fun, word, a, b)
	n := new(big.Int)
	switch fun {
	case api.Mul:
		n.Mul(x, y)
	case api.Mulh, api.Mulhsu, api.Mulhu:
		n.Rsh(n.Mul(x, y), 64)
	case api.Div, api.Divu:
		n.SetInt64(-1)
		if y.Sign() != 0 {
			n.Quo(x, y)
		}
	case api.Rem, api.Remu:
		n.Set(x)
		if y.Sign() != 0 {
			n.Rem(x, y)
		}
	}
	return cut(n, widthOf(word))
}

// plainSteps is what P5.2 says of Left after Start.
func plainSteps(fun int, word bool, a, b uint64) int {
	width := widthOf(word)
	x, y := operands(fun, word, a, b)
	least := number(1<<(width-1), width, true)
	switch fun {
	case api.Div, api.Rem:
		if x.Cmp(least) == 0 && y.Cmp(big.NewInt(-1)) == 0 {
			return 1
		}
		fallthrough
	case api.Divu, api.Remu:
		if y.Sign() == 0 {
			return 1
		}
	}
	return width
}
