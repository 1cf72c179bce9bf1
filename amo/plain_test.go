package amo

import (
	"math"
	"math/big"

	"tappet/api"
)

const all = math.MaxUint64

// funs are those of the chapter.
var funs = [...]int{
	api.AmoSwap, api.AmoAdd, api.AmoXor, api.AmoOr, api.AmoAnd, api.AmoMin, api.AmoMax, api.AmoMinu, api.AmoMaxu,
}

var sizes = [...]int{4, 8}

// ends are those that the tests are asked to hold against each other.
var ends = [...]uint64{0, 1, 1<<31 - 1, 1 << 31, 1<<32 - 1, 1 << 32, 1<<63 - 1, 1 << 63, all}

// words are the ends with their neighbours, small numbers and mixtures; each with its highest 32 bits as they are, all clear and all set.
func words() []uint64 {
	l := []uint64{
		2, 6, 0x80, 0xff, 0x8000, 0xffff, 0xdeadbeef00000000,
		0x0123456789abcdef, 0xfedcba9876543210, 0x5555555555555555, 0xaaaaaaaaaaaaaaaa,
	}
	for _, v := range ends {
		l = append(l, v-1, v, v+1)
	}
	for _, v := range l {
		l = append(l, v&math.MaxUint32, v|math.MaxUint32<<32)
	}
	return l
}

// far are numbers, some of which would be n if bits of them were lost.
func far(n int) []int {
	l := []int{math.MinInt, math.MinInt + 1, math.MinInt32, math.MaxInt32, math.MaxInt - 1, math.MaxInt}
	for bit := 5; bit < 63; bit++ {
		l = append(l, n+1<<bit, n-1<<bit)
	}
	return append(l, n+math.MinInt)
}

// strangeFuns are no funs: those between them, others near to them, and some far away.
func strangeFuns() []int {
	var l []int
	for _, fun := range funs {
		l = append(l, far(fun)...)
	}
	for n := -70; n <= 70; n++ {
		if !defined(n) {
			l = append(l, n)
		}
	}
	return l
}

func defined(fun int) bool {
	for _, f := range funs {
		if f == fun {
			return true
		}
	}
	return false
}

// strangeSizes are none of the sizes known.
func strangeSizes(known ...int) []int {
	l := []int{}
	for n := -70; n <= 70; n++ {
		is := false
		for _, size := range known {
			is = is || n == size
		}
		if !is {
			l = append(l, n)
		}
	}
	for _, size := range known {
		l = append(l, far(size)...)
	}
	return l
}

func power(n int) *big.Int { return new(big.Int).Lsh(big.NewInt(1), uint(n)) }

// number is what the lowest size bytes of v are.
func number(v uint64, size int, signed bool) *big.Int {
	width := 8 * size
	n := new(big.Int).Mod(new(big.Int).SetUint64(v), power(width))
	if signed && n.Cmp(power(width-1)) >= 0 {
		n.Sub(n, power(width))
	}
	return n
}

// cut is n modulo 2^width.
func cut(n *big.Int, width int) uint64 { return new(big.Int).Mod(n, power(width)).Uint64() }

// plainNew is what P6.1 says, in numbers that have no greatest one.
func plainNew(fun, size int, old, x uint64) (uint64, api.Errno) {
	if size != 4 && size != 8 || !defined(fun) {
		return 0, api.ErrArg
	}
	signed := fun == api.AmoMin || fun == api.AmoMax
	a, b := number(old, size, signed), number(x, size, signed)
	n := new(big.Int).Set(b)
	switch fun {
	case api.AmoAdd:
		n.Add(a, b)
	case api.AmoXor:
		n.Xor(a, b)
	case api.AmoOr:
		n.Or(a, b)
	case api.AmoAnd:
		n.And(a, b)
	case api.AmoMin, api.AmoMinu:
		if a.Cmp(b) < 0 {
			n.Set(a)
		}
	case api.AmoMax, api.AmoMaxu:
		if a.Cmp(b) > 0 {
			n.Set(a)
		}
	}
	return cut(n, 8*size), api.OK
}

// plainExtend is what P6.2 says of Extend.
func plainExtend(v uint64, size int, signed bool) uint64 {
	switch size {
	case 1, 2, 4, 8:
		return cut(number(v, size, signed), 64)
	}
	return 0
}
