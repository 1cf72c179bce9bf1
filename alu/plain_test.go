package alu

import (
	"math"
	"math/big"

	"tappet/api"
)

// words are those that the tests hold against each other: the ends of numbers of 32 and of 64 bits and their neighbours, each with the highest 32 bits clear and set, and mixtures.
func words() []uint64 {
	const high = math.MaxUint32 << 32
	l := []uint64{
		0, 1, 2, 5, 1<<31 - 2, 1<<31 - 1, 1 << 31, 1<<31 + 1, 1<<32 - 2, 1<<32 - 1,
		0x01234567, 0x89abcdef, 0x55555555, 0xaaaaaaaa,
	}
	for _, v := range l {
		l = append(l, v|high)
	}
	return append(l, 1<<32, 1<<32+1, 1<<63-1, 1<<63, 1<<63+1, 1<<63|1<<31, 1<<62, 3<<62,
		0x0123456789abcdef, 0xfedcba9876543210, 0x5555555555555555, 0xaaaaaaaaaaaaaaaa)
}

// amounts are second operands of shifts: every amount, bare and with bits set above the lowest five, and the lowest six.
func amounts() []uint64 {
	var l []uint64
	for n := range uint64(64) {
		for _, above := range []uint64{0, 1 << 6, 1 << 31, 1 << 32, 1 << 63, 1<<64 - 1<<6} {
			l = append(l, above|n)
		}
	}
	return l
}

// far are numbers that would be others, if bits of them were lost.
func far() []int {
	l := []int{math.MinInt, math.MinInt + 1, math.MinInt32, math.MaxInt32, math.MaxInt - 1, math.MaxInt}
	for n := range 32 {
		l = append(l, 1<<8+n, 1<<16+n, 1<<32+n, -1<<8+n, -1<<32+n, math.MinInt+n)
	}
	return l
}

// funs are all that are something somewhere, those between them, and many that are none.
func funs() []int {
	l := far()
	for n := -70; n <= 70; n++ {
		l = append(l, n)
	}
	return l
}

func power(n int) *big.Int { return new(big.Int).Lsh(big.NewInt(1), uint(n)) }

// unsigned is the number that the lowest width bits of v are.
func unsigned(v uint64, width int) *big.Int {
	return new(big.Int).Mod(new(big.Int).SetUint64(v), power(width))
}

// signed takes the highest of these bits for the sign.
func signed(v uint64, width int) *big.Int {
	n := unsigned(v, width)
	if n.Cmp(power(width-1)) >= 0 {
		n.Sub(n, power(width))
	}
	return n
}

// word is n as a number of width bits, sign-extended to 64.
func word(n *big.Int, width int) uint64 {
	low := new(big.Int).Mod(n, power(width)).Uint64()
	return new(big.Int).Mod(signed(low, width), power(64)).Uint64()
}

// plainBits goes bit by bit; on says of a and b's bits which the result's is.
func plainBits(a, b uint64, on func(x, y bool) bool) *big.Int {
	n := new(big.Int)
	for i := range 64 {
		if on(a>>i%2 == 1, b>>i%2 == 1) {
			n.SetBit(n, i, 1)
		}
	}
	return n
}

func plainTruth(holds bool) *big.Int {
	if holds {
		return big.NewInt(1)
	}
	return new(big.Int)
}

// plainAlu is what P4.1 says, in numbers that have no greatest one: of a shift, a product or a quotient (rounded down) with a power of two.
func plainAlu(fun int, narrow bool, a, b uint64) uint64 {
	width := 64
	if narrow {
		width = 32
	}
	x, y, n := unsigned(a, width), unsigned(b, width), new(big.Int)
	by := power(int(b % uint64(width)))
	switch fun {
	case api.Add:
		return word(n.Add(x, y), width)
	case api.Sub:
		return word(n.Sub(x, y), width)
	case api.Sll:
		return word(n.Mul(x, by), width)
	case api.Srl:
		return word(n.Div(x, by), width)
	case api.Sra:
		return word(n.Div(signed(a, width), by), width)
	}
	if narrow {
		return 0
	}
	switch fun {
	case api.Slt:
		n = plainTruth(signed(a, 64).Cmp(signed(b, 64)) < 0)
	case api.Sltu:
		n = plainTruth(x.Cmp(y) < 0)
	case api.Xor:
		n = plainBits(a, b, func(x, y bool) bool { return x != y })
	case api.Or:
		n = plainBits(a, b, func(x, y bool) bool { return x || y })
	case api.And:
		n = plainBits(a, b, func(x, y bool) bool { return x && y })
	}
	return word(n, 64)
}

// plainBranch is what P4.2 says of the conditions.
func plainBranch(fun int, a, b uint64) bool {
	order, signedOrder := unsigned(a, 64).Cmp(unsigned(b, 64)), signed(a, 64).Cmp(signed(b, 64))
	switch fun {
	case api.Beq:
		return order == 0
	case api.Bne:
		return order != 0
	case api.Blt:
		return signedOrder < 0
	case api.Bge:
		return signedOrder >= 0
	case api.Bltu:
		return order < 0
	case api.Bgeu:
		return order >= 0
	}
	return false
}

// plainTarget is what P4.2 says of the targets.
func plainTarget(op int, imm, pc, a uint64) uint64 {
	from, by := pc, uint64(4)
	switch op {
	case api.OpJal, api.OpBranch:
		by = imm
	case api.OpJalr:
		from, by = a, imm
	}
	sum := new(big.Int).Add(unsigned(from, 64), unsigned(by, 64))
	if op == api.OpJalr {
		sum.SetBit(sum, 0, 0)
	}
	return word(sum, 64)
}
