package shape

import (
	"math"
	"testing"

	"tappet/api"
)

// form is a format as the chapter's tables tell it, written apart from the package: of each bit of the immediate, which bit of the word it is (-1: it is 0).
type form struct {
	name                 string
	rd, f3, rs1, rs2, f7 bool
	from                 []int
	least, most, step    int
	imm                  func(w uint32) uint64
	make                 func(f six, imm int) (uint32, api.Errno)
}

// six are the values for all fields that a format can have.
type six struct {
	op, rd, f3, rs1, rs2, f7 int
}

var zeros12 = []int{-1, -1, -1, -1, -1, -1, -1, -1, -1, -1, -1, -1}

func forms() []form {
	return []form{
		{name: "R", rd: true, f3: true, rs1: true, rs2: true, f7: true, step: 1,
			imm:  func(uint32) uint64 { return 0 },
			make: func(f six, _ int) (uint32, api.Errno) { return R(f.op, f.rd, f.f3, f.rs1, f.rs2, f.f7) }},
		{name: "I", rd: true, f3: true, rs1: true, least: -2048, most: 2047, step: 1,
			from: []int{20, 21, 22, 23, 24, 25, 26, 27, 28, 29, 30, 31},
			imm:  ImmI,
			make: func(f six, imm int) (uint32, api.Errno) { return I(f.op, f.rd, f.f3, f.rs1, imm) }},
		{name: "S", f3: true, rs1: true, rs2: true, least: -2048, most: 2047, step: 1,
			from: []int{7, 8, 9, 10, 11, 25, 26, 27, 28, 29, 30, 31},
			imm:  ImmS,
			make: func(f six, imm int) (uint32, api.Errno) { return S(f.op, f.f3, f.rs1, f.rs2, imm) }},
		{name: "B", f3: true, rs1: true, rs2: true, least: -4096, most: 4095, step: 2,
			from: []int{-1, 8, 9, 10, 11, 25, 26, 27, 28, 29, 30, 7, 31},
			imm:  ImmB,
			make: func(f six, imm int) (uint32, api.Errno) { return B(f.op, f.f3, f.rs1, f.rs2, imm) }},
		{name: "U", rd: true, least: -1 << 31, most: 1<<31 - 1, step: 4096,
			from: append(append([]int(nil), zeros12...), 12, 13, 14, 15, 16, 17, 18, 19, 20, 21, 22, 23, 24, 25, 26, 27, 28, 29, 30, 31),
			imm:  ImmU,
			make: func(f six, imm int) (uint32, api.Errno) { return U(f.op, f.rd, imm) }},
		{name: "J", rd: true, least: -1 << 20, most: 1<<20 - 1, step: 2,
			from: []int{-1, 21, 22, 23, 24, 25, 26, 27, 28, 29, 30, 20, 12, 13, 14, 15, 16, 17, 18, 19, 31},
			imm:  ImmJ,
			make: func(f six, imm int) (uint32, api.Errno) { return J(f.op, f.rd, imm) }},
	}
}

// plainImm goes bit by bit; every immediate's sign is the word's bit 31.
func (f form) plainImm(w uint32) uint64 {
	if len(f.from) == 0 {
		return 0
	}
	v := uint64(0)
	for i := range 64 {
		b := 31
		if i < len(f.from) {
			b = f.from[i]
		}
		if b >= 0 && w>>b&1 == 1 {
			v += 1 << i
		}
	}
	return v
}

// plainWord sets the fields that the format has, then the immediate, bit by bit.
func (f form) plainWord(s six, imm int) uint32 {
	w := uint32(s.op)
	for _, x := range []struct {
		has       bool
		value, at int
	}{{f.rd, s.rd, 7}, {f.f3, s.f3, 12}, {f.rs1, s.rs1, 15}, {f.rs2, s.rs2, 20}, {f.f7, s.f7, 25}} {
		if x.has {
			w += uint32(x.value) << x.at
		}
	}
	for i, b := range f.from {
		if b >= 0 && uint64(imm)>>i&1 == 1 {
			w += 1 << b
		}
	}
	return w
}

// words: none, one and all of the bits, all but one, and mixtures by a fixed rule.
func words() []uint32 {
	l := []uint32{0, math.MaxUint32, 0x55555555, 0xaaaaaaaa, 0x0123abcd, 0xfff30293, 0x001000ef}
	for i := range 32 {
		l = append(l, 1<<i, ^uint32(1<<i), math.MaxUint32>>i, math.MaxUint32<<i)
	}
	x := uint32(1)
	for range 20000 {
		x = x*1664525 + 1013904223
		l = append(l, x^x>>15)
	}
	return l
}

func fieldsOf(w uint32) six {
	return six{Opcode(w), Rd(w), Funct3(w), Rs1(w), Rs2(w), Funct7(w)}
}

func TestFieldsOfOneWord(t *testing.T) {
	for _, c := range []struct {
		w    uint32
		want six
	}{
		{0, six{}},
		{math.MaxUint32, six{127, 31, 7, 31, 31, 127}},
		{0x7f, six{op: 127}},
		{0x1f << 7, six{rd: 31}},
		{0x7 << 12, six{f3: 7}},
		{0x1f << 15, six{rs1: 31}},
		{0x1f << 20, six{rs2: 31}},
		{0x7f << 25, six{f7: 127}},
		{0x00c58533, six{op: 0x33, rd: 10, rs1: 11, rs2: 12}},
		{0x41de5fb3, six{op: 0x33, rd: 31, f3: 5, rs1: 28, rs2: 29, f7: 0x20}},
	} {
		if got := fieldsOf(c.w); got != c.want {
			t.Errorf("P2.1: the fields of %#08x are %v, want %v", c.w, got, c.want)
		}
	}
}

func TestFieldsOfAnyWord(t *testing.T) {
	for _, w := range words() {
		want := six{int(w % 128), int(w >> 7 % 32), int(w >> 12 % 8), int(w >> 15 % 32), int(w >> 20 % 32), int(w >> 25)}
		if got := fieldsOf(w); got != want {
			t.Fatalf("P2.1: the fields of %#08x are %v, want %v", w, got, want)
		}
	}
}

func TestImmediatesOfOneWord(t *testing.T) {
	neg := func(n uint64) uint64 { return -n }
	for _, c := range []struct {
		w             uint32
		i, s, b, u, j uint64
	}{
		{0, 0, 0, 0, 0, 0},
		{math.MaxUint32, neg(1), neg(1), neg(2), neg(4096), neg(2)},
		{1 << 31, neg(2048), neg(2048), neg(4096), neg(1 << 31), neg(1 << 20)},
		{1 << 30, 1024, 1024, 1024, 1 << 30, 1024},
		{1 << 25, 32, 32, 32, 1 << 25, 32},
		{1 << 24, 16, 0, 0, 1 << 24, 16},
		{1 << 21, 2, 0, 0, 1 << 21, 2},
		{1 << 20, 1, 0, 0, 1 << 20, 2048},
		{1 << 19, 0, 0, 0, 1 << 19, 1 << 19},
		{1 << 12, 0, 0, 0, 1 << 12, 1 << 12},
		{1 << 11, 0, 16, 16, 0, 0},
		{1 << 8, 0, 2, 2, 0, 0},
		{1 << 7, 0, 1, 2048, 0, 0},
		{0x7f, 0, 0, 0, 0, 0},
	} {
		got := [5]uint64{ImmI(c.w), ImmS(c.w), ImmB(c.w), ImmU(c.w), ImmJ(c.w)}
		if want := [5]uint64{c.i, c.s, c.b, c.u, c.j}; got != want {
			t.Errorf("P2.1: the immediates I, S, B, U, J of %#08x are %x, want %x", c.w, got, want)
		}
	}
}

func TestImmediatesOfAnyWord(t *testing.T) {
	for _, f := range forms() {
		for _, w := range words() {
			if got, want := f.imm(w), f.plainImm(w); got != want {
				t.Fatalf("P2.1: Imm%s(%#08x) = %#x, want %#x", f.name, w, got, want)
			}
		}
	}
}

func TestWordsOfTheFormats(t *testing.T) {
	word := func(w uint32, e api.Errno) [2]uint64 { return [2]uint64{uint64(w), uint64(e)} }
	for _, c := range []struct {
		name string
		got  [2]uint64
		want uint32
	}{
		{"add x10, x11, x12", word(R(0x33, 10, 0, 11, 12, 0)), 0x00c58533},
		{"sra x31, x28, x29", word(R(0x33, 31, 5, 28, 29, 0x20)), 0x41de5fb3},
		{"R of nothing", word(R(0, 0, 0, 0, 0, 0)), 0},
		{"R of everything", word(R(127, 31, 7, 31, 31, 127)), math.MaxUint32},
		{"addi x5, x6, -1", word(I(0x13, 5, 0, 6, -1)), 0xfff30293},
		{"I of everything", word(I(127, 31, 7, 31, -1)), math.MaxUint32},
		{"sd x2, -8(x1)", word(S(0x23, 3, 1, 2, -8)), 0xfe20bc23},
		{"S of everything", word(S(127, 7, 31, 31, -1)), math.MaxUint32},
		{"beq x1, x2, 2048", word(B(0x63, 0, 1, 2, 2048)), 0x002080e3},
		{"bne x1, x2, -4", word(B(0x63, 1, 1, 2, -4)), 0xfe209ee3},
		{"B of everything", word(B(127, 7, 31, 31, -2)), math.MaxUint32},
		{"lui x3, 0x12345", word(U(0x37, 3, 0x12345000)), 0x123451b7},
		{"U of everything", word(U(127, 31, -4096)), math.MaxUint32},
		{"jal x1, 2048", word(J(0x6f, 1, 2048)), 0x001000ef},
		{"jal x0, -4", word(J(0x6f, 0, -4)), 0xffdff06f},
		{"J of everything", word(J(127, 31, -2)), math.MaxUint32},
	} {
		if c.got != word(c.want, api.OK) {
			t.Errorf("P2.2: %s: %#08x, error %d, want %#08x", c.name, c.got[0], c.got[1], c.want)
		}
	}
}

// want is what the chapter asks of the format for any numbers: the word and its error.
func (f form) want(s six, imm int) (uint32, api.Errno) {
	bad := s.op < 0 || s.op > 127
	for _, x := range []struct {
		has         bool
		value, most int
	}{{f.rd, s.rd, 31}, {f.f3, s.f3, 7}, {f.rs1, s.rs1, 31}, {f.rs2, s.rs2, 31}, {f.f7, s.f7, 127}} {
		bad = bad || x.has && (x.value < 0 || x.value > x.most)
	}
	switch {
	case bad, f.from != nil && (imm < f.least || imm > f.most):
		return 0, api.ErrArg
	case f.from != nil && imm%f.step != 0:
		return 0, api.ErrAlign
	}
	return f.plainWord(s, imm), api.OK
}

func (f form) check(t *testing.T, s six, imm int) {
	t.Helper()
	w, e := f.make(s, imm)
	if want, err := f.want(s, imm); w != want || e != err {
		t.Fatalf("P2.2: %s of %v and %d: %#08x, error %d, want %#08x, error %d", f.name, s, imm, w, e, want, err)
	}
}

// One field at a time is at its edges and outside of them, so that each is seen to be held against its own range; once over good numbers, once over an immediate that is wrong, too.
func TestEveryFieldAtItsEdges(t *testing.T) {
	numbers := []int{math.MinInt, math.MinInt + 31, math.MinInt32, -128, -32, -8, -1, 0, 1, 7, 8, 31, 32, 63, 64, 127, 128, 255, 1 << 32, 1<<32 + 5, math.MaxInt}
	for _, f := range forms() {
		for _, imm := range []int{0, 4096, 1, 3, 4095, f.least, f.most, f.least - 1, f.most + 1, math.MinInt, math.MaxInt} {
			for _, base := range []six{{}, {0x13, 5, 2, 6, 7, 0x20}, {127, 31, 7, 31, 31, 127}} {
				for i := range 6 {
					for _, n := range numbers {
						s := base
						*[]*int{&s.op, &s.rd, &s.f3, &s.rs1, &s.rs2, &s.f7}[i] = n
						f.check(t, s, imm)
					}
				}
			}
		}
	}
}

func TestEveryRegisterAndNumber(t *testing.T) {
	for _, f := range forms() {
		for n := -2; n <= 129; n++ {
			for _, s := range []six{{op: n}, {rd: n}, {f3: n}, {rs1: n}, {rs2: n}, {f7: n}} {
				f.check(t, s, 0)
			}
		}
	}
}

func TestEveryImmediateAtItsEdges(t *testing.T) {
	for _, f := range forms() {
		for _, middle := range []int{f.least, 0, f.most, -4096, 4096, 2048, -2048, 1 << 12, 1 << 20, -1 << 20, 1 << 31, -1 << 31, 1 << 32, -1 << 32, 1 << 40, math.MinInt + 4, math.MaxInt - 4} {
			for d := -4; d <= 4; d++ {
				f.check(t, six{0x63, 1, 2, 3, 4, 5}, middle+d)
				f.check(t, six{127, 31, 7, 31, 31, 127}, middle+d)
			}
		}
		for i := range 63 {
			for _, imm := range []int{1 << i, -1 << i, 3 << i, 1<<i - 1, 1<<i - f.step, 1<<i + f.step} {
				f.check(t, six{}, imm)
			}
		}
	}
}

func TestEveryImmediateInRange(t *testing.T) {
	for _, f := range forms() {
		// Every multiple, and one number between it and the next.
		by := max(1, f.step/2)
		for imm := f.least; imm <= f.most; imm += by {
			f.check(t, six{0x63, 1, 2, 3, 4, 5}, imm)
		}
	}
}

func TestErrorsInOrder(t *testing.T) {
	err := func(_ uint32, e api.Errno) api.Errno { return e }
	for _, c := range []struct {
		name      string
		got, want api.Errno
	}{
		{"B: an odd number", err(B(0x63, 0, 1, 2, 3)), api.ErrAlign},
		{"B: an odd number, the greatest in range", err(B(0x63, 0, 1, 2, 4095)), api.ErrAlign},
		{"B: an odd number out of range", err(B(0x63, 0, 1, 2, 4097)), api.ErrArg},
		{"B: an odd number, and op", err(B(128, 0, 1, 2, 3)), api.ErrArg},
		{"B: an odd number, and f3", err(B(0x63, 8, 1, 2, 3)), api.ErrArg},
		{"B: an odd number, and rs1", err(B(0x63, 0, 32, 2, 3)), api.ErrArg},
		{"B: an odd number, and rs2", err(B(0x63, 0, 1, -1, 3)), api.ErrArg},
		{"B: out of range, and rs2", err(B(0x63, 0, 1, -1, 4096)), api.ErrArg},
		{"J: an odd number", err(J(0x6f, 1, -7)), api.ErrAlign},
		{"J: an odd number, the greatest in range", err(J(0x6f, 1, 1<<20-1)), api.ErrAlign},
		{"J: an odd number out of range", err(J(0x6f, 1, -1<<20-1)), api.ErrArg},
		{"J: an odd number, and op", err(J(-1, 1, 7)), api.ErrArg},
		{"J: an odd number, and rd", err(J(0x6f, 32, 7)), api.ErrArg},
		{"U: no multiple", err(U(0x37, 1, 2048)), api.ErrAlign},
		{"U: no multiple, the greatest in range", err(U(0x37, 1, 1<<31-1)), api.ErrAlign},
		{"U: no multiple, out of range", err(U(0x37, 1, 1<<31+1)), api.ErrArg},
		{"U: a multiple out of range", err(U(0x37, 1, 1<<31)), api.ErrArg},
		{"U: no multiple, and op", err(U(128, 1, 1)), api.ErrArg},
		{"U: no multiple, and rd", err(U(0x37, -1, 1)), api.ErrArg},
		{"I: out of range, and rd", err(I(0x13, 32, 0, 0, 2048)), api.ErrArg},
		{"S: out of range, and rs1", err(S(0x23, 0, 32, 0, -2049)), api.ErrArg},
		{"R: op and f7", err(R(128, 0, 0, 0, 0, 128)), api.ErrArg},
	} {
		if c.got != c.want {
			t.Errorf("P2.2, R5: %s: error %d, want %d", c.name, c.got, c.want)
		}
	}
}

func TestWhatIsAssembledIsExtracted(t *testing.T) {
	for _, f := range forms() {
		for _, imm := range []int{f.least, f.least + f.step, -f.step, 0, f.step, f.most + 1 - f.step} {
			if f.from == nil {
				imm = 0
			}
			for i := range 128 {
				s := six{i, i % 32, i % 8, (i + 7) % 32, (i + 19) % 32, 127 - i}
				w, e := f.make(s, imm)
				if e != api.OK {
					t.Fatalf("P2.2: %s of %v and %d: error %d", f.name, s, imm, e)
				}
				got := fieldsOf(w)
				if got.op != s.op || f.rd && got.rd != s.rd || f.f3 && got.f3 != s.f3 || f.rs1 && got.rs1 != s.rs1 || f.rs2 && got.rs2 != s.rs2 || f.f7 && got.f7 != s.f7 {
					t.Fatalf("What follows: the fields of %s of %v and %d are %v", f.name, s, imm, got)
				}
				if got := f.imm(w); got != uint64(imm) {
					t.Fatalf("What follows: the immediate of %s of %v and %d is %#x", f.name, s, imm, got)
				}
			}
		}
	}
}

func TestWhatIsExtractedIsAssembled(t *testing.T) {
	for _, f := range forms() {
		for _, w := range words() {
			if got, e := f.make(fieldsOf(w), int(f.imm(w))); got != w || e != api.OK {
				t.Fatalf("What follows: %s of the fields and the immediate of %#08x: %#08x, error %d", f.name, w, got, e)
			}
		}
	}
}
