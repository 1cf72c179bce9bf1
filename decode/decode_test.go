package decode

import (
	"math"
	"testing"

	"tappet/api"
)

// checkWord holds Decode of w against the chapter's table, and what follows of Encode.
func checkWord(t *testing.T, rows []row, w uint32) {
	t.Helper()
	got := Decode(w)
	if i := want(rows, w); got != i {
		t.Fatalf("P3.1: Decode(%08x) = %+v, want %+v", w, got, i)
	}
	back, e := Encode(got)
	if got.Op == api.OpIllegal {
		if back != 0 || e != api.ErrForm {
			t.Fatalf("P3.1: Encode(Decode(%08x)), which is illegal: %08x, error %d", w, back, e)
		}
		return
	}
	if plain := w &^ ignored(rows, w); back != plain || e != api.OK {
		t.Fatalf("What follows: Encode(Decode(%08x)) = %08x, error %d, want %08x", w, back, e, plain)
	}
}

// ignored is the bits that the row of w ignores.
func ignored(rows []row, w uint32) uint32 {
	for _, r := range rows {
		if r.match(w) {
			return r.mask('x')
		}
	}
	return 0
}

// Words written out by hand with their text in assembly, not made from the table of these tests.
func TestKnownWords(t *testing.T) {
	rows := table()
	minus := func(n uint64) uint64 { return -n }
	for _, c := range []struct {
		text string
		w    uint32
		want api.Inst
	}{
		{"all clear", 0x00000000, api.Inst{}},
		{"all set", 0xffffffff, api.Inst{}},
		{"nop", 0x00000013, api.Inst{Op: api.OpImm, Fun: api.Add}},
		{"lui x3, 0x12345", 0x123451b7, api.Inst{Op: api.OpLui, Rd: 3, Imm: 0x12345000}},
		{"lui x31, 0xfffff", 0xffffffb7, api.Inst{Op: api.OpLui, Rd: 31, Imm: minus(4096)}},
		{"auipc x5, 0x80000", 0x80000297, api.Inst{Op: api.OpAuipc, Rd: 5, Imm: minus(1 << 31)}},
		{"jal x1, 2048", 0x001000ef, api.Inst{Op: api.OpJal, Rd: 1, Imm: 2048}},
		{"jal x0, -4", 0xffdff06f, api.Inst{Op: api.OpJal, Imm: minus(4)}},
		{"jalr x0, 0(x1)", 0x00008067, api.Inst{Op: api.OpJalr, Rs1: 1}},
		{"bne x1, x2, -4", 0xfe209ee3, api.Inst{Op: api.OpBranch, Fun: api.Bne, Rs1: 1, Rs2: 2, Imm: minus(4)}},
		{"bgeu x10, x11, 8", 0x00b57463, api.Inst{Op: api.OpBranch, Fun: api.Bgeu, Rs1: 10, Rs2: 11, Imm: 8}},
		{"ld x10, 8(x2)", 0x00813503, api.Inst{Op: api.OpLoad, Rd: 10, Rs1: 2, Imm: 8, Size: 8, Signed: true}},
		{"lb x10, -1(x2)", 0xfff10503, api.Inst{Op: api.OpLoad, Rd: 10, Rs1: 2, Imm: minus(1), Size: 1, Signed: true}},
		{"lbu x10, 0(x2)", 0x00014503, api.Inst{Op: api.OpLoad, Rd: 10, Rs1: 2, Size: 1}},
		{"lhu x10, 0(x2)", 0x00015503, api.Inst{Op: api.OpLoad, Rd: 10, Rs1: 2, Size: 2}},
		{"lwu x10, 0(x2)", 0x00016503, api.Inst{Op: api.OpLoad, Rd: 10, Rs1: 2, Size: 4}},
		{"sd x2, -8(x1)", 0xfe20bc23, api.Inst{Op: api.OpStore, Rs1: 1, Rs2: 2, Imm: minus(8), Size: 8}},
		{"addi x5, x6, -1", 0xfff30293, api.Inst{Op: api.OpImm, Fun: api.Add, Rd: 5, Rs1: 6, Imm: minus(1)}},
		{"slli x10, x10, 32", 0x02051513, api.Inst{Op: api.OpImm, Fun: api.Sll, Rd: 10, Rs1: 10, Imm: 32}},
		{"srai x10, x10, 63", 0x43f55513, api.Inst{Op: api.OpImm, Fun: api.Sra, Rd: 10, Rs1: 10, Imm: 63}},
		{"addiw x10, x10, -1", 0xfff5051b, api.Inst{Op: api.OpImm, Fun: api.Add, Rd: 10, Rs1: 10, Imm: minus(1), Word: true}},
		{"sraiw x10, x10, 31", 0x41f5551b, api.Inst{Op: api.OpImm, Fun: api.Sra, Rd: 10, Rs1: 10, Imm: 31, Word: true}},
		{"slliw by 32", 0x0205151b, api.Inst{}},
		{"add x10, x11, x12", 0x00c58533, api.Inst{Op: api.OpReg, Fun: api.Add, Rd: 10, Rs1: 11, Rs2: 12}},
		{"sub x10, x11, x12", 0x40c58533, api.Inst{Op: api.OpReg, Fun: api.Sub, Rd: 10, Rs1: 11, Rs2: 12}},
		{"sra x31, x28, x29", 0x41de5fb3, api.Inst{Op: api.OpReg, Fun: api.Sra, Rd: 31, Rs1: 28, Rs2: 29}},
		{"divu x10, x11, x12", 0x02c5d533, api.Inst{Op: api.OpMul, Fun: api.Divu, Rd: 10, Rs1: 11, Rs2: 12}},
		{"remw x10, x11, x12", 0x02c5e53b, api.Inst{Op: api.OpMul, Fun: api.Rem, Rd: 10, Rs1: 11, Rs2: 12, Word: true}},
		{"fence.tso", 0x8330000f, api.Inst{Op: api.OpFence}},
		{"fence.i", 0x0000100f, api.Inst{Op: api.OpFenceI}},
		{"ecall", 0x00000073, api.Inst{Op: api.OpCall}},
		{"ebreak", 0x00100073, api.Inst{Op: api.OpBreak}},
		{"sret", 0x10200073, api.Inst{Op: api.OpSret}},
		{"mret", 0x30200073, api.Inst{Op: api.OpMret}},
		{"wfi", 0x10500073, api.Inst{Op: api.OpWfi}},
		{"sfence.vma x0, x0", 0x12000073, api.Inst{Op: api.OpSfence}},
		{"csrrs x10, cycle, x0", 0xc0002573, api.Inst{Op: api.OpCsr, Fun: 2, Rd: 10, Csr: api.CsrCycle}},
		{"csrrci x0, mstatus, 8", 0x30047073, api.Inst{Op: api.OpCsr, Fun: 3, Rs1: 8, UseImm: true, Csr: api.CsrMstatus}},
		{"lr.w x0, (x11)", 0x1005a02f, api.Inst{Op: api.OpLr, Rs1: 11, Size: 4}},
		{"lr.d.aq x10, (x11)", 0x1405b52f, api.Inst{Op: api.OpLr, Rd: 10, Rs1: 11, Size: 8}},
		{"sc.d.rl x10, x12, (x11)", 0x1ac5b52f, api.Inst{Op: api.OpSc, Rd: 10, Rs1: 11, Rs2: 12, Size: 8}},
		{"amoadd.w.aqrl x10, x12, (x11)", 0x06c5a52f, api.Inst{Op: api.OpAmo, Fun: api.AmoAdd, Rd: 10, Rs1: 11, Rs2: 12, Size: 4}},
		{"amomaxu.d x10, x12, (x11)", 0xe0c5b52f, api.Inst{Op: api.OpAmo, Fun: api.AmoMaxu, Rd: 10, Rs1: 11, Rs2: 12, Size: 8}},
	} {
		if got := Decode(c.w); got != c.want {
			t.Errorf("P3.1: Decode(%08x), %s: %+v, want %+v", c.w, c.text, got, c.want)
		}
		checkWord(t, rows, c.w)
	}
}

// Every opcode with every Funct3 and Funct7, so those that are allowed and those beside them are all here; the other fields at their ends, and between.
func TestEveryOpcodeAndFunct(t *testing.T) {
	rest := []uint32{0, 31<<20 | 31<<15 | 31<<7, 31 << 20, 31 << 15, 31 << 7, 1 << 20, 1 << 7, 10<<20 | 21<<15 | 5<<7}
	for opcode, rows := range byOpcode() {
		for f3 := range uint32(8) {
			for f7 := range uint32(128) {
				for _, r := range rest {
					checkWord(t, rows, uint32(opcode)|f3<<12|f7<<25|r)
				}
			}
		}
	}
}

// Every word's bits 20 to 31, of every row's opcode and Funct3: of the shifts with and without Word, of LR, of the words of opcode 73, and of the CSRs.
func TestEveryHighBits(t *testing.T) {
	for opcode, rows := range byOpcode() {
		if len(rows) == 0 {
			continue
		}
		for f3 := range uint32(8) {
			for high := range uint32(4096) {
				checkWord(t, rows, high<<20|f3<<12|uint32(opcode))
				checkWord(t, rows, high<<20|9<<15|f3<<12|6<<7|uint32(opcode))
			}
		}
	}
}

// Every register of every row, and every bit of its immediate, alone and clear alone.
func TestEveryField(t *testing.T) {
	l := byOpcode()
	for _, r := range table() {
		free := r.mask('d') | r.mask('s') | r.mask('t') | r.mask('i') | r.mask('c') | r.mask('x')
		fixed := r.ones
		rows := l[fixed&127]
		for n := range 32 {
			checkWord(t, rows, fixed|free&(1<<n))
			checkWord(t, rows, fixed|free&^(1<<n))
			for _, letter := range []byte("dst") {
				checkWord(t, rows, fixed|r.put(n, letter))
				checkWord(t, rows, fixed|free&^r.mask(letter)|r.put(n, letter))
			}
		}
	}
}

// One fixed bit that is wrong makes another instruction, or none.
func TestEveryBitBesideARow(t *testing.T) {
	l := byOpcode()
	for _, r := range table() {
		for _, fill := range []uint32{0, math.MaxUint32, 0x5a5a5a5a, 0xa5a5a5a5} {
			w := r.ones | fill&^r.zeros
			for n := range 32 {
				checkWord(t, l[(w^1<<n)&127], w^1<<n)
			}
		}
	}
}

func TestIgnoredBits(t *testing.T) {
	for _, c := range []struct {
		plain, ignored uint32
		want           api.Inst
	}{
		{0x0000000f, 0xffff8f80, api.Inst{Op: api.OpFence}},
		{0x0000100f, 0xffff8f80, api.Inst{Op: api.OpFenceI}},
		{0x1005a52f, 0x06000000, api.Inst{Op: api.OpLr, Rd: 10, Rs1: 11, Size: 4}},
		{0x18c5b52f, 0x06000000, api.Inst{Op: api.OpSc, Rd: 10, Rs1: 11, Rs2: 12, Size: 8}},
		{0x08c5a52f, 0x06000000, api.Inst{Op: api.OpAmo, Fun: api.AmoSwap, Rd: 10, Rs1: 11, Rs2: 12, Size: 4}},
	} {
		for _, some := range []uint32{0, math.MaxUint32, 0x55555555, 0xaaaaaaaa, 1 << 25, 1 << 26, 1 << 7, 1 << 31} {
			w := c.plain | c.ignored&some
			if got := Decode(w); got != c.want {
				t.Errorf("P3.1: Decode(%08x) = %+v, want %+v", w, got, c.want)
			}
		}
		if w, e := Encode(c.want); w != c.plain || e != api.OK {
			t.Errorf("P3.1: Encode(%+v) = %08x, error %d, want %08x, whose ignored bits are 0", c.want, w, e, c.plain)
		}
	}
}

// The five whole words, and all that differ from one of them in a bit, told by hand where they mean something.
func TestWholeWords(t *testing.T) {
	near := map[uint32]api.Inst{
		0x00000073: {Op: api.OpCall},
		0x00100073: {Op: api.OpBreak},
		0x10200073: {Op: api.OpSret},
		0x30200073: {Op: api.OpMret},
		0x10500073: {Op: api.OpWfi},
		0x12200073: {Op: api.OpSfence, Rs2: 2},
		0x12500073: {Op: api.OpSfence, Rs2: 5},
	}
	for _, w := range []uint32{0x00000073, 0x00100073, 0x10200073, 0x30200073, 0x10500073} {
		near[w^1<<12] = api.Inst{Op: api.OpCsr, Fun: 1, Csr: int(w >> 20)}
		near[w^1<<13] = api.Inst{Op: api.OpCsr, Fun: 2, Csr: int(w >> 20)}
		// Bit 4 clear makes 63, which is a branch, of bits 8 to 11 and 25 to 31; bit 6 clear 33, whose Funct7 is 0, or none.
		near[w^1<<4] = api.Inst{Op: api.OpBranch, Rs2: int(w >> 20 & 31), Imm: uint64(w >> 25 << 5)}
		if w>>25 == 0 {
			near[w^1<<6] = api.Inst{Op: api.OpReg, Rs2: int(w >> 20 & 31)}
		}
		for n := range 32 {
			if got := Decode(w ^ 1<<n); got != near[w^1<<n] {
				t.Errorf("P3.1: Decode(%08x), a bit beside %08x: %+v, want %+v", w^1<<n, w, got, near[w^1<<n])
			}
		}
		if got := Decode(w); got != near[w] {
			t.Errorf("P3.1: Decode(%08x) = %+v, want %+v", w, got, near[w])
		}
	}
}

// Mixtures by a fixed rule, each with an opcode of the table, too.
func TestManyWords(t *testing.T) {
	l := byOpcode()
	x := uint32(1)
	for range 200000 {
		x = x*1664525 + 1013904223
		w := x ^ x>>15
		checkWord(t, l[w&127], w)
		w |= 3
		checkWord(t, l[w&127], w)
	}
}
