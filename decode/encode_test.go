package decode

import (
	"math"
	"testing"

	"tappet/api"
)

// insts are instructions of every row: with its free bits all clear, all set, and mixed.
func insts() []api.Inst {
	var l []api.Inst
	for _, r := range table() {
		for _, fill := range []uint32{0, math.MaxUint32, 0x5a5a5a5a, 0x0a694e25} {
			l = append(l, r.inst(r.ones|fill&^r.zeros))
		}
	}
	return l
}

// numbers are the ends of all fields, what lies beside them, and what could be cut down to one that fits.
var numbers = []int{
	math.MinInt, math.MinInt + 1, math.MinInt32, -4096, -2048, -128, -33, -32, -31, -8, -4, -2, -1,
	0, 1, 2, 3, 4, 5, 6, 7, 8, 9, 12, 13, 15, 16, 17, 20, 24, 28, 29, 30, 31, 32, 33, 34, 63, 64, 65,
	127, 128, 255, 256, 1024, 2047, 2048, 4095, 4096, 4097, 8192,
	1 << 31, 1 << 32, 1<<32 + 1, 1<<32 + 8, 1 << 61, 1 << 62, 1<<62 + 1, math.MaxInt - 3, math.MaxInt,
}

var immediates = []uint64{
	0, 1, 2, 3, 4, 31, 32, 33, 63, 64, 65, 1024, 1024 + 31, 1024 + 63, 2046, 2047, 2048, 2049, 4094, 4095, 4096, 4097, 8192,
	1<<20 - 2, 1<<20 - 1, 1 << 20, 1<<20 + 2, 1<<31 - 4096, 1<<31 - 1, 1 << 31, 1<<32 - 4096, 1<<32 - 1, 1 << 32, 1<<63 - 1, 1 << 63,
	-(1 << 31) & math.MaxUint64, math.MaxUint64 - 1<<31 + 1, math.MaxUint64 - 1<<31, math.MaxUint64 - 1<<20 + 1, math.MaxUint64 - 1<<20 - 1,
	math.MaxUint64 - 8191, math.MaxUint64 - 4096, math.MaxUint64 - 4095, math.MaxUint64 - 4094, math.MaxUint64 - 2048, math.MaxUint64 - 2047,
	math.MaxUint64 - 1024, math.MaxUint64 - 63, math.MaxUint64 - 1, math.MaxUint64,
}

// changed is i with each field in turn set to each of the numbers.
func changed(i api.Inst) []api.Inst {
	var l []api.Inst
	for _, n := range numbers {
		c := [7]api.Inst{i, i, i, i, i, i, i}
		c[0].Op, c[1].Fun, c[2].Rd, c[3].Rs1, c[4].Rs2, c[5].Size, c[6].Csr = n, n, n, n, n, n, n
		l = append(l, c[:]...)
	}
	for _, n := range immediates {
		c := i
		c.Imm = n
		l = append(l, c)
	}
	c := [3]api.Inst{i, i, i}
	c[0].Signed, c[1].Word, c[2].UseImm = !i.Signed, !i.Word, !i.UseImm
	return append(l, c[:]...)
}

func checkInst(t *testing.T, rows []row, i api.Inst) {
	t.Helper()
	w, e := Encode(i)
	word, ok := wantWord(rows, i)
	if !ok {
		if w != 0 || e != api.ErrForm {
			t.Fatalf("P3.1: Encode(%+v), which has no word: %08x, error %d, want error %d", i, w, e, api.ErrForm)
		}
		return
	}
	if w != word || e != api.OK {
		t.Fatalf("P3.1: Encode(%+v) = %08x, error %d, want %08x", i, w, e, word)
	}
	if back := Decode(w); back != i {
		t.Fatalf("What follows: Decode(Encode(%+v)) = %+v", i, back)
	}
}

func TestEncodeOfEveryRow(t *testing.T) {
	rows := table()
	for _, i := range insts() {
		if _, e := Encode(i); e != api.OK {
			t.Fatalf("P3.1: Encode(%+v): error %d", i, e)
		}
		checkInst(t, rows, i)
	}
}

// Each field in turn, where no row names it, and within and outside of what its row allows.
func TestEncodeOfEveryFieldChanged(t *testing.T) {
	rows := table()
	for _, i := range insts() {
		for _, c := range changed(i) {
			checkInst(t, rows, c)
		}
	}
}

// Every Op with every Fun, Size and flag, and no more.
func TestEncodeOfEveryKind(t *testing.T) {
	rows := table()
	for op := -1; op <= 24; op++ {
		for fun := -1; fun <= 33; fun++ {
			for _, size := range []int{-8, -1, 0, 1, 2, 3, 4, 5, 6, 7, 8, 9, 16} {
				for flags := range 8 {
					checkInst(t, rows, api.Inst{Op: op, Fun: fun, Size: size, Signed: flags&1 != 0, Word: flags&2 != 0, UseImm: flags&4 != 0})
				}
			}
		}
	}
}

// What is refused is told by hand here, not by the table of these tests.
func TestRefused(t *testing.T) {
	for _, c := range []struct {
		text string
		i    api.Inst
	}{
		{"OpIllegal", api.Inst{}},
		{"OpIllegal with more", api.Inst{Op: api.OpIllegal, Rd: 1, Imm: 5}},
		{"an Op beyond the last", api.Inst{Op: api.OpAmo + 1}},
		{"an Op below 0", api.Inst{Op: -1}},
		{"the least Op", api.Inst{Op: math.MinInt}},
		{"the greatest Op", api.Inst{Op: math.MaxInt}},
		{"Rd beyond 31", api.Inst{Op: api.OpReg, Rd: 32}},
		{"Rs1 below 0", api.Inst{Op: api.OpReg, Rs1: -1}},
		{"Rs2 beyond 31", api.Inst{Op: api.OpReg, Rs2: 32}},
		{"a branch with Rd", api.Inst{Op: api.OpBranch, Rd: 1}},
		{"a store with Rd", api.Inst{Op: api.OpStore, Rd: 1, Size: 1}},
		{"a load with Rs2", api.Inst{Op: api.OpLoad, Rs2: 1, Size: 1}},
		{"a sum with an immediate and Rs2", api.Inst{Op: api.OpImm, Rs2: 1}},
		{"a sum of registers with Imm", api.Inst{Op: api.OpReg, Imm: 1}},
		{"LR with Rs2", api.Inst{Op: api.OpLr, Rs2: 1, Size: 4}},
		{"SFENCE with Rd", api.Inst{Op: api.OpSfence, Rd: 1}},
		{"FENCE with Rd", api.Inst{Op: api.OpFence, Rd: 1}},
		{"FENCE.I with Fun", api.Inst{Op: api.OpFenceI, Fun: 1}},
		{"ECALL with Csr", api.Inst{Op: api.OpCall, Csr: 1}},
		{"MRET with Imm", api.Inst{Op: api.OpMret, Imm: 0x302}},
		{"LUI with low bits", api.Inst{Op: api.OpLui, Imm: 4097}},
		{"LUI, not sign-extended", api.Inst{Op: api.OpLui, Imm: 1 << 31}},
		{"JAL to an odd number", api.Inst{Op: api.OpJal, Imm: 1}},
		{"JAL too far", api.Inst{Op: api.OpJal, Imm: 1 << 20}},
		{"a branch to an odd number", api.Inst{Op: api.OpBranch, Imm: 3}},
		{"a branch too far", api.Inst{Op: api.OpBranch, Imm: 4096}},
		{"a load too far", api.Inst{Op: api.OpLoad, Size: 1, Signed: true, Imm: 2048}},
		{"a store too far", api.Inst{Op: api.OpStore, Size: 1, Imm: math.MaxUint64 - 2048}},
		{"JALR too far", api.Inst{Op: api.OpJalr, Imm: 1 << 63}},
		{"branch 2", api.Inst{Op: api.OpBranch, Fun: 2}},
		{"branch 3", api.Inst{Op: api.OpBranch, Fun: 3}},
		{"branch 8", api.Inst{Op: api.OpBranch, Fun: 8}},
		{"a load of no size", api.Inst{Op: api.OpLoad}},
		{"a load of 3 bytes", api.Inst{Op: api.OpLoad, Size: 3}},
		{"a load of 16 bytes", api.Inst{Op: api.OpLoad, Size: 16, Signed: true}},
		{"a load of 8 bytes that is not signed", api.Inst{Op: api.OpLoad, Size: 8}},
		{"a store of 16 bytes", api.Inst{Op: api.OpStore, Size: 16}},
		{"a store that is signed", api.Inst{Op: api.OpStore, Size: 4, Signed: true}},
		{"a load with Word", api.Inst{Op: api.OpLoad, Size: 4, Word: true}},
		{"a sum with UseImm", api.Inst{Op: api.OpImm, UseImm: true}},
		{"Sub with a number", api.Inst{Op: api.OpImm, Fun: api.Sub}},
		{"Fun 16 with a number", api.Inst{Op: api.OpImm, Fun: 16}},
		{"Slt with a number and Word", api.Inst{Op: api.OpImm, Fun: api.Slt, Word: true}},
		{"Sll by 64", api.Inst{Op: api.OpImm, Fun: api.Sll, Imm: 64}},
		{"Sll by -1", api.Inst{Op: api.OpImm, Fun: api.Sll, Imm: math.MaxUint64}},
		{"Sra by 1024", api.Inst{Op: api.OpImm, Fun: api.Sra, Imm: 1024}},
		{"Srl by 1024, which is Sra", api.Inst{Op: api.OpImm, Fun: api.Srl, Imm: 1024}},
		{"Sra by 32 with Word", api.Inst{Op: api.OpImm, Fun: api.Sra, Imm: 32, Word: true}},
		{"Xor with Word", api.Inst{Op: api.OpReg, Fun: api.Xor, Word: true}},
		{"Fun 9 of registers", api.Inst{Op: api.OpReg, Fun: 9}},
		{"Mulh with Word", api.Inst{Op: api.OpMul, Fun: api.Mulh, Word: true}},
		{"Mulhu with Word", api.Inst{Op: api.OpMul, Fun: api.Mulhu, Word: true}},
		{"Fun 8 of OpMul, which is Sub of OpReg", api.Inst{Op: api.OpMul, Fun: 8}},
		{"Fun 13 of OpMul, which is Sra of OpReg", api.Inst{Op: api.OpMul, Fun: 13}},
		{"an AMO of 2 bytes", api.Inst{Op: api.OpAmo, Size: 2}},
		{"an AMO of no size", api.Inst{Op: api.OpAmo}},
		{"an AMO that is LR", api.Inst{Op: api.OpAmo, Fun: api.LrOp, Size: 4}},
		{"an AMO that is SC", api.Inst{Op: api.OpAmo, Fun: api.ScOp, Size: 4}},
		{"an AMO that is none", api.Inst{Op: api.OpAmo, Fun: 5, Size: 4}},
		{"an AMO beyond the last", api.Inst{Op: api.OpAmo, Fun: 32, Size: 4}},
		{"LR with Fun", api.Inst{Op: api.OpLr, Fun: api.LrOp, Size: 4}},
		{"SC with Fun", api.Inst{Op: api.OpSc, Fun: api.ScOp, Size: 4}},
		{"CSR 4096", api.Inst{Op: api.OpCsr, Fun: 1, Csr: 4096}},
		{"CSR -1", api.Inst{Op: api.OpCsr, Fun: 1, Csr: -1}},
		{"a CSR access 0", api.Inst{Op: api.OpCsr}},
		{"a CSR access 0 with a number", api.Inst{Op: api.OpCsr, UseImm: true}},
		{"a CSR access 5", api.Inst{Op: api.OpCsr, Fun: 5}},
		{"a CSR access -3 with a number", api.Inst{Op: api.OpCsr, Fun: -3, UseImm: true}},
		{"a CSR access with the number 32", api.Inst{Op: api.OpCsr, Fun: 1, Rs1: 32, UseImm: true}},
		{"a jump with Csr", api.Inst{Op: api.OpJal, Csr: 1}},
	} {
		if w, e := Encode(c.i); w != 0 || e != api.ErrForm {
			t.Errorf("P3.1: Encode of %s: %08x, error %d, want error %d", c.text, w, e, api.ErrForm)
		}
		if r := Reads(c.i); r != (api.Reads{}) {
			t.Errorf("P3.2: Reads of %s, which has no word: %+v", c.text, r)
		}
	}
}
