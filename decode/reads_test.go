package decode

import (
	"math"
	"testing"

	"tappet/api"
)

// use is of each Op, by its number, what the chapter's lists say.
type use struct {
	rs1, rs2, late bool
	serial, memory bool
}

func uses() map[int]use {
	return map[int]use{
		api.OpIllegal: {serial: true},
		api.OpLui:     {},
		api.OpAuipc:   {},
		api.OpJal:     {},
		api.OpJalr:    {rs1: true},
		api.OpBranch:  {rs1: true, rs2: true},
		api.OpLoad:    {rs1: true, late: true, memory: true},
		api.OpStore:   {rs1: true, rs2: true, memory: true},
		api.OpImm:     {rs1: true},
		api.OpReg:     {rs1: true, rs2: true},
		api.OpMul:     {rs1: true, rs2: true},
		api.OpFence:   {serial: true},
		api.OpFenceI:  {serial: true},
		api.OpCall:    {serial: true},
		api.OpBreak:   {serial: true},
		api.OpMret:    {serial: true},
		api.OpSret:    {serial: true},
		api.OpWfi:     {serial: true},
		api.OpSfence:  {rs1: true, rs2: true, serial: true},
		api.OpCsr:     {rs1: true, late: true, serial: true},
		api.OpLr:      {rs1: true, late: true, memory: true},
		api.OpSc:      {rs1: true, rs2: true, late: true, memory: true},
		api.OpAmo:     {rs1: true, rs2: true, late: true, memory: true},
	}
}

func wantReads(rows []row, i api.Inst) api.Reads {
	if _, ok := wantWord(rows, i); !ok {
		return api.Reads{}
	}
	u := uses()[i.Op]
	r := api.Reads{Rd: i.Rd}
	if u.rs1 && !i.UseImm {
		r.Rs1 = i.Rs1
	}
	if u.rs2 {
		r.Rs2 = i.Rs2
	}
	switch {
	case i.Rd != 0 && u.late:
		r.When = 2
	case i.Rd != 0:
		r.When = 1
	}
	return r
}

func TestReadsOfOne(t *testing.T) {
	for _, c := range []struct {
		text string
		i    api.Inst
		want api.Reads
	}{
		{"lui", api.Inst{Op: api.OpLui, Rd: 5, Imm: 4096}, api.Reads{Rd: 5, When: 1}},
		{"lui to x0", api.Inst{Op: api.OpLui, Imm: 4096}, api.Reads{}},
		{"jal", api.Inst{Op: api.OpJal, Rd: 1}, api.Reads{Rd: 1, When: 1}},
		{"jalr", api.Inst{Op: api.OpJalr, Rd: 1, Rs1: 2}, api.Reads{Rs1: 2, Rd: 1, When: 1}},
		{"a branch", api.Inst{Op: api.OpBranch, Rs1: 2, Rs2: 3}, api.Reads{Rs1: 2, Rs2: 3}},
		{"a load", api.Inst{Op: api.OpLoad, Rd: 31, Rs1: 2, Size: 4}, api.Reads{Rs1: 2, Rd: 31, When: 2}},
		{"a load to x0", api.Inst{Op: api.OpLoad, Rs1: 2, Size: 4}, api.Reads{Rs1: 2}},
		{"a store", api.Inst{Op: api.OpStore, Rs1: 2, Rs2: 3, Size: 4}, api.Reads{Rs1: 2, Rs2: 3}},
		{"a division", api.Inst{Op: api.OpMul, Fun: api.Div, Rd: 1, Rs1: 2, Rs2: 3}, api.Reads{Rs1: 2, Rs2: 3, Rd: 1, When: 1}},
		{"a fence", api.Inst{Op: api.OpFence}, api.Reads{}},
		{"sfence", api.Inst{Op: api.OpSfence, Rs1: 2, Rs2: 3}, api.Reads{Rs1: 2, Rs2: 3}},
		{"a CSR access", api.Inst{Op: api.OpCsr, Fun: 1, Rd: 1, Rs1: 2}, api.Reads{Rs1: 2, Rd: 1, When: 2}},
		{"a CSR access with a number", api.Inst{Op: api.OpCsr, Fun: 1, Rd: 1, Rs1: 2, UseImm: true}, api.Reads{Rd: 1, When: 2}},
		{"lr", api.Inst{Op: api.OpLr, Rd: 1, Rs1: 2, Size: 8}, api.Reads{Rs1: 2, Rd: 1, When: 2}},
		{"sc", api.Inst{Op: api.OpSc, Rd: 1, Rs1: 2, Rs2: 3, Size: 8}, api.Reads{Rs1: 2, Rs2: 3, Rd: 1, When: 2}},
		{"sc to x0", api.Inst{Op: api.OpSc, Rs1: 2, Rs2: 3, Size: 8}, api.Reads{Rs1: 2, Rs2: 3}},
		{"an AMO", api.Inst{Op: api.OpAmo, Fun: api.AmoMin, Rd: 1, Rs1: 2, Rs2: 3, Size: 8}, api.Reads{Rs1: 2, Rs2: 3, Rd: 1, When: 2}},
	} {
		if got := Reads(c.i); got != c.want {
			t.Errorf("P3.2: Reads of %s: %+v, want %+v", c.text, got, c.want)
		}
	}
}

// Those that have a word, of every row, and those that a changed field leaves without one.
func TestReadsOfEveryRow(t *testing.T) {
	rows := table()
	for _, i := range insts() {
		for _, c := range append(changed(i), i) {
			if got, want := Reads(c), wantReads(rows, c); got != want {
				t.Fatalf("P3.2: Reads(%+v) = %+v, want %+v", c, got, want)
			}
		}
	}
}

// Only Op counts: what has no word is asked, too.
func TestSerialAndMemory(t *testing.T) {
	ops := []int{math.MinInt, -1 << 32, -2, -1, 1 << 32, 1<<32 + api.OpLoad, 1<<32 + api.OpCsr, math.MaxInt}
	for op := range 64 {
		ops = append(ops, op)
	}
	for _, op := range ops {
		want := uses()[op]
		for _, i := range []api.Inst{
			{Op: op},
			{Op: op, Fun: 1, Rd: 1, Rs1: 2, Rs2: 3, Size: 4},
			{Op: op, Fun: -1, Rd: 99, Rs1: -1, Rs2: 32, Imm: 1 << 63, Size: 3, Signed: true, Word: true, UseImm: true, Csr: 4096},
		} {
			if got := Serial(i); got != want.serial {
				t.Errorf("P3.2: Serial(%+v) = %t", i, got)
			}
			if got := Memory(i); got != want.memory {
				t.Errorf("P3.2: Memory(%+v) = %t", i, got)
			}
		}
	}
}
