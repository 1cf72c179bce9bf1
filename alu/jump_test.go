package alu

import (
	"math"
	"testing"

	"tappet/api"
)

// What the conditions answer, in the order Beq, Bne, Blt, Bge, Bltu, Bgeu.
func TestBranchOfOne(t *testing.T) {
	kinds := [6]int{api.Beq, api.Bne, api.Blt, api.Bge, api.Bltu, api.Bgeu}
	for _, c := range []struct {
		a, b uint64
		want [6]bool
	}{
		{5, 5, [6]bool{true, false, false, true, false, true}},
		{0, 0, [6]bool{true, false, false, true, false, true}},
		{all, all, [6]bool{true, false, false, true, false, true}},
		{1 << 63, 1 << 63, [6]bool{true, false, false, true, false, true}},
		{4, 5, [6]bool{false, true, true, false, true, false}},
		{5, 4, [6]bool{false, true, false, true, false, true}},
		{all - 1, all, [6]bool{false, true, true, false, true, false}},
		{all, all - 1, [6]bool{false, true, false, true, false, true}},
		{1, all, [6]bool{false, true, false, true, true, false}},
		{all, 1, [6]bool{false, true, true, false, false, true}},
		{1<<63 - 1, 1 << 63, [6]bool{false, true, false, true, true, false}},
		{1 << 63, 1<<63 - 1, [6]bool{false, true, true, false, false, true}},
		{1 << 32, 0, [6]bool{false, true, false, true, false, true}},
		{1<<32 + 5, 5, [6]bool{false, true, false, true, false, true}},
		{1<<31 - 1, 1 << 31, [6]bool{false, true, true, false, true, false}},
	} {
		for k, fun := range kinds {
			if got := Branch(fun, c.a, c.b); got != c.want[k] {
				t.Errorf("P4.2: Branch(%d, %#x, %#x) = %t", fun, c.a, c.b, got)
			}
		}
	}
}

// Every fun at every pair of words; one that is no condition never holds.
func TestBranchEverywhere(t *testing.T) {
	for _, fun := range funs() {
		for _, a := range words() {
			for _, b := range words() {
				if got := Branch(fun, a, b); got != plainBranch(fun, a, b) {
					t.Fatalf("P4.2: Branch(%d, %#x, %#x) = %t", fun, a, b, got)
				}
			}
		}
	}
}

func TestTargetOfOne(t *testing.T) {
	minus := func(n uint64) uint64 { return -n }
	for _, c := range []struct {
		op         int
		imm, pc, a uint64
		want       uint64
	}{
		{api.OpJal, 2048, 0x80000000, 99, 0x80000800},
		{api.OpJal, minus(4), 0x80000000, 99, 0x7ffffffc},
		{api.OpJal, 0, 0x80000000, 99, 0x80000000},
		{api.OpJal, 8, all - 3, 99, 4},
		{api.OpJal, minus(8), 4, 99, all - 3},
		{api.OpJal, 2, 1, 99, 3},
		{api.OpBranch, 16, 0x1000, 99, 0x1010},
		{api.OpBranch, minus(16), 0x1000, 99, 0xff0},
		{api.OpBranch, 4, all - 3, 99, 0},
		{api.OpBranch, minus(2), 0, 99, all - 1},
		{api.OpBranch, 2, 1, 99, 3},
		{api.OpJalr, 4, 0x1000, 0x2000, 0x2004},
		{api.OpJalr, minus(4), 0x1000, 0x2000, 0x1ffc},
		{api.OpJalr, 1, 0x1000, 0x2000, 0x2000},
		{api.OpJalr, 0, 0x1000, 0x2001, 0x2000},
		{api.OpJalr, 1, 0x1000, 0x2001, 0x2002},
		{api.OpJalr, 2, 0x1000, 0x2000, 0x2002},
		{api.OpJalr, 8, 0x1000, all - 3, 4},
		{api.OpJalr, minus(1), 0x1000, 0, all - 1},
		{api.OpReg, 8, 0x1000, 0x2000, 0x1004},
		{api.OpIllegal, 8, 0x1000, 0x2000, 0x1004},
		{api.OpLui, 8, all - 3, 0x2000, 0},
		{api.OpLui, 8, all, 0x2000, 3},
	} {
		i := api.Inst{Op: c.op, Imm: c.imm}
		if got := Target(i, c.pc, c.a); got != c.want {
			t.Errorf("P4.2: Target of operation %d with %#x, at %#x, of %#x: %#x, want %#x", c.op, c.imm, c.pc, c.a, got, c.want)
		}
	}
}

// Immediates are words of any kind, of which a sum with one that lies high wraps around; no field but Op and Imm counts.
func TestTargetEverywhere(t *testing.T) {
	rest := []api.Inst{
		{},
		{Fun: api.Bgeu, Rd: 31, Rs1: 31, Rs2: 31, Size: 8, Signed: true, Word: true, UseImm: true, Csr: 0xfff},
		{Fun: -1, Rd: -1, Rs1: math.MinInt, Rs2: math.MaxInt, Size: -1, Csr: -1},
	}
	ops := []int{api.OpJal, api.OpJalr, api.OpBranch}
	for _, op := range append(ops, funs()...) {
		for n, imm := range words() {
			i := rest[n%len(rest)]
			i.Op, i.Imm = op, imm
			for _, pc := range words() {
				a := ^pc * 3
				if got, want := Target(i, pc, a), plainTarget(op, imm, pc, a); got != want {
					t.Fatalf("P4.2: Target(%+v, %#x, %#x) = %#x, want %#x", i, pc, a, got, want)
				}
			}
		}
	}
}
