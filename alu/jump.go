package alu

import (
	"tappet/api"
)

const instBytes = 4

// Branch reports whether the condition fun holds for a and b; false, if there is no such condition.
func Branch(fun int, a, b uint64) bool {
	switch fun {
	case api.Beq:
		return a == b
	case api.Bne:
		return a != b
	case api.Blt:
		return less(a, b)
	case api.Bge:
		return !less(a, b)
	case api.Bltu:
		return a < b
	case api.Bgeu:
		return a >= b
	}
	return false
}

// Target returns where i goes on if it jumps, a being its first operand; the place right behind it, if it never does.
func Target(i api.Inst, pc, a uint64) uint64 {
	switch i.Op {
	case api.OpJal, api.OpBranch:
		return pc + i.Imm
	case api.OpJalr:
		return (a + i.Imm) &^ 1
	}
	return pc + instBytes
}
