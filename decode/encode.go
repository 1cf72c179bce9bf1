package decode

import (
	"math/bits"

	"tappet/api"
	"tappet/shape"
)

// Encode returns the word of i, in which what Decode ignores is 0, or ErrForm.
func Encode(i api.Inst) (uint32, api.Errno) {
	w, e := assemble(i)
	// What no word can hold is either refused, or missing in what the word says.
	if e != api.OK || Decode(w) != i {
		return 0, api.ErrForm
	}
	return w, api.OK
}

// assemble returns the only word, but for ignored bits, that could be i's; whether it says all that i says is for Encode to see.
func assemble(i api.Inst) (uint32, api.Errno) {
	imm := int(i.Imm)
	switch i.Op {
	case api.OpLui:
		return shape.U(opcodeLui, i.Rd, imm)
	case api.OpAuipc:
		return shape.U(opcodeAuipc, i.Rd, imm)
	case api.OpJal:
		return shape.J(opcodeJal, i.Rd, imm)
	case api.OpJalr:
		return shape.I(opcodeJalr, i.Rd, 0, i.Rs1, imm)
	case api.OpBranch:
		return shape.B(opcodeBranch, i.Fun, i.Rs1, i.Rs2, imm)
	case api.OpLoad:
		return shape.I(opcodeLoad, i.Rd, loadFunct3(i), i.Rs1, imm)
	case api.OpStore:
		return shape.S(opcodeStore, sizeFunct3(i), i.Rs1, i.Rs2, imm)
	case api.OpImm:
		return assembleNumber(i)
	case api.OpReg, api.OpMul:
		return assembleRegisters(i)
	case api.OpFence:
		return shape.I(opcodeFence, 0, 0, 0, 0)
	case api.OpFenceI:
		return shape.I(opcodeFence, 0, 1, 0, 0)
	case api.OpLr, api.OpSc, api.OpAmo:
		return shape.R(opcodeAtomic, i.Rd, sizeFunct3(i), i.Rs1, i.Rs2, amoFunct5(i)<<2)
	}
	return assembleSystem(i)
}

// sizeFunct3 is the number of which Size is the power of two.
func sizeFunct3(i api.Inst) int {
	return bits.TrailingZeros64(uint64(i.Size))
}

func loadFunct3(i api.Inst) int {
	if i.Signed {
		return sizeFunct3(i)
	}
	return sizeFunct3(i) + unsigned3
}

func amoFunct5(i api.Inst) int {
	switch i.Op {
	case api.OpLr:
		return api.LrOp
	case api.OpSc:
		return api.ScOp
	}
	return i.Fun
}

// plainFun parts Fun of OpImm and OpReg into the operation whose Funct3 it has, and Funct7.
func plainFun(fun int) (int, int) {
	switch fun {
	case api.Sub:
		return api.Add, other7
	case api.Sra:
		return api.Srl, other7
	}
	return fun, plain7
}

func assembleNumber(i api.Inst) (uint32, api.Errno) {
	opcode := opcodeImm
	if i.Word {
		opcode = opcodeImmWord
	}
	f3, f7 := plainFun(i.Fun)
	// Funct7 lies over the immediate's bits from 5 on.
	return shape.I(opcode, i.Rd, f3, i.Rs1, int(i.Imm)|f7<<5)
}

func assembleRegisters(i api.Inst) (uint32, api.Errno) {
	opcode := opcodeReg
	if i.Word {
		opcode = opcodeRegWord
	}
	f3, f7 := plainFun(i.Fun)
	if i.Op == api.OpMul {
		f3, f7 = i.Fun, mul7
	}
	return shape.R(opcode, i.Rd, f3, i.Rs1, i.Rs2, f7)
}

func assembleSystem(i api.Inst) (uint32, api.Errno) {
	switch i.Op {
	case api.OpCall:
		return wordCall, api.OK
	case api.OpBreak:
		return wordBreak, api.OK
	case api.OpSret:
		return wordSret, api.OK
	case api.OpMret:
		return wordMret, api.OK
	case api.OpWfi:
		return wordWfi, api.OK
	case api.OpSfence:
		return shape.R(opcodeSystem, 0, 0, i.Rs1, i.Rs2, sfence7)
	case api.OpCsr:
		f3 := i.Fun
		if i.UseImm {
			f3 += number3
		}
		// The number of the CSR lies where Rs2 and Funct7 do; one that is too great or negative makes an f7 that is.
		return shape.R(opcodeSystem, i.Rd, f3, i.Rs1, i.Csr&31, i.Csr>>5)
	}
	return 0, api.ErrForm
}
