package decode

import (
	"tappet/api"
	"tappet/shape"
)

// withNumber is the rows of the opcodes 13 and, if word is set, 1b. Fun of a plain operation is its Funct3.
func withNumber(w uint32, word bool) api.Inst {
	i := api.Inst{Op: api.OpImm, Fun: shape.Funct3(w), Rd: shape.Rd(w), Rs1: shape.Rs1(w), Imm: shape.ImmI(w), Word: word}
rows:
	switch i.Fun {
	case api.Add:
		return i
	case api.Slt, api.Sltu, api.Xor, api.Or, api.And:
		if !word {
			return i
		}
	case api.Sll, api.Srl:
		switch kind := shiftKind(w, word); {
		case kind == plain7:
		case kind == other7 && i.Fun == api.Srl:
			i.Fun = api.Sra
		default:
			break rows
		}
		// Of a shift with Word the sixth bit is known to be 0 here.
		i.Imm %= 64
		return i
	}
	return api.Inst{}
}

// shiftKind is Funct7 of a shift by a number; without Word its lowest bit is one of the number, and does not count.
func shiftKind(w uint32, word bool) int {
	kind := shape.Funct7(w)
	if word {
		return kind
	}
	return kind &^ 1
}

// withRegisters is the rows of the opcodes 33 and, if word is set, 3b.
func withRegisters(w uint32, word bool) api.Inst {
	i := api.Inst{Op: api.OpReg, Fun: shape.Funct3(w), Rd: shape.Rd(w), Rs1: shape.Rs1(w), Rs2: shape.Rs2(w), Word: word}
rows:
	switch shape.Funct7(w) {
	case plain7:
		switch i.Fun {
		case api.Slt, api.Sltu, api.Xor, api.Or, api.And:
			if word {
				break rows
			}
		}
		return i
	case other7:
		switch i.Fun {
		case api.Add:
			i.Fun = api.Sub
		case api.Srl:
			i.Fun = api.Sra
		default:
			break rows
		}
		return i
	case mul7:
		i.Op = api.OpMul
		switch i.Fun {
		case api.Mulh, api.Mulhsu, api.Mulhu:
			if word {
				break rows
			}
		}
		return i
	}
	return api.Inst{}
}

// atomic is the rows of the opcode 2f.
func atomic(w uint32) api.Inst {
	i := api.Inst{Rd: shape.Rd(w), Rs1: shape.Rs1(w), Rs2: shape.Rs2(w)}
rows:
	switch f3 := shape.Funct3(w); f3 {
	case 2, 3:
		i.Size = 1 << f3
		switch f5 := shape.Funct7(w) >> 2; f5 {
		case api.LrOp:
			if i.Rs2 != 0 {
				break rows
			}
			i.Op = api.OpLr
		case api.ScOp:
			i.Op = api.OpSc
		case api.AmoSwap, api.AmoAdd, api.AmoXor, api.AmoOr, api.AmoAnd, api.AmoMin, api.AmoMax, api.AmoMinu, api.AmoMaxu:
			i.Op, i.Fun = api.OpAmo, f5
		default:
			break rows
		}
		return i
	}
	return api.Inst{}
}

// system is the rows of the opcode 73.
func system(w uint32) api.Inst {
	i := api.Inst{Op: api.OpCsr, Fun: shape.Funct3(w), Rd: shape.Rd(w), Rs1: shape.Rs1(w), Csr: int(w >> 20)}
	switch i.Fun {
	case 0:
		switch w {
		case wordCall:
			return api.Inst{Op: api.OpCall}
		case wordBreak:
			return api.Inst{Op: api.OpBreak}
		case wordSret:
			return api.Inst{Op: api.OpSret}
		case wordMret:
			return api.Inst{Op: api.OpMret}
		case wordWfi:
			return api.Inst{Op: api.OpWfi}
		}
		if i.Rd == 0 && shape.Funct7(w) == sfence7 {
			return api.Inst{Op: api.OpSfence, Rs1: i.Rs1, Rs2: shape.Rs2(w)}
		}
	case 1, 2, 3:
		return i
	case 5, 6, 7:
		i.Fun, i.UseImm = i.Fun-number3, true
		return i
	}
	return api.Inst{}
}
