package decode

import "tappet/api"

// Stages behind an instruction's own execution, after which what it writes is there.
const (
	soon = 1
	late = 2
)

// Reads returns the registers that i reads and writes; the zero value, if i has no word.
func Reads(i api.Inst) api.Reads {
	if _, e := Encode(i); e != api.OK {
		return api.Reads{}
	}
	// What has a word holds no register that its row does not name, and reads those that it holds; only a number may lie in the place of Rs1.
	r := api.Reads{Rs1: i.Rs1, Rs2: i.Rs2, Rd: i.Rd, When: when(i)}
	if i.UseImm {
		r.Rs1 = 0
	}
	return r
}

func when(i api.Inst) int {
	if i.Rd == 0 {
		return 0
	}
	switch i.Op {
	case api.OpLoad, api.OpLr, api.OpSc, api.OpAmo, api.OpCsr:
		return late
	}
	return soon
}

// Serial reports whether i is of the operations that the chapter lists, whatever else it says.
func Serial(i api.Inst) bool {
	switch i.Op {
	case api.OpFence, api.OpFenceI, api.OpCall, api.OpBreak, api.OpMret, api.OpSret, api.OpWfi, api.OpSfence, api.OpCsr, api.OpIllegal:
		return true
	}
	return false
}

// Memory reports whether i accesses memory, whatever else it says.
func Memory(i api.Inst) bool {
	switch i.Op {
	case api.OpLoad, api.OpStore, api.OpLr, api.OpSc, api.OpAmo:
		return true
	}
	return false
}
