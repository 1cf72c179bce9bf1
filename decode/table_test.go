package decode

import (
	"strconv"
	"strings"

	"tappet/api"
)

// row is a row of the chapter's table, written apart from the package: the word bit by bit, the highest first (0 and 1 as they must be; d, s, t, i and c are bits of Rd, Rs1, Rs2, the immediate and the number of the CSR; x is ignored), what is fixed of the instruction, and the immediate's format (h: of a shift).
type row struct {
	word        string
	fixed       api.Inst
	imm         byte
	ones, zeros uint32
}

const (
	imm20 = "iiiiiiiiiiiiiiiiiiii"
	imm12 = "iiiiiiiiiiii"
	imm7  = "iiiiiii"
	imm5  = "iiiii"
	rd    = "ddddd"
	rs1   = "sssss"
	rs2   = "ttttt"
	num12 = "cccccccccccc"
	none5 = "00000"
)

func binary(n, width int) string {
	s := strconv.FormatInt(int64(n), 2)
	return strings.Repeat("0", width-len(s)) + s
}

func newRow(fixed api.Inst, imm byte, parts ...string) row {
	r := row{word: strings.Join(parts, ""), fixed: fixed, imm: imm}
	r.ones, r.zeros = r.mask('1'), r.mask('0')
	return r
}

func table() []row {
	var l []row
	add := func(fixed api.Inst, imm byte, parts ...string) {
		l = append(l, newRow(fixed, imm, parts...))
	}
	add(api.Inst{Op: api.OpLui}, 'U', imm20, rd, "0110111")
	add(api.Inst{Op: api.OpAuipc}, 'U', imm20, rd, "0010111")
	add(api.Inst{Op: api.OpJal}, 'J', imm20, rd, "1101111")
	add(api.Inst{Op: api.OpJalr}, 'I', imm12, rs1, "000", rd, "1100111")
	for _, f := range []int{api.Beq, api.Bne, api.Blt, api.Bge, api.Bltu, api.Bgeu} {
		add(api.Inst{Op: api.OpBranch, Fun: f}, 'B', imm7, rs2, rs1, binary(f, 3), imm5, "1100011")
	}
	for f, size := range []int{1, 2, 4, 8} {
		add(api.Inst{Op: api.OpLoad, Size: size, Signed: true}, 'I', imm12, rs1, binary(f, 3), rd, "0000011")
		add(api.Inst{Op: api.OpStore, Size: size}, 'S', imm7, rs2, rs1, binary(f, 3), imm5, "0100011")
	}
	for f, size := range []int{1, 2, 4} {
		add(api.Inst{Op: api.OpLoad, Size: size}, 'I', imm12, rs1, binary(4+f, 3), rd, "0000011")
	}
	add(api.Inst{Op: api.OpFence}, 0, "xxxxxxxxxxxxxxxxx", "000", "xxxxx", "0001111")
	add(api.Inst{Op: api.OpFenceI}, 0, "xxxxxxxxxxxxxxxxx", "001", "xxxxx", "0001111")
	return append(append(append(l, sums()...), atomics()...), systems()...)
}

func sums() []row {
	var l []row
	number := func(word bool, fun int, high, f3, opcode string) {
		imm := byte('I')
		if high != imm12 {
			imm = 'h'
		}
		l = append(l, newRow(api.Inst{Op: api.OpImm, Fun: fun, Word: word}, imm, high, rs1, f3, rd, opcode))
	}
	for _, f := range []int{api.Add, api.Slt, api.Sltu, api.Xor, api.Or, api.And} {
		number(false, f, imm12, binary(f, 3), "0010011")
	}
	number(false, api.Sll, "000000iiiiii", "001", "0010011")
	number(false, api.Srl, "000000iiiiii", "101", "0010011")
	number(false, api.Sra, "010000iiiiii", "101", "0010011")
	number(true, api.Add, imm12, "000", "0011011")
	number(true, api.Sll, "0000000iiiii", "001", "0011011")
	number(true, api.Srl, "0000000iiiii", "101", "0011011")
	number(true, api.Sra, "0100000iiiii", "101", "0011011")
	registers := func(op, fun int, f7, f3 string, words ...bool) {
		for _, word := range words {
			opcode := "0110011"
			if word {
				opcode = "0111011"
			}
			l = append(l, newRow(api.Inst{Op: op, Fun: fun, Word: word}, 0, f7, rs2, rs1, f3, rd, opcode))
		}
	}
	for _, f := range []int{api.Slt, api.Sltu, api.Xor, api.Or, api.And} {
		registers(api.OpReg, f, "0000000", binary(f, 3), false)
	}
	for _, f := range []int{api.Add, api.Sll, api.Srl} {
		registers(api.OpReg, f, "0000000", binary(f, 3), false, true)
	}
	registers(api.OpReg, api.Sub, "0100000", "000", false, true)
	registers(api.OpReg, api.Sra, "0100000", "101", false, true)
	for _, f := range []int{api.Mulh, api.Mulhsu, api.Mulhu} {
		registers(api.OpMul, f, "0000001", binary(f, 3), false)
	}
	for _, f := range []int{api.Mul, api.Div, api.Divu, api.Rem, api.Remu} {
		registers(api.OpMul, f, "0000001", binary(f, 3), false, true)
	}
	return l
}

func atomics() []row {
	var l []row
	for _, size := range []int{4, 8} {
		add := func(op, fun int, f5, second string) {
			l = append(l, newRow(api.Inst{Op: op, Fun: fun, Size: size}, 0, f5, "xx", second, rs1, binary(size/4+1, 3), rd, "0101111"))
		}
		add(api.OpLr, 0, "00010", none5)
		add(api.OpSc, 0, "00011", rs2)
		for _, f := range []int{1, 0, 4, 8, 12, 16, 20, 24, 28} {
			add(api.OpAmo, f, binary(f, 5), rs2)
		}
	}
	return l
}

func systems() []row {
	l := []row{
		newRow(api.Inst{Op: api.OpCall}, 0, "00000000000000000000000001110011"),
		newRow(api.Inst{Op: api.OpBreak}, 0, "00000000000100000000000001110011"),
		newRow(api.Inst{Op: api.OpSret}, 0, "00010000001000000000000001110011"),
		newRow(api.Inst{Op: api.OpMret}, 0, "00110000001000000000000001110011"),
		newRow(api.Inst{Op: api.OpWfi}, 0, "00010000010100000000000001110011"),
		newRow(api.Inst{Op: api.OpSfence}, 0, "0001001", rs2, rs1, "000", none5, "1110011"),
	}
	for f := 1; f <= 3; f++ {
		l = append(l,
			newRow(api.Inst{Op: api.OpCsr, Fun: f}, 0, num12, rs1, binary(f, 3), rd, "1110011"),
			newRow(api.Inst{Op: api.OpCsr, Fun: f, UseImm: true}, 0, num12, rs1, binary(f+4, 3), rd, "1110011"))
	}
	return l
}

// bit is the word's bit n as the row writes it.
func (r row) bit(n int) byte { return r.word[31-n] }

// match reports whether the fixed bits of w are those of the row.
func (r row) match(w uint32) bool { return w&r.ones == r.ones && w&r.zeros == 0 }

// mask is the bits of that letter.
func (r row) mask(letter byte) uint32 {
	m := uint32(0)
	for n := range 32 {
		if r.bit(n) == letter {
			m |= 1 << n
		}
	}
	return m
}

// number is what the bits of that letter make.
func (r row) number(w uint32, letter byte) int {
	v := 0
	for n := 31; n >= 0; n-- {
		if r.bit(n) == letter {
			v = v*2 + int(w>>n&1)
		}
	}
	return v
}

// immediate follows the table of the formats of chapter 2.
func (r row) immediate(w uint32) uint64 {
	part := func(hi, lo, at int) uint64 { return uint64(w) >> lo & (1<<(hi-lo+1) - 1) << at }
	minus := func(at int) uint64 { return -(uint64(w) >> 31 << at) }
	switch r.imm {
	case 'I':
		return minus(11) + part(30, 20, 0)
	case 'S':
		return minus(11) + part(30, 25, 5) + part(11, 7, 0)
	case 'B':
		return minus(12) + part(7, 7, 11) + part(30, 25, 5) + part(11, 8, 1)
	case 'U':
		return minus(31) + part(30, 12, 12)
	case 'J':
		return minus(20) + part(19, 12, 12) + part(20, 20, 11) + part(30, 21, 1)
	case 'h':
		return part(25, 20, 0)
	}
	return 0
}

// inst is what w means, if it matches the row.
func (r row) inst(w uint32) api.Inst {
	i := r.fixed
	i.Rd, i.Rs1, i.Rs2 = r.number(w, 'd'), r.number(w, 's'), r.number(w, 't')
	i.Csr, i.Imm = r.number(w, 'c'), r.immediate(w)
	return i
}

// put sets the bits of that letter to the number's low ones.
func (r row) put(v int, letter byte) uint32 {
	w := uint32(0)
	for n := range 32 {
		if r.bit(n) == letter {
			w |= uint32(v&1) << n
			v >>= 1
		}
	}
	return w
}

// putImm finds of each bit of the word the lowest bit that it sets in the immediate (the sign sets more), and sets it where that one is set.
func (r row) putImm(imm uint64) uint32 {
	w := uint32(0)
	for n := range 32 {
		if v := r.immediate(1 << n); r.bit(n) == 'i' && v&-v&imm != 0 {
			w |= 1 << n
		}
	}
	return w
}

// want is what the chapter asks of Decode.
func want(rows []row, w uint32) api.Inst {
	for _, r := range rows {
		if r.match(w) {
			return r.inst(w)
		}
	}
	return api.Inst{}
}

// wantWord is what the chapter asks of Encode: the word, whose ignored bits are 0, or false.
func wantWord(rows []row, i api.Inst) (uint32, bool) {
	for _, r := range rows {
		if r.fixed.Op != i.Op {
			continue
		}
		w := r.ones | r.put(i.Rd, 'd') | r.put(i.Rs1, 's') | r.put(i.Rs2, 't') | r.put(i.Csr, 'c') | r.putImm(i.Imm)
		if r.inst(w) == i {
			return w, true
		}
	}
	return 0, false
}

// byOpcode parts the rows, so that a test of many words is quick.
func byOpcode() [128][]row {
	var l [128][]row
	for _, r := range table() {
		op, _ := strconv.ParseInt(r.word[25:], 2, 0)
		l[op] = append(l[op], r)
	}
	return l
}
