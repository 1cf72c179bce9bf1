/- Instructions as data, and the instruction that the table of package decode gives for a word. Plain definitions and lemmas. Conditions: none. -/
import Derived.Test.YtjnalgilkdoalaaDoorFlds
import Derived.Test.YtjnalgilkdoalaaDoorAsm
import Derived.Laws.StructEq
import Derived.Laws.Rows
import Derived.Laws.ResultCell
import Derived.Laws.Tables
namespace Go.Proofs.YtjnalgilkdoalaaDoor
open Go.RowKit

structure Ins where
  op : Int
  fn : Int
  rd : Int
  rs1 : Int
  rs2 : Int
  imm : BitVec 64
  size : Int
  sg : Bool
  wd : Bool
  ui : Bool
  csr : Int
deriving DecidableEq
def Ins.val (i : Ins) : Value := .agg #[.int .i64 i.op, .int .i64 i.fn, .int .i64 i.rd, .int .i64 i.rs1, .int .i64 i.rs2, .int .u64 (u i.imm), .int .i64 i.size, .bool i.sg, .bool i.wd, .bool i.ui, .int .i64 i.csr]
def Ins.zero : Ins := ⟨0, 0, 0, 0, 0, 0, 0, false, false, false, 0⟩
/-- the rows of opcode 73 -/
def sysOf (x : BitVec 32) : Ins :=
  if fi x 14 12 = 0 then
    (if q x = 115 then ⟨13, 0, 0, 0, 0, 0, 0, false, false, false, 0⟩
    else if q x = 1048691 then ⟨14, 0, 0, 0, 0, 0, 0, false, false, false, 0⟩
    else if q x = 270532723 then ⟨16, 0, 0, 0, 0, 0, 0, false, false, false, 0⟩
    else if q x = 807403635 then ⟨15, 0, 0, 0, 0, 0, 0, false, false, false, 0⟩
    else if q x = 273678451 then ⟨17, 0, 0, 0, 0, 0, 0, false, false, false, 0⟩
    else if fi x 11 7 = 0 ∧ fi x 31 25 = 9 then ⟨18, 0, 0, fi x 19 15, fi x 24 20, 0, 0, false, false, false, 0⟩
    else Ins.zero)
  else if fi x 14 12 = 4 then Ins.zero
  else if fi x 14 12 < 4 then ⟨19, fi x 14 12, fi x 11 7, fi x 19 15, 0, 0, 0, false, false, false, fi x 31 20⟩
  else ⟨19, fi x 14 12 - 4, fi x 11 7, fi x 19 15, 0, 0, 0, false, false, true, fi x 31 20⟩
/-- an instruction and whether it is one, as the reference answers -/
def PartOf (e : Ending) (i : Ins) : Prop :=
  ∃ (o f d s t m z k : Int) (a b c y : Bool), e = .returned (.tuple #[.agg #[.int .i64 o, .int .i64 f, .int .i64 d, .int .i64 s, .int .i64 t, .int .u64 m, .int .i64 z, .bool a, .bool b, .bool c, .int .i64 k], .bool y]) ∧ (if y = true then (.agg #[.int .i64 o, .int .i64 f, .int .i64 d, .int .i64 s, .int .i64 t, .int .u64 m, .int .i64 z, .bool a, .bool b, .bool c, .int .i64 k] : Value) else Ins.zero.val) = i.val
/-- the number of a shift -/
def shOf (x : BitVec 32) : BitVec 64 := BitVec.ofNat 64 (x.toNat / 1048576 % 64)
def kindOf (x : BitVec 32) (word : Bool) : Int := if word then fi x 31 25 else fi x 31 25 / 2 * 2
/-- the rows of opcodes 13 and 1b -/
def numOf (x : BitVec 32) (word : Bool) : Ins :=
  if fi x 14 12 = 1 then
    if kindOf x word = 0 then ⟨8, 1, fi x 11 7, fi x 19 15, 0, shOf x, 0, false, word, false, 0⟩ else Ins.zero
  else if fi x 14 12 = 5 then
    if kindOf x word = 0 then ⟨8, 5, fi x 11 7, fi x 19 15, 0, shOf x, 0, false, word, false, 0⟩
    else if kindOf x word = 32 then ⟨8, 13, fi x 11 7, fi x 19 15, 0, shOf x, 0, false, word, false, 0⟩
    else Ins.zero
  else if fi x 14 12 = 0 then ⟨8, 0, fi x 11 7, fi x 19 15, 0, immOf (zx x) LI, 0, false, word, false, 0⟩
  else if word then Ins.zero
  else ⟨8, fi x 14 12, fi x 11 7, fi x 19 15, 0, immOf (zx x) LI, 0, false, word, false, 0⟩
/-- the rows of opcodes 33 and 3b -/
def regOf (x : BitVec 32) (word : Bool) : Ins :=
  if fi x 31 25 = 0 then
    if word = true ∧ (fi x 14 12 = 2 ∨ fi x 14 12 = 3 ∨ fi x 14 12 = 4 ∨ fi x 14 12 = 6 ∨ fi x 14 12 = 7) then Ins.zero
    else ⟨9, fi x 14 12, fi x 11 7, fi x 19 15, fi x 24 20, 0, 0, false, word, false, 0⟩
  else if fi x 31 25 = 32 then
    if fi x 14 12 = 0 then ⟨9, 8, fi x 11 7, fi x 19 15, fi x 24 20, 0, 0, false, word, false, 0⟩
    else if fi x 14 12 = 5 then ⟨9, 13, fi x 11 7, fi x 19 15, fi x 24 20, 0, 0, false, word, false, 0⟩
    else Ins.zero
  else if fi x 31 25 = 1 then
    if word = true ∧ (fi x 14 12 = 1 ∨ fi x 14 12 = 2 ∨ fi x 14 12 = 3) then Ins.zero
    else ⟨10, fi x 14 12, fi x 11 7, fi x 19 15, fi x 24 20, 0, 0, false, word, false, 0⟩
  else Ins.zero
/-- the rows of opcode 2f -/
def amoOf (x : BitVec 32) : Ins :=
  if fi x 14 12 = 2 ∨ fi x 14 12 = 3 then
    if fi x 31 27 = 2 then
      if fi x 24 20 = 0 then ⟨20, 0, fi x 11 7, fi x 19 15, 0, 0, if fi x 14 12 = 2 then 4 else 8, false, false, false, 0⟩ else Ins.zero
    else if fi x 31 27 = 3 then ⟨21, 0, fi x 11 7, fi x 19 15, fi x 24 20, 0, if fi x 14 12 = 2 then 4 else 8, false, false, false, 0⟩
    else if fi x 31 27 = 0 ∨ fi x 31 27 = 1 ∨ fi x 31 27 = 4 ∨ fi x 31 27 = 8 ∨ fi x 31 27 = 12 ∨ fi x 31 27 = 16 ∨ fi x 31 27 = 20 ∨ fi x 31 27 = 24 ∨ fi x 31 27 = 28 then
      ⟨22, fi x 31 27, fi x 11 7, fi x 19 15, fi x 24 20, 0, if fi x 14 12 = 2 then 4 else 8, false, false, false, 0⟩
    else Ins.zero
  else Ins.zero
/-- the whole table -/
def decOf (x : BitVec 32) : Ins :=
  if fi x 6 0 = 55 then ⟨1, 0, fi x 11 7, 0, 0, immOf (zx x) LU, 0, false, false, false, 0⟩
  else if fi x 6 0 = 23 then ⟨2, 0, fi x 11 7, 0, 0, immOf (zx x) LU, 0, false, false, false, 0⟩
  else if fi x 6 0 = 111 then ⟨3, 0, fi x 11 7, 0, 0, immOf (zx x) LJ, 0, false, false, false, 0⟩
  else if fi x 6 0 = 103 then (if fi x 14 12 = 0 then ⟨4, 0, fi x 11 7, fi x 19 15, 0, immOf (zx x) LI, 0, false, false, false, 0⟩ else Ins.zero)
  else if fi x 6 0 = 99 then (if fi x 14 12 = 2 ∨ fi x 14 12 = 3 then Ins.zero else ⟨5, fi x 14 12, 0, fi x 19 15, fi x 24 20, immOf (zx x) LB, 0, false, false, false, 0⟩)
  else if fi x 6 0 = 3 then
    (if fi x 14 12 = 7 then Ins.zero
    else ⟨6, 0, fi x 11 7, fi x 19 15, 0, immOf (zx x) LI, if fi x 14 12 = 0 ∨ fi x 14 12 = 4 then 1 else if fi x 14 12 = 1 ∨ fi x 14 12 = 5 then 2 else if fi x 14 12 = 2 ∨ fi x 14 12 = 6 then 4 else 8, decide (fi x 14 12 < 4), false, false, 0⟩)
  else if fi x 6 0 = 35 then
    (if fi x 14 12 < 4 then ⟨7, 0, 0, fi x 19 15, fi x 24 20, immOf (zx x) LS, if fi x 14 12 = 0 then 1 else if fi x 14 12 = 1 then 2 else if fi x 14 12 = 2 then 4 else 8, false, false, false, 0⟩ else Ins.zero)
  else if fi x 6 0 = 15 then
    (if fi x 14 12 = 0 then ⟨11, 0, 0, 0, 0, 0, 0, false, false, false, 0⟩ else if fi x 14 12 = 1 then ⟨12, 0, 0, 0, 0, 0, 0, false, false, false, 0⟩ else Ins.zero)
  else if fi x 6 0 = 19 then numOf x false
  else if fi x 6 0 = 27 then numOf x true
  else if fi x 6 0 = 51 then regOf x false
  else if fi x 6 0 = 59 then regOf x true
  else if fi x 6 0 = 47 then amoOf x
  else if fi x 6 0 = 115 then sysOf x
  else Ins.zero
/-- a field is what the division leaves -/
theorem fi_nat (x : BitVec 32) (hi lo : Nat) (h : lo ≤ hi) (h2 : hi < 32) : fi x hi lo = ((x.toNat / 2 ^ lo % 2 ^ (hi - lo + 1) : Nat) : Int) := by
  have he : Ends (hi : Int) (lo : Int) := by unfold Ends; omega
  unfold fi fld u
  rw [if_pos he]
  have h3 : ((hi : Int) - (lo : Int) + 1).toNat = hi - lo + 1 := by omega
  rw [h3, Int.toNat_natCast]
  congr 1
  have hz : (zx x).toNat = x.toNat := by
    have := x.isLt
    unfold zx
    rw [BitVec.toNat_setWidth]; omega
  have hl : (low (hi - lo + 1)).toNat = 2 ^ (hi - lo + 1) - 1 := by
    unfold low
    rw [BitVec.toNat_ushiftRight, BitVec.toNat_allOnes, Nat.shiftRight_eq_div_pow]
    have e : 2 ^ 64 = 2 ^ (hi - lo + 1) * 2 ^ (64 - (hi - lo + 1)) := by rw [← Nat.pow_add]; congr 1; omega
    have p1 := Nat.two_pow_pos (hi - lo + 1)
    have p2 := Nat.two_pow_pos (64 - (hi - lo + 1))
    rw [e]
    have e2 : 2 ^ (hi - lo + 1) * 2 ^ (64 - (hi - lo + 1)) - 1 = (2 ^ (64 - (hi - lo + 1)) - 1) + 2 ^ (64 - (hi - lo + 1)) * (2 ^ (hi - lo + 1) - 1) := by
      have : 2 ^ (64 - (hi - lo + 1)) * (2 ^ (hi - lo + 1) - 1) = 2 ^ (hi - lo + 1) * 2 ^ (64 - (hi - lo + 1)) - 2 ^ (64 - (hi - lo + 1)) := by
        rw [Nat.mul_sub, Nat.mul_one, Nat.mul_comm]
      have h4 : 2 ^ (64 - (hi - lo + 1)) ≤ 2 ^ (hi - lo + 1) * 2 ^ (64 - (hi - lo + 1)) := Nat.le_mul_of_pos_left _ p1
      omega
    rw [e2, Nat.add_mul_div_left _ _ p2, Nat.div_eq_of_lt (by omega), Nat.zero_add]
  rw [BitVec.toNat_and, BitVec.toNat_ushiftRight, hl, hz, Nat.shiftRight_eq_div_pow, Nat.and_two_pow_sub_one_eq_mod]
theorem f7_parts (x : BitVec 32) : fi x 31 20 = fi x 31 25 * 32 + fi x 24 20 ∧ fi x 31 25 / 4 = fi x 31 27 ∧ 0 ≤ fi x 31 25 ∧ fi x 31 25 < 128 ∧ 0 ≤ fi x 24 20 ∧ fi x 24 20 < 32 ∧ 0 ≤ fi x 31 27 ∧ fi x 31 27 < 32 := by
  have h1 : fi x 31 20 = ((x.toNat / 2 ^ 20 % 2 ^ 12 : Nat) : Int) := fi_nat x 31 20 (by omega) (by omega)
  have h2 : fi x 31 25 = ((x.toNat / 2 ^ 25 % 2 ^ 7 : Nat) : Int) := fi_nat x 31 25 (by omega) (by omega)
  have h3 : fi x 24 20 = ((x.toNat / 2 ^ 20 % 2 ^ 5 : Nat) : Int) := fi_nat x 24 20 (by omega) (by omega)
  have h4 : fi x 31 27 = ((x.toNat / 2 ^ 27 % 2 ^ 5 : Nat) : Int) := fi_nat x 31 27 (by omega) (by omega)
  omega
theorem u_and_mod (v : BitVec 64) (n : Nat) (hn : n < 64) : u (v &&& BitVec.ofNat 64 (2 ^ n - 1)) = u v % ((2 ^ n : Nat) : Int) := by
  have hlt : 2 ^ n ≤ 2 ^ 63 := Nat.pow_le_pow_right (by omega) (by omega)
  unfold u
  rw [BitVec.toNat_and, BitVec.toNat_ofNat, Nat.mod_eq_of_lt (by omega), Nat.and_two_pow_sub_one_eq_mod]
  rfl
theorem shOf_u (x : BitVec 32) : u (shOf x) = fi x 31 20 % 64 := by
  have h1 : fi x 31 20 = ((x.toNat / 2 ^ 20 % 2 ^ 12 : Nat) : Int) := fi_nat x 31 20 (by omega) (by omega)
  unfold shOf u
  rw [BitVec.toNat_ofNat]
  omega
theorem imm_mod (x : BitVec 32) : u (immOf (zx x) LI) % 64 = u (shOf x) := by
  have e := u_and_mod (immOf (zx x) LI) 6 (by omega)
  have e2 : immOf (zx x) LI &&& BitVec.ofNat 64 (2 ^ 6 - 1) = shOf x := by
    apply BitVec.eq_of_getLsbD_eq; intro i hi
    have hx : (shOf x).getLsbD i = (decide (i < 6) && x.getLsbD (20 + i)) := by
      unfold shOf
      rw [BitVec.getLsbD_ofNat, show (64 : Nat) = 2 ^ 6 by rfl, Nat.testBit_mod_two_pow, show (1048576 : Nat) = 2 ^ 20 by rfl, Nat.testBit_div_two_pow, decide_eq_true hi, Bool.true_and, Nat.add_comm i 20]
      rfl
    rw [BitVec.getLsbD_and, hx, BitVec.getLsbD_ofNat, Nat.testBit_two_pow_sub_one, decide_eq_true hi, Bool.true_and]
    by_cases c : i < 6
    · rw [decide_eq_true c, Bool.and_true, Bool.true_and, immOf_ref sameI, sxt_bit _ _ i hi, if_pos (by show (i : Int) < 12; omega), imm_bit _ _ _ _ (by decide), ← zx_bit]
      have h6 : i = 0 ∨ i = 1 ∨ i = 2 ∨ i = 3 ∨ i = 4 ∨ i = 5 := by omega
      rcases h6 with rfl | rfl | rfl | rfl | rfl | rfl <;> simp [FI]
    · rw [decide_eq_false c]; simp
  rw [← e2, e]
  rfl
theorem kind_even (x : BitVec 32) : bits .andNot .i64 (fi x 31 25) 1 = fi x 31 25 / 2 * 2 := by
  obtain ⟨-, -, h1, h2, -⟩ := f7_parts x
  obtain ⟨n, hn⟩ : ∃ n : Nat, fi x 31 25 = n := ⟨(fi x 31 25).toNat, by omega⟩
  rw [hn] at h2 ⊢
  have h3 : n < 128 := by omega
  have hall : ∀ n : Fin 128, bits .andNot .i64 ((n.val : Nat) : Int) 1 = ((n.val : Nat) : Int) / 2 * 2 := by decide +kernel
  exact hall ⟨n, h3⟩
theorem imm_tmod (x : BitVec 32) : (u (immOf (zx x) LI)).tmod 64 = u (shOf x) := by
  rw [Int.tmod_eq_emod_of_nonneg (u_nonneg _), imm_mod]
theorem bits_63 (n : Nat) (hn : n < 4096) : bits .and .i64 (n : Int) 63 = (n : Int) % 64 := by
  have hall : ∀ a b : Fin 64, bits .and .i64 ((a.val * 64 + b.val : Nat) : Int) 63 = ((a.val * 64 + b.val : Nat) : Int) % 64 := by decide +kernel
  have h := hall ⟨n / 64, by omega⟩ ⟨n % 64, by omega⟩
  rw [show n / 64 * 64 + n % 64 = n by omega] at h
  exact h
theorem bits_31 (n : Nat) (hn : n < 4096) : bits .and .i64 (n : Int) 31 = (n : Int) % 32 := by
  have hall : ∀ a b : Fin 64, bits .and .i64 ((a.val * 64 + b.val : Nat) : Int) 31 = ((a.val * 64 + b.val : Nat) : Int) % 32 := by decide +kernel
  have h := hall ⟨n / 64, by omega⟩ ⟨n % 64, by omega⟩
  rw [show n / 64 * 64 + n % 64 = n by omega] at h
  exact h
theorem sh_63 (x : BitVec 32) (_h : True) : IntKind.u64.wrap (bits .and .i64 (fi x 31 20) 63) = u (shOf x) := by
  obtain ⟨h0, -, h1, h2, h3, h4, -⟩ := f7_parts x
  obtain ⟨n, hn⟩ : ∃ n : Nat, fi x 31 20 = n := ⟨(fi x 31 20).toNat, by omega⟩
  rw [hn, bits_63 n (by omega), ← hn, ← shOf_u, wrap_u]
theorem sh_31 (x : BitVec 32) (h : fi x 31 25 % 2 = 0) : IntKind.u64.wrap (bits .and .i64 (fi x 31 20) 31) = u (shOf x) := by
  obtain ⟨h0, -, h1, h2, h3, h4, -⟩ := f7_parts x
  obtain ⟨n, hn⟩ : ∃ n : Nat, fi x 31 20 = n := ⟨(fi x 31 20).toNat, by omega⟩
  have e : (n : Int) % 32 = (n : Int) % 64 := by omega
  rw [hn, bits_31 n (by omega), e, ← hn, ← shOf_u, wrap_u]
theorem f3_cases (x : BitVec 32) : fi x 14 12 = 0 ∨ fi x 14 12 = 1 ∨ fi x 14 12 = 2 ∨ fi x 14 12 = 3 ∨ fi x 14 12 = 4 ∨ fi x 14 12 = 5 ∨ fi x 14 12 = 6 ∨ fi x 14 12 = 7 := by
  have h : fi x 14 12 = ((x.toNat / 2 ^ 12 % 2 ^ 3 : Nat) : Int) := fi_nat x 14 12 (by omega) (by omega)
  omega
theorem q_shr20 (x : BitVec 32) : q x / 1048576 = fi x 31 20 := by
  have h : fi x 31 20 = ((x.toNat / 2 ^ 20 % 2 ^ 12 : Nat) : Int) := fi_nat x 31 20 (by omega) (by omega)
  have := x.isLt
  unfold q
  omega
theorem On.set {a b : World} (h : On a b) (p : Addr) (v : Value) (hp : a.heap.size ≤ p.block) : On a (b.setCell p v) := Below.setCell h hp v
theorem on_unfrozen {w wr : World} {cs : Array Value} {t : TypeId} (h : On (w.alloc (.cells cs t)) wr) (k : Nat) : wr.frozen? ⟨w.heap.size, k, none⟩ = false := by
  rw [Below.frozen h (p := ⟨w.heap.size, k, none⟩) (by simp)]
  exact World.frozen?_alloc_new ..
theorem on_size {w wr : World} {o : Obj} (h : On (w.alloc o) wr) : w.heap.size < wr.heap.size := by
  have := h.size
  simp at this
  omega
theorem fi_wrap (x : BitVec 32) (hi lo : Int) : wrap64 (fi x hi lo) = fi x hi lo := IntWalk.wrap64_in _ (by have := fi_nonneg x hi lo; have := fi_lt x hi lo; omega)
theorem heap_on {w wr : World} {o : Obj} (h : On (w.alloc o) wr) : wr.heap[w.heap.size]? = some o := by
  rw [h.block w.heap.size (by simp)]
  exact heap_alloc_new w o
/-- a whole struct into a block of the call's own -/
theorem store_on {P : Program} {w wr : World} {c : Array Value} {t : TypeId} (h : On (w.alloc (.cells c t)) wr) (vs : List Value) (hl : c.size = vs.length) (h1 : ∀ v ∈ vs, v.oneCell' = true) :
    (storeCells ⟨w.heap.size, 0, none⟩ vs 0).run P wr = .ok () (wr.setRow w.heap.size vs.toArray) := by
  have := run_storeCells_from (P := P) w.heap.size t vs 0 c wr (heap_on h) (by omega) h1
  rw [this]
  simp
theorem On.row {a b : World} (h : On a b) (g : Nat) (cs : Array Value) (hg : a.heap.size ≤ g) : On a (b.setRow g cs) :=
  ⟨h.os, h.tape, h.output, by have := h.size; simpa [World.setRow] using this, fun k hk => by rw [setRow_other _ _ _ _ (by omega)]; exact h.block k hk⟩
theorem row_on {w wr : World} {c : Array Value} {t : TypeId} (h : On (w.alloc (.cells c t)) wr) (cs : Array Value) : (wr.setRow w.heap.size cs).heap[w.heap.size]? = some (.cells cs t) := setRow_heap _ _ _ _ _ _ (heap_on h)
theorem heap_past {w : World} {g : Nat} {x : Obj} (o : Obj) (h : w.heap[g]? = some x) : (w.alloc o).heap[g]? = some x := by
  rw [heap_alloc_old w o (Array.getElem?_eq_some_iff.1 h).1]; exact h
theorem new11 {w wr : World} {t : TypeId} {v0 v1 v2 v3 v4 v5 v6 v7 v8 v9 v10 : Value} (h : On (w.alloc (.cells #[v0, v1, v2, v3, v4, v5, v6, v7, v8, v9, v10] t)) wr) :
    wr.cell? ⟨w.heap.size, 0, none⟩ = some v0 ∧ wr.cell? ⟨w.heap.size, 1, none⟩ = some v1 ∧ wr.cell? ⟨w.heap.size, 2, none⟩ = some v2 ∧ wr.cell? ⟨w.heap.size, 3, none⟩ = some v3 ∧ wr.cell? ⟨w.heap.size, 4, none⟩ = some v4 ∧ wr.cell? ⟨w.heap.size, 5, none⟩ = some v5 ∧ wr.cell? ⟨w.heap.size, 6, none⟩ = some v6 ∧ wr.cell? ⟨w.heap.size, 7, none⟩ = some v7 ∧ wr.cell? ⟨w.heap.size, 8, none⟩ = some v8 ∧ wr.cell? ⟨w.heap.size, 9, none⟩ = some v9 ∧ wr.cell? ⟨w.heap.size, 10, none⟩ = some v10 :=
  ⟨on_new h 0 rfl, on_new h 1 rfl, on_new h 2 rfl, on_new h 3 rfl, on_new h 4 rfl, on_new h 5 rfl, on_new h 6 rfl, on_new h 7 rfl, on_new h 8 rfl, on_new h 9 rfl, on_new h 10 rfl⟩
theorem cell_keep {a b : World} (h : On a b) {g k : Nat} {v : Value} (hg : g < a.heap.size) (hc : a.cell? ⟨g, k, none⟩ = some v) : b.cell? ⟨g, k, none⟩ = some v := (Below.cell h (p := ⟨g, k, none⟩) hg).trans hc
theorem cell_kept {a b : World} {p : Addr} {z : Value} (h : On (a.setCell p z) b) {g k : Nat} {v : Value} (hg : g < a.heap.size) (hp : p ≠ ⟨g, k, none⟩) (hc : a.cell? ⟨g, k, none⟩ = some v) : b.cell? ⟨g, k, none⟩ = some v :=
  (Below.cell h (p := ⟨g, k, none⟩) (by simpa using hg)).trans (by rw [World.cell?_setCell_other (h := hp)]; exact hc)
theorem cell_put {a b : World} {g k : Nat} {z v : Value} (h : On (a.setCell ⟨g, k, none⟩ z) b) (hg : g < a.heap.size) (hc : a.cell? ⟨g, k, none⟩ = some v) : b.cell? ⟨g, k, none⟩ = some z :=
  (Below.cell h (p := ⟨g, k, none⟩) (by simpa using hg)).trans (World.cell?_setCell_same _ _ _ hc)
theorem frozen_keep {a b : World} (h : On a b) {g : Nat} (hg : g < a.heap.size) (hc : ∀ k, a.frozen? ⟨g, k, none⟩ = false) (k : Nat) : b.frozen? ⟨g, k, none⟩ = false := (Below.frozen h (p := ⟨g, k, none⟩) hg).trans (hc k)
theorem frozen_kept {a b : World} {p : Addr} {z : Value} (h : On (a.setCell p z) b) {g : Nat} (hg : g < a.heap.size) (hc : ∀ k, a.frozen? ⟨g, k, none⟩ = false) (k : Nat) : b.frozen? ⟨g, k, none⟩ = false :=
  (Below.frozen h (p := ⟨g, k, none⟩) (by simpa using hg)).trans (by rw [World.frozen?_setCell]; exact hc k)
theorem size_kept {a b : World} {p : Addr} {z : Value} (h : On (a.setCell p z) b) {g : Nat} (hg : g < a.heap.size) : g < b.heap.size := Nat.lt_of_lt_of_le (by simpa using hg) h.size
theorem On.setn {w a : World} {o : Obj} (h : On (w.alloc o) a) {g k : Nat} {v : Value} (hl : w.heap.size < g) : On (w.alloc o) (a.setCell ⟨g, k, none⟩ v) := h.set _ _ (by simp; omega)
theorem results_row_tmp {P : Program} {fn : Func} {p u : Tmp} {ty : TypeId} (h : fn.results = #[.cell p ty, .tmp u]) (tmps : Array Value) (w : World) (g : Nat) (t : TypeId) (cs : Array Value) (fr : Nat × Nat) (d : TypeDesc)
    (hp : tmps.getD p undef = .pointer (some ⟨g, 0, none⟩)) (hg : w.heap[g]? = some (.cells cs t fr))
    (hu : P.underlying ty = some d) (hd : (match d with | .struct _ | .array _ _ => true | _ => false) = true) (hi : (P.info? ty).map (·.size) = some cs.size) :
    (results fn tmps).run P w = .ok (.tuple #[.agg cs, tmps.getD u undef]) w := by
  rw [results_cell_tmp h]
  have hp' : tmps[p]?.getD undef = .pointer (some ⟨g, 0, none⟩) := by simpa using hp
  simp [hp', asAddr, run_loadVar_row w g t ty cs fr d hg hu hd hi]
theorem On.drew {a b : World} (h : On a b) : On a b.drew := Below.drew h
theorem heap_far {w : World} {g : Nat} {x : Obj} (h : w.heap[g]? = some x) {p : Addr} (hp : p.block ≠ g) (v : Value) : (w.setCell p v).heap[g]? = some x := by
  rw [Below.heap_setCell _ _ _ _ (fun e => hp e.symm)]; exact h
theorem heap_put {w : World} {g : Nat} {cs : Array Value} {t : TypeId} (h : w.heap[g]? = some (.cells cs t)) {k : Nat} (_hk : k < cs.size) (v : Value) : (w.setCell ⟨g, k, none⟩ v).heap[g]? = some (.cells (cs.setIfInBounds k v) t) := by
  rw [setCell_eq_setRow w g k cs t (0, 0) v h]
  exact setRow_heap w g cs _ t _ h
theorem u_nil : u 0#64 = 0 := rfl
theorem hb0 (w : World) : Hid (On (w.alloc (.cells #[.int .i64 0, .int .i64 0, .int .i64 0, .int .i64 0, .int .i64 0, .int .u64 0, .int .i64 0, .bool false, .bool false, .bool false, .int .i64 0] 24)) (w.alloc (.cells #[.int .i64 0, .int .i64 0, .int .i64 0, .int .i64 0, .int .i64 0, .int .u64 0, .int .i64 0, .bool false, .bool false, .bool false, .int .i64 0] 24))) := Lib.hid (On.refl _)
theorem tr {a b c : World} (h : Hid (On a b)) (k : On b c) : Hid (On a c) := Lib.hid (h.out.trans k)
theorem tr1 {a b c : World} {o : Obj} (h : Hid (On a b)) (k : On (b.alloc o) c) : Hid (On a c) := Lib.hid ((h.out.alloc o).trans k)
theorem trd {a b c : World} (h : Hid (On a b)) (k : On b.drew c) : Hid (On a c) := Lib.hid (h.out.drew.trans k)
theorem trs {w b c : World} {o : Obj} {g k : Nat} {v : Value} (h : Hid (On (w.alloc o) b)) (hl : Hid (w.heap.size < g)) (q : On (b.setCell ⟨g, k, none⟩ v) c) : Hid (On (w.alloc o) c) := Lib.hid ((h.out.setn hl.out).trans q)
theorem on_of {w b : World} {o : Obj} (h : On (w.alloc o) b) : On w b := ((On.refl w).alloc o).trans h
theorem On.rowO {w b : World} (h : On w b) {cs : Array Value} : On w (b.setRow w.heap.size cs) := h.row _ _ (Nat.le_refl _)
theorem On.setO {w b : World} (h : On w b) {g k : Nat} {v : Value} (hl : w.heap.size < g) : On w (b.setCell ⟨g, k, none⟩ v) := h.set _ _ (Nat.le_of_lt hl)
theorem own11 {w wr : World} {t : TypeId} {v0 v1 v2 v3 v4 v5 v6 v7 v8 v9 v10 : Value} (h : On (w.alloc (.cells #[v0, v1, v2, v3, v4, v5, v6, v7, v8, v9, v10] t)) wr) :
    wr.cell? ⟨w.heap.size, 0, none⟩ = some v0 ∧ wr.cell? ⟨w.heap.size, 1, none⟩ = some v1 ∧ wr.cell? ⟨w.heap.size, 2, none⟩ = some v2 ∧ wr.cell? ⟨w.heap.size, 3, none⟩ = some v3 ∧ wr.cell? ⟨w.heap.size, 4, none⟩ = some v4 ∧ wr.cell? ⟨w.heap.size, 5, none⟩ = some v5 ∧ wr.cell? ⟨w.heap.size, 6, none⟩ = some v6 ∧ wr.cell? ⟨w.heap.size, 7, none⟩ = some v7 ∧ wr.cell? ⟨w.heap.size, 8, none⟩ = some v8 ∧ wr.cell? ⟨w.heap.size, 9, none⟩ = some v9 ∧ wr.cell? ⟨w.heap.size, 10, none⟩ = some v10 ∧ (∀ k, wr.frozen? ⟨w.heap.size, k, none⟩ = false) ∧ w.heap.size < wr.heap.size :=
  ⟨on_new h 0 rfl, on_new h 1 rfl, on_new h 2 rfl, on_new h 3 rfl, on_new h 4 rfl, on_new h 5 rfl, on_new h 6 rfl, on_new h 7 rfl, on_new h 8 rfl, on_new h 9 rfl, on_new h 10 rfl, fun k => on_unfrozen h k, on_size h⟩
theorem keep11 {a b : World} {g : Nat} {v0 v1 v2 v3 v4 v5 v6 v7 v8 v9 v10 : Value} (h : On a b) (hlt : g < a.heap.size) (h0 : a.cell? ⟨g, 0, none⟩ = some v0) (h1 : a.cell? ⟨g, 1, none⟩ = some v1) (h2 : a.cell? ⟨g, 2, none⟩ = some v2) (h3 : a.cell? ⟨g, 3, none⟩ = some v3) (h4 : a.cell? ⟨g, 4, none⟩ = some v4) (h5 : a.cell? ⟨g, 5, none⟩ = some v5) (h6 : a.cell? ⟨g, 6, none⟩ = some v6) (h7 : a.cell? ⟨g, 7, none⟩ = some v7) (h8 : a.cell? ⟨g, 8, none⟩ = some v8) (h9 : a.cell? ⟨g, 9, none⟩ = some v9) (h10 : a.cell? ⟨g, 10, none⟩ = some v10) (kf : ∀ k, a.frozen? ⟨g, k, none⟩ = false) :
    b.cell? ⟨g, 0, none⟩ = some v0 ∧ b.cell? ⟨g, 1, none⟩ = some v1 ∧ b.cell? ⟨g, 2, none⟩ = some v2 ∧ b.cell? ⟨g, 3, none⟩ = some v3 ∧ b.cell? ⟨g, 4, none⟩ = some v4 ∧ b.cell? ⟨g, 5, none⟩ = some v5 ∧ b.cell? ⟨g, 6, none⟩ = some v6 ∧ b.cell? ⟨g, 7, none⟩ = some v7 ∧ b.cell? ⟨g, 8, none⟩ = some v8 ∧ b.cell? ⟨g, 9, none⟩ = some v9 ∧ b.cell? ⟨g, 10, none⟩ = some v10 ∧ (∀ k, b.frozen? ⟨g, k, none⟩ = false) ∧ g < b.heap.size :=
  ⟨cell_keep h hlt h0, cell_keep h hlt h1, cell_keep h hlt h2, cell_keep h hlt h3, cell_keep h hlt h4, cell_keep h hlt h5, cell_keep h hlt h6, cell_keep h hlt h7, cell_keep h hlt h8, cell_keep h hlt h9, cell_keep h hlt h10, frozen_keep h hlt kf, Nat.lt_of_lt_of_le hlt h.size⟩
theorem drew11 {a b : World} {g : Nat} {v0 v1 v2 v3 v4 v5 v6 v7 v8 v9 v10 : Value} (h : On a.drew b) (hlt : g < a.heap.size) (h0 : a.cell? ⟨g, 0, none⟩ = some v0) (h1 : a.cell? ⟨g, 1, none⟩ = some v1) (h2 : a.cell? ⟨g, 2, none⟩ = some v2) (h3 : a.cell? ⟨g, 3, none⟩ = some v3) (h4 : a.cell? ⟨g, 4, none⟩ = some v4) (h5 : a.cell? ⟨g, 5, none⟩ = some v5) (h6 : a.cell? ⟨g, 6, none⟩ = some v6) (h7 : a.cell? ⟨g, 7, none⟩ = some v7) (h8 : a.cell? ⟨g, 8, none⟩ = some v8) (h9 : a.cell? ⟨g, 9, none⟩ = some v9) (h10 : a.cell? ⟨g, 10, none⟩ = some v10) (kf : ∀ k, a.frozen? ⟨g, k, none⟩ = false) :
    b.cell? ⟨g, 0, none⟩ = some v0 ∧ b.cell? ⟨g, 1, none⟩ = some v1 ∧ b.cell? ⟨g, 2, none⟩ = some v2 ∧ b.cell? ⟨g, 3, none⟩ = some v3 ∧ b.cell? ⟨g, 4, none⟩ = some v4 ∧ b.cell? ⟨g, 5, none⟩ = some v5 ∧ b.cell? ⟨g, 6, none⟩ = some v6 ∧ b.cell? ⟨g, 7, none⟩ = some v7 ∧ b.cell? ⟨g, 8, none⟩ = some v8 ∧ b.cell? ⟨g, 9, none⟩ = some v9 ∧ b.cell? ⟨g, 10, none⟩ = some v10 ∧ (∀ k, b.frozen? ⟨g, k, none⟩ = false) ∧ g < b.heap.size := keep11 h hlt h0 h1 h2 h3 h4 h5 h6 h7 h8 h9 h10 kf
theorem put6 {a b : World} {g : Nat} {v0 v1 v2 v3 v4 v5 v6 v7 v8 v9 v10 z : Value} (h : On (a.setCell ⟨g, 6, none⟩ z) b) (hlt : g < a.heap.size) (h0 : a.cell? ⟨g, 0, none⟩ = some v0) (h1 : a.cell? ⟨g, 1, none⟩ = some v1) (h2 : a.cell? ⟨g, 2, none⟩ = some v2) (h3 : a.cell? ⟨g, 3, none⟩ = some v3) (h4 : a.cell? ⟨g, 4, none⟩ = some v4) (h5 : a.cell? ⟨g, 5, none⟩ = some v5) (h6 : a.cell? ⟨g, 6, none⟩ = some v6) (h7 : a.cell? ⟨g, 7, none⟩ = some v7) (h8 : a.cell? ⟨g, 8, none⟩ = some v8) (h9 : a.cell? ⟨g, 9, none⟩ = some v9) (h10 : a.cell? ⟨g, 10, none⟩ = some v10) (kf : ∀ k, a.frozen? ⟨g, k, none⟩ = false) :
    b.cell? ⟨g, 0, none⟩ = some v0 ∧ b.cell? ⟨g, 1, none⟩ = some v1 ∧ b.cell? ⟨g, 2, none⟩ = some v2 ∧ b.cell? ⟨g, 3, none⟩ = some v3 ∧ b.cell? ⟨g, 4, none⟩ = some v4 ∧ b.cell? ⟨g, 5, none⟩ = some v5 ∧ b.cell? ⟨g, 6, none⟩ = some z ∧ b.cell? ⟨g, 7, none⟩ = some v7 ∧ b.cell? ⟨g, 8, none⟩ = some v8 ∧ b.cell? ⟨g, 9, none⟩ = some v9 ∧ b.cell? ⟨g, 10, none⟩ = some v10 ∧ (∀ k, b.frozen? ⟨g, k, none⟩ = false) ∧ g < b.heap.size :=
  ⟨cell_kept h hlt (by simp) h0, cell_kept h hlt (by simp) h1, cell_kept h hlt (by simp) h2, cell_kept h hlt (by simp) h3, cell_kept h hlt (by simp) h4, cell_kept h hlt (by simp) h5, cell_put h hlt h6, cell_kept h hlt (by simp) h7, cell_kept h hlt (by simp) h8, cell_kept h hlt (by simp) h9, cell_kept h hlt (by simp) h10, frozen_kept h hlt kf, size_kept h hlt⟩
theorem own_store {ops : Array Oper} {rest : List Oper} {o : Oper} {a : Act} {wr : World} {Q : Exit → Act → World → Prop} {p k : Tmp} {cells : Array Value} (w : World) (hgd : o.guard = none)
    (ho : o.op = .store 24 (.tmp p) (.tmp k)) (hx : a.eval (.tmp p) = .pointer (some ⟨w.heap.size, 0, none⟩)) (hy : a.eval (.tmp k) = .agg cells) (hs : cells.size = 11) (h1 : cells.all (·.oneCell') = true)
    (hg : wr.heap[w.heap.size]? = some (.cells #[.int .i64 0, .int .i64 0, .int .i64 0, .int .i64 0, .int .i64 0, .int .u64 0, .int .i64 0, .bool false, .bool false, .bool false, .int .i64 0] 24)) (h : wpList Tryd.prog ops Q rest (a.put o.dst undef) (wr.setRow w.heap.size cells)) : wpList Tryd.prog ops Q (o :: rest) a wr :=
  wpList_store_row hgd 24 (.tmp p) (.tmp k) ho w.heap.size cells hx hy 24 #[.int .i64 0, .int .i64 0, .int .i64 0, .int .i64 0, .int .i64 0, .int .u64 0, .int .i64 0, .bool false, .bool false, .bool false, .int .i64 0] hg (by rw [hs]; kernel_rfl) hs.symm h1 h
theorem own_back {fn : Func} {R : Ending → World → Prop} {a : Act} {wr : World} {cs : Array Value} {p : Tmp} (w : World) (hr : fn.results = #[.cell p 24]) (hp : a.tmps.getD p undef = .pointer (some ⟨w.heap.size, 0, none⟩))
    (hs : cs.size = 11) (hd : a.defers = []) (hg : wr.heap[w.heap.size]? = some (.cells #[.int .i64 0, .int .i64 0, .int .i64 0, .int .i64 0, .int .i64 0, .int .u64 0, .int .i64 0, .bool false, .bool false, .bool false, .int .i64 0] 24)) (hR : R (.returned (.agg cs)) (wr.setRow w.heap.size cs)) : bodyPost Tryd.prog fn R .ret a (wr.setRow w.heap.size cs) :=
  bodyPost_ret (results_cell_row hr _ _ w.heap.size 24 cs (0, 0) _ hp (setRow_heap _ _ #[.int .i64 0, .int .i64 0, .int .i64 0, .int .i64 0, .int .i64 0, .int .u64 0, .int .i64 0, .bool false, .bool false, .bool false, .int .i64 0] _ _ _ hg) Tryd.underlying24 rfl (by rw [hs]; kernel_rfl)) hd hR
theorem own_back2 {fn : Func} {R : Ending → World → Prop} {a : Act} {wr : World} {cs : Array Value} {p q : Tmp} (w : World) (hr : fn.results = #[.cell p 24, .tmp q]) (hp : a.tmps.getD p undef = .pointer (some ⟨w.heap.size, 0, none⟩))
    (hs : cs.size = 11) (hd : a.defers = []) (hg : wr.heap[w.heap.size]? = some (.cells #[.int .i64 0, .int .i64 0, .int .i64 0, .int .i64 0, .int .i64 0, .int .u64 0, .int .i64 0, .bool false, .bool false, .bool false, .int .i64 0] 24)) (hR : R (.returned (.tuple #[.agg cs, a.tmps.getD q undef])) (wr.setRow w.heap.size cs)) : bodyPost Tryd.prog fn R .ret a (wr.setRow w.heap.size cs) :=
  bodyPost_ret (results_row_tmp hr _ _ w.heap.size 24 cs (0, 0) _ hp (setRow_heap _ _ #[.int .i64 0, .int .i64 0, .int .i64 0, .int .i64 0, .int .i64 0, .int .u64 0, .int .i64 0, .bool false, .bool false, .bool false, .int .i64 0] _ _ _ hg) Tryd.underlying24 rfl (by rw [hs]; kernel_rfl)) hd hR
theorem own_back11 {fn : Func} {R : Ending → World → Prop} {a : Act} {wr : World} {p : Tmp} {v0 v1 v2 v3 v4 v5 v6 v7 v8 v9 v10 : Value} (w : World) (hr : fn.results = #[.cell p 24]) (hp : a.tmps.getD p undef = .pointer (some ⟨w.heap.size, 0, none⟩)) (hd : a.defers = [])
    (hg : wr.heap[w.heap.size]? = some (.cells #[.int .i64 0, .int .i64 0, .int .i64 0, .int .i64 0, .int .i64 0, .int .u64 0, .int .i64 0, .bool false, .bool false, .bool false, .int .i64 0] 24)) (hR : R (.returned (.agg #[v0, v1, v2, v3, v4, v5, v6, v7, v8, v9, v10])) (((((((((((wr.setCell ⟨w.heap.size, 0, none⟩ v0).setCell ⟨w.heap.size, 1, none⟩ v1).setCell ⟨w.heap.size, 2, none⟩ v2).setCell ⟨w.heap.size, 3, none⟩ v3).setCell ⟨w.heap.size, 4, none⟩ v4).setCell ⟨w.heap.size, 5, none⟩ v5).setCell ⟨w.heap.size, 6, none⟩ v6).setCell ⟨w.heap.size, 7, none⟩ v7).setCell ⟨w.heap.size, 8, none⟩ v8).setCell ⟨w.heap.size, 9, none⟩ v9).setCell ⟨w.heap.size, 10, none⟩ v10)) :
    bodyPost Tryd.prog fn R .ret a (((((((((((wr.setCell ⟨w.heap.size, 0, none⟩ v0).setCell ⟨w.heap.size, 1, none⟩ v1).setCell ⟨w.heap.size, 2, none⟩ v2).setCell ⟨w.heap.size, 3, none⟩ v3).setCell ⟨w.heap.size, 4, none⟩ v4).setCell ⟨w.heap.size, 5, none⟩ v5).setCell ⟨w.heap.size, 6, none⟩ v6).setCell ⟨w.heap.size, 7, none⟩ v7).setCell ⟨w.heap.size, 8, none⟩ v8).setCell ⟨w.heap.size, 9, none⟩ v9).setCell ⟨w.heap.size, 10, none⟩ v10) := by
  have hc := heap_put (k := 10) (heap_put (k := 9) (heap_put (k := 8) (heap_put (k := 7) (heap_put (k := 6) (heap_put (k := 5) (heap_put (k := 4) (heap_put (k := 3) (heap_put (k := 2) (heap_put (k := 1) (heap_put (k := 0) (hg) (by simp) v0) (by simp) v1) (by simp) v2) (by simp) v3) (by simp) v4) (by simp) v5) (by simp) v6) (by simp) v7) (by simp) v8) (by simp) v9) (by simp) v10
  rw [show ((((((((((((#[.int .i64 0, .int .i64 0, .int .i64 0, .int .i64 0, .int .i64 0, .int .u64 0, .int .i64 0, .bool false, .bool false, .bool false, .int .i64 0] : Array Value).setIfInBounds 0 v0).setIfInBounds 1 v1).setIfInBounds 2 v2).setIfInBounds 3 v3).setIfInBounds 4 v4).setIfInBounds 5 v5).setIfInBounds 6 v6).setIfInBounds 7 v7).setIfInBounds 8 v8).setIfInBounds 9 v9).setIfInBounds 10 v10) = #[v0, v1, v2, v3, v4, v5, v6, v7, v8, v9, v10] from by simp] at hc
  exact bodyPost_ret (results_cell_row hr _ _ w.heap.size 24 _ (0, 0) _ hp hc Tryd.underlying24 rfl (by kernel_rfl)) hd hR
end Go.Proofs.YtjnalgilkdoalaaDoor
