/- What With, fields and lay of the reference of package shape come to. Conditions: named at each. -/
import Derived.Test.YthcdgjpdnlickaaFrom
namespace Go.Proofs.Ythcdgjpdnlickaa
open Go.RowKit

theorem withTo_yes (w : BitVec 32) (F : List Int) (x : BitVec 64) (k : Nat) (h : 0 ≤ F.getD k 0) :
    withTo w F x (k + 1) = withTo w F x k &&& ~~~((1 : BitVec 32) <<< (F.getD k 0).toNat) ||| lo32 (x >>> k &&& 1) <<< (F.getD k 0).toNat := by
  conv => lhs; unfold withTo
  rw [if_pos h]
theorem withTo_no (w : BitVec 32) (F : List Int) (x : BitVec 64) (k : Nat) (h : ¬ 0 ≤ F.getD k 0) : withTo w F x (k + 1) = withTo w F x k := by
  conv => lhs; unfold withTo
  rw [if_neg h]
theorem with_code (W : BitVec 32) (v : BitVec 64) (k : Nat) (f : Int) :
    bits BinOp.or IntKind.u32 (bits BinOp.andNot IntKind.u32 (q W) (2 ^ f.toNat % 4294967296)) (bits BinOp.and IntKind.u64 (u v / 2 ^ k) 1 % 4294967296 * 2 ^ f.toNat % 4294967296) =
      q (W &&& ~~~((1 : BitVec 32) <<< f.toNat) ||| lo32 (v >>> k &&& 1) <<< f.toNat) := by
  have e1 : (2 : Int) ^ f.toNat % 4294967296 = q ((1 : BitVec 32) <<< f.toNat) := by rw [← q_one_shl, wrap32_u32, Int.one_mul]
  rw [e1, u_shr, u_and1, mod_lo, ← wrap32_u32, q_shl, q_andNot, q_or]
theorem FI_lt (k : Nat) : FI.getD k 0 < 32 := by
  by_cases h : k < 12
  · revert h; revert k; decide +kernel
  · rw [List.getD_eq_getElem?_getD, List.getElem?_eq_none (by show 12 ≤ k; omega)]; decide
theorem refImmI (x : BitVec 32) (w : World) :
    Calls Try.prog 41 #[.int .u32 (q x), .int .u8 73] w fun e w' => e = .returned (.int .u64 (u (immOf (zx x) LI))) ∧ On w w' := by
  rw [immOf_ref sameI]
  exact refImm_of 73 FI 12 rfl (by omega) (fun k => Int.lt_trans (FI_lt k) (by omega)) fromI_any x w
theorem FS_lt (k : Nat) : FS.getD k 0 < 32 := by
  by_cases h : k < 12
  · revert h; revert k; decide +kernel
  · rw [List.getD_eq_getElem?_getD, List.getElem?_eq_none (by show 12 ≤ k; omega)]; decide
theorem refImmS (x : BitVec 32) (w : World) :
    Calls Try.prog 41 #[.int .u32 (q x), .int .u8 83] w fun e w' => e = .returned (.int .u64 (u (immOf (zx x) LS))) ∧ On w w' := by
  rw [immOf_ref sameS]
  exact refImm_of 83 FS 12 rfl (by omega) (fun k => Int.lt_trans (FS_lt k) (by omega)) fromS_any x w
theorem FB_lt (k : Nat) : FB.getD k 0 < 32 := by
  by_cases h : k < 13
  · revert h; revert k; decide +kernel
  · rw [List.getD_eq_getElem?_getD, List.getElem?_eq_none (by show 13 ≤ k; omega)]; decide
theorem refImmB (x : BitVec 32) (w : World) :
    Calls Try.prog 41 #[.int .u32 (q x), .int .u8 66] w fun e w' => e = .returned (.int .u64 (u (immOf (zx x) LB))) ∧ On w w' := by
  rw [immOf_ref sameB]
  exact refImm_of 66 FB 13 rfl (by omega) (fun k => Int.lt_trans (FB_lt k) (by omega)) fromB_any x w
theorem FU_lt (k : Nat) : FU.getD k 0 < 32 := by
  by_cases h : k < 32
  · revert h; revert k; decide +kernel
  · rw [List.getD_eq_getElem?_getD, List.getElem?_eq_none (by show 32 ≤ k; omega)]; decide
theorem refImmU (x : BitVec 32) (w : World) :
    Calls Try.prog 41 #[.int .u32 (q x), .int .u8 85] w fun e w' => e = .returned (.int .u64 (u (immOf (zx x) LU))) ∧ On w w' := by
  rw [immOf_ref sameU]
  exact refImm_of 85 FU 32 rfl (by omega) (fun k => Int.lt_trans (FU_lt k) (by omega)) fromU_any x w
theorem FJ_lt (k : Nat) : FJ.getD k 0 < 32 := by
  by_cases h : k < 21
  · revert h; revert k; decide +kernel
  · rw [List.getD_eq_getElem?_getD, List.getElem?_eq_none (by show 21 ≤ k; omega)]; decide
theorem refImmJ (x : BitVec 32) (w : World) :
    Calls Try.prog 41 #[.int .u32 (q x), .int .u8 74] w fun e w' => e = .returned (.int .u64 (u (immOf (zx x) LJ))) ∧ On w w' := by
  rw [immOf_ref sameJ]
  exact refImm_of 74 FJ 21 rfl (by omega) (fun k => Int.lt_trans (FJ_lt k) (by omega)) fromJ_any x w
theorem lay_shift (n : Int) (k : Nat) (m : Int) (hm : m = 2 ^ k) : n % 4294967296 * m % 4294967296 = q (BitVec.ofInt 32 n <<< k) := by
  rw [hm, ← q_shl, ← q_ofInt, wrap32_u32, wrap32_u32]
theorem lay_code (op rd f3 rs1 rs2 f7 : Int) :
    bits BinOp.or IntKind.u32 (bits BinOp.or IntKind.u32 (bits BinOp.or IntKind.u32 (bits BinOp.or IntKind.u32 (bits BinOp.or IntKind.u32 (op % 4294967296) (rd % 4294967296 * 128 % 4294967296)) (f3 % 4294967296 * 4096 % 4294967296)) (rs1 % 4294967296 * 32768 % 4294967296)) (rs2 % 4294967296 * 1048576 % 4294967296)) (f7 % 4294967296 * 33554432 % 4294967296) = q (lay op rd f3 rs1 rs2 f7) := by
  rw [lay_shift rd 7 128 (by decide), lay_shift f3 12 4096 (by decide), lay_shift rs1 15 32768 (by decide), lay_shift rs2 20 1048576 (by decide), lay_shift f7 25 33554432 (by decide), ← wrap32_u32, q_ofInt op, q_or, q_or, q_or, q_or, q_or]
  rfl
/-- are these registers? -/
def regsOk (F : List Int) : Bool := F.all fun r => In r 5
/-- the error of fields: 1, or none -/
def fldE (op f3 f7 : Int) (F : List Int) : Int := if In op 7 && In f3 3 && In f7 7 && regsOk F then 0 else 1
theorem fldE_bad {op f3 f7 : Int} {F : List Int} (h : In op 7 = false ∨ In f3 3 = false ∨ In f7 7 = false ∨ regsOk F = false) : fldE op f3 f7 F = 1 := by
  unfold fldE
  rcases h with h | h | h | h
  · rw [h]; rfl
  · rw [h, Bool.and_false]; rfl
  · rw [h, Bool.and_false]; rfl
  · rw [h, Bool.and_false]; rfl
theorem In_neg {n : Int} {k : Nat} (h : n < 0) : In n k = false := by unfold In; rw [decide_eq_false (by omega)]; rfl
theorem In_big {n : Int} {k : Nat} (h : 2 ^ k ≤ n) : In n k = false := by unfold In; rw [decide_eq_false (show ¬ n < 2 ^ k by omega), Bool.and_false]
theorem In_yes {n : Int} {k : Nat} (h : 0 ≤ n) (h2 : n < 2 ^ k) : In n k = true := by unfold In; rw [decide_eq_true h, decide_eq_true h2]; rfl
theorem regs_next {F : List Int} {k : Nat} (hk : k < F.length) (h : regsOk (F.take k) = true) (h2 : In (F.getD k 0) 5 = true) : regsOk (F.take (k + 1)) = true := by
  have e : F[k]? = some (F.getD k 0) := by rw [List.getD_eq_getElem?_getD, List.getElem?_eq_getElem hk]; rfl
  unfold regsOk at *
  rw [take_at e, List.all_append, h, List.all_cons, h2]; rfl
theorem regs_bad {F : List Int} {k : Nat} (hk : k < F.length) (h2 : In (F.getD k 0) 5 = false) : regsOk F = false := by
  have e : F[k]? = some (F.getD k 0) := by rw [List.getD_eq_getElem?_getD, List.getElem?_eq_getElem hk]; rfl
  cases c : regsOk F
  · rfl
  · exact absurd (List.all_eq_true.1 c _ (List.mem_of_getElem? e)) (by rw [h2]; simp)
end Go.Proofs.Ythcdgjpdnlickaa
