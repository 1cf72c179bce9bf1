/- What R, I, S, B, U and J of the reference of package shape come to: the very words and errors of the package. Conditions: the arguments are ints of Go. -/
import Derived.Test.YtjnalgilkdoalaaDoorWith
import Derived.Test.YtjnalgilkdoalaaDoorAsm
namespace Go.Proofs.YtjnalgilkdoalaaDoor
open Go.RowKit

theorem wd0_bit (i : Nat) : (wd64 0).getLsbD i = false := by
  rw [show wd64 0 = 0 from rfl]; simp
theorem In_zero (k : Nat) : In 0 k = true := In_yes (by omega) (by have := Nat.two_pow_pos k; exact_mod_cast this)
theorem fields1_any (op f3 f7 a : Int) (t : TypeId) (w : World) :
    Calls Tryd.prog 74 #[.int .i64 op, .int .i64 f3, .int .i64 f7, .slice (some ⟨w.heap.size, 0, none⟩) 1 1] (w.alloc (.cells #[.int .i64 a] t)) fun e w' =>
      e = .returned (.int .i64 (fldE op f3 f7 [a])) ∧ w.alloc (.cells #[.int .i64 a] t) = w' :=
  fields_of op f3 f7 w.heap.size 1 [a] rfl (by omega) _ (nums_new w [a] t)
theorem fields2_any (op f3 f7 a b : Int) (t : TypeId) (w : World) :
    Calls Tryd.prog 74 #[.int .i64 op, .int .i64 f3, .int .i64 f7, .slice (some ⟨w.heap.size, 0, none⟩) 2 2] (w.alloc (.cells #[.int .i64 a, .int .i64 b] t)) fun e w' =>
      e = .returned (.int .i64 (fldE op f3 f7 [a, b])) ∧ w.alloc (.cells #[.int .i64 a, .int .i64 b] t) = w' :=
  fields_of op f3 f7 w.heap.size 2 [a, b] rfl (by omega) _ (nums_new w [a, b] t)
theorem fields3_any (op f3 f7 a b c : Int) (t : TypeId) (w : World) :
    Calls Tryd.prog 74 #[.int .i64 op, .int .i64 f3, .int .i64 f7, .slice (some ⟨w.heap.size, 0, none⟩) 3 3] (w.alloc (.cells #[.int .i64 a, .int .i64 b, .int .i64 c] t)) fun e w' =>
      e = .returned (.int .i64 (fldE op f3 f7 [a, b, c])) ∧ w.alloc (.cells #[.int .i64 a, .int .i64 b, .int .i64 c] t) = w' :=
  fields_of op f3 f7 w.heap.size 3 [a, b, c] rfl (by omega) _ (nums_new w [a, b, c] t)
theorem fldE_R (op rd f3 rs1 rs2 f7 : Int) : fldE op f3 f7 [rd, rs1, rs2] = if Fit op rd f3 rs1 rs2 f7 then 0 else 1 := by
  unfold fldE regsOk Fit
  simp only [List.all_cons, List.all_nil, Bool.and_true]
  congr 1
  simp only [eq_iff_iff, Bool.and_eq_true]
  constructor <;> (intro h; simp only [h, and_self])
theorem fldE_I (op rd f3 rs1 : Int) : fldE op f3 0 [rd, rs1] = if Fit op rd f3 rs1 0 0 then 0 else 1 := by
  unfold fldE regsOk Fit
  simp only [In_zero, List.all_cons, List.all_nil, Bool.and_true]
  congr 1
  simp only [eq_iff_iff, Bool.and_eq_true]
  constructor <;> (intro h; simp only [h, and_self])
theorem coverI : ∀ j, j < 32 → (spreadSrc LI j).isSome = decide (20 ≤ j) := by decide +kernel
theorem clearI {op rd f3 rs1 : Int} (h : Fit op rd f3 rs1 0 0 = true) : Clear (lay op rd f3 rs1 0 0) LI := by
  intro j hj hs
  rw [coverI j hj] at hs
  rw [lay_bit h j hj]
  simp at hs
  unfold lb
  simp only [wd0_bit]
  repeat' split
  all_goals first | rfl | omega
theorem fldE_S (op f3 rs1 rs2 : Int) : fldE op f3 0 [rs1, rs2] = if Fit op 0 f3 rs1 rs2 0 then 0 else 1 := by
  unfold fldE regsOk Fit
  simp only [In_zero, List.all_cons, List.all_nil, Bool.and_true]
  congr 1
  simp only [eq_iff_iff, Bool.and_eq_true]
  constructor <;> (intro h; simp only [h, and_self])
theorem coverS : ∀ j, j < 32 → (spreadSrc LS j).isSome = (decide (7 ≤ j ∧ j < 12) || decide (25 ≤ j)) := by decide +kernel
theorem clearS {op f3 rs1 rs2 : Int} (h : Fit op 0 f3 rs1 rs2 0 = true) : Clear (lay op 0 f3 rs1 rs2 0) LS := by
  intro j hj hs
  rw [coverS j hj] at hs
  rw [lay_bit h j hj]
  simp at hs
  unfold lb
  simp only [wd0_bit]
  repeat' split
  all_goals first | rfl | omega
theorem fldE_B (op f3 rs1 rs2 : Int) : fldE op f3 0 [rs1, rs2] = if Fit op 0 f3 rs1 rs2 0 then 0 else 1 := by
  unfold fldE regsOk Fit
  simp only [In_zero, List.all_cons, List.all_nil, Bool.and_true]
  congr 1
  simp only [eq_iff_iff, Bool.and_eq_true]
  constructor <;> (intro h; simp only [h, and_self])
theorem coverB : ∀ j, j < 32 → (spreadSrc LB j).isSome = (decide (7 ≤ j ∧ j < 12) || decide (25 ≤ j)) := by decide +kernel
theorem clearB {op f3 rs1 rs2 : Int} (h : Fit op 0 f3 rs1 rs2 0 = true) : Clear (lay op 0 f3 rs1 rs2 0) LB := by
  intro j hj hs
  rw [coverB j hj] at hs
  rw [lay_bit h j hj]
  simp at hs
  unfold lb
  simp only [wd0_bit]
  repeat' split
  all_goals first | rfl | omega
theorem fldE_U (op rd : Int) : fldE op 0 0 [rd] = if Fit op rd 0 0 0 0 then 0 else 1 := by
  unfold fldE regsOk Fit
  simp only [In_zero, List.all_cons, List.all_nil, Bool.and_true]
theorem coverU : ∀ j, j < 32 → (spreadSrc LU j).isSome = decide (12 ≤ j) := by decide +kernel
theorem clearU {op rd : Int} (h : Fit op rd 0 0 0 0 = true) : Clear (lay op rd 0 0 0 0) LU := by
  intro j hj hs
  rw [coverU j hj] at hs
  rw [lay_bit h j hj]
  simp at hs
  unfold lb
  simp only [wd0_bit]
  repeat' split
  all_goals first | rfl | omega
theorem fldE_J (op rd : Int) : fldE op 0 0 [rd] = if Fit op rd 0 0 0 0 then 0 else 1 := by
  unfold fldE regsOk Fit
  simp only [In_zero, List.all_cons, List.all_nil, Bool.and_true]
theorem coverJ : ∀ j, j < 32 → (spreadSrc LJ j).isSome = decide (12 ≤ j) := by decide +kernel
theorem clearJ {op rd : Int} (h : Fit op rd 0 0 0 0 = true) : Clear (lay op rd 0 0 0 0) LJ := by
  intro j hj hs
  rw [coverJ j hj] at hs
  rw [lay_bit h j hj]
  simp at hs
  unfold lb
  simp only [wd0_bit]
  repeat' split
  all_goals first | rfl | omega
end Go.Proofs.YtjnalgilkdoalaaDoor
