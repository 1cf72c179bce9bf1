/- Proves that for all numbers what package shape lays out is read again: fields and immediates, in each of the six formats, and that the first test of the law holds. Conditions: none. -/
import Derived.Test.YtfmnkammfpodaaaRows
import Derived.Test.YtfmnkammfpodaaaBack00
import Derived.Test.YtfmnkammfpodaaaBack01
import Derived.Test.YtfmnkammfpodaaaBack10
import Derived.Test.YtfmnkammfpodaaaBack11
import Derived.Test.YtfmnkammfpodaaaFlat
import Derived.WalkKit
import Derived.ProofKit
import Derived.OpenShut
import Derived.Below
import Derived.Carry
import Derived.ShutString
namespace Go.Proofs.Ytfmnkammfpodaaa.shapeBack
open Go.ChangeShapes Go.WideShapes Go.ChangeAt Go.RowKit
set_option linter.unusedVariables false

theorem own : ownKnob Try.prog.godebug = none := by kernel_rfl

theorem walk (a0_0 : Int) (w0_0 : (Lit.int .i64 a0_0).wf = true) (a0_1 : Int) (w0_1 : (Lit.int .i64 a0_1).wf = true) (a0_2 : Int) (w0_2 : (Lit.int .i64 a0_2).wf = true) (a0_3 : Int) (w0_3 : (Lit.int .i64 a0_3).wf = true) (a0_4 : Int) (w0_4 : (Lit.int .i64 a0_4).wf = true) (a0_5 : Int) (w0_5 : (Lit.int .i64 a0_5).wf = true) (a0_6 : Int) (w0_6 : (Lit.int .i64 a0_6).wf = true) (w : World) :
    Calls Try.prog 7 #[.agg #[.int .i64 a0_0, .int .i64 a0_1, .int .i64 a0_2, .int .i64 a0_3, .int .i64 a0_4, .int .i64 a0_5, .int .i64 a0_6]] w fun e w' => e = .returned (.bool true) ∧ Below w.heap.size w w' := by
  obtain ⟨xR, xI, xS, xB, xU, xJ, eR, eI, eS, eB, eU, eJ, D⟩ := laid_all a0_0 a0_1 a0_2 a0_3 a0_4 a0_5 a0_6 (i64_of w0_0) (i64_of w0_1) (i64_of w0_2) (i64_of w0_3) (i64_of w0_4) (i64_of w0_5)
  cases hI : (eI != 0) <;> cases hS : (eS != 0)
  · exact back_00 _ _ _ _ _ _ _ _ _ _ _ _ _ _ _ _ _ _ _ D hI hS w
  · exact back_01 _ _ _ _ _ _ _ _ _ _ _ _ _ _ _ _ _ _ _ D hI hS w
  · exact back_10 _ _ _ _ _ _ _ _ _ _ _ _ _ _ _ _ _ _ _ D hI hS w
  · exact back_11 _ _ _ _ _ _ _ _ _ _ _ _ _ _ _ _ _ _ _ D hI hS w

set_option maxRecDepth 100000 in
theorem lifted (os : Os) (started : os.Started) (H : Type) (enc : TypeId × Value → H) :
    ReturnsInHanded {} Try.checked os 7 .any (Rows.shapeBackSpec.pre6 enc Try.prog Try.f7 Rows.shapeBackRow.domain false) (Rows.shapeBackSpec.post enc Try.prog Try.f7 false true false false) := by
  refine returnsInHanded_of_change (C := Try.checked) own started (by kernel_rfl) Try.func7
    (ChangeSpec.witness6 (enc := enc) (C := Try.checked) false ⟨#[], #[.agg #[.int .i64 0, .int .i64 0, .int .i64 0, .int .i64 0, .int .i64 0, .int .i64 0, .int .i64 0]], []⟩ 12 (by kernel_rfl) (by kernel_rfl) (by kernel_rfl) (by kernel_rfl)) ?_
  intro W base args ds gs before hval0 hW hcnd _
  have hval : ∀ (j : Nat) t v, Try.f7.params[j]? = some t → args[j]? = some v → Value.okWide Try.prog W .any base t v := hval0
  have hW' := hW
  obtain ⟨p, q, hA0, hV, rfl, hfz, hnd⟩ := hW
  have hA : DataW.TrodAll enc Try.prog W 0 (fun _ => true) true Try.f7.params.toList args.toList ds p := hA0
  rw [Try.params7] at hA hval
  obtain ⟨v0, vs0, d0, ds0, p0, q0, hargs, rfl, rfl, h0, r0⟩ := trodAll_cons hA
  obtain ⟨rfl, rfl, rfl⟩ := trodAll_nil r0
  obtain rfl : args = #[v0] := by cases args; simp_all
  obtain ⟨rfl, rfl⟩ := trodVars_none hV
  have k0 := h0
  have l0 : ∀ x ∈ p0, x.block < W.heap.size := fun x hx => by have := hW'.lt x (by simp [hx]); simpa using this
  obtain ⟨c0, rfl, f0⟩ := open_flat 12 [.int .i64, .int .i64, .int .i64, .int .i64, .int .i64, .int .i64, .int .i64] (by kernel_rfl) (by kernel_rfl) (.inl ⟨_, Try.underlying30⟩) (hval 0 30 v0 rfl rfl) h0
  clear h0
  obtain ⟨a0_0, c0, rfl, w0_0, f0⟩ := f0
  obtain ⟨a0_1, c0, rfl, w0_1, f0⟩ := f0
  obtain ⟨a0_2, c0, rfl, w0_2, f0⟩ := f0
  obtain ⟨a0_3, c0, rfl, w0_3, f0⟩ := f0
  obtain ⟨a0_4, c0, rfl, w0_4, f0⟩ := f0
  obtain ⟨a0_5, c0, rfl, w0_5, f0⟩ := f0
  obtain ⟨a0_6, c0, rfl, w0_6, f0⟩ := f0
  obtain rfl : c0 = [] := f0
  clear hA0 hval0
  refine (walk a0_0 w0_0 a0_1 w0_1 a0_2 w0_2 a0_3 w0_3 a0_4 w0_4 a0_5 w0_5 a0_6 w0_6 W).mono fun e W' ⟨he, bel⟩ => ?_
  subst he
  exact ⟨_, rfl, _, _, _, [], _, [], hW', trodAll_mk1 (shut_bool Try.underlying4 _), (trodAll_cons_mk (Below.trod (by kernel_rfl) (by kernel_rfl) (of_decide_eq_true (by kernel_rfl)) k0 bel l0) trodAll_mk0), rfl, bel.frame _, fun h => by cases h⟩

theorem over : Rows.shapeBackRow.holds Try.pinned (OpenSpec.ofChange Rows.shapeBackSpec) :=
  OpenClaim.holds_of_wide 7 Try.f7 rfl rfl rfl rfl rfl rfl rfl ⟨rfl, rfl, rfl, rfl, rfl⟩ rfl rfl rfl rfl rfl (by kernel_rfl) Try.func7 (by kernel_rfl)
    (of_decide_eq_true (by kernel_rfl)) (by unfold Func.isWrapper; first | (rw [if_pos (by decide +kernel)]; kernel_rfl) | (rw [if_neg (by decide +kernel)]; exact ⟨rfl, rfl⟩))
    (fun os started H enc _ => lifted os started H enc)

theorem proved : Rows.ShapeBackSaid :=
  over
#print axioms proved
end Go.Proofs.Ytfmnkammfpodaaa.shapeBack
