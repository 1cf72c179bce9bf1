/- Proves that for all numbers B, U and J of package shape make the very words, and tell the very errors, of the document's tables, and that the first test of the law holds. Conditions: none. -/
import Derived.Test.YtfmnkammfpodaaaRows
import Derived.Test.YtfmnkammfpodaaaAwake2
import Derived.Test.YtfmnkammfpodaaaRefB
import Derived.Test.YtfmnkammfpodaaaFlat
import Derived.WalkKit
import Derived.ProofKit
import Derived.OpenShut
import Derived.Below
import Derived.Carry
import Derived.ShutString
namespace Go.Proofs.Ytfmnkammfpodaaa.shapeJumps
open Go.ChangeShapes Go.WideShapes Go.ChangeAt Go.RowKit
set_option linter.unusedVariables false

theorem own : ownKnob Try.prog.godebug = none := by kernel_rfl

theorem walk (a0_0 : Int) (w0_0 : (Lit.int .i64 a0_0).wf = true) (a0_1 : Int) (w0_1 : (Lit.int .i64 a0_1).wf = true) (a0_2 : Int) (w0_2 : (Lit.int .i64 a0_2).wf = true) (a0_3 : Int) (w0_3 : (Lit.int .i64 a0_3).wf = true) (a0_4 : Int) (w0_4 : (Lit.int .i64 a0_4).wf = true) (a0_5 : Int) (w0_5 : (Lit.int .i64 a0_5).wf = true) (a0_6 : Int) (w0_6 : (Lit.int .i64 a0_6).wf = true) (w : World) :
    Calls Try.prog 6 #[.agg #[.int .i64 a0_0, .int .i64 a0_1, .int .i64 a0_2, .int .i64 a0_3, .int .i64 a0_4, .int .i64 a0_5, .int .i64 a0_6]] w fun e w' => e = .returned (.bool true) ∧ Below w.heap.size w w' := by
  have H0 := Lib.hid (i64_of w0_0)
  have H1 := Lib.hid (i64_of w0_1)
  have H2 := Lib.hid (i64_of w0_2)
  have H3 := Lib.hid (i64_of w0_3)
  have H4 := Lib.hid (i64_of w0_4)
  have H5 := Lib.hid (i64_of w0_5)
  have H6 := Lib.hid (i64_of w0_6)
  clear w0_0 w0_1 w0_2 w0_3 w0_4 w0_5 w0_6
  have hb : On (w.alloc (.cells #[.int .i64 a0_0, .int .i64 a0_1, .int .i64 a0_2, .int .i64 a0_3, .int .i64 a0_4, .int .i64 a0_5, .int .i64 a0_6] 30)) (w.alloc (.cells #[.int .i64 a0_0, .int .i64 a0_1, .int .i64 a0_2, .int .i64 a0_3, .int .i64 a0_4, .int .i64 a0_5, .int .i64 a0_6] 30)) := On.refl _
  have c0 : ∀ wr, On (w.alloc (.cells #[.int .i64 a0_0, .int .i64 a0_1, .int .i64 a0_2, .int .i64 a0_3, .int .i64 a0_4, .int .i64 a0_5, .int .i64 a0_6] 30)) wr → wr.cell? ⟨w.heap.size, 0, none⟩ = some (.int .i64 a0_0) := fun wr h => on_new h 0 rfl
  have c1 : ∀ wr, On (w.alloc (.cells #[.int .i64 a0_0, .int .i64 a0_1, .int .i64 a0_2, .int .i64 a0_3, .int .i64 a0_4, .int .i64 a0_5, .int .i64 a0_6] 30)) wr → wr.cell? ⟨w.heap.size, 1, none⟩ = some (.int .i64 a0_1) := fun wr h => on_new h 1 rfl
  have c2 : ∀ wr, On (w.alloc (.cells #[.int .i64 a0_0, .int .i64 a0_1, .int .i64 a0_2, .int .i64 a0_3, .int .i64 a0_4, .int .i64 a0_5, .int .i64 a0_6] 30)) wr → wr.cell? ⟨w.heap.size, 2, none⟩ = some (.int .i64 a0_2) := fun wr h => on_new h 2 rfl
  have c3 : ∀ wr, On (w.alloc (.cells #[.int .i64 a0_0, .int .i64 a0_1, .int .i64 a0_2, .int .i64 a0_3, .int .i64 a0_4, .int .i64 a0_5, .int .i64 a0_6] 30)) wr → wr.cell? ⟨w.heap.size, 3, none⟩ = some (.int .i64 a0_3) := fun wr h => on_new h 3 rfl
  have c4 : ∀ wr, On (w.alloc (.cells #[.int .i64 a0_0, .int .i64 a0_1, .int .i64 a0_2, .int .i64 a0_3, .int .i64 a0_4, .int .i64 a0_5, .int .i64 a0_6] 30)) wr → wr.cell? ⟨w.heap.size, 4, none⟩ = some (.int .i64 a0_4) := fun wr h => on_new h 4 rfl
  have c5 : ∀ wr, On (w.alloc (.cells #[.int .i64 a0_0, .int .i64 a0_1, .int .i64 a0_2, .int .i64 a0_3, .int .i64 a0_4, .int .i64 a0_5, .int .i64 a0_6] 30)) wr → wr.cell? ⟨w.heap.size, 5, none⟩ = some (.int .i64 a0_5) := fun wr h => on_new h 5 rfl
  have c6 : ∀ wr, On (w.alloc (.cells #[.int .i64 a0_0, .int .i64 a0_1, .int .i64 a0_2, .int .i64 a0_3, .int .i64 a0_4, .int .i64 a0_5, .int .i64 a0_6] 30)) wr → wr.cell? ⟨w.heap.size, 6, none⟩ = some (.int .i64 a0_6) := fun wr h => on_new h 6 rfl
  go_enter Try.func6, Try.ntmps6
  go_wp2_with (first | (go_at_call 11; refine (awake2_yes _).mono ?_; rintro e wn ⟨rfl, hb'⟩; have hb := hb.trans hb'; clear hb') | (go_at_call 36; refine (B_any _ _ _ _ _ H0.out H2.out H3.out H4.out _).mono ?_; rintro e wn ⟨rfl, hb'⟩; have hb := hb.trans hb'; clear hb') | (go_at_call 37; refine (refB_any _ _ _ _ _ H6.out _).mono ?_; rintro e wn ⟨rfl, hb'⟩; have hb := hb.trans hb'; clear hb') | (go_at_call 38; refine (U_any _ _ _ H0.out H1.out _).mono ?_; rintro e wn ⟨rfl, hb'⟩; have hb := hb.trans hb'; clear hb') | (go_at_call 39; refine (refU_any _ _ _ H6.out _).mono ?_; rintro e wn ⟨rfl, hb'⟩; have hb := hb.trans hb'; clear hb') | (go_at_call 40; refine (J_any _ _ _ H0.out H1.out _).mono ?_; rintro e wn ⟨rfl, hb'⟩; have hb := hb.trans hb'; clear hb') | (go_at_call 41; refine (refJ_any _ _ _ H6.out _).mono ?_; rintro e wn ⟨rfl, hb'⟩; have hb := hb.trans hb'; clear hb'))
  go_ret
  exact ⟨rfl, ((On.refl w).alloc _).trans hb⟩

set_option maxRecDepth 100000 in
theorem lifted (os : Os) (started : os.Started) (H : Type) (enc : TypeId × Value → H) :
    ReturnsInHanded {} Try.checked os 6 .any (Rows.shapeJumpsSpec.pre6 enc Try.prog Try.f6 Rows.shapeJumpsRow.domain false) (Rows.shapeJumpsSpec.post enc Try.prog Try.f6 false true false false) := by
  refine returnsInHanded_of_change (C := Try.checked) own started (by kernel_rfl) Try.func6
    (ChangeSpec.witness6 (enc := enc) (C := Try.checked) false ⟨#[], #[.agg #[.int .i64 0, .int .i64 0, .int .i64 0, .int .i64 0, .int .i64 0, .int .i64 0, .int .i64 0]], []⟩ 12 (by kernel_rfl) (by kernel_rfl) (by kernel_rfl) (by kernel_rfl)) ?_
  intro W base args ds gs before hval0 hW hcnd _
  have hval : ∀ (j : Nat) t v, Try.f6.params[j]? = some t → args[j]? = some v → Value.okWide Try.prog W .any base t v := hval0
  have hW' := hW
  obtain ⟨p, q, hA0, hV, rfl, hfz, hnd⟩ := hW
  have hA : DataW.TrodAll enc Try.prog W 0 (fun _ => true) true Try.f6.params.toList args.toList ds p := hA0
  rw [Try.params6] at hA hval
  obtain ⟨v0, vs0, d0, ds0, p0, q0, hargs, rfl, rfl, h0, r0⟩ := trodAll_cons hA
  obtain ⟨rfl, rfl, rfl⟩ := trodAll_nil r0
  obtain rfl : args = #[v0] := by cases args; simp_all
  obtain ⟨rfl, rfl⟩ := trodVars_none hV
  have k0 := h0
  have l0 : ∀ x ∈ p0, x.block < W.heap.size := fun x hx => by have := hW'.lt x (by simp [hx]); simpa using this
  obtain ⟨c0, rfl, f0⟩ := open_flat 12 [.int .i64, .int .i64, .int .i64, .int .i64, .int .i64, .int .i64, .int .i64] (by kernel_rfl) (by kernel_rfl) (.inl ⟨_, Try.underlying30⟩) (hval 0 30 v0 rfl rfl) h0
  clear h0
  obtain ⟨a0_0, c0, rfl, w0_0, f0⟩ := f0
  obtain ⟨a0_1, c0, rfl, w0_1, f0⟩ := f0
  obtain ⟨a0_2, c0, rfl, w0_2, f0⟩ := f0
  obtain ⟨a0_3, c0, rfl, w0_3, f0⟩ := f0
  obtain ⟨a0_4, c0, rfl, w0_4, f0⟩ := f0
  obtain ⟨a0_5, c0, rfl, w0_5, f0⟩ := f0
  obtain ⟨a0_6, c0, rfl, w0_6, f0⟩ := f0
  obtain rfl : c0 = [] := f0
  clear hA0 hval0
  refine (walk a0_0 w0_0 a0_1 w0_1 a0_2 w0_2 a0_3 w0_3 a0_4 w0_4 a0_5 w0_5 a0_6 w0_6 W).mono fun e W' ⟨he, bel⟩ => ?_
  subst he
  exact ⟨_, rfl, _, _, _, [], _, [], hW', trodAll_mk1 (shut_bool Try.underlying4 _), (trodAll_cons_mk (Below.trod (by kernel_rfl) (by kernel_rfl) (of_decide_eq_true (by kernel_rfl)) k0 bel l0) trodAll_mk0), rfl, bel.frame _, fun h => by cases h⟩

theorem over : Rows.shapeJumpsRow.holds Try.pinned (OpenSpec.ofChange Rows.shapeJumpsSpec) :=
  OpenClaim.holds_of_wide 6 Try.f6 rfl rfl rfl rfl rfl rfl rfl ⟨rfl, rfl, rfl, rfl, rfl⟩ rfl rfl rfl rfl rfl (by kernel_rfl) Try.func6 (by kernel_rfl)
    (of_decide_eq_true (by kernel_rfl)) (by unfold Func.isWrapper; first | (rw [if_pos (by decide +kernel)]; kernel_rfl) | (rw [if_neg (by decide +kernel)]; exact ⟨rfl, rfl⟩))
    (fun os started H enc _ => lifted os started H enc)

theorem proved : Rows.ShapeJumpsSaid :=
  over
#print axioms proved
end Go.Proofs.Ytfmnkammfpodaaa.shapeJumps
