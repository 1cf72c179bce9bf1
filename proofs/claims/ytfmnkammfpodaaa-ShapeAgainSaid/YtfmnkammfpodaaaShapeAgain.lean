/- Proves that for every word what package shape lays out of its fields and of its immediate, in each of the six formats, is that word, and that the first test of the law holds. Conditions: none. -/
import Derived.Test.YtfmnkammfpodaaaRows
import Derived.Test.YtfmnkammfpodaaaAwake2
import Derived.Test.YtfmnkammfpodaaaBackB
import Derived.WalkKit
import Derived.ProofKit
import Derived.OpenShut
import Derived.Below
import Derived.Carry
import Derived.ShutString
namespace Go.Proofs.Ytfmnkammfpodaaa.shapeAgain
open Go.ChangeShapes Go.WideShapes Go.ChangeAt Go.RowKit
set_option linter.unusedVariables false

theorem own : ownKnob Try.prog.godebug = none := by kernel_rfl

theorem walk (a0 : Int) (w0 : (Lit.int .u32 a0).wf = true) (w : World) :
    Calls Try.prog 8 #[.int .u32 a0] w fun e w' => e = .returned (.bool true) ∧ Below w.heap.size w w' := by
  obtain ⟨x, rfl⟩ := q_of w0
  clear w0
  have sI : wrap64 (u (immOf (zx x) LI)) = sg (immOf (zx x) LI) := by rw [← IntWalk.i64_left, wrap_sg]
  have sS : wrap64 (u (immOf (zx x) LS)) = sg (immOf (zx x) LS) := by rw [← IntWalk.i64_left, wrap_sg]
  have sB : wrap64 (u (immOf (zx x) LB)) = sg (immOf (zx x) LB) := by rw [← IntWalk.i64_left, wrap_sg]
  have sU : wrap64 (u (immOf (zx x) LU)) = sg (immOf (zx x) LU) := by rw [← IntWalk.i64_left, wrap_sg]
  have sJ : wrap64 (u (immOf (zx x) LJ)) = sg (immOf (zx x) LJ) := by rw [← IntWalk.i64_left, wrap_sg]
  have HB := Lib.hid (On.refl w)
  go_enter Try.func8, Try.ntmps8
  go_wp2_with (first | (go_at_call 11; refine (awake2_yes _).mono ?_; rintro e wn ⟨rfl, hb⟩; have HB := Lib.hid (HB.out.trans hb); clear hb) | (go_at_call 12; refine (opcode_any _ _).mono ?_; rintro e wn ⟨rfl, hb⟩; have HB := Lib.hid (HB.out.trans hb); clear hb) | (go_at_call 14; refine (rd_any _ _).mono ?_; rintro e wn ⟨rfl, hb⟩; have HB := Lib.hid (HB.out.trans hb); clear hb) | (go_at_call 16; refine (rs1_any _ _).mono ?_; rintro e wn ⟨rfl, hb⟩; have HB := Lib.hid (HB.out.trans hb); clear hb) | (go_at_call 18; refine (rs2_any _ _).mono ?_; rintro e wn ⟨rfl, hb⟩; have HB := Lib.hid (HB.out.trans hb); clear hb) | (go_at_call 20; refine (funct3_any _ _).mono ?_; rintro e wn ⟨rfl, hb⟩; have HB := Lib.hid (HB.out.trans hb); clear hb) | (go_at_call 22; refine (funct7_any _ _).mono ?_; rintro e wn ⟨rfl, hb⟩; have HB := Lib.hid (HB.out.trans hb); clear hb) | (go_at_call 24; refine (immI_any _ _).mono ?_; rintro e wn ⟨rfl, hb⟩; have HB := Lib.hid (HB.out.trans hb); clear hb) | (go_at_call 26; refine (immS_any _ _).mono ?_; rintro e wn ⟨rfl, hb⟩; have HB := Lib.hid (HB.out.trans hb); clear hb) | (go_at_call 27; refine (immB_any _ _).mono ?_; rintro e wn ⟨rfl, hb⟩; have HB := Lib.hid (HB.out.trans hb); clear hb) | (go_at_call 28; refine (immU_any _ _).mono ?_; rintro e wn ⟨rfl, hb⟩; have HB := Lib.hid (HB.out.trans hb); clear hb) | (go_at_call 29; refine (immJ_any _ _).mono ?_; rintro e wn ⟨rfl, hb⟩; have HB := Lib.hid (HB.out.trans hb); clear hb) | (go_at_call 30; refine (R_again x _).mono ?_; rintro e wn ⟨rfl, hb⟩; have HB := Lib.hid (HB.out.trans hb); clear hb) | (go_at_call 32; refine (I_again x _).mono ?_; rintro e wn ⟨rfl, hb⟩; have HB := Lib.hid (HB.out.trans hb); clear hb) | (go_at_call 34; refine (S_again x _).mono ?_; rintro e wn ⟨rfl, hb⟩; have HB := Lib.hid (HB.out.trans hb); clear hb) | (go_at_call 36; refine (B_again x _).mono ?_; rintro e wn ⟨rfl, hb⟩; have HB := Lib.hid (HB.out.trans hb); clear hb) | (go_at_call 38; refine (U_again x _).mono ?_; rintro e wn ⟨rfl, hb⟩; have HB := Lib.hid (HB.out.trans hb); clear hb) | (go_at_call 40; refine (J_again x _).mono ?_; rintro e wn ⟨rfl, hb⟩; have HB := Lib.hid (HB.out.trans hb); clear hb))
  go_ret
  exact ⟨rfl, HB.out⟩

set_option maxRecDepth 100000 in
theorem lifted (os : Os) (started : os.Started) (H : Type) (enc : TypeId × Value → H) :
    ReturnsInHanded {} Try.checked os 8 .any (Rows.shapeAgainSpec.pre6 enc Try.prog Try.f8 Rows.shapeAgainRow.domain false) (Rows.shapeAgainSpec.post enc Try.prog Try.f8 false true false false) := by
  refine returnsInHanded_of_change (C := Try.checked) own started (by kernel_rfl) Try.func8
    (ChangeSpec.witness6 (enc := enc) (C := Try.checked) false ⟨#[], #[.int .u32 0], []⟩ 12 (by kernel_rfl) (by kernel_rfl) (by kernel_rfl) (by kernel_rfl)) ?_
  intro W base args ds gs before hval0 hW hcnd _
  have hval : ∀ (j : Nat) t v, Try.f8.params[j]? = some t → args[j]? = some v → Value.okWide Try.prog W .any base t v := hval0
  have hW' := hW
  obtain ⟨p, q, hA0, hV, rfl, hfz, hnd⟩ := hW
  have hA : DataW.TrodAll enc Try.prog W 0 (fun _ => true) true Try.f8.params.toList args.toList ds p := hA0
  rw [Try.params8] at hA hval
  obtain ⟨v0, vs0, d0, ds0, p0, q0, hargs, rfl, rfl, h0, r0⟩ := trodAll_cons hA
  obtain ⟨rfl, rfl, rfl⟩ := trodAll_nil r0
  obtain rfl : args = #[v0] := by cases args; simp_all
  obtain ⟨rfl, rfl⟩ := trodVars_none hV
  obtain ⟨a0, rfl, rfl, rfl, w0⟩ := open_int Try.underlying22 (hval 0 22 v0 rfl rfl) h0
  clear hA0 hval0
  refine (walk a0 w0 W).mono fun e W' ⟨he, bel⟩ => ?_
  subst he
  exact ⟨_, rfl, _, _, _, [], _, [], hW', trodAll_mk1 (shut_bool Try.underlying4 _), (trodAll_cons_mk (shut_int Try.underlying22 w0) trodAll_mk0), rfl, bel.frame _, fun h => by cases h⟩

theorem over : Rows.shapeAgainRow.holds Try.pinned (OpenSpec.ofChange Rows.shapeAgainSpec) :=
  OpenClaim.holds_of_wide 8 Try.f8 rfl rfl rfl rfl rfl rfl rfl ⟨rfl, rfl, rfl, rfl, rfl⟩ rfl rfl rfl rfl rfl (by kernel_rfl) Try.func8 (by kernel_rfl)
    (of_decide_eq_true (by kernel_rfl)) (by unfold Func.isWrapper; first | (rw [if_pos (by decide +kernel)]; kernel_rfl) | (rw [if_neg (by decide +kernel)]; exact ⟨rfl, rfl⟩))
    (fun os started H enc _ => lifted os started H enc)

theorem proved : Rows.ShapeAgainSaid :=
  over
#print axioms proved
end Go.Proofs.Ytfmnkammfpodaaa.shapeAgain
