/- Proves that for every number of pages and every address Region, Cached, Device and Offset of package pma answer as the document's own reference does, and that the first test of the law holds. Conditions: none. -/
import Derived.Test.YtiimoaoiekpjoaaRows
import Derived.Test.YtiimoaoiekpjoaaPmaA
import Derived.Test.YtiimoaoiekpjoaaPmaR
import Derived.WalkKit
import Derived.ProofKit
import Derived.OpenShut
import Derived.Below
import Derived.Carry
import Derived.ShutString
namespace Go.Proofs.Ytiimoaoiekpjoaa.pmaRegions
open Go.ChangeShapes Go.WideShapes Go.ChangeAt Go.RowKit
set_option linter.unusedVariables false

theorem own : ownKnob Try.prog.godebug = none := by kernel_rfl

set_option maxRecDepth 100000 in
set_option maxHeartbeats 1000000 in
theorem walk (a0 : Int) (w0 : (Lit.int .i64 a0).wf = true) (a1 : Int) (w1 : (Lit.int .u64 a1).wf = true) (w : World) :
    Calls Try.prog 3 #[.int .i64 a0, .int .u64 a1] w fun e w' => e = .returned (.bool true) ∧ Below w.heap.size w w' := by
  obtain ⟨a, rfl⟩ := u_of w1
  clear w1
  have HB := Lib.hid (On.refl w)
  have hl := regA_le a0 a
  have K1 := region_any a0 w0 a
  have K2 := cached_any a0 w0 a
  have K3 := device_any a0 w0 a
  have K4 := offset_any a0 w0 a
  have R1 := rregion_any a0 w0 a
  have R3 := rdevice_any a0 w0 a
  have R4 := roffset_any a0 w0 a
  rw [← five_test] at K2
  generalize regA a0 a = r at *
  generalize offA a0 a = o at *
  generalize devA r = d at *
  generalize (r : Int) = n at *
  have K1 := Lib.hid K1
  have K2 := Lib.hid K2
  have K3 := Lib.hid K3
  have K4 := Lib.hid K4
  have R1 := Lib.hid R1
  have R3 := Lib.hid R3
  have R4 := Lib.hid R4
  go_enter Try.func3, Try.ntmps3
  go_wp2_with (first | (go_at_call 6; refine (awake9_yes _).mono ?_; rintro e wn ⟨rfl, hb⟩; have HB := Lib.hid (HB.out.trans hb); clear hb) | (go_at_call 7; refine (K1.out _).mono ?_; rintro e wn ⟨rfl, hb⟩; have HB := Lib.hid (HB.out.trans hb); clear hb) | (go_at_call 9; refine (K2.out _).mono ?_; rintro e wn ⟨rfl, hb⟩; have HB := Lib.hid (HB.out.trans hb); clear hb) | (go_at_call 10; refine (K3.out _).mono ?_; rintro e wn ⟨rfl, hb⟩; have HB := Lib.hid (HB.out.trans hb); clear hb) | (go_at_call 12; refine (K4.out _).mono ?_; rintro e wn ⟨rfl, hb⟩; have HB := Lib.hid (HB.out.trans hb); clear hb) | (go_at_call 8; refine (R1.out _).mono ?_; rintro e wn ⟨rfl, rfl⟩) | (go_at_call 11; refine (R3.out _).mono ?_; rintro e wn ⟨rfl, rfl⟩) | (go_at_call 13; refine (R4.out _).mono ?_; rintro e wn ⟨rfl, rfl⟩))
  go_ret
  exact ⟨by simp, HB.out⟩

set_option maxRecDepth 100000 in
theorem lifted (os : Os) (started : os.Started) (H : Type) (enc : TypeId × Value → H) :
    ReturnsInHanded {} Try.checked os 3 .any (Rows.pmaRegionsSpec.pre6 enc Try.prog Try.f3 Rows.pmaRegionsRow.domain false) (Rows.pmaRegionsSpec.post enc Try.prog Try.f3 false true false false) := by
  refine returnsInHanded_of_change (C := Try.checked) own started (by kernel_rfl) Try.func3
    (ChangeSpec.witness6 (enc := enc) (C := Try.checked) false ⟨#[], #[.int .i64 0, .int .u64 0], []⟩ 12 (by kernel_rfl) (by kernel_rfl) (by kernel_rfl) (by kernel_rfl)) ?_
  intro W base args ds gs before hval0 hW hcnd _
  have hval : ∀ (j : Nat) t v, Try.f3.params[j]? = some t → args[j]? = some v → Value.okWide Try.prog W .any base t v := hval0
  have hW' := hW
  obtain ⟨p, q, hA0, hV, rfl, hfz, hnd⟩ := hW
  have hA : DataW.TrodAll enc Try.prog W 0 (fun _ => true) true Try.f3.params.toList args.toList ds p := hA0
  rw [Try.params3] at hA hval
  obtain ⟨v0, vs0, d0, ds0, p0, q0, hargs, rfl, rfl, h0, r0⟩ := trodAll_cons hA
  obtain ⟨v1, vs1, d1, ds1, p1, q1, rfl, rfl, rfl, h1, r1⟩ := trodAll_cons r0
  obtain ⟨rfl, rfl, rfl⟩ := trodAll_nil r1
  obtain rfl : args = #[v0, v1] := by cases args; simp_all
  obtain ⟨rfl, rfl⟩ := trodVars_none hV
  obtain ⟨a0, rfl, rfl, rfl, w0⟩ := open_int Try.underlying3 (hval 0 3 v0 rfl rfl) h0
  obtain ⟨a1, rfl, rfl, rfl, w1⟩ := open_int Try.underlying22 (hval 1 22 v1 rfl rfl) h1
  clear hA0 hval0
  refine (walk a0 w0 a1 w1 W).mono fun e W' ⟨he, bel⟩ => ?_
  subst he
  exact ⟨_, rfl, _, _, _, [], _, [], hW', trodAll_mk1 (shut_bool Try.underlying4 _), (trodAll_cons_mk (shut_int Try.underlying3 w0) (trodAll_cons_mk (shut_int Try.underlying22 w1) trodAll_mk0)), rfl, bel.frame _, fun h => by cases h⟩

theorem over : Rows.pmaRegionsRow.holds Try.pinned (OpenSpec.ofChange Rows.pmaRegionsSpec) :=
  OpenClaim.holds_of_wide 3 Try.f3 rfl rfl rfl rfl rfl rfl rfl ⟨rfl, rfl, rfl, rfl, rfl⟩ rfl rfl rfl rfl rfl (by kernel_rfl) Try.func3 (by kernel_rfl)
    (of_decide_eq_true (by kernel_rfl)) (by unfold Func.isWrapper; first | (rw [if_pos (by decide +kernel)]; kernel_rfl) | (rw [if_neg (by decide +kernel)]; exact ⟨rfl, rfl⟩))
    (fun os started H enc _ => lifted os started H enc)

theorem proved : Rows.PmaRegionsSaid :=
  over
#print axioms proved
end Go.Proofs.Ytiimoaoiekpjoaa.pmaRegions
