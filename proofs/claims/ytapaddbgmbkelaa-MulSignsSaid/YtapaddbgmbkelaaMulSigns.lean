/- Proves that for any two words the high half of the product with signs is that without, less the one where the other is below 0, and that the first test of the law holds. Conditions: none. -/
import Derived.Test.YtapaddbgmbkelaaRows
import Derived.Test.YtapaddbgmbkelaaMulA
import Derived.WalkKit
import Derived.ProofKit
import Derived.OpenShut
import Derived.Below
import Derived.Carry
import Derived.ShutString
namespace Go.Proofs.Ytapaddbgmbkelaa.mulSigns
open Go.ChangeShapes Go.WideShapes Go.ChangeAt Go.RowKit
set_option linter.unusedVariables false

theorem own : ownKnob Try.prog.godebug = none := by kernel_rfl

theorem walk (a0 : Int) (w0 : (Lit.int .u64 a0).wf = true) (a1 : Int) (w1 : (Lit.int .u64 a1).wf = true) (w : World) :
    Calls Try.prog 7 #[.int .u64 a0, .int .u64 a1] w fun e w' => e = .returned (.bool true) ∧ Below w.heap.size w w' := by
  obtain ⟨a, rfl⟩ := u_of w0
  obtain ⟨b, rfl⟩ := u_of w1
  clear w0 w1
  have sgn : ∀ v : BitVec 64, decide (wrap64 (u v) < 0) = v.getLsbD 63 := fun v => by rw [← IntWalk.i64_left, wrap_sg, top_sg]
  have ta := sgn a
  have tb := sgn b
  have M2 : mres 2 false a b = mres 3 false a b - (if a.getLsbD 63 then b else 0) := rfl
  have M1 : mres 1 false a b = mres 3 false a b - (if a.getLsbD 63 then b else 0) - (if b.getLsbD 63 then a else 0) := rfl
  have HB := Lib.hid (On.refl w)
  clear sgn
  cases hx : a.getLsbD 63 <;> cases hy : b.getLsbD 63
  · rw [hx] at ta M1 M2
    rw [hy] at tb M1
    have t2 : (u (mres 2 false a b) == u (mres 3 false a b)) = true := by rw [M2]; first | (simp; done) | simp [u_sub]
    have t1 : (u (mres 1 false a b) == u (mres 3 false a b)) = true := by rw [M1]; first | (simp; done) | simp [u_sub]
    clear M1 M2 hx hy
    go_enter Try.func7, Try.ntmps7
    go_wp2_with (first | (go_at_call 11; refine (awake5_yes _).mono ?_; rintro e wn ⟨rfl, hb⟩; have HB := Lib.hid (HB.out.trans hb); clear hb) | (go_at_call 12; refine (mresult_any _ _ _ _ _).mono ?_; rintro e wn ⟨rfl, hb⟩; have HB := Lib.hid (HB.out.trans hb); clear hb))
    go_ret
    exact ⟨rfl, HB.out⟩
  · rw [hx] at ta M1 M2
    rw [hy] at tb M1
    have t2 : (u (mres 2 false a b) == u (mres 3 false a b)) = true := by rw [M2]; first | (simp; done) | simp [u_sub]
    have t1 : (u (mres 1 false a b) == IntKind.u64.wrap (u (mres 3 false a b) - u a)) = true := by rw [M1]; first | (simp; done) | simp [u_sub]
    clear M1 M2 hx hy
    go_enter Try.func7, Try.ntmps7
    go_wp2_with (first | (go_at_call 11; refine (awake5_yes _).mono ?_; rintro e wn ⟨rfl, hb⟩; have HB := Lib.hid (HB.out.trans hb); clear hb) | (go_at_call 12; refine (mresult_any _ _ _ _ _).mono ?_; rintro e wn ⟨rfl, hb⟩; have HB := Lib.hid (HB.out.trans hb); clear hb))
    go_ret
    exact ⟨rfl, HB.out⟩
  · rw [hx] at ta M1 M2
    rw [hy] at tb M1
    have t2 : (u (mres 2 false a b) == IntKind.u64.wrap (u (mres 3 false a b) - u b)) = true := by rw [M2]; first | (simp; done) | simp [u_sub]
    have t1 : (u (mres 1 false a b) == IntKind.u64.wrap (u (mres 3 false a b) - u b)) = true := by rw [M1]; first | (simp; done) | simp [u_sub]
    clear M1 M2 hx hy
    go_enter Try.func7, Try.ntmps7
    go_wp2_with (first | (go_at_call 11; refine (awake5_yes _).mono ?_; rintro e wn ⟨rfl, hb⟩; have HB := Lib.hid (HB.out.trans hb); clear hb) | (go_at_call 12; refine (mresult_any _ _ _ _ _).mono ?_; rintro e wn ⟨rfl, hb⟩; have HB := Lib.hid (HB.out.trans hb); clear hb))
    go_ret
    exact ⟨rfl, HB.out⟩
  · rw [hx] at ta M1 M2
    rw [hy] at tb M1
    have t2 : (u (mres 2 false a b) == IntKind.u64.wrap (u (mres 3 false a b) - u b)) = true := by rw [M2]; first | (simp; done) | simp [u_sub]
    have t1 : (u (mres 1 false a b) == IntKind.u64.wrap (IntKind.u64.wrap (u (mres 3 false a b) - u b) - u a)) = true := by rw [M1]; first | (simp; done) | simp [u_sub]
    clear M1 M2 hx hy
    go_enter Try.func7, Try.ntmps7
    go_wp2_with (first | (go_at_call 11; refine (awake5_yes _).mono ?_; rintro e wn ⟨rfl, hb⟩; have HB := Lib.hid (HB.out.trans hb); clear hb) | (go_at_call 12; refine (mresult_any _ _ _ _ _).mono ?_; rintro e wn ⟨rfl, hb⟩; have HB := Lib.hid (HB.out.trans hb); clear hb))
    go_ret
    exact ⟨rfl, HB.out⟩

set_option maxRecDepth 100000 in
theorem lifted (os : Os) (started : os.Started) (H : Type) (enc : TypeId × Value → H) :
    ReturnsInHanded {} Try.checked os 7 .any (Rows.mulSignsSpec.pre6 enc Try.prog Try.f7 Rows.mulSignsRow.domain false) (Rows.mulSignsSpec.post enc Try.prog Try.f7 false true false false) := by
  refine returnsInHanded_of_change (C := Try.checked) own started (by kernel_rfl) Try.func7
    (ChangeSpec.witness6 (enc := enc) (C := Try.checked) false ⟨#[], #[.int .u64 0, .int .u64 0], []⟩ 12 (by kernel_rfl) (by kernel_rfl) (by kernel_rfl) (by kernel_rfl)) ?_
  intro W base args ds gs before hval0 hW hcnd _
  have hval : ∀ (j : Nat) t v, Try.f7.params[j]? = some t → args[j]? = some v → Value.okWide Try.prog W .any base t v := hval0
  have hW' := hW
  obtain ⟨p, q, hA0, hV, rfl, hfz, hnd⟩ := hW
  have hA : DataW.TrodAll enc Try.prog W 0 (fun _ => true) true Try.f7.params.toList args.toList ds p := hA0
  rw [Try.params7] at hA hval
  obtain ⟨v0, vs0, d0, ds0, p0, q0, hargs, rfl, rfl, h0, r0⟩ := trodAll_cons hA
  obtain ⟨v1, vs1, d1, ds1, p1, q1, rfl, rfl, rfl, h1, r1⟩ := trodAll_cons r0
  obtain ⟨rfl, rfl, rfl⟩ := trodAll_nil r1
  obtain rfl : args = #[v0, v1] := by cases args; simp_all
  obtain ⟨rfl, rfl⟩ := trodVars_none hV
  obtain ⟨a0, rfl, rfl, rfl, w0⟩ := open_int Try.underlying22 (hval 0 22 v0 rfl rfl) h0
  obtain ⟨a1, rfl, rfl, rfl, w1⟩ := open_int Try.underlying22 (hval 1 22 v1 rfl rfl) h1
  clear hA0 hval0
  refine (walk a0 w0 a1 w1 W).mono fun e W' ⟨he, bel⟩ => ?_
  subst he
  exact ⟨_, rfl, _, _, _, [], _, [], hW', trodAll_mk1 (shut_bool Try.underlying4 _), (trodAll_cons_mk (shut_int Try.underlying22 w0) (trodAll_cons_mk (shut_int Try.underlying22 w1) trodAll_mk0)), rfl, bel.frame _, fun h => by cases h⟩

theorem over : Rows.mulSignsRow.holds Try.pinned (OpenSpec.ofChange Rows.mulSignsSpec) :=
  OpenClaim.holds_of_wide 7 Try.f7 rfl rfl rfl rfl rfl rfl rfl ⟨rfl, rfl, rfl, rfl, rfl⟩ rfl rfl rfl rfl rfl (by kernel_rfl) Try.func7 (by kernel_rfl)
    (of_decide_eq_true (by kernel_rfl)) (by unfold Func.isWrapper; first | (rw [if_pos (by decide +kernel)]; kernel_rfl) | (rw [if_neg (by decide +kernel)]; exact ⟨rfl, rfl⟩))
    (fun os started H enc _ => lifted os started H enc)

theorem proved : Rows.MulSignsSaid :=
  over
#print axioms proved
end Go.Proofs.Ytapaddbgmbkelaa.mulSigns
