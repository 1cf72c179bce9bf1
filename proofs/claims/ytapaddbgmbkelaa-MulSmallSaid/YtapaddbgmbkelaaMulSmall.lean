/- Proves that of numbers of 32 bits products and quotients are what Go makes of them, and that the first test of the law holds. Conditions: none. -/
import Derived.Test.YtapaddbgmbkelaaRows
import Derived.Test.YtapaddbgmbkelaaMulA
import Derived.Test.YtapaddbgmbkelaaMulX
import Derived.WalkKit
import Derived.ProofKit
import Derived.OpenShut
import Derived.Below
import Derived.Carry
import Derived.ShutString
import Derived.Lib.QuietBelow
namespace Go.Proofs.Ytapaddbgmbkelaa.mulSmall
open Go.ChangeShapes Go.WideShapes Go.ChangeAt Go.RowKit
set_option linter.unusedVariables false

theorem own : ownKnob Try.prog.godebug = none := by kernel_rfl

set_option maxRecDepth 100000 in
set_option maxHeartbeats 1000000 in
theorem walk (a0 : Int) (w0 : (Lit.int .i32 a0).wf = true) (a1 : Int) (w1 : (Lit.int .i32 a1).wf = true) (w : World) :
    Calls Try.prog 10 #[.int .i32 a0, .int .i32 a1] w fun e w' => e = .returned (.bool true) ∧ Below w.heap.size w w' := by
  have ba : -2147483648 ≤ a0 ∧ a0 ≤ 2147483647 := by simp [Lit.wf, IntKind.bits, IntKind.signed, IntKind.min, IntKind.max] at w0; omega
  have bb : -2147483648 ≤ a1 ∧ a1 ≤ 2147483647 := by simp [Lit.wf, IntKind.bits, IntKind.signed, IntKind.min, IntKind.max] at w1; omega
  clear w0 w1
  obtain ⟨ba, ba'⟩ := ba
  obtain ⟨bb, bb'⟩ := bb
  have HB := Lib.hid (On.refl w)
  have hx : IntKind.u64.wrap a0 = u (wd64 a0) := wrap_wd _
  have hy : IntKind.u64.wrap a1 = u (wd64 a1) := wrap_wd _
  have t1 := small_mul a0 a1
  have t2 := small_mulw a0 a1
  by_cases hz : a1 = 0
  · have t3 : (u (mres 4 true (wd64 a0) (wd64 a1)) == 18446744073709551615) = true := by rw [hz]; exact small_div0 a0
    have t4 : (u (mres 6 true (wd64 a0) (wd64 a1)) == u (wd64 a0)) = true := by rw [hz]; exact small_rem0 a0 ba ba'
    have hz2 : (a1 == 0) = true := by simpa using hz
    clear hz
    generalize wd64 a0 = X at *
    generalize wd64 a1 = Y at *
    go_enter Try.func10, Try.ntmps10
    go_wp2_with (first | (go_at_call 11; refine (awake5_yes _).mono ?_; rintro e wn ⟨rfl, hb⟩; have HB := Lib.hid (HB.out.trans hb); clear hb) | (go_at_call 12; refine (mresult_any _ _ _ _ _).mono ?_; rintro e wn ⟨rfl, hb⟩; have HB := Lib.hid (HB.out.trans hb); clear hb))
    go_ret
    exact ⟨rfl, HB.out⟩
  · have r1 := small_div a0 a1 ba ba' bb bb' hz
    have r2 := small_rem a0 a1 ba ba' bb bb' hz
    have r3 := small_divu a0 a1 (by omega)
    have r4 := small_remu a0 a1 (by omega)
    have hz2 : (a1 == 0) = false := by simpa using hz
    generalize wd64 a0 = X at *
    generalize wd64 a1 = Y at *
    obtain ⟨c, hc⟩ : ∃ c, a0 % 4294967296 = c := ⟨_, rfl⟩
    obtain ⟨d, hd⟩ : ∃ d, a1 % 4294967296 = d := ⟨_, rfl⟩
    have c0 : 0 ≤ c := by omega
    have c1 : c ≤ 4294967295 := by omega
    have d0 : 1 ≤ d := by omega
    have d1 : d ≤ 4294967295 := by omega
    rw [hc, hd] at r3 r4
    go_enter Try.func10, Try.ntmps10
    go_wp2_with (first | (go_at_call 11; refine (awake5_yes _).mono ?_; rintro e wn ⟨rfl, hb⟩; have HB := Lib.hid (HB.out.trans hb); clear hb) | (go_at_call 12; refine (mresult_any _ _ _ _ _).mono ?_; rintro e wn ⟨rfl, hb⟩; have HB := Lib.hid (HB.out.trans hb); clear hb))
    refine wp_region_quiet_below (by kernel_rfl) (by kernel_rfl) ?_
    repeat (go_big_quiet_step (first | (go_at_call 12; exact Calls.on_of (mresult_any _ _ _ _ _))))
    refine wpQuiet_nil ?_
    intro _ hw'
    obtain ⟨⟨dq, osq⟩, hw''⟩ := hw'
    subst hw''
    have HB2 := Lib.hid (HB.out.grow dq osq)
    go_wp2
    refine wp_region_quiet_below (by kernel_rfl) (by kernel_rfl) ?_
    repeat (go_big_quiet_step (first | (go_at_call 12; exact Calls.on_of (mresult_any _ _ _ _ _))))
    refine wpQuiet_nil ?_
    intro _ hw'
    obtain ⟨⟨dr, osr⟩, hw''⟩ := hw'
    subst hw''
    go_wp2
    go_ret
    exact ⟨rfl, HB2.out.grow _ _⟩

set_option maxRecDepth 100000 in
theorem lifted (os : Os) (started : os.Started) (H : Type) (enc : TypeId × Value → H) :
    ReturnsInHanded {} Try.checked os 10 .any (Rows.mulSmallSpec.pre6 enc Try.prog Try.f10 Rows.mulSmallRow.domain false) (Rows.mulSmallSpec.post enc Try.prog Try.f10 false true false false) := by
  refine returnsInHanded_of_change (C := Try.checked) own started (by kernel_rfl) Try.func10
    (ChangeSpec.witness6 (enc := enc) (C := Try.checked) false ⟨#[], #[.int .i32 0, .int .i32 0], []⟩ 12 (by kernel_rfl) (by kernel_rfl) (by kernel_rfl) (by kernel_rfl)) ?_
  intro W base args ds gs before hval0 hW hcnd _
  have hval : ∀ (j : Nat) t v, Try.f10.params[j]? = some t → args[j]? = some v → Value.okWide Try.prog W .any base t v := hval0
  have hW' := hW
  obtain ⟨p, q, hA0, hV, rfl, hfz, hnd⟩ := hW
  have hA : DataW.TrodAll enc Try.prog W 0 (fun _ => true) true Try.f10.params.toList args.toList ds p := hA0
  rw [Try.params10] at hA hval
  obtain ⟨v0, vs0, d0, ds0, p0, q0, hargs, rfl, rfl, h0, r0⟩ := trodAll_cons hA
  obtain ⟨v1, vs1, d1, ds1, p1, q1, rfl, rfl, rfl, h1, r1⟩ := trodAll_cons r0
  obtain ⟨rfl, rfl, rfl⟩ := trodAll_nil r1
  obtain rfl : args = #[v0, v1] := by cases args; simp_all
  obtain ⟨rfl, rfl⟩ := trodVars_none hV
  obtain ⟨a0, rfl, rfl, rfl, w0⟩ := open_int Try.underlying21 (hval 0 21 v0 rfl rfl) h0
  obtain ⟨a1, rfl, rfl, rfl, w1⟩ := open_int Try.underlying21 (hval 1 21 v1 rfl rfl) h1
  clear hA0 hval0
  refine (walk a0 w0 a1 w1 W).mono fun e W' ⟨he, bel⟩ => ?_
  subst he
  exact ⟨_, rfl, _, _, _, [], _, [], hW', trodAll_mk1 (shut_bool Try.underlying4 _), (trodAll_cons_mk (shut_int Try.underlying21 w0) (trodAll_cons_mk (shut_int Try.underlying21 w1) trodAll_mk0)), rfl, bel.frame _, fun h => by cases h⟩

theorem over : Rows.mulSmallRow.holds Try.pinned (OpenSpec.ofChange Rows.mulSmallSpec) :=
  OpenClaim.holds_of_wide 10 Try.f10 rfl rfl rfl rfl rfl rfl rfl ⟨rfl, rfl, rfl, rfl, rfl⟩ rfl rfl rfl rfl rfl (by kernel_rfl) Try.func10 (by kernel_rfl)
    (of_decide_eq_true (by kernel_rfl)) (by unfold Func.isWrapper; first | (rw [if_pos (by decide +kernel)]; kernel_rfl) | (rw [if_neg (by decide +kernel)]; exact ⟨rfl, rfl⟩))
    (fun os started H enc _ => lifted os started H enc)

theorem proved : Rows.MulSmallSaid :=
  over
#print axioms proved
end Go.Proofs.Ytapaddbgmbkelaa.mulSmall
