/- Proves that for any two words quotient times divisor, and the remainder, is the dividend, without signs and with them, that the remainder is nearer to 0 than the divisor and has the dividend's sign, that by 0 the remainder is the dividend, and that the first test of the law holds. Conditions: none. -/
import Derived.Test.YtapaddbgmbkelaaRows
import Derived.Test.YtapaddbgmbkelaaMulA
import Derived.WalkKit
import Derived.ProofKit
import Derived.OpenShut
import Derived.Below
import Derived.Carry
import Derived.ShutString
namespace Go.Proofs.Ytapaddbgmbkelaa.mulWhole
open Go.ChangeShapes Go.WideShapes Go.ChangeAt Go.RowKit
set_option linter.unusedVariables false

theorem own : ownKnob Try.prog.godebug = none := by kernel_rfl

set_option maxRecDepth 100000 in
set_option maxHeartbeats 1000000 in
theorem walk (a0 : Int) (w0 : (Lit.int .u64 a0).wf = true) (a1 : Int) (w1 : (Lit.int .u64 a1).wf = true) (w : World) :
    Calls Try.prog 5 #[.int .u64 a0, .int .u64 a1] w fun e w' => e = .returned (.bool true) ∧ Below w.heap.size w w' := by
  obtain ⟨a, rfl⟩ := u_of w0
  obtain ⟨b, rfl⟩ := u_of w1
  clear w0 w1
  have HB := Lib.hid (On.refl w)
  by_cases hz : b = 0
  · have t0 : (u b == 0) = true := by rw [hz]; rfl
    have t1 : (u (mres 7 false a b) == u a) = true := by rw [show mres 7 false a b = a by show (if b = 0 then _ else _) = _; rw [if_pos hz]]; simp
    have t2 : (u (mres 6 false a b) == u a) = true := by rw [show mres 6 false a b = a by show (if b = 0 then _ else _) = _; rw [if_pos hz]]; simp
    clear hz
    go_enter Try.func5, Try.ntmps5
    go_wp2_with (first | (go_at_call 11; refine (awake5_yes _).mono ?_; rintro e wn ⟨rfl, hb⟩; have HB := Lib.hid (HB.out.trans hb); clear hb) | (go_at_call 12; refine (mresult_any _ _ _ _ _).mono ?_; rintro e wn ⟨rfl, hb⟩; have HB := Lib.hid (HB.out.trans hb); clear hb))
    go_ret
    exact ⟨rfl, HB.out⟩
  · have t0 : (u b == 0) = false := by rw [u_zero, u_beq]; simpa using hz
    have q5 : mres 5 false a b = a / b := by show (if b = 0 then _ else _) = _; rw [if_neg hz]
    have q7 : mres 7 false a b = a % b := by show (if b = 0 then _ else _) = _; rw [if_neg hz]
    have q4 : mres 4 false a b = a.sdiv b := by show (if b = 0 then _ else _) = _; rw [if_neg hz]
    have q6 : mres 6 false a b = a.srem b := by show (if b = 0 then _ else _) = _; rw [if_neg hz]
    have hb0 : 0 < b.toNat := by
      rcases Nat.eq_zero_or_pos b.toNat with h | h
      · exact absurd (BitVec.eq_of_toNat_eq (by rw [h]; rfl)) hz
      · exact h
    have t1 : (IntKind.u64.wrap (IntKind.u64.wrap (u (mres 5 false a b) * u b) + u (mres 7 false a b)) != u a) = false := by
      rw [q5, q7, u_mul, u_add, show a / b * b + a % b = a by
        apply BitVec.eq_of_toNat_eq
        have h := Nat.div_add_mod a.toNat b.toNat
        have hl := a.isLt
        rw [BitVec.toNat_add, BitVec.toNat_mul, BitVec.toNat_udiv, BitVec.toNat_umod, Nat.mul_comm, Nat.mod_add_mod, h]; omega]
      simp
    have t2 : decide (u b ≤ u (mres 7 false a b)) = false := by
      rw [q7]; unfold u; rw [BitVec.toNat_umod]; have := Nat.mod_lt a.toNat hb0; simp; omega
    have t3 : (IntKind.u64.wrap (IntKind.u64.wrap (u (mres 4 false a b) * u b) + u (mres 6 false a b)) != u a) = false := by
      rw [q4, q6, u_mul, u_add, show a.sdiv b * b + a.srem b = a by
        apply BitVec.eq_of_toInt_eq
        rw [BitVec.toInt_add, BitVec.toInt_mul, BitVec.toInt_sdiv, BitVec.toInt_srem, Int.bmod_mul_bmod, Int.bmod_add_bmod, Int.mul_comm, Int.mul_tdiv_add_tmod, BitVec.toInt_bmod_cancel]]
      simp
    have sgn : ∀ v : BitVec 64, wrap64 (u v) = sg v := fun v => by rw [← IntWalk.i64_left, wrap_sg]
    have hx : wrap64 (u (mres 6 false a b)) = (sg a).tmod (sg b) := by rw [sgn, q6]; exact BitVec.toInt_srem a b
    have hy := sgn b
    have ha := sgn a
    have by1 : -9223372036854775808 ≤ sg b ∧ sg b ≤ 9223372036854775807 := ⟨BitVec.le_toInt b, Int.le_of_lt_add_one BitVec.toInt_lt⟩
    have by2 : -9223372036854775808 ≤ sg a ∧ sg a ≤ 9223372036854775807 := ⟨BitVec.le_toInt a, Int.le_of_lt_add_one BitVec.toInt_lt⟩
    have hy0 : sg b ≠ 0 := by
      intro h; have : wd64 (sg b) = wd64 0 := by rw [h]
      rw [wd_sg] at this; exact hz this
    have hlt : ((sg a).tmod (sg b)).natAbs < (sg b).natAbs := by
      rw [Int.natAbs_tmod]; exact Nat.mod_lt _ (by omega)
    have hneg : sg a < 0 → (sg a).tmod (sg b) ≤ 0 := fun h => by
      have := Int.tmod_nonneg (a := -(sg a)) (sg b) (by omega); rw [Int.neg_tmod] at this; omega
    have hpos : 0 ≤ sg a → 0 ≤ (sg a).tmod (sg b) := fun h => Int.tmod_nonneg _ h
    generalize (sg a).tmod (sg b) = x at *
    generalize sg b = y at *
    generalize sg a = z at *
    obtain ⟨by1, by1'⟩ := by1
    obtain ⟨by2, by2'⟩ := by2
    clear q4 q5 q6 q7 sgn hz hb0
    rcases Int.lt_trichotomy x 0 with h | h | h
    · have hz0 : z < 0 := by
        rcases Int.lt_or_le z 0 with g | g
        · exact g
        · have := hpos g; omega
      have e1 : (x != 0) = true := by simp; omega
      have e2 : decide (x < 0) = true := by simpa using h
      have e3 : decide (z < 0) = true := by simpa using hz0
      have e4 : (x == 0) = false := by simp; omega
      have e5 : decide (0 < x) = false := by simp; omega
      rcases Int.lt_or_le y 0 with g | g
      · have f1 : decide (y < 0) = true := by simpa using g
        have f2 : decide (y < x) = true := by simp; omega
        clear hneg hpos hlt hy0 h hz0 g by1 by1' by2 by2'
        go_enter Try.func5, Try.ntmps5
        go_wp2_with (first | (go_at_call 11; refine (awake5_yes _).mono ?_; rintro e wn ⟨rfl, hb⟩; have HB := Lib.hid (HB.out.trans hb); clear hb) | (go_at_call 12; refine (mresult_any _ _ _ _ _).mono ?_; rintro e wn ⟨rfl, hb⟩; have HB := Lib.hid (HB.out.trans hb); clear hb))
        go_ret
        exact ⟨rfl, HB.out⟩
      · have f1 : decide (y < 0) = false := by simp; omega
        have f2 : decide (0 < y) = true := by simp; omega
        have f3 : wrap64 (-x) = -x := IntWalk.wrap64_in _ (by omega)
        have f4 : decide (-x < y) = true := by simp; omega
        clear hneg hpos hlt hy0 h hz0 g by1 by1' by2 by2'
        go_enter Try.func5, Try.ntmps5
        go_wp2_with (first | (go_at_call 11; refine (awake5_yes _).mono ?_; rintro e wn ⟨rfl, hb⟩; have HB := Lib.hid (HB.out.trans hb); clear hb) | (go_at_call 12; refine (mresult_any _ _ _ _ _).mono ?_; rintro e wn ⟨rfl, hb⟩; have HB := Lib.hid (HB.out.trans hb); clear hb))
        go_ret
        exact ⟨rfl, HB.out⟩
    · subst h
      clear hneg hpos hlt hy0 by1 by1' by2 by2'
      go_enter Try.func5, Try.ntmps5
      go_wp2_with (first | (go_at_call 11; refine (awake5_yes _).mono ?_; rintro e wn ⟨rfl, hb⟩; have HB := Lib.hid (HB.out.trans hb); clear hb) | (go_at_call 12; refine (mresult_any _ _ _ _ _).mono ?_; rintro e wn ⟨rfl, hb⟩; have HB := Lib.hid (HB.out.trans hb); clear hb))
      go_ret
      exact ⟨rfl, HB.out⟩
    · have hz0 : 0 ≤ z := by
        rcases Int.lt_or_le z 0 with g | g
        · have := hneg g; omega
        · exact g
      have e1 : (x != 0) = true := by simp; omega
      have e2 : decide (x < 0) = false := by simp; omega
      have e3 : decide (z < 0) = false := by simp; omega
      have e4 : (x == 0) = false := by simp; omega
      have e5 : decide (0 < x) = true := by simpa using h
      rcases Int.lt_or_le y 0 with g | g
      · have f1 : decide (y < 0) = true := by simpa using g
        have f2 : decide (0 < y) = false := by simp; omega
        by_cases g2 : y = -9223372036854775808
        · have f3 : (y == -9223372036854775808) = true := by simpa using g2
          clear hneg hpos hlt hy0 h hz0 g by1 by1' by2 by2' g2
          go_enter Try.func5, Try.ntmps5
          go_wp2_with (first | (go_at_call 11; refine (awake5_yes _).mono ?_; rintro e wn ⟨rfl, hb⟩; have HB := Lib.hid (HB.out.trans hb); clear hb) | (go_at_call 12; refine (mresult_any _ _ _ _ _).mono ?_; rintro e wn ⟨rfl, hb⟩; have HB := Lib.hid (HB.out.trans hb); clear hb))
          go_ret
          exact ⟨rfl, HB.out⟩
        · have f3 : (y == -9223372036854775808) = false := by simpa using g2
          have f4 : wrap64 (-y) = -y := IntWalk.wrap64_in _ (by omega)
          have f5 : decide (x < -y) = true := by simp; omega
          clear hneg hpos hlt hy0 h hz0 g by1 by1' by2 by2' g2
          go_enter Try.func5, Try.ntmps5
          go_wp2_with (first | (go_at_call 11; refine (awake5_yes _).mono ?_; rintro e wn ⟨rfl, hb⟩; have HB := Lib.hid (HB.out.trans hb); clear hb) | (go_at_call 12; refine (mresult_any _ _ _ _ _).mono ?_; rintro e wn ⟨rfl, hb⟩; have HB := Lib.hid (HB.out.trans hb); clear hb))
          go_ret
          exact ⟨rfl, HB.out⟩
      · have f1 : decide (y < 0) = false := by simp; omega
        have f2 : decide (0 < y) = true := by simp; omega
        have f3 : decide (x < y) = true := by simp; omega
        clear hneg hpos hlt hy0 h hz0 g by1 by1' by2 by2'
        go_enter Try.func5, Try.ntmps5
        go_wp2_with (first | (go_at_call 11; refine (awake5_yes _).mono ?_; rintro e wn ⟨rfl, hb⟩; have HB := Lib.hid (HB.out.trans hb); clear hb) | (go_at_call 12; refine (mresult_any _ _ _ _ _).mono ?_; rintro e wn ⟨rfl, hb⟩; have HB := Lib.hid (HB.out.trans hb); clear hb))
        go_ret
        exact ⟨rfl, HB.out⟩

set_option maxRecDepth 100000 in
theorem lifted (os : Os) (started : os.Started) (H : Type) (enc : TypeId × Value → H) :
    ReturnsInHanded {} Try.checked os 5 .any (Rows.mulWholeSpec.pre6 enc Try.prog Try.f5 Rows.mulWholeRow.domain false) (Rows.mulWholeSpec.post enc Try.prog Try.f5 false true false false) := by
  refine returnsInHanded_of_change (C := Try.checked) own started (by kernel_rfl) Try.func5
    (ChangeSpec.witness6 (enc := enc) (C := Try.checked) false ⟨#[], #[.int .u64 0, .int .u64 0], []⟩ 12 (by kernel_rfl) (by kernel_rfl) (by kernel_rfl) (by kernel_rfl)) ?_
  intro W base args ds gs before hval0 hW hcnd _
  have hval : ∀ (j : Nat) t v, Try.f5.params[j]? = some t → args[j]? = some v → Value.okWide Try.prog W .any base t v := hval0
  have hW' := hW
  obtain ⟨p, q, hA0, hV, rfl, hfz, hnd⟩ := hW
  have hA : DataW.TrodAll enc Try.prog W 0 (fun _ => true) true Try.f5.params.toList args.toList ds p := hA0
  rw [Try.params5] at hA hval
  obtain ⟨v0, vs0, d0, ds0, p0, q0, hargs, rfl, rfl, h0, r0⟩ := trodAll_cons hA
  obtain ⟨v1, vs1, d1, ds1, p1, q1, rfl, rfl, rfl, h1, r1⟩ := trodAll_cons r0
  obtain ⟨rfl, rfl, rfl⟩ := trodAll_nil r1
  obtain rfl : args = #[v0, v1] := by cases args; simp_all
  obtain ⟨rfl, rfl⟩ := trodVars_none hV
  obtain ⟨a0, rfl, rfl, rfl, w0⟩ := open_int Try.underlying22 (hval 0 22 v0 rfl rfl) h0
  obtain ⟨a1, rfl, rfl, rfl, w1⟩ := open_int Try.underlying22 (hval 1 22 v1 rfl rfl) h1
  clear hA0 hval0
  refine (walk a0 w0 a1 w1 W).mono fun e W' ⟨he, bel⟩ => ?_
  subst he
  exact ⟨_, rfl, _, _, _, [], _, [], hW', trodAll_mk1 (shut_bool Try.underlying4 _), (trodAll_cons_mk (shut_int Try.underlying22 w0) (trodAll_cons_mk (shut_int Try.underlying22 w1) trodAll_mk0)), rfl, bel.frame _, fun h => by cases h⟩

theorem over : Rows.mulWholeRow.holds Try.pinned (OpenSpec.ofChange Rows.mulWholeSpec) :=
  OpenClaim.holds_of_wide 5 Try.f5 rfl rfl rfl rfl rfl rfl rfl ⟨rfl, rfl, rfl, rfl, rfl⟩ rfl rfl rfl rfl rfl (by kernel_rfl) Try.func5 (by kernel_rfl)
    (of_decide_eq_true (by kernel_rfl)) (by unfold Func.isWrapper; first | (rw [if_pos (by decide +kernel)]; kernel_rfl) | (rw [if_neg (by decide +kernel)]; exact ⟨rfl, rfl⟩))
    (fun os started H enc _ => lifted os started H enc)

theorem proved : Rows.MulWholeSaid :=
  over
#print axioms proved
end Go.Proofs.Ytapaddbgmbkelaa.mulWhole
