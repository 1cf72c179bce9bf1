/- Proves that for every word and every two numbers what Sext of package bits extends twice is extended once, and that with a sign it is the number that the lowest bits are, and that the first test of the law holds. Conditions: none. -/
import Derived.Test.YtlicpmokcnoeoaaRows
import Derived.Test.YtlicpmokcnoeoaaAwake
import Derived.Test.YtlicpmokcnoeoaaFacts
import Derived.WalkKit
import Derived.ProofKit
import Derived.OpenShut
namespace Go.Proofs.Ytlicpmokcnoeoaa.bitsSigns
open Go.ChangeShapes Go.WideShapes Go.ChangeAt Go.RowKit
set_option linter.unusedVariables false

theorem own : ownKnob Try.prog.godebug = none := by kernel_rfl

theorem walk (a0 : Int) (a1 : Int) (a2 : Int) (w0 : (Lit.int .u64 a0).wf = true) (w1 : (Lit.int .i64 a1).wf = true) (w2 : (Lit.int .i64 a2).wf = true) (w : World) :
    Calls Try.prog 8 #[.int .u64 a0, .int .i64 a1, .int .i64 a2] w fun e w' => e = .returned (.bool true) ∧ Grown w w' := by
  obtain ⟨v, rfl⟩ := u_of w0
  clear w0 w1 w2
  by_cases h1 : a1 < 1
  · have e1 : decide (a1 < 1) = true := decide_eq_true h1
    go_enter Try.func8, Try.ntmps8
    go_wp2_with (go_at_call 11; refine (awake_yes _).mono ?_; rintro e w' ⟨rfl, n1, rfl⟩)
    go_ret
    exact ⟨rfl, grown_drawn _ _⟩
  have e1 : decide (a1 < 1) = false := decide_eq_false h1
  by_cases h2 : 64 < a1
  · have e2 : decide (64 < a1) = true := decide_eq_true h2
    go_enter Try.func8, Try.ntmps8
    go_wp2_with (go_at_call 11; refine (awake_yes _).mono ?_; rintro e w' ⟨rfl, n1, rfl⟩)
    go_ret
    exact ⟨rfl, grown_drawn _ _⟩
  have e2 : decide (64 < a1) = false := decide_eq_false h2
  have t1 : (u (sxt (sxt v a1) a1) != u (sxt v a1)) = false := by rw [sxt_sxt v a1 a1 (by omega) (by omega)]; simp
  have t2 : (u (sxt (zxt v a1) a1) != u (sxt v a1)) = false := by rw [sxt_zxt v a1 (by omega)]; simp
  have t3 : (u (zxt (sxt v a1) a1) != u (zxt v a1)) = false := by rw [zxt_sxt]; simp
  have HS : Hid (a1 ≤ a2 → (u (sxt (sxt v a1) a2) != u (sxt v a1)) = false) := Lib.hid (fun h => by rw [sxt_sxt v a1 a2 (by omega) h]; simp)
  have HP : Hid (∀ w : World, Calls Try.prog 8 #[.int .u64 (u v), .int .i64 a1, .int .i64 a2] w fun e w' => e = .returned (.bool true) ∧ Grown w w') := Lib.hid (by
    intro w
    cases hv : v.getLsbD (a1 - 1).toNat
    · have t4 : (u (fld v (a1 - 1) (a1 - 1)) == 0) = true := by rw [fld_one v a1 (by omega) (by omega), hv]; decide
      have t5 : (u (sxt v a1) == u (zxt v a1)) = true := by rw [sxt_plain v a1 hv]; simp
      clear hv
      by_cases h3 : a1 ≤ a2
      · have e3 : decide (a1 ≤ a2) = true := decide_eq_true h3
        by_cases h4 : a2 ≤ 64
        · have e4 : decide (a2 ≤ 64) = true := decide_eq_true h4
          have t6 := HS.out h3
          go_enter Try.func8, Try.ntmps8
          go_wp2_with (first | (go_at_call 11; refine (awake_yes _).mono ?_; rintro e w' ⟨rfl, n1, rfl⟩) | (go_at_call 16; refine (sext_any _ _ _).mono ?_; rintro e w' ⟨rfl, rfl⟩) | (go_at_call 12; refine (field_any _ _ _ _).mono ?_; rintro e w' ⟨rfl, n2, rfl⟩) | (go_at_call 18; refine (zext_any _ _ _).mono ?_; rintro e w' ⟨rfl, rfl⟩))
          go_ret
          exact ⟨rfl, grown_drawn _ _⟩
        · have e4 : decide (a2 ≤ 64) = false := decide_eq_false h4
          go_enter Try.func8, Try.ntmps8
          go_wp2_with (first | (go_at_call 11; refine (awake_yes _).mono ?_; rintro e w' ⟨rfl, n1, rfl⟩) | (go_at_call 16; refine (sext_any _ _ _).mono ?_; rintro e w' ⟨rfl, rfl⟩) | (go_at_call 12; refine (field_any _ _ _ _).mono ?_; rintro e w' ⟨rfl, n2, rfl⟩) | (go_at_call 18; refine (zext_any _ _ _).mono ?_; rintro e w' ⟨rfl, rfl⟩))
          go_ret
          exact ⟨rfl, grown_drawn _ _⟩
      · have e3 : decide (a1 ≤ a2) = false := decide_eq_false h3
        go_enter Try.func8, Try.ntmps8
        go_wp2_with (first | (go_at_call 11; refine (awake_yes _).mono ?_; rintro e w' ⟨rfl, n1, rfl⟩) | (go_at_call 16; refine (sext_any _ _ _).mono ?_; rintro e w' ⟨rfl, rfl⟩) | (go_at_call 12; refine (field_any _ _ _ _).mono ?_; rintro e w' ⟨rfl, n2, rfl⟩) | (go_at_call 18; refine (zext_any _ _ _).mono ?_; rintro e w' ⟨rfl, rfl⟩))
        go_ret
        exact ⟨rfl, grown_drawn _ _⟩
    · have t4 : (u (fld v (a1 - 1) (a1 - 1)) == 0) = false := by rw [fld_one v a1 (by omega) (by omega), hv]; decide
      by_cases h5 : a1 = 64
      · subst h5
        have t5 : (u (sxt v 64) == u (zxt v 64)) = true := by rw [sxt_all]; simp
        have t9 : (u (fld v 63 63) == 0) = false := t4
        clear hv t4
        by_cases h3 : (64 : Int) ≤ a2
        · have e3 : decide ((64 : Int) ≤ a2) = true := decide_eq_true h3
          by_cases h4 : a2 ≤ 64
          · have e4 : decide (a2 ≤ 64) = true := decide_eq_true h4
            have t6 := HS.out h3
            go_enter Try.func8, Try.ntmps8
            go_wp2_with (first | (go_at_call 11; refine (awake_yes _).mono ?_; rintro e w' ⟨rfl, n1, rfl⟩) | (go_at_call 16; refine (sext_any _ _ _).mono ?_; rintro e w' ⟨rfl, rfl⟩) | (go_at_call 12; refine (field_any _ _ _ _).mono ?_; rintro e w' ⟨rfl, n2, rfl⟩) | (go_at_call 18; refine (zext_any _ _ _).mono ?_; rintro e w' ⟨rfl, rfl⟩))
            go_ret
            exact ⟨rfl, grown_drawn _ _⟩
          · have e4 : decide (a2 ≤ 64) = false := decide_eq_false h4
            go_enter Try.func8, Try.ntmps8
            go_wp2_with (first | (go_at_call 11; refine (awake_yes _).mono ?_; rintro e w' ⟨rfl, n1, rfl⟩) | (go_at_call 16; refine (sext_any _ _ _).mono ?_; rintro e w' ⟨rfl, rfl⟩) | (go_at_call 12; refine (field_any _ _ _ _).mono ?_; rintro e w' ⟨rfl, n2, rfl⟩) | (go_at_call 18; refine (zext_any _ _ _).mono ?_; rintro e w' ⟨rfl, rfl⟩))
            go_ret
            exact ⟨rfl, grown_drawn _ _⟩
        · have e3 : decide ((64 : Int) ≤ a2) = false := decide_eq_false h3
          go_enter Try.func8, Try.ntmps8
          go_wp2_with (first | (go_at_call 11; refine (awake_yes _).mono ?_; rintro e w' ⟨rfl, n1, rfl⟩) | (go_at_call 16; refine (sext_any _ _ _).mono ?_; rintro e w' ⟨rfl, rfl⟩) | (go_at_call 12; refine (field_any _ _ _ _).mono ?_; rintro e w' ⟨rfl, n2, rfl⟩) | (go_at_call 18; refine (zext_any _ _ _).mono ?_; rintro e w' ⟨rfl, rfl⟩))
          go_ret
          exact ⟨rfl, grown_drawn _ _⟩
      · have h6 : a1 < 64 := by omega
        have e5 : (a1 == 64) = false := by rw [beq_eq_false_iff_ne]; omega
        have e6 : decide (a1 < 64) = true := decide_eq_true h6
        have t7 : wrap64 (u (sxt v a1)) < 0 := sxt_neg64 v a1 (by omega) h6 hv
        have t8 : (IntKind.u64.wrap (u (sxt v a1) - u (zxt v a1)) == IntKind.u64.wrap (18446744073709551615 * 2 ^ a1.toNat)) = true := by
          rw [u_sub, sxt_less v a1 (by omega) h6 hv, u_ones_shl]; simp
        clear hv
        by_cases h3 : a1 ≤ a2
        · have e3 : decide (a1 ≤ a2) = true := decide_eq_true h3
          by_cases h4 : a2 ≤ 64
          · have e4 : decide (a2 ≤ 64) = true := decide_eq_true h4
            have t6 := HS.out h3
            go_enter Try.func8, Try.ntmps8
            go_wp2_with (first | (go_at_call 11; refine (awake_yes _).mono ?_; rintro e w' ⟨rfl, n1, rfl⟩) | (go_at_call 16; refine (sext_any _ _ _).mono ?_; rintro e w' ⟨rfl, rfl⟩) | (go_at_call 12; refine (field_any _ _ _ _).mono ?_; rintro e w' ⟨rfl, n2, rfl⟩) | (go_at_call 18; refine (zext_any _ _ _).mono ?_; rintro e w' ⟨rfl, rfl⟩))
            go_ret
            exact ⟨rfl, grown_drawn _ _⟩
          · have e4 : decide (a2 ≤ 64) = false := decide_eq_false h4
            go_enter Try.func8, Try.ntmps8
            go_wp2_with (first | (go_at_call 11; refine (awake_yes _).mono ?_; rintro e w' ⟨rfl, n1, rfl⟩) | (go_at_call 16; refine (sext_any _ _ _).mono ?_; rintro e w' ⟨rfl, rfl⟩) | (go_at_call 12; refine (field_any _ _ _ _).mono ?_; rintro e w' ⟨rfl, n2, rfl⟩) | (go_at_call 18; refine (zext_any _ _ _).mono ?_; rintro e w' ⟨rfl, rfl⟩))
            go_ret
            exact ⟨rfl, grown_drawn _ _⟩
        · have e3 : decide (a1 ≤ a2) = false := decide_eq_false h3
          go_enter Try.func8, Try.ntmps8
          go_wp2_with (first | (go_at_call 11; refine (awake_yes _).mono ?_; rintro e w' ⟨rfl, n1, rfl⟩) | (go_at_call 16; refine (sext_any _ _ _).mono ?_; rintro e w' ⟨rfl, rfl⟩) | (go_at_call 12; refine (field_any _ _ _ _).mono ?_; rintro e w' ⟨rfl, n2, rfl⟩) | (go_at_call 18; refine (zext_any _ _ _).mono ?_; rintro e w' ⟨rfl, rfl⟩))
          go_ret
          exact ⟨rfl, grown_drawn _ _⟩)
  exact HP.out w

set_option maxRecDepth 100000 in
theorem lifted (os : Os) (started : os.Started) (H : Type) (enc : TypeId × Value → H) :
    ReturnsInHanded {} Try.checked os 8 .any (Rows.bitsSignsSpec.pre6 enc Try.prog Try.f8 Rows.bitsSignsRow.domain false) (Rows.bitsSignsSpec.post enc Try.prog Try.f8 false true false false) := by
  refine returnsInHanded_of_change (C := Try.checked) own started (by kernel_rfl) Try.func8
    (ChangeSpec.witness6 (enc := enc) (C := Try.checked) false ⟨#[], #[.int .u64 0, .int .i64 0, .int .i64 0], []⟩ 8 (by kernel_rfl) (by kernel_rfl) (by kernel_rfl) (by kernel_rfl)) ?_
  intro W base args ds gs before hval0 hW hcnd _
  have hval : ∀ (j : Nat) t v, Try.f8.params[j]? = some t → args[j]? = some v → Value.okWide Try.prog W .any base t v := hval0
  have hW' := hW
  obtain ⟨p, q, hA0, hV, rfl, hfz, hnd⟩ := hW
  have hA : DataW.TrodAll enc Try.prog W 0 (fun _ => true) true Try.f8.params.toList args.toList ds p := hA0
  rw [Try.params8] at hA hval
  obtain ⟨v0, vs0, d0, ds0, p0, q0, hargs, rfl, rfl, h0, r0⟩ := trodAll_cons hA
  obtain ⟨v1, vs1, d1, ds1, p1, q1, rfl, rfl, rfl, h1, r1⟩ := trodAll_cons r0
  obtain ⟨v2, vs2, d2, ds2, p2, q2, rfl, rfl, rfl, h2, r2⟩ := trodAll_cons r1
  obtain ⟨rfl, rfl, rfl⟩ := trodAll_nil r2
  obtain rfl : args = #[v0, v1, v2] := by cases args; simp_all
  obtain ⟨rfl, rfl⟩ := trodVars_none hV
  obtain ⟨a0, rfl, rfl, rfl, w0⟩ := open_int Try.underlying22 (hval 0 22 v0 rfl rfl) h0
  obtain ⟨a1, rfl, rfl, rfl, w1⟩ := open_int Try.underlying3 (hval 1 3 v1 rfl rfl) h1
  obtain ⟨a2, rfl, rfl, rfl, w2⟩ := open_int Try.underlying3 (hval 2 3 v2 rfl rfl) h2
  clear hA0 hval0
  simp only [List.append_nil] at hW'
  refine (walk a0 a1 a2 w0 w1 w2 W).mono fun e W' ⟨he, hg⟩ => ?_
  subst he
  exact ⟨_, rfl, post_of_same (pa := []) (pv := []) hW' (fun _ _ _ => (trodAll_cons_mk (shut_bool Try.underlying4 _) trodAll_mk0)) (fun sp _ => (trodAll_cons_mk (shut_int Try.underlying22 w0) (trodAll_cons_mk (shut_int Try.underlying3 w1) (trodAll_cons_mk (shut_int Try.underlying3 w2) trodAll_mk0)))) (fun _ _ => rfl) rfl
    (hg.frame _) hg.2.1 (ok_one (by kernel_rfl) rfl (okWide_bool_mk Try.underlying4 _))⟩

theorem over : Rows.bitsSignsRow.holds Try.pinned (OpenSpec.ofChange Rows.bitsSignsSpec) :=
  OpenClaim.holds_of_wide 8 Try.f8 rfl rfl rfl rfl rfl rfl rfl ⟨rfl, rfl, rfl, rfl, rfl⟩ rfl rfl rfl rfl rfl (by kernel_rfl) Try.func8 (by kernel_rfl)
    (of_decide_eq_true (by kernel_rfl)) (by unfold Func.isWrapper; first | (rw [if_pos (by decide +kernel)]; kernel_rfl) | (rw [if_neg (by decide +kernel)]; exact ⟨rfl, rfl⟩))
    (fun os started H enc _ => lifted os started H enc)

theorem proved : Rows.BitsSignsSaid :=
  over
#print axioms proved
end Go.Proofs.Ytlicpmokcnoeoaa.bitsSigns
