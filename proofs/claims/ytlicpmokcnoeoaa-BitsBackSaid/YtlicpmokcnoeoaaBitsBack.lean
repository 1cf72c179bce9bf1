/- Proves that what Put of package bits has put is what Field reads, that a field that is put back changes nothing, and that two fields that do not meet are put in any order, and that the first test of the law holds. Conditions: none. -/
import Derived.Test.YtlicpmokcnoeoaaRows
import Derived.Test.YtlicpmokcnoeoaaAwake
import Derived.Test.YtlicpmokcnoeoaaFacts
import Derived.WalkKit
import Derived.ProofKit
import Derived.OpenShut
namespace Go.Proofs.Ytlicpmokcnoeoaa.bitsBack
open Go.ChangeShapes Go.WideShapes Go.ChangeAt Go.RowKit
set_option linter.unusedVariables false

theorem own : ownKnob Try.prog.godebug = none := by kernel_rfl

theorem walk (a0 : Int) (a1 : Int) (a2 : Int) (a3 : Int) (a4 : Int) (a5 : Int) (a6 : Int) (w0 : (Lit.int .u64 a0).wf = true) (w1 : (Lit.int .i64 a1).wf = true) (w2 : (Lit.int .i64 a2).wf = true) (w3 : (Lit.int .u64 a3).wf = true) (w4 : (Lit.int .i64 a4).wf = true) (w5 : (Lit.int .i64 a5).wf = true) (w6 : (Lit.int .u64 a6).wf = true) (w : World) :
    Calls Try.prog 7 #[.int .u64 a0, .int .i64 a1, .int .i64 a2, .int .u64 a3, .int .i64 a4, .int .i64 a5, .int .u64 a6] w fun e w' => e = .returned (.bool true) ∧ Grown w w' := by
  obtain ⟨v, rfl⟩ := u_of w0
  obtain ⟨x, rfl⟩ := u_of w3
  obtain ⟨y, rfl⟩ := u_of w6
  clear w0 w1 w2 w3 w4 w5 w6
  by_cases h1 : a2 < 0
  · have e1 : decide (a2 < 0) = true := decide_eq_true h1
    go_enter Try.func7, Try.ntmps7
    go_wp2_with (go_at_call 11; refine (awake_yes _).mono ?_; rintro e w' ⟨rfl, n1, rfl⟩)
    go_ret
    exact ⟨rfl, grown_drawn _ _⟩
  have e1 : decide (a2 < 0) = false := decide_eq_false h1
  by_cases h2 : a1 < a2
  · have e2 : decide (a1 < a2) = true := decide_eq_true h2
    go_enter Try.func7, Try.ntmps7
    go_wp2_with (go_at_call 11; refine (awake_yes _).mono ?_; rintro e w' ⟨rfl, n1, rfl⟩)
    go_ret
    exact ⟨rfl, grown_drawn _ _⟩
  have e2 : decide (a1 < a2) = false := decide_eq_false h2
  by_cases h3 : 63 < a1
  · have e3 : decide (63 < a1) = true := decide_eq_true h3
    go_enter Try.func7, Try.ntmps7
    go_wp2_with (go_at_call 11; refine (awake_yes _).mono ?_; rintro e w' ⟨rfl, n1, rfl⟩)
    go_ret
    exact ⟨rfl, grown_drawn _ _⟩
  have e3 : decide (63 < a1) = false := decide_eq_false h3
  have hE : Ends a1 a2 := ⟨by omega, by omega, by omega⟩
  have t1 : (u (fld (put v a1 a2 x) a1 a2) != u (zxt x (a1 - a2 + 1))) = false := by rw [fld_put v a1 a2 x hE]; simp
  have t2 : (u (put v a1 a2 (fld v a1 a2)) != u v) = false := by rw [put_fld]; simp
  by_cases h4 : a5 < 0
  · have e4 : decide (a5 < 0) = true := decide_eq_true h4
    have HE := Lib.hid hE
    clear hE
    go_enter Try.func7, Try.ntmps7
    go_wp2_with (first | (go_at_call 11; refine (awake_yes _).mono ?_; rintro e w' ⟨rfl, n1, rfl⟩) | (go_at_call 14; refine (put_any _ _ _ _ _).mono ?_; rintro e w' ⟨rfl, rfl⟩) | (go_at_call 12; refine (field_any _ _ _ _).mono ?_; rintro e w' ⟨rfl, n2, rfl⟩) | (go_at_call 18; refine (zext_any _ _ _).mono ?_; rintro e w' ⟨rfl, rfl⟩))
    go_ret
    exact ⟨rfl, grown_drawn _ _⟩
  have e4 : decide (a5 < 0) = false := decide_eq_false h4
  by_cases h5 : a4 < a5
  · have e5 : decide (a4 < a5) = true := decide_eq_true h5
    have HE := Lib.hid hE
    clear hE
    go_enter Try.func7, Try.ntmps7
    go_wp2_with (first | (go_at_call 11; refine (awake_yes _).mono ?_; rintro e w' ⟨rfl, n1, rfl⟩) | (go_at_call 14; refine (put_any _ _ _ _ _).mono ?_; rintro e w' ⟨rfl, rfl⟩) | (go_at_call 12; refine (field_any _ _ _ _).mono ?_; rintro e w' ⟨rfl, n2, rfl⟩) | (go_at_call 18; refine (zext_any _ _ _).mono ?_; rintro e w' ⟨rfl, rfl⟩))
    go_ret
    exact ⟨rfl, grown_drawn _ _⟩
  have e5 : decide (a4 < a5) = false := decide_eq_false h5
  by_cases h6 : 63 < a4
  · have e6 : decide (63 < a4) = true := decide_eq_true h6
    have HE := Lib.hid hE
    clear hE
    go_enter Try.func7, Try.ntmps7
    go_wp2_with (first | (go_at_call 11; refine (awake_yes _).mono ?_; rintro e w' ⟨rfl, n1, rfl⟩) | (go_at_call 14; refine (put_any _ _ _ _ _).mono ?_; rintro e w' ⟨rfl, rfl⟩) | (go_at_call 12; refine (field_any _ _ _ _).mono ?_; rintro e w' ⟨rfl, n2, rfl⟩) | (go_at_call 18; refine (zext_any _ _ _).mono ?_; rintro e w' ⟨rfl, rfl⟩))
    go_ret
    exact ⟨rfl, grown_drawn _ _⟩
  have e6 : decide (63 < a4) = false := decide_eq_false h6
  have hE2 : Ends a4 a5 := ⟨by omega, by omega, by omega⟩
  by_cases h7 : a5 ≤ a1
  · have e7 : decide (a5 ≤ a1) = true := decide_eq_true h7
    by_cases h8 : a2 ≤ a4
    · have e8 : decide (a2 ≤ a4) = true := decide_eq_true h8
      have HE := Lib.hid hE
      have HE2 := Lib.hid hE2
      clear hE hE2
      go_enter Try.func7, Try.ntmps7
      go_wp2_with (first | (go_at_call 11; refine (awake_yes _).mono ?_; rintro e w' ⟨rfl, n1, rfl⟩) | (go_at_call 14; refine (put_any _ _ _ _ _).mono ?_; rintro e w' ⟨rfl, rfl⟩) | (go_at_call 12; refine (field_any _ _ _ _).mono ?_; rintro e w' ⟨rfl, n2, rfl⟩) | (go_at_call 18; refine (zext_any _ _ _).mono ?_; rintro e w' ⟨rfl, rfl⟩))
      go_ret
      exact ⟨rfl, grown_drawn _ _⟩
    · have e8 : decide (a2 ≤ a4) = false := decide_eq_false h8
      have hno : ¬ (a5 ≤ a1 ∧ a2 ≤ a4) := by omega
      have t3 : (u (put (put v a1 a2 x) a4 a5 y) == u (put (put v a4 a5 y) a1 a2 x)) = true := by rw [put_put v a1 a2 x a4 a5 y hE hE2 hno]; simp
      have t4 : (u (fld (put (put v a1 a2 x) a4 a5 y) a1 a2) == u (fld (put v a1 a2 x) a1 a2)) = true := by rw [fld_other _ a1 a2 a4 a5 y hE hE2 hno]; simp
      have HE := Lib.hid hE
      have HE2 := Lib.hid hE2
      have HN := Lib.hid hno
      clear hE hE2 hno
      go_enter Try.func7, Try.ntmps7
      go_wp2_with (first | (go_at_call 11; refine (awake_yes _).mono ?_; rintro e w' ⟨rfl, n1, rfl⟩) | (go_at_call 14; refine (put_any _ _ _ _ _).mono ?_; rintro e w' ⟨rfl, rfl⟩) | (go_at_call 12; refine (field_any _ _ _ _).mono ?_; rintro e w' ⟨rfl, n2, rfl⟩) | (go_at_call 18; refine (zext_any _ _ _).mono ?_; rintro e w' ⟨rfl, rfl⟩))
      go_ret
      exact ⟨rfl, grown_drawn _ _⟩
  · have e7 : decide (a5 ≤ a1) = false := decide_eq_false h7
    have hno : ¬ (a5 ≤ a1 ∧ a2 ≤ a4) := by omega
    have t3 : (u (put (put v a1 a2 x) a4 a5 y) == u (put (put v a4 a5 y) a1 a2 x)) = true := by rw [put_put v a1 a2 x a4 a5 y hE hE2 hno]; simp
    have t4 : (u (fld (put (put v a1 a2 x) a4 a5 y) a1 a2) == u (fld (put v a1 a2 x) a1 a2)) = true := by rw [fld_other _ a1 a2 a4 a5 y hE hE2 hno]; simp
    have HE := Lib.hid hE
    have HE2 := Lib.hid hE2
    have HN := Lib.hid hno
    clear hE hE2 hno
    go_enter Try.func7, Try.ntmps7
    go_wp2_with (first | (go_at_call 11; refine (awake_yes _).mono ?_; rintro e w' ⟨rfl, n1, rfl⟩) | (go_at_call 14; refine (put_any _ _ _ _ _).mono ?_; rintro e w' ⟨rfl, rfl⟩) | (go_at_call 12; refine (field_any _ _ _ _).mono ?_; rintro e w' ⟨rfl, n2, rfl⟩) | (go_at_call 18; refine (zext_any _ _ _).mono ?_; rintro e w' ⟨rfl, rfl⟩))
    go_ret
    exact ⟨rfl, grown_drawn _ _⟩

set_option maxRecDepth 100000 in
theorem lifted (os : Os) (started : os.Started) (H : Type) (enc : TypeId × Value → H) :
    ReturnsInHanded {} Try.checked os 7 .any (Rows.bitsBackSpec.pre6 enc Try.prog Try.f7 Rows.bitsBackRow.domain false) (Rows.bitsBackSpec.post enc Try.prog Try.f7 false true false false) := by
  refine returnsInHanded_of_change (C := Try.checked) own started (by kernel_rfl) Try.func7
    (ChangeSpec.witness6 (enc := enc) (C := Try.checked) false ⟨#[], #[.int .u64 0, .int .i64 0, .int .i64 0, .int .u64 0, .int .i64 0, .int .i64 0, .int .u64 0], []⟩ 8 (by kernel_rfl) (by kernel_rfl) (by kernel_rfl) (by kernel_rfl)) ?_
  intro W base args ds gs before hval0 hW hcnd _
  have hval : ∀ (j : Nat) t v, Try.f7.params[j]? = some t → args[j]? = some v → Value.okWide Try.prog W .any base t v := hval0
  have hW' := hW
  obtain ⟨p, q, hA0, hV, rfl, hfz, hnd⟩ := hW
  have hA : DataW.TrodAll enc Try.prog W 0 (fun _ => true) true Try.f7.params.toList args.toList ds p := hA0
  rw [Try.params7] at hA hval
  obtain ⟨v0, vs0, d0, ds0, p0, q0, hargs, rfl, rfl, h0, r0⟩ := trodAll_cons hA
  obtain ⟨v1, vs1, d1, ds1, p1, q1, rfl, rfl, rfl, h1, r1⟩ := trodAll_cons r0
  obtain ⟨v2, vs2, d2, ds2, p2, q2, rfl, rfl, rfl, h2, r2⟩ := trodAll_cons r1
  obtain ⟨v3, vs3, d3, ds3, p3, q3, rfl, rfl, rfl, h3, r3⟩ := trodAll_cons r2
  obtain ⟨v4, vs4, d4, ds4, p4, q4, rfl, rfl, rfl, h4, r4⟩ := trodAll_cons r3
  obtain ⟨v5, vs5, d5, ds5, p5, q5, rfl, rfl, rfl, h5, r5⟩ := trodAll_cons r4
  obtain ⟨v6, vs6, d6, ds6, p6, q6, rfl, rfl, rfl, h6, r6⟩ := trodAll_cons r5
  obtain ⟨rfl, rfl, rfl⟩ := trodAll_nil r6
  obtain rfl : args = #[v0, v1, v2, v3, v4, v5, v6] := by cases args; simp_all
  obtain ⟨rfl, rfl⟩ := trodVars_none hV
  obtain ⟨a0, rfl, rfl, rfl, w0⟩ := open_int Try.underlying22 (hval 0 22 v0 rfl rfl) h0
  obtain ⟨a1, rfl, rfl, rfl, w1⟩ := open_int Try.underlying3 (hval 1 3 v1 rfl rfl) h1
  obtain ⟨a2, rfl, rfl, rfl, w2⟩ := open_int Try.underlying3 (hval 2 3 v2 rfl rfl) h2
  obtain ⟨a3, rfl, rfl, rfl, w3⟩ := open_int Try.underlying22 (hval 3 22 v3 rfl rfl) h3
  obtain ⟨a4, rfl, rfl, rfl, w4⟩ := open_int Try.underlying3 (hval 4 3 v4 rfl rfl) h4
  obtain ⟨a5, rfl, rfl, rfl, w5⟩ := open_int Try.underlying3 (hval 5 3 v5 rfl rfl) h5
  obtain ⟨a6, rfl, rfl, rfl, w6⟩ := open_int Try.underlying22 (hval 6 22 v6 rfl rfl) h6
  clear hA0 hval0
  simp only [List.append_nil] at hW'
  refine (walk a0 a1 a2 a3 a4 a5 a6 w0 w1 w2 w3 w4 w5 w6 W).mono fun e W' ⟨he, hg⟩ => ?_
  subst he
  exact ⟨_, rfl, post_of_same (pa := []) (pv := []) hW' (fun _ _ _ => (trodAll_cons_mk (shut_bool Try.underlying4 _) trodAll_mk0)) (fun sp _ => (trodAll_cons_mk (shut_int Try.underlying22 w0) (trodAll_cons_mk (shut_int Try.underlying3 w1) (trodAll_cons_mk (shut_int Try.underlying3 w2) (trodAll_cons_mk (shut_int Try.underlying22 w3) (trodAll_cons_mk (shut_int Try.underlying3 w4) (trodAll_cons_mk (shut_int Try.underlying3 w5) (trodAll_cons_mk (shut_int Try.underlying22 w6) trodAll_mk0)))))))) (fun _ _ => rfl) rfl
    (hg.frame _) hg.2.1 (ok_one (by kernel_rfl) rfl (okWide_bool_mk Try.underlying4 _))⟩

theorem over : Rows.bitsBackRow.holds Try.pinned (OpenSpec.ofChange Rows.bitsBackSpec) :=
  OpenClaim.holds_of_wide 7 Try.f7 rfl rfl rfl rfl rfl rfl rfl ⟨rfl, rfl, rfl, rfl, rfl⟩ rfl rfl rfl rfl rfl (by kernel_rfl) Try.func7 (by kernel_rfl)
    (of_decide_eq_true (by kernel_rfl)) (by unfold Func.isWrapper; first | (rw [if_pos (by decide +kernel)]; kernel_rfl) | (rw [if_neg (by decide +kernel)]; exact ⟨rfl, rfl⟩))
    (fun os started H enc _ => lifted os started H enc)

theorem proved : Rows.BitsBackSaid :=
  over
#print axioms proved
end Go.Proofs.Ytlicpmokcnoeoaa.bitsBack
