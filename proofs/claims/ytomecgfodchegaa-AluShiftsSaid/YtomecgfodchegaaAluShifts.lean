/- Proves that what is moved up and down again loses just its highest bits, that with its sign it is extended, and that moved by n and by m it is moved by both as long as that is below 64, and that the first test of the law holds. Conditions: none. -/
import Derived.Test.YtomecgfodchegaaRows
import Derived.Test.YtomecgfodchegaaAluT
import Derived.Test.YtomecgfodchegaaAluV
import Derived.WalkKit
import Derived.ProofKit
import Derived.OpenShut
import Derived.Below
import Derived.Carry
import Derived.ShutString
namespace Go.Proofs.Ytomecgfodchegaa.aluShifts
open Go.ChangeShapes Go.WideShapes Go.ChangeAt Go.RowKit
set_option linter.unusedVariables false

theorem own : ownKnob Try.prog.godebug = none := by kernel_rfl

set_option maxRecDepth 100000 in
set_option maxHeartbeats 800000 in
theorem walk (a0 : Int) (w0 : (Lit.int .u64 a0).wf = true) (a1 : Int) (w1 : (Lit.int .i64 a1).wf = true) (a2 : Int) (w2 : (Lit.int .i64 a2).wf = true) (w : World) :
    Calls Try.prog 6 #[.int .u64 a0, .int .i64 a1, .int .i64 a2] w fun e w' => e = .returned (.bool true) ∧ Below w.heap.size w w' := by
  obtain ⟨a, rfl⟩ := u_of w0
  clear w0 w1 w2
  have HB := Lib.hid (On.refl w)
  by_cases hn : 0 ≤ a1 ∧ a1 ≤ 63 ∧ 0 ≤ a2 ∧ a2 ≤ 63
  · obtain ⟨n0, n1, m0, m1⟩ := hn
    obtain ⟨n, rfl⟩ : ∃ n : BitVec 64, a1 = u n := ⟨BitVec.ofNat 64 a1.toNat, by unfold u; rw [BitVec.toNat_ofNat]; omega⟩
    obtain ⟨m, rfl⟩ : ∃ m : BitVec 64, a2 = u m := ⟨BitVec.ofNat 64 a2.toNat, by unfold u; rw [BitVec.toNat_ofNat]; omega⟩
    have hU : al 1 false a n = a <<< (u n).toNat := by show a <<< amt n 64 = _; rw [amt_small n (by omega)]
    have t1 : (u (al 5 false (al 1 false a n) n) != IntKind.u64.wrap (u a * 2 ^ (u n).toNat) / 2 ^ (u n).toNat) = false := by
      rw [hU, u_shl, u_shr]; show (u ((a <<< (u n).toNat) >>> amt n 64) != _) = false; rw [amt_small n (by omega)]; simp
    have t2 : (wrap64 (u (al 13 false (al 1 false a n) n)) != wrap64 (IntKind.u64.wrap (u a * 2 ^ (u n).toNat)) / 2 ^ (u n).toNat) = false := by
      rw [hU, u_shl, wrap64_u, wrap64_u, sg_shr]; show (sg (sar (a <<< (u n).toNat) (amt n 64)) != _) = false; rw [amt_small n (by omega)]; simp
    by_cases hs : u n + u m ≤ 63
    · have hk : u n + u m = u (n + m) := by unfold u at *; rw [BitVec.toNat_add]; omega
      have hq : amt (n + m) 64 = (u n).toNat + (u m).toNat := by rw [amt_small _ (by omega)]; have := u_nonneg n; have := u_nonneg m; omega
      have t3 : (u (al 1 false (al 1 false a n) m) == u (al 1 false a (n + m))) = true := by
        rw [hU, u_beq]; show (a <<< (u n).toNat <<< amt m 64 == a <<< amt (n + m) 64) = true; rw [hq, amt_small m (by omega), BitVec.shiftLeft_add]; simp
      have t4 : (u (al 13 false (al 13 false a n) m) == u (al 13 false a (n + m))) = true := by
        rw [u_beq]; show (sar (sar a (amt n 64)) (amt m 64) == sar a (amt (n + m) 64)) = true; rw [hq, amt_small m (by omega), amt_small n (by omega)]; unfold sar; rw [BitVec.sshiftRight_add]; simp
      have HK := Lib.hid hk
      have d63 : decide (63 < u n + u m) = false := decide_eq_false (by omega)
      clear hU hk hq
      go_enter Try.func6, Try.ntmps6
      go_wp2_with (go_at_call 11; refine (awake4_yes _).mono ?_; rintro e wn ⟨rfl, rfl⟩)
      refine (alu_any _ _ _ _ _).mono ?_
      rintro e wn ⟨rfl, rfl⟩
      go_wp2_with fail
      refine (alu_any _ _ _ _ _).mono ?_
      rintro e wn ⟨rfl, rfl⟩
      go_wp2_with fail
      refine (alu_any _ _ _ _ _).mono ?_
      rintro e wn ⟨rfl, rfl⟩
      go_wp2_with fail
      refine (alu_any _ _ _ _ _).mono ?_
      rintro e wn ⟨rfl, rfl⟩
      go_wp2_with fail
      rw [HK.out]
      refine (alu_any _ _ _ _ _).mono ?_
      rintro e wn ⟨rfl, rfl⟩
      go_wp2_with fail
      refine (alu_any _ _ _ _ _).mono ?_
      rintro e wn ⟨rfl, rfl⟩
      go_wp2_with fail
      refine (alu_any _ _ _ _ _).mono ?_
      rintro e wn ⟨rfl, rfl⟩
      go_wp2_with fail
      rw [HK.out]
      refine (alu_any _ _ _ _ _).mono ?_
      rintro e wn ⟨rfl, rfl⟩
      go_wp2_with fail
      go_ret
      exact ⟨rfl, HB.out⟩
    · have d63 : decide (63 < u n + u m) = true := decide_eq_true (by omega)
      clear hU
      go_enter Try.func6, Try.ntmps6
      go_wp2_with (go_at_call 11; refine (awake4_yes _).mono ?_; rintro e wn ⟨rfl, rfl⟩)
      refine (alu_any _ _ _ _ _).mono ?_
      rintro e wn ⟨rfl, rfl⟩
      go_wp2_with fail
      refine (alu_any _ _ _ _ _).mono ?_
      rintro e wn ⟨rfl, rfl⟩
      go_wp2_with fail
      refine (alu_any _ _ _ _ _).mono ?_
      rintro e wn ⟨rfl, rfl⟩
      go_wp2_with fail
      go_ret
      exact ⟨rfl, HB.out⟩
  · have c : decide (a1 < 0) = true ∨ (decide (a1 < 0) = false ∧ decide (63 < a1) = true) ∨ (decide (a1 < 0) = false ∧ decide (63 < a1) = false ∧ decide (a2 < 0) = true) ∨ (decide (a1 < 0) = false ∧ decide (63 < a1) = false ∧ decide (a2 < 0) = false ∧ decide (63 < a2) = true) := by
      simp only [decide_eq_true_eq, decide_eq_false_iff_not]; omega
    clear hn
    rcases c with c1 | ⟨c1, c2⟩ | ⟨c1, c2, c3⟩ | ⟨c1, c2, c3, c4⟩
    all_goals
      go_enter Try.func6, Try.ntmps6
      go_wp2_with (go_at_call 11; refine (awake4_yes _).mono ?_; rintro e wn ⟨rfl, rfl⟩)
      go_ret
      exact ⟨rfl, HB.out⟩

set_option maxRecDepth 100000 in
theorem lifted (os : Os) (started : os.Started) (H : Type) (enc : TypeId × Value → H) :
    ReturnsInHanded {} Try.checked os 6 .any (Rows.aluShiftsSpec.pre6 enc Try.prog Try.f6 Rows.aluShiftsRow.domain false) (Rows.aluShiftsSpec.post enc Try.prog Try.f6 false true false false) := by
  refine returnsInHanded_of_change (C := Try.checked) own started (by kernel_rfl) Try.func6
    (ChangeSpec.witness6 (enc := enc) (C := Try.checked) false ⟨#[], #[.int .u64 0, .int .i64 0, .int .i64 0], []⟩ 12 (by kernel_rfl) (by kernel_rfl) (by kernel_rfl) (by kernel_rfl)) ?_
  intro W base args ds gs before hval0 hW hcnd _
  have hval : ∀ (j : Nat) t v, Try.f6.params[j]? = some t → args[j]? = some v → Value.okWide Try.prog W .any base t v := hval0
  have hW' := hW
  obtain ⟨p, q, hA0, hV, rfl, hfz, hnd⟩ := hW
  have hA : DataW.TrodAll enc Try.prog W 0 (fun _ => true) true Try.f6.params.toList args.toList ds p := hA0
  rw [Try.params6] at hA hval
  obtain ⟨v0, vs0, d0, ds0, p0, q0, hargs, rfl, rfl, h0, r0⟩ := trodAll_cons hA
  obtain ⟨v1, vs1, d1, ds1, p1, q1, rfl, rfl, rfl, h1, r1⟩ := trodAll_cons r0
  obtain ⟨v2, vs2, d2, ds2, p2, q2, rfl, rfl, rfl, h2, r2⟩ := trodAll_cons r1
  obtain ⟨rfl, rfl, rfl⟩ := trodAll_nil r2
  obtain rfl : args = #[v0, v1, v2] := by cases args; simp_all
  obtain ⟨rfl, rfl⟩ := trodVars_none hV
  obtain ⟨a0, rfl, rfl, rfl, w0⟩ := open_int Try.underlying22 (hval 0 22 v0 rfl rfl) h0
  obtain ⟨a1, rfl, rfl, rfl, w1⟩ := open_int Try.underlying3 (hval 1 3 v1 rfl rfl) h1
  obtain ⟨a2, rfl, rfl, rfl, w2⟩ := open_int Try.underlying3 (hval 2 3 v2 rfl rfl) h2
  clear hA0 hval0
  refine (walk a0 w0 a1 w1 a2 w2 W).mono fun e W' ⟨he, bel⟩ => ?_
  subst he
  exact ⟨_, rfl, _, _, _, [], _, [], hW', trodAll_mk1 (shut_bool Try.underlying4 _), (trodAll_cons_mk (shut_int Try.underlying22 w0) (trodAll_cons_mk (shut_int Try.underlying3 w1) (trodAll_cons_mk (shut_int Try.underlying3 w2) trodAll_mk0))), rfl, bel.frame _, fun h => by cases h⟩

theorem over : Rows.aluShiftsRow.holds Try.pinned (OpenSpec.ofChange Rows.aluShiftsSpec) :=
  OpenClaim.holds_of_wide 6 Try.f6 rfl rfl rfl rfl rfl rfl rfl ⟨rfl, rfl, rfl, rfl, rfl⟩ rfl rfl rfl rfl rfl (by kernel_rfl) Try.func6 (by kernel_rfl)
    (of_decide_eq_true (by kernel_rfl)) (by unfold Func.isWrapper; first | (rw [if_pos (by decide +kernel)]; kernel_rfl) | (rw [if_neg (by decide +kernel)]; exact ⟨rfl, rfl⟩))
    (fun os started H enc _ => lifted os started H enc)

theorem proved : Rows.AluShiftsSaid :=
  over
#print axioms proved
end Go.Proofs.Ytomecgfodchegaa.aluShifts
