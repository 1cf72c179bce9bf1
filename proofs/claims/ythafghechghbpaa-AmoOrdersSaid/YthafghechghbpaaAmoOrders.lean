/- Proves that for any number of an operation, any two words, and either size, the two orders of the words have the same error, and for all operations but the swap the same word; that what is told is of no more than four bytes where four are asked; that done twice all but sums and exclusive or change nothing more; that exclusive or twice is the first word; and that the first test of the law holds. Conditions: none. -/
import Derived.Test.YthafghechghbpaaRows
import Derived.Test.YthafghechghbpaaAmoQ
import Derived.WalkKit
import Derived.ProofKit
import Derived.OpenShut
import Derived.Below
import Derived.Carry
import Derived.ShutString
namespace Go.Proofs.Ythafghechghbpaa.amoOrders
open Go.ChangeShapes Go.WideShapes Go.ChangeAt Go.RowKit
set_option linter.unusedVariables false

theorem own : ownKnob Try.prog.godebug = none := by kernel_rfl

set_option maxRecDepth 100000 in
set_option maxHeartbeats 1000000 in
theorem walk (a0 : Int) (w0 : (Lit.int .i64 a0).wf = true) (a1 : Int) (w1 : (Lit.int .u64 a1).wf = true) (a2 : Int) (w2 : (Lit.int .u64 a2).wf = true) (a3 : Bool) (w : World) :
    Calls Try.prog 7 #[.int .i64 a0, .int .u64 a1, .int .u64 a2, .bool a3] w fun e w' => e = .returned (.bool true) ∧ Below w.heap.size w w' := by
  obtain ⟨a, rfl⟩ := u_of w1
  obtain ⟨b, rfl⟩ := u_of w2
  clear w0 w1 w2
  have HB := Lib.hid (On.refl w)
  cases hF : amF a0
  · cases a3
    · have E : Hid (amE a0 4 = 1) := Lib.hid (amE_no a0 4 (.inr hF))
      have V : Hid (∀ x y, amV a0 4 x y = 0) := Lib.hid (fun x y => amV_no a0 4 x y (.inr hF))
      have e1 : (amE a0 4 == 0) = false := by rw [E.out]; rfl
      have e2 : (amE a0 4 != 0) = true := by rw [E.out]; rfl
      have e3 : (u (amV a0 4 a b) == 0) = true := by rw [V.out]; rfl
      clear hF
      go_enter Try.func7, Try.ntmps7
      go_wp2_with (first | (go_at_call 9; refine (new_any _ _ _ _ _).mono ?_; rintro e wn ⟨rfl, rfl⟩) | (go_at_call 12; refine (ext_any _ _ _ _).mono ?_; rintro e wn ⟨rfl, rfl⟩) | (go_at_call 11; refine (awake6_yes _).mono ?_; rintro e wn ⟨rfl, rfl⟩))
      go_ret
      exact ⟨rfl, HB.out⟩
    · have E : Hid (amE a0 8 = 1) := Lib.hid (amE_no a0 8 (.inr hF))
      have V : Hid (∀ x y, amV a0 8 x y = 0) := Lib.hid (fun x y => amV_no a0 8 x y (.inr hF))
      have e1 : (amE a0 8 == 0) = false := by rw [E.out]; rfl
      have e2 : (amE a0 8 != 0) = true := by rw [E.out]; rfl
      have e3 : (u (amV a0 8 a b) == 0) = true := by rw [V.out]; rfl
      clear hF
      go_enter Try.func7, Try.ntmps7
      go_wp2_with (first | (go_at_call 9; refine (new_any _ _ _ _ _).mono ?_; rintro e wn ⟨rfl, rfl⟩) | (go_at_call 12; refine (ext_any _ _ _ _).mono ?_; rintro e wn ⟨rfl, rfl⟩) | (go_at_call 11; refine (awake6_yes _).mono ?_; rintro e wn ⟨rfl, rfl⟩))
      go_ret
      exact ⟨rfl, HB.out⟩
  · by_cases h1 : a0 = 1
    · subst h1
      cases a3
      · have e1 : (amE 1 4 == 0) = true := rfl
        have e2 : (amE 1 4 != 0) = false := rfl
        generalize amE 1 4 = E at *
        clear hF
        go_enter Try.func7, Try.ntmps7
        go_wp2_with (first | (go_at_call 9; refine (new_any _ _ _ _ _).mono ?_; rintro e wn ⟨rfl, rfl⟩) | (go_at_call 12; refine (ext_any _ _ _ _).mono ?_; rintro e wn ⟨rfl, rfl⟩) | (go_at_call 11; refine (awake6_yes _).mono ?_; rintro e wn ⟨rfl, rfl⟩))
        go_ret
        exact ⟨rfl, HB.out⟩
      · have e1 : (amE 1 8 == 0) = true := rfl
        have e2 : (amE 1 8 != 0) = false := rfl
        generalize amE 1 8 = E at *
        clear hF
        go_enter Try.func7, Try.ntmps7
        go_wp2_with (first | (go_at_call 9; refine (new_any _ _ _ _ _).mono ?_; rintro e wn ⟨rfl, rfl⟩) | (go_at_call 12; refine (ext_any _ _ _ _).mono ?_; rintro e wn ⟨rfl, rfl⟩) | (go_at_call 11; refine (awake6_yes _).mono ?_; rintro e wn ⟨rfl, rfl⟩))
        go_ret
        exact ⟨rfl, HB.out⟩
    · have h1' : (a0 == 1) = false := by simpa using h1
      by_cases h0 : a0 = 0
      · subst h0
        cases a3
        · have E : Hid (amE 0 4 = 0) := Lib.hid (amE_yes 0 4 (by omega) hF)
          have e1 : (amE 0 4 == 0) = true := by rw [E.out]; rfl
          have e2 : (amE 0 4 != 0) = false := by rw [E.out]; rfl
          have C : (u (amV 0 4 a b) != u (amV 0 4 b a)) = false := by rw [amV_comm 0 4 h1 b a]; simp
          have T : (u (amV 0 4 a b) / 4294967296 != 0) = false := by have := amV_top 0 a b; simpa [bne] using this
          clear hF h1
          go_enter Try.func7, Try.ntmps7
          go_wp2_with (first | (go_at_call 9; refine (new_any _ _ _ _ _).mono ?_; rintro e wn ⟨rfl, rfl⟩) | (go_at_call 12; refine (ext_any _ _ _ _).mono ?_; rintro e wn ⟨rfl, rfl⟩) | (go_at_call 11; refine (awake6_yes _).mono ?_; rintro e wn ⟨rfl, rfl⟩))
          go_ret
          exact ⟨rfl, HB.out⟩
        · have E : Hid (amE 0 8 = 0) := Lib.hid (amE_yes 0 8 (by omega) hF)
          have e1 : (amE 0 8 == 0) = true := by rw [E.out]; rfl
          have e2 : (amE 0 8 != 0) = false := by rw [E.out]; rfl
          have C : (u (amV 0 8 a b) != u (amV 0 8 b a)) = false := by rw [amV_comm 0 8 h1 b a]; simp
          clear hF h1
          go_enter Try.func7, Try.ntmps7
          go_wp2_with (first | (go_at_call 9; refine (new_any _ _ _ _ _).mono ?_; rintro e wn ⟨rfl, rfl⟩) | (go_at_call 12; refine (ext_any _ _ _ _).mono ?_; rintro e wn ⟨rfl, rfl⟩) | (go_at_call 11; refine (awake6_yes _).mono ?_; rintro e wn ⟨rfl, rfl⟩))
          go_ret
          exact ⟨rfl, HB.out⟩
      · have h0' : (a0 == 0) = false := by simpa using h0
        by_cases h4 : a0 = 4
        · subst h4
          cases a3
          · have E : Hid (amE 4 4 = 0) := Lib.hid (amE_yes 4 4 (by omega) hF)
            have e1 : (amE 4 4 == 0) = true := by rw [E.out]; rfl
            have e2 : (amE 4 4 != 0) = false := by rw [E.out]; rfl
            have C : (u (amV 4 4 a b) != u (amV 4 4 b a)) = false := by rw [amV_comm 4 4 h1 b a]; simp
            have T : (u (amV 4 4 a b) / 4294967296 != 0) = false := by have := amV_top 4 a b; simpa [bne] using this
            have X : (u (amV 4 4 (amV 4 4 a b) b) == u (ext a 4 false)) = true := by rw [amV_back 4 (by omega)]; exact beq_self_eq_true _
            clear hF h1
            go_enter Try.func7, Try.ntmps7
            go_wp2_with (first | (go_at_call 9; refine (new_any _ _ _ _ _).mono ?_; rintro e wn ⟨rfl, rfl⟩) | (go_at_call 12; refine (ext_any _ _ _ _).mono ?_; rintro e wn ⟨rfl, rfl⟩) | (go_at_call 11; refine (awake6_yes _).mono ?_; rintro e wn ⟨rfl, rfl⟩))
            go_ret
            exact ⟨rfl, HB.out⟩
          · have E : Hid (amE 4 8 = 0) := Lib.hid (amE_yes 4 8 (by omega) hF)
            have e1 : (amE 4 8 == 0) = true := by rw [E.out]; rfl
            have e2 : (amE 4 8 != 0) = false := by rw [E.out]; rfl
            have C : (u (amV 4 8 a b) != u (amV 4 8 b a)) = false := by rw [amV_comm 4 8 h1 b a]; simp
            have X : (u (amV 4 8 (amV 4 8 a b) b) == u (ext a 8 false)) = true := by rw [amV_back 8 (by omega)]; exact beq_self_eq_true _
            clear hF h1
            go_enter Try.func7, Try.ntmps7
            go_wp2_with (first | (go_at_call 9; refine (new_any _ _ _ _ _).mono ?_; rintro e wn ⟨rfl, rfl⟩) | (go_at_call 12; refine (ext_any _ _ _ _).mono ?_; rintro e wn ⟨rfl, rfl⟩) | (go_at_call 11; refine (awake6_yes _).mono ?_; rintro e wn ⟨rfl, rfl⟩))
            go_ret
            exact ⟨rfl, HB.out⟩
        · have h4' : (a0 == 4) = false := by simpa using h4
          cases a3
          · have E : Hid (amE a0 4 = 0) := Lib.hid (amE_yes a0 4 (by omega) hF)
            have e1 : (amE a0 4 == 0) = true := by rw [E.out]; rfl
            have e2 : (amE a0 4 != 0) = false := by rw [E.out]; rfl
            have C : (u (amV a0 4 a b) != u (amV a0 4 b a)) = false := by rw [amV_comm a0 4 h1 b a]; simp
            have T : (u (amV a0 4 a b) / 4294967296 != 0) = false := by have := amV_top a0 a b; simpa [bne] using this
            have X : (u (amV a0 4 (amV a0 4 a b) b) == u (amV a0 4 a b)) = true := by rw [amV_again a0 4 h0 h4]; exact beq_self_eq_true _
            clear h0 h4
            clear hF h1
            go_enter Try.func7, Try.ntmps7
            go_wp2_with (first | (go_at_call 9; refine (new_any _ _ _ _ _).mono ?_; rintro e wn ⟨rfl, rfl⟩) | (go_at_call 12; refine (ext_any _ _ _ _).mono ?_; rintro e wn ⟨rfl, rfl⟩) | (go_at_call 11; refine (awake6_yes _).mono ?_; rintro e wn ⟨rfl, rfl⟩))
            go_ret
            exact ⟨rfl, HB.out⟩
          · have E : Hid (amE a0 8 = 0) := Lib.hid (amE_yes a0 8 (by omega) hF)
            have e1 : (amE a0 8 == 0) = true := by rw [E.out]; rfl
            have e2 : (amE a0 8 != 0) = false := by rw [E.out]; rfl
            have C : (u (amV a0 8 a b) != u (amV a0 8 b a)) = false := by rw [amV_comm a0 8 h1 b a]; simp
            have X : (u (amV a0 8 (amV a0 8 a b) b) == u (amV a0 8 a b)) = true := by rw [amV_again a0 8 h0 h4]; exact beq_self_eq_true _
            clear h0 h4
            clear hF h1
            go_enter Try.func7, Try.ntmps7
            go_wp2_with (first | (go_at_call 9; refine (new_any _ _ _ _ _).mono ?_; rintro e wn ⟨rfl, rfl⟩) | (go_at_call 12; refine (ext_any _ _ _ _).mono ?_; rintro e wn ⟨rfl, rfl⟩) | (go_at_call 11; refine (awake6_yes _).mono ?_; rintro e wn ⟨rfl, rfl⟩))
            go_ret
            exact ⟨rfl, HB.out⟩

set_option maxRecDepth 100000 in
theorem lifted (os : Os) (started : os.Started) (H : Type) (enc : TypeId × Value → H) :
    ReturnsInHanded {} Try.checked os 7 .any (Rows.amoOrdersSpec.pre6 enc Try.prog Try.f7 Rows.amoOrdersRow.domain false) (Rows.amoOrdersSpec.post enc Try.prog Try.f7 false true false false) := by
  refine returnsInHanded_of_change (C := Try.checked) own started (by kernel_rfl) Try.func7
    (ChangeSpec.witness6 (enc := enc) (C := Try.checked) false ⟨#[], #[.int .i64 0, .int .u64 0, .int .u64 0, .bool false], []⟩ 12 (by kernel_rfl) (by kernel_rfl) (by kernel_rfl) (by kernel_rfl)) ?_
  intro W base args ds gs before hval0 hW hcnd _
  have hval : ∀ (j : Nat) t v, Try.f7.params[j]? = some t → args[j]? = some v → Value.okWide Try.prog W .any base t v := hval0
  have hW' := hW
  obtain ⟨p, q, hA0, hV, rfl, hfz, hnd⟩ := hW
  have hA : DataW.TrodAll enc Try.prog W 0 (fun _ => true) true Try.f7.params.toList args.toList ds p := hA0
  rw [Try.params7] at hA hval
  obtain ⟨v0, vs0, d0, ds0, p0, q0, hargs, rfl, rfl, h0, r0⟩ := trodAll_cons hA
  obtain ⟨v1, vs1, d1, ds1, p1, q1, rfl, rfl, rfl, h1, r1⟩ := trodAll_cons r0
  obtain ⟨v2, vs2, d2, ds2, p2, q2, rfl, rfl, rfl, h2, r2⟩ := trodAll_cons r1
  obtain ⟨v3, vs3, d3, ds3, p3, q3, rfl, rfl, rfl, h3, r3⟩ := trodAll_cons r2
  obtain ⟨rfl, rfl, rfl⟩ := trodAll_nil r3
  obtain rfl : args = #[v0, v1, v2, v3] := by cases args; simp_all
  obtain ⟨rfl, rfl⟩ := trodVars_none hV
  obtain ⟨a0, rfl, rfl, rfl, w0⟩ := open_int Try.underlying3 (hval 0 3 v0 rfl rfl) h0
  obtain ⟨a1, rfl, rfl, rfl, w1⟩ := open_int Try.underlying22 (hval 1 22 v1 rfl rfl) h1
  obtain ⟨a2, rfl, rfl, rfl, w2⟩ := open_int Try.underlying22 (hval 2 22 v2 rfl rfl) h2
  obtain ⟨a3, rfl, rfl, rfl⟩ := open_bool Try.underlying4 (hval 3 4 v3 rfl rfl) h3
  clear hA0 hval0
  refine (walk a0 w0 a1 w1 a2 w2 a3 W).mono fun e W' ⟨he, bel⟩ => ?_
  subst he
  exact ⟨_, rfl, _, _, _, [], _, [], hW', trodAll_mk1 (shut_bool Try.underlying4 _), (trodAll_cons_mk (shut_int Try.underlying3 w0) (trodAll_cons_mk (shut_int Try.underlying22 w1) (trodAll_cons_mk (shut_int Try.underlying22 w2) (trodAll_cons_mk (shut_bool Try.underlying4 _) trodAll_mk0)))), rfl, bel.frame _, fun h => by cases h⟩

theorem over : Rows.amoOrdersRow.holds Try.pinned (OpenSpec.ofChange Rows.amoOrdersSpec) :=
  OpenClaim.holds_of_wide 7 Try.f7 rfl rfl rfl rfl rfl rfl rfl ⟨rfl, rfl, rfl, rfl, rfl⟩ rfl rfl rfl rfl rfl (by kernel_rfl) Try.func7 (by kernel_rfl)
    (of_decide_eq_true (by kernel_rfl)) (by unfold Func.isWrapper; first | (rw [if_pos (by decide +kernel)]; kernel_rfl) | (rw [if_neg (by decide +kernel)]; exact ⟨rfl, rfl⟩))
    (fun os started H enc _ => lifted os started H enc)

theorem proved : Rows.AmoOrdersSaid :=
  over
#print axioms proved
end Go.Proofs.Ythafghechghbpaa.amoOrders
