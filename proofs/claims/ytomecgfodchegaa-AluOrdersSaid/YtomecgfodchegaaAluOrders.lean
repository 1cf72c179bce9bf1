/- Proves that of any two words one is less than the other or they are the same, with signs and without, and that of a branch and its other one just one is taken, and that the first test of the law holds. Conditions: none. -/
import Derived.Test.YtomecgfodchegaaRows
import Derived.Test.YtomecgfodchegaaAluT
import Derived.Test.YtomecgfodchegaaAluV
import Derived.WalkKit
import Derived.ProofKit
import Derived.OpenShut
import Derived.Below
import Derived.Carry
import Derived.ShutString
namespace Go.Proofs.Ytomecgfodchegaa.aluOrders
open Go.ChangeShapes Go.WideShapes Go.ChangeAt Go.RowKit
set_option linter.unusedVariables false

theorem own : ownKnob Try.prog.godebug = none := by kernel_rfl

set_option maxRecDepth 100000 in
set_option maxHeartbeats 800000 in
theorem walk (a0 : Int) (w0 : (Lit.int .u64 a0).wf = true) (a1 : Int) (w1 : (Lit.int .u64 a1).wf = true) (w : World) :
    Calls Try.prog 7 #[.int .u64 a0, .int .u64 a1] w fun e w' => e = .returned (.bool true) ∧ Below w.heap.size w w' := by
  obtain ⟨a, rfl⟩ := u_of w0
  obtain ⟨b, rfl⟩ := u_of w1
  clear w0 w1
  have key : ∀ (p p' r r' e : Bool), a.slt b = p → b.slt a = p' → a.ult b = r → b.ult a = r' → (a == b) = e → ((p = true → p' = false) ∧ (r = true → r' = false) ∧ ((p || p') = !e) ∧ ((r || r') = !e)) → ∀ w, Calls Try.prog 7 #[.int .u64 (u a), .int .u64 (u b)] w fun e w' => e = .returned (.bool true) ∧ Below w.heap.size w w' := by
    intro p p' r r' e h1 h2 h3 h4 h5 hc w
    have HB := Lib.hid (On.refl w)
    have t0 : (u a == u b) = e := by rw [u_beq]; exact h5
    have c1 : ∀ w, Calls Try.prog 12 #[.int .i64 2, .bool false, .int .u64 (u a), .int .u64 (u b)] w fun e w' => e = .returned (.int .u64 (if p then 1 else 0)) ∧ w = w' := fun w => by have := alu_any 2 false a b w; rw [show al 2 false a b = tr (a.slt b) from rfl, u_tr, h1] at this; exact this
    have c2 : ∀ w, Calls Try.prog 12 #[.int .i64 2, .bool false, .int .u64 (u b), .int .u64 (u a)] w fun e w' => e = .returned (.int .u64 (if p' then 1 else 0)) ∧ w = w' := fun w => by have := alu_any 2 false b a w; rw [show al 2 false b a = tr (b.slt a) from rfl, u_tr, h2] at this; exact this
    have c3 : ∀ w, Calls Try.prog 12 #[.int .i64 3, .bool false, .int .u64 (u a), .int .u64 (u b)] w fun e w' => e = .returned (.int .u64 (if r then 1 else 0)) ∧ w = w' := fun w => by have := alu_any 3 false a b w; rw [show al 3 false a b = tr (a.ult b) from rfl, u_tr, h3] at this; exact this
    have c4 : ∀ w, Calls Try.prog 12 #[.int .i64 3, .bool false, .int .u64 (u b), .int .u64 (u a)] w fun e w' => e = .returned (.int .u64 (if r' then 1 else 0)) ∧ w = w' := fun w => by have := alu_any 3 false b a w; rw [show al 3 false b a = tr (b.ult a) from rfl, u_tr, h4] at this; exact this
    have b0 : ∀ w, Calls Try.prog 14 #[.int .i64 0, .int .u64 (u a), .int .u64 (u b)] w fun x w' => x = .returned (.bool e) ∧ w = w' := fun w => by have := branch_any 0 a b w; rw [show br 0 a b = (a == b) from rfl, h5] at this; exact this
    have b1 : ∀ w, Calls Try.prog 14 #[.int .i64 1, .int .u64 (u a), .int .u64 (u b)] w fun x w' => x = .returned (.bool (!e)) ∧ w = w' := fun w => by have := branch_any 1 a b w; rw [show br 1 a b = !(a == b) from rfl, h5] at this; exact this
    have b4 : ∀ w, Calls Try.prog 14 #[.int .i64 4, .int .u64 (u a), .int .u64 (u b)] w fun x w' => x = .returned (.bool p) ∧ w = w' := fun w => by have := branch_any 4 a b w; rw [show br 4 a b = a.slt b from rfl, h1] at this; exact this
    have b5 : ∀ w, Calls Try.prog 14 #[.int .i64 5, .int .u64 (u a), .int .u64 (u b)] w fun x w' => x = .returned (.bool (!p)) ∧ w = w' := fun w => by have := branch_any 5 a b w; rw [show br 5 a b = !a.slt b from rfl, h1] at this; exact this
    have b6 : ∀ w, Calls Try.prog 14 #[.int .i64 6, .int .u64 (u a), .int .u64 (u b)] w fun x w' => x = .returned (.bool r) ∧ w = w' := fun w => by have := branch_any 6 a b w; rw [show br 6 a b = a.ult b from rfl, h3] at this; exact this
    have b7 : ∀ w, Calls Try.prog 14 #[.int .i64 7, .int .u64 (u a), .int .u64 (u b)] w fun x w' => x = .returned (.bool (!r)) ∧ w = w' := fun w => by have := branch_any 7 a b w; rw [show br 7 a b = !a.ult b from rfl, h3] at this; exact this
    have C1 := Lib.hid c1
    have C2 := Lib.hid c2
    have C3 := Lib.hid c3
    have C4 := Lib.hid c4
    have B0 := Lib.hid b0
    have B1 := Lib.hid b1
    have B4 := Lib.hid b4
    have B5 := Lib.hid b5
    have B6 := Lib.hid b6
    have B7 := Lib.hid b7
    clear h1 h2 h3 h4 h5 c1 c2 c3 c4 b0 b1 b4 b5 b6 b7
    cases p <;> cases p' <;> cases r <;> cases r' <;> cases e <;> first | (exfalso; revert hc; decide) | skip
    all_goals
      clear hc
      go_enter Try.func7, Try.ntmps7
      go_wp2_with (go_at_call 11; refine (awake4_yes _).mono ?_; rintro e wn ⟨rfl, rfl⟩)
      refine (C1.out _).mono ?_
      rintro e wn ⟨rfl, rfl⟩
      go_wp2_with (go_at_call 11; refine (awake4_yes _).mono ?_; rintro e wn ⟨rfl, rfl⟩)
      refine (C2.out _).mono ?_
      rintro e wn ⟨rfl, rfl⟩
      go_wp2_with (go_at_call 11; refine (awake4_yes _).mono ?_; rintro e wn ⟨rfl, rfl⟩)
      refine (C3.out _).mono ?_
      rintro e wn ⟨rfl, rfl⟩
      go_wp2_with (go_at_call 11; refine (awake4_yes _).mono ?_; rintro e wn ⟨rfl, rfl⟩)
      refine (C4.out _).mono ?_
      rintro e wn ⟨rfl, rfl⟩
      go_wp2_with (go_at_call 11; refine (awake4_yes _).mono ?_; rintro e wn ⟨rfl, rfl⟩)
      refine (B0.out _).mono ?_
      rintro e wn ⟨rfl, rfl⟩
      go_wp2_with (go_at_call 11; refine (awake4_yes _).mono ?_; rintro e wn ⟨rfl, rfl⟩)
      refine (B1.out _).mono ?_
      rintro e wn ⟨rfl, rfl⟩
      go_wp2_with (go_at_call 11; refine (awake4_yes _).mono ?_; rintro e wn ⟨rfl, rfl⟩)
      refine (B4.out _).mono ?_
      rintro e wn ⟨rfl, rfl⟩
      go_wp2_with (go_at_call 11; refine (awake4_yes _).mono ?_; rintro e wn ⟨rfl, rfl⟩)
      refine (B5.out _).mono ?_
      rintro e wn ⟨rfl, rfl⟩
      go_wp2_with (go_at_call 11; refine (awake4_yes _).mono ?_; rintro e wn ⟨rfl, rfl⟩)
      refine (B6.out _).mono ?_
      rintro e wn ⟨rfl, rfl⟩
      go_wp2_with (go_at_call 11; refine (awake4_yes _).mono ?_; rintro e wn ⟨rfl, rfl⟩)
      refine (B7.out _).mono ?_
      rintro e wn ⟨rfl, rfl⟩
      go_wp2_with (go_at_call 11; refine (awake4_yes _).mono ?_; rintro e wn ⟨rfl, rfl⟩)
      refine (B4.out _).mono ?_
      rintro e wn ⟨rfl, rfl⟩
      go_wp2_with (go_at_call 11; refine (awake4_yes _).mono ?_; rintro e wn ⟨rfl, rfl⟩)
      refine (B6.out _).mono ?_
      rintro e wn ⟨rfl, rfl⟩
      go_wp2_with fail
      go_ret
      exact ⟨rfl, HB.out⟩
  exact key _ _ _ _ _ rfl rfl rfl rfl rfl ⟨sl_irr a b, ul_irr a b, by
    cases h : a == b
    · cases h1 : a.slt b
      · cases h2 : b.slt a
        · have := sl_eq a b h1 h2; subst this; simp at h
        · rfl
      · rfl
    · obtain rfl : a = b := by simpa using h
      rw [sl_self]; rfl, by
    cases h : a == b
    · cases h1 : a.ult b
      · cases h2 : b.ult a
        · have := ul_eq a b h1 h2; subst this; simp at h
        · rfl
      · rfl
    · obtain rfl : a = b := by simpa using h
      rw [ul_self]; rfl⟩ w

set_option maxRecDepth 100000 in
theorem lifted (os : Os) (started : os.Started) (H : Type) (enc : TypeId × Value → H) :
    ReturnsInHanded {} Try.checked os 7 .any (Rows.aluOrdersSpec.pre6 enc Try.prog Try.f7 Rows.aluOrdersRow.domain false) (Rows.aluOrdersSpec.post enc Try.prog Try.f7 false true false false) := by
  refine returnsInHanded_of_change (C := Try.checked) own started (by kernel_rfl) Try.func7
    (ChangeSpec.witness6 (enc := enc) (C := Try.checked) false ⟨#[], #[.int .u64 0, .int .u64 0], []⟩ 12 (by kernel_rfl) (by kernel_rfl) (by kernel_rfl) (by kernel_rfl)) ?_
  intro W base args ds gs before hval0 hW hcnd _
  have hval : ∀ (j : Nat) t v, Try.f7.params[j]? = some t → args[j]? = some v → Value.okWide Try.prog W .any base t v := hval0
  have hW' := hW
  obtain ⟨p, q, hA0, hV, rfl, hfz, hnd⟩ := hW
  have hA : DataW.TrodAll enc Try.prog W 0 (fun _ => true) true Try.f7.params.toList args.toList ds p := hA0
  rw [Try.params7] at hA hval
  obtain ⟨v0, vs0, d0, ds0, p0, q0, hargs, rfl, rfl, h0, r0⟩ := trodAll_cons hA
  obtain ⟨v1, vs1, d1, ds1, p1, q1, rfl, rfl, rfl, h1, r1⟩ := trodAll_cons r0
  obtain ⟨rfl, rfl, rfl⟩ := trodAll_nil r1
  obtain rfl : args = #[v0, v1] := by cases args; simp_all
  obtain ⟨rfl, rfl⟩ := trodVars_none hV
  obtain ⟨a0, rfl, rfl, rfl, w0⟩ := open_int Try.underlying22 (hval 0 22 v0 rfl rfl) h0
  obtain ⟨a1, rfl, rfl, rfl, w1⟩ := open_int Try.underlying22 (hval 1 22 v1 rfl rfl) h1
  clear hA0 hval0
  refine (walk a0 w0 a1 w1 W).mono fun e W' ⟨he, bel⟩ => ?_
  subst he
  exact ⟨_, rfl, _, _, _, [], _, [], hW', trodAll_mk1 (shut_bool Try.underlying4 _), (trodAll_cons_mk (shut_int Try.underlying22 w0) (trodAll_cons_mk (shut_int Try.underlying22 w1) trodAll_mk0)), rfl, bel.frame _, fun h => by cases h⟩

theorem over : Rows.aluOrdersRow.holds Try.pinned (OpenSpec.ofChange Rows.aluOrdersSpec) :=
  OpenClaim.holds_of_wide 7 Try.f7 rfl rfl rfl rfl rfl rfl rfl ⟨rfl, rfl, rfl, rfl, rfl⟩ rfl rfl rfl rfl rfl (by kernel_rfl) Try.func7 (by kernel_rfl)
    (of_decide_eq_true (by kernel_rfl)) (by unfold Func.isWrapper; first | (rw [if_pos (by decide +kernel)]; kernel_rfl) | (rw [if_neg (by decide +kernel)]; exact ⟨rfl, rfl⟩))
    (fun os started H enc _ => lifted os started H enc)

theorem proved : Rows.AluOrdersSaid :=
  over
#print axioms proved
end Go.Proofs.Ytomecgfodchegaa.aluOrders
