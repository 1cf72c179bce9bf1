/- Proves that every call on a nil memory answers as the document says, that a memory made anew is not the same as nil, and that the first test of the law holds. Conditions: none. -/
import Derived.Test.YtkjkmekkcnmjnaaRows
import Derived.Test.YtkjkmekkcnmjnaaRamE
import Derived.Test.YtkjkmekkcnmjnaaRow
import Derived.WalkKit
import Derived.ProofKit
import Derived.OpenShut
import Derived.Below
import Derived.Carry
import Derived.ShutString
namespace Go.Proofs.Ytkjkmekkcnmjnaa.ramNil
open Go.ChangeShapes Go.WideShapes Go.ChangeAt Go.RowKit
set_option linter.unusedVariables false

theorem own : ownKnob Try.prog.godebug = none := by kernel_rfl

set_option maxRecDepth 100000 in
set_option maxHeartbeats 1000000 in
theorem walk (w : World) (a0 : Int) (w0 : (Lit.int .u64 a0).wf = true) (a1 : Int) (w1 : (Lit.int .i64 a1).wf = true) (a2 : Option Addr) (l2 c2 : Nat) (w2 : IsRow [.int .u8] w a2 l2) (a3 : Option Addr) (l3 c3 : Nat) (w3 : IsRow [.bool] w a3 l3) (a4 : Int) (w4 : (Lit.int .u64 a4).wf = true) :
    Calls Try.prog 5 #[.int .u64 a0, .int .i64 a1, .slice a2 l2 c2, .slice a3 l3 c3, .int .u64 a4] w fun e w' => e = .returned (.bool true) ∧ Below w.heap.size w w' := by
  have HB := Lib.hid (On.refl w)
  go_enter Try.func5, Try.ntmps5
  go_wp2_with (first | (go_at_call 17; refine (read_nil _ _ _).mono ?_; rintro e wn ⟨rfl, rfl⟩) | (go_at_call 13; refine (word_nil _ _ _).mono ?_; rintro e wn ⟨rfl, rfl⟩) | (go_at_call 8; refine (new_ok 4 (by omega) _).mono ?_; rintro e wn ⟨rfl, hb, _⟩; have HB := Lib.hid (HB.out.trans hb); clear hb) | (go_at_call 10; refine (awake_any _).mono ?_; rintro e wn ⟨rfl, hb⟩; have HB := Lib.hid (HB.out.trans hb); clear hb) | (go_at_call 18; refine (write_nil _ _ _).mono ?_; rintro e wn ⟨rfl, rfl⟩) | (go_at_call 21; refine (some_nil _ _ _ _).mono ?_; rintro e wn ⟨rfl, rfl⟩) | (go_at_call 14; refine (put_nil _ _ _ _).mono ?_; rintro e wn ⟨rfl, rfl⟩) | (go_at_call 16; refine (pages_nil _).mono ?_; rintro e wn ⟨rfl, rfl⟩) | (go_at_call 11; refine (fork_nil _).mono ?_; rintro e wn ⟨rfl, rfl⟩) | (go_at_call_of 12 (#[Value.pointer none, Value.pointer none]); refine (same_nil2 _).mono ?_; rintro e wn ⟨rfl, rfl⟩))
  refine (same_nilL _ _).mono ?_
  rintro e wq ⟨rfl, rfl⟩
  go_wp2_with fail
  refine (same_nilR _ _).mono ?_
  rintro e wq ⟨rfl, rfl⟩
  go_wp2_with fail
  go_ret
  exact ⟨rfl, HB.out⟩

set_option maxRecDepth 100000 in
theorem lifted (os : Os) (started : os.Started) (H : Type) (enc : TypeId × Value → H) :
    ReturnsInHanded {} Try.checked os 5 .any (Rows.ramNilSpec.pre6 enc Try.prog Try.f5 Rows.ramNilRow.domain false) (Rows.ramNilSpec.post enc Try.prog Try.f5 false true false false) := by
  refine returnsInHanded_of_change (C := Try.checked) own started (by kernel_rfl) Try.func5
    (ChangeSpec.witness6 (enc := enc) (C := Try.checked) false ⟨#[], #[.int .u64 0, .int .i64 0, .slice none 0 0, .slice none 0 0, .int .u64 0], []⟩ 12 (by kernel_rfl) (by kernel_rfl) (by kernel_rfl) (by kernel_rfl)) ?_
  intro W base args ds gs before hval0 hW hcnd _
  have hval : ∀ (j : Nat) t v, Try.f5.params[j]? = some t → args[j]? = some v → Value.okWide Try.prog W .any base t v := hval0
  have hW' := hW
  obtain ⟨p, q, hA0, hV, rfl, hfz, hnd⟩ := hW
  have hA : DataW.TrodAll enc Try.prog W 0 (fun _ => true) true Try.f5.params.toList args.toList ds p := hA0
  rw [Try.params5] at hA hval
  obtain ⟨v0, vs0, d0, ds0, p0, q0, hargs, rfl, rfl, h0, r0⟩ := trodAll_cons hA
  obtain ⟨v1, vs1, d1, ds1, p1, q1, rfl, rfl, rfl, h1, r1⟩ := trodAll_cons r0
  obtain ⟨v2, vs2, d2, ds2, p2, q2, rfl, rfl, rfl, h2, r2⟩ := trodAll_cons r1
  obtain ⟨v3, vs3, d3, ds3, p3, q3, rfl, rfl, rfl, h3, r3⟩ := trodAll_cons r2
  obtain ⟨v4, vs4, d4, ds4, p4, q4, rfl, rfl, rfl, h4, r4⟩ := trodAll_cons r3
  obtain ⟨rfl, rfl, rfl⟩ := trodAll_nil r4
  obtain rfl : args = #[v0, v1, v2, v3, v4] := by cases args; simp_all
  obtain ⟨rfl, rfl⟩ := trodVars_none hV
  obtain ⟨a0, rfl, rfl, rfl, w0⟩ := open_int Try.underlying31 (hval 0 31 v0 rfl rfl) h0
  obtain ⟨a1, rfl, rfl, rfl, w1⟩ := open_int Try.underlying3 (hval 1 3 v1 rfl rfl) h1
  have k2 := h2
  have lt2 : ∀ x ∈ p2, x.block < W.heap.size := fun x hx => by have := hW'.lt x (by simp [hx]); simpa using this
  obtain ⟨a2, l2, c2, rfl, w2⟩ := open_row 12 [.int .u8] (by kernel_rfl) (by kernel_rfl) (by decide) Try.underlying32 (hval 2 32 v2 rfl rfl) h2
  clear h2
  have k3 := h3
  have lt3 : ∀ x ∈ p3, x.block < W.heap.size := fun x hx => by have := hW'.lt x (by simp [hx]); simpa using this
  obtain ⟨a3, l3, c3, rfl, w3⟩ := open_row 12 [.bool] (by kernel_rfl) (by kernel_rfl) (by decide) Try.underlying33 (hval 3 33 v3 rfl rfl) h3
  clear h3
  obtain ⟨a4, rfl, rfl, rfl, w4⟩ := open_int Try.underlying31 (hval 4 31 v4 rfl rfl) h4
  clear hA0 hval0
  refine (walk W a0 w0 a1 w1 a2 l2 c2 w2 a3 l3 c3 w3 a4 w4).mono fun e W' ⟨he, bel⟩ => ?_
  subst he
  exact ⟨_, rfl, _, _, _, [], _, [], hW', trodAll_mk1 (shut_bool Try.underlying4 _), (trodAll_cons_mk (shut_int Try.underlying31 w0) (trodAll_cons_mk (shut_int Try.underlying3 w1) (trodAll_cons_mk (Below.trod (by kernel_rfl) (by kernel_rfl) (of_decide_eq_true (by kernel_rfl)) k2 bel lt2) (trodAll_cons_mk (Below.trod (by kernel_rfl) (by kernel_rfl) (of_decide_eq_true (by kernel_rfl)) k3 bel lt3) (trodAll_cons_mk (shut_int Try.underlying31 w4) trodAll_mk0))))), rfl, bel.frame _, fun h => by cases h⟩

theorem over : Rows.ramNilRow.holds Try.pinned (OpenSpec.ofChange Rows.ramNilSpec) :=
  OpenClaim.holds_of_wide 5 Try.f5 rfl rfl rfl rfl rfl rfl rfl ⟨rfl, rfl, rfl, rfl, rfl⟩ rfl rfl rfl rfl rfl (by kernel_rfl) Try.func5 (by kernel_rfl)
    (of_decide_eq_true (by kernel_rfl)) (by unfold Func.isWrapper; first | (rw [if_pos (by decide +kernel)]; kernel_rfl) | (rw [if_neg (by decide +kernel)]; exact ⟨rfl, rfl⟩))
    (fun os started H enc _ => lifted os started H enc)

theorem proved : Rows.RamNilSaid :=
  over
#print axioms proved
end Go.Proofs.Ytkjkmekkcnmjnaa.ramNil
