/- Proves that for any hart and any two places Granule, Holds, Hold and Clear answer as the reference does, that what is held is held at just the eight bytes around, that what is cleared is not, and that the first test of the law holds. Conditions: none. -/
import Derived.Test.YthafghechghbpaaRows
import Derived.Test.YthafghechghbpaaAmoT
import Derived.Test.YthafghechghbpaaFlat
import Derived.WalkKit
import Derived.ProofKit
import Derived.OpenShut
import Derived.Below
import Derived.Carry
import Derived.ShutString
import Derived.Lib.QuietBelow
namespace Go.Proofs.Ythafghechghbpaa.amoHolds
open Go.ChangeShapes Go.WideShapes Go.ChangeAt Go.RowKit
set_option linter.unusedVariables false

theorem own : ownKnob Try.prog.godebug = none := by kernel_rfl

set_option maxRecDepth 100000 in
set_option maxHeartbeats 1000000 in
theorem walk (c0 : List Value) (f0 : Fits [.int .u64, .int .i64, .int .u64, .int .u64, .int .u64, .int .u64, .int .u64, .int .u64, .int .u64, .int .u64, .int .u64, .int .u64, .int .u64, .int .u64, .int .u64, .int .u64, .int .u64, .int .u64, .int .u64, .int .u64, .int .u64, .int .u64, .int .u64, .int .u64, .int .u64, .int .u64, .int .u64, .int .u64, .int .u64, .int .u64, .int .u64, .int .u64, .int .u64, .int .u64, .int .u64, .int .u64, .int .u64, .int .u64, .int .u64, .int .u64, .int .u64, .int .u64, .int .u64, .int .u64, .int .u64, .int .u64, .int .u64, .int .u64, .int .u64, .int .u64, .int .u64, .int .u64, .int .u64, .int .u64, .int .u64, .int .u64, .int .u64, .int .u64, .int .u64, .int .u64, .int .u64, .int .u64, .int .u64, .int .u64, .bool, .int .u64] c0) (a1 : Int) (w1 : (Lit.int .u64 a1).wf = true) (a2 : Int) (w2 : (Lit.int .u64 a2).wf = true) (w : World) :
    Calls Try.prog 5 #[.agg c0.toArray, .int .u64 a1, .int .u64 a2] w fun e w' => e = .returned (.bool true) ∧ Below w.heap.size w w' := by
  obtain ⟨a, rfl⟩ := u_of w1
  obtain ⟨b, rfl⟩ := u_of w2
  clear w1 w2
  have hF : Fits hartLeaves (c0.toArray).toList := f0
  generalize c0.toArray = hs at *
  go_enter Try.func5, Try.ntmps5
  go_wp2_with fail
  have hbox : (w.alloc (.cells hs 35)).heap[w.heap.size]? = some (.cells hs 35 (0, 0)) := heap_alloc_new _ _
  have hon : On w (w.alloc (.cells hs 35)) := (On.refl w).alloc _
  generalize w.alloc (.cells hs 35) = W1 at *
  refine wp_region_inv (by kernel_rfl) (HoldAt hs a b w) (lex_of (by kernel_rfl)) (fun l c wr h => h.size) ?start ?done ?step
  case start =>
    exact ⟨rfl, ⟨(fun h => by cases h), (fun h => by cases h)⟩, hon.drewN 1, hbox, undef, undef, undef, undef, undef, undef, undef, rfl, (fun h => by cases h), (fun h => by cases h), (fun h => by cases h), (fun h => by cases h), (fun h => by cases h), (fun h => by cases h), (fun h => by cases h), (fun h => by cases h)⟩
  case step =>
    intro i o hi l c wr h hl haft
    have hi9 : i < 9 := by
      rcases Nat.lt_or_ge i 9 with h1 | h1
      · exact h1
      · rw [Array.getElem?_eq_none h1] at hi; cases hi
    have h9 : i = 0 ∨ i = 1 ∨ i = 2 ∨ i = 3 ∨ i = 4 ∨ i = 5 ∨ i = 6 ∨ i = 7 ∨ i = 8 := by omega
    rcases h9 with rfl | rfl | rfl | rfl | rfl | rfl | rfl | rfl | rfl
    · obtain rfl := Option.some.inj hi
      exact wpOp_of hi rfl (hold_0 hs hF a b w l c wr h _ _ rfl)
    · obtain rfl := Option.some.inj hi
      exact wpOp_of hi rfl (hold_1 hs a b w l c wr h _ _ rfl)
    · obtain rfl := Option.some.inj hi
      exact wpOp_of hi rfl (hold_2 hs hF a b w l c wr h _ _ rfl (haft ⟨0, .data⟩ (by simp) rfl) (haft ⟨1, .data⟩ (by simp) rfl))
    · obtain rfl := Option.some.inj hi
      exact wpOp_of hi rfl (hold_3 hs hF a b w l c wr h _ _ rfl)
    · obtain rfl := Option.some.inj hi
      exact wpOp_of hi rfl (hold_4 hs hF a b w l c wr h _ _ rfl (haft ⟨3, .data⟩ (by simp) rfl))
    · obtain rfl := Option.some.inj hi
      exact wpOp_of hi rfl (hold_5 hs a b w l c wr h _ _ rfl hl)
    · obtain rfl := Option.some.inj hi
      exact wpOp_of hi rfl (hold_6 hs a b w l c wr h _ _ rfl hl)
    · obtain rfl := Option.some.inj hi
      exact wpOp_of hi rfl (hold_7 hs hF a b w l c wr h _ _ _ rfl (haft ⟨5, .data⟩ (by simp) rfl) (haft ⟨6, .phase⟩ (by simp) rfl) (haft ⟨2, .data⟩ (by simp) rfl))
    · obtain rfl := Option.some.inj hi
      exact wpOp_of hi rfl (hold_8 hs hF a b w l c wr h _ _ _ rfl (haft ⟨5, .phase⟩ (by simp) rfl) (haft ⟨6, .data⟩ (by simp) rfl) (haft ⟨4, .data⟩ (by simp) rfl))
  case done =>
    intro l c wr h hall
    obtain ⟨hz, -, hon, hbox, v7, v8, v9, v10, v11, v12, v13, rfl, e9, e10, e11, e12, e13, e7, e8, hne⟩ := h
    have G : ∀ i, i < 9 → l.getD i false = true := fun i hi => g_all (by omega) (hall i hi)
    obtain rfl := e9 (G 0 (by omega))
    obtain rfl := e10 (G 1 (by omega))
    obtain rfl := e11 (G 2 (by omega))
    obtain rfl := e12 (G 3 (by omega))
    obtain rfl := e13 (G 4 (by omega))
    obtain ⟨g7, o7, rfl, n7, -, k7, q7⟩ := e7 (G 5 (by omega))
    obtain ⟨g8, o8, rfl, n8, -, k8, q8⟩ := e8 (G 6 (by omega))
    obtain rfl := q7 (G 7 (by omega))
    obtain rfl := q8 (G 8 (by omega))
    clear e9 e10 e11 e12 e13 e7 e8 hne q7 q8 G hall hz
    have z0 := hart_len hF
    have F2 := setRes_fits hF true (a - a % 8#64)
    have F3 := setRes_fits hF false 0#64
    have z2 := hart_len F2
    have z3 := hart_len F3
    obtain ⟨r, g, hr⟩ := isRes_of hF
    have C1 : Hid (∀ w, Calls Try.prog 18 #[.agg hs, .int .u64 (u a)] w fun e w' => e = .returned (.bool (r && (g == a - a % 8#64))) ∧ On w w') := Lib.hid (fun w => holds_any hs r g hr a w)
    have C2 : Hid (∀ w, Calls Try.prog 19 #[.agg hs, .int .u64 (u a)] w fun e w' => e = .returned (.bool (r && (g == a - a % 8#64))) ∧ On w w') := Lib.hid (fun w => rholds_any hs r g hr a w)
    have C3 : Hid (∀ w, Calls Try.prog 18 #[.agg (setRes hs true (a - a % 8#64)), .int .u64 (u b)] w fun e w' => e = .returned (.bool (a - a % 8#64 == b - b % 8#64)) ∧ On w w') := Lib.hid (fun w => by have := holds_any _ true (a - a % 8#64) (setRes_is z0 true (a - a % 8#64)) b w; rwa [Bool.true_and] at this)
    have C4 : Hid (∀ w, Calls Try.prog 18 #[.agg (setRes hs false 0#64), .int .u64 (u b)] w fun e w' => e = .returned (.bool false) ∧ On w w') := Lib.hid (fun w => holds_any _ false 0#64 (setRes_is z0 false 0#64) b w)
    have C5 : Hid (∀ w, Calls Try.prog 20 #[.agg hs, .int .u64 (u a)] w fun e w' => e = .returned (.agg (setRes hs true (a - a % 8#64))) ∧ On w w') := Lib.hid (fun w => rhold_any hs hF a w)
    have C6 : Hid (∀ w, Calls Try.prog 21 #[.agg hs] w fun e w' => e = .returned (.agg (setRes hs false 0#64)) ∧ On w w') := Lib.hid (fun w => rclear_any hs hF w)
    have T := gran_same2 a b
    have E2 : ∀ w, (Go.binOp .eql 35 (.agg (setRes hs true (a - a % 8#64))) (.agg (setRes hs true (a - a % 8#64)))).run Try.prog w = .ok (.bool true) w := fun w => hart_eql _ F2 w
    have E3 : ∀ w, (Go.binOp .eql 35 (.agg (setRes hs false 0#64)) (.agg (setRes hs false 0#64))).run Try.prog w = .ok (.bool true) w := fun w => hart_eql _ F3 w
    have E4 : ∀ w, (Op.equalIn 10000 35 (.agg (setRes hs true (a - a % 8#64))) (.agg (setRes hs true (a - a % 8#64)))).run Try.prog w = .ok true w := fun w => hart_self _ F2 w
    have E5 : ∀ w, (Op.equalIn 10000 35 (.agg (setRes hs false 0#64)) (.agg (setRes hs false 0#64))).run Try.prog w = .ok true w := fun w => hart_self _ F3 w
    have L0 := hart_lds hbox z0
    have L7 := hart_lds k7 z2
    have L8 := hart_lds k8 z3
    have HB := Lib.hid hon
    unfold holdFr
    generalize setRes hs true (a - a % 8#64) = h2 at *
    generalize setRes hs false 0#64 = h3 at *
    generalize (r && (g == a - a % 8#64)) = p at *
    generalize (a - a % 8#64 == b - b % 8#64) = q at *
    generalize w.heap.size = n at *
    clear F2 F3 z0 z2 z3 hr hF f0 k7 k8 n7 n8 hbox hon
    go_wp2_with fail
    refine wp_region_quiet_below (by kernel_rfl) (by kernel_rfl) ?_
    repeat (first | (go_big_quiet_want; (first | refine hart_quiet L0 rfl rfl ?_ | refine hart_quiet L7 rfl rfl ?_ | refine hart_quiet L8 rfl rfl ?_); go_simp; go_big_quiet_on) | go_big_quiet_step (first | (go_at_call 11; exact Calls.on_same (awake6_yes _)) | (go_at_call 16; exact Calls.on_same (granule_any _ _)) | (go_at_call 17; exact Calls.on_same (rgranule_any _ _)) | (go_at_call 18; first | exact Calls.on_arg C1 rfl | exact Calls.on_arg C3 rfl | exact Calls.on_arg C4 rfl) | (go_at_call 19; exact Calls.on_arg C2 rfl) | (go_at_call 20; exact Calls.on_arg C5 rfl) | (go_at_call 21; exact Calls.on_arg C6 rfl)))
    refine wpQuiet_nil ?_
    intro _ hw'
    obtain ⟨⟨dq, osq⟩, hw''⟩ := hw'
    subst hw''
    go_wp2
    go_ret
    exact ⟨by simp, HB.out.grow _ _⟩

set_option maxRecDepth 100000 in
theorem lifted (os : Os) (started : os.Started) (H : Type) (enc : TypeId × Value → H) :
    ReturnsInHanded {} Try.checked os 5 .any (Rows.amoHoldsSpec.pre6 enc Try.prog Try.f5 Rows.amoHoldsRow.domain false) (Rows.amoHoldsSpec.post enc Try.prog Try.f5 false true false false) := by
  refine returnsInHanded_of_change (C := Try.checked) own started (by kernel_rfl) Try.func5
    (ChangeSpec.witness6 (enc := enc) (C := Try.checked) false ⟨#[], #[.agg #[.int .u64 0, .int .i64 0, .int .u64 0, .int .u64 0, .int .u64 0, .int .u64 0, .int .u64 0, .int .u64 0, .int .u64 0, .int .u64 0, .int .u64 0, .int .u64 0, .int .u64 0, .int .u64 0, .int .u64 0, .int .u64 0, .int .u64 0, .int .u64 0, .int .u64 0, .int .u64 0, .int .u64 0, .int .u64 0, .int .u64 0, .int .u64 0, .int .u64 0, .int .u64 0, .int .u64 0, .int .u64 0, .int .u64 0, .int .u64 0, .int .u64 0, .int .u64 0, .int .u64 0, .int .u64 0, .int .u64 0, .int .u64 0, .int .u64 0, .int .u64 0, .int .u64 0, .int .u64 0, .int .u64 0, .int .u64 0, .int .u64 0, .int .u64 0, .int .u64 0, .int .u64 0, .int .u64 0, .int .u64 0, .int .u64 0, .int .u64 0, .int .u64 0, .int .u64 0, .int .u64 0, .int .u64 0, .int .u64 0, .int .u64 0, .int .u64 0, .int .u64 0, .int .u64 0, .int .u64 0, .int .u64 0, .int .u64 0, .int .u64 0, .int .u64 0, .bool false, .int .u64 0], .int .u64 0, .int .u64 0], []⟩ 12 (by kernel_rfl) (by kernel_rfl) (by kernel_rfl) (by kernel_rfl)) ?_
  intro W base args ds gs before hval0 hW hcnd _
  have hval : ∀ (j : Nat) t v, Try.f5.params[j]? = some t → args[j]? = some v → Value.okWide Try.prog W .any base t v := hval0
  have hW' := hW
  obtain ⟨p, q, hA0, hV, rfl, hfz, hnd⟩ := hW
  have hA : DataW.TrodAll enc Try.prog W 0 (fun _ => true) true Try.f5.params.toList args.toList ds p := hA0
  rw [Try.params5] at hA hval
  obtain ⟨v0, vs0, d0, ds0, p0, q0, hargs, rfl, rfl, h0, r0⟩ := trodAll_cons hA
  obtain ⟨v1, vs1, d1, ds1, p1, q1, rfl, rfl, rfl, h1, r1⟩ := trodAll_cons r0
  obtain ⟨v2, vs2, d2, ds2, p2, q2, rfl, rfl, rfl, h2, r2⟩ := trodAll_cons r1
  obtain ⟨rfl, rfl, rfl⟩ := trodAll_nil r2
  obtain rfl : args = #[v0, v1, v2] := by cases args; simp_all
  obtain ⟨rfl, rfl⟩ := trodVars_none hV
  have k0 := h0
  have l0 : ∀ x ∈ p0, x.block < W.heap.size := fun x hx => by have := hW'.lt x (by simp [hx]); simpa using this
  obtain ⟨c0, rfl, f0⟩ := open_flat 12 [.int .u64, .int .i64, .int .u64, .int .u64, .int .u64, .int .u64, .int .u64, .int .u64, .int .u64, .int .u64, .int .u64, .int .u64, .int .u64, .int .u64, .int .u64, .int .u64, .int .u64, .int .u64, .int .u64, .int .u64, .int .u64, .int .u64, .int .u64, .int .u64, .int .u64, .int .u64, .int .u64, .int .u64, .int .u64, .int .u64, .int .u64, .int .u64, .int .u64, .int .u64, .int .u64, .int .u64, .int .u64, .int .u64, .int .u64, .int .u64, .int .u64, .int .u64, .int .u64, .int .u64, .int .u64, .int .u64, .int .u64, .int .u64, .int .u64, .int .u64, .int .u64, .int .u64, .int .u64, .int .u64, .int .u64, .int .u64, .int .u64, .int .u64, .int .u64, .int .u64, .int .u64, .int .u64, .int .u64, .int .u64, .bool, .int .u64] (by kernel_rfl) (by kernel_rfl) (.inl ⟨_, Try.underlying35⟩) (hval 0 35 v0 rfl rfl) h0
  clear h0
  obtain ⟨a1, rfl, rfl, rfl, w1⟩ := open_int Try.underlying22 (hval 1 22 v1 rfl rfl) h1
  obtain ⟨a2, rfl, rfl, rfl, w2⟩ := open_int Try.underlying22 (hval 2 22 v2 rfl rfl) h2
  clear hA0 hval0
  refine (walk c0 f0 a1 w1 a2 w2 W).mono fun e W' ⟨he, bel⟩ => ?_
  subst he
  exact ⟨_, rfl, _, _, _, [], _, [], hW', trodAll_mk1 (shut_bool Try.underlying4 _), (trodAll_cons_mk (Below.trod (by kernel_rfl) (by kernel_rfl) (of_decide_eq_true (by kernel_rfl)) k0 bel l0) (trodAll_cons_mk (shut_int Try.underlying22 w1) (trodAll_cons_mk (shut_int Try.underlying22 w2) trodAll_mk0))), rfl, bel.frame _, fun h => by cases h⟩

theorem over : Rows.amoHoldsRow.holds Try.pinned (OpenSpec.ofChange Rows.amoHoldsSpec) :=
  OpenClaim.holds_of_wide 5 Try.f5 rfl rfl rfl rfl rfl rfl rfl ⟨rfl, rfl, rfl, rfl, rfl⟩ rfl rfl rfl rfl rfl (by kernel_rfl) Try.func5 (by kernel_rfl)
    (of_decide_eq_true (by kernel_rfl)) (by unfold Func.isWrapper; first | (rw [if_pos (by decide +kernel)]; kernel_rfl) | (rw [if_neg (by decide +kernel)]; exact ⟨rfl, rfl⟩))
    (fun os started H enc _ => lifted os started H enc)

theorem proved : Rows.AmoHoldsSaid :=
  over
#print axioms proved
end Go.Proofs.Ythafghechghbpaa.amoHolds
