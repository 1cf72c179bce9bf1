/- Proves that for every condition, any two words and any instruction Branch and Target of package alu answer as the document's own reference does, and that the first test of the law holds. Conditions: none. -/
import Derived.Test.YtomecgfodchegaaRows
import Derived.Test.YtomecgfodchegaaAluT
import Derived.Test.YtomecgfodchegaaFlat
import Derived.WalkKit
import Derived.ProofKit
import Derived.OpenShut
import Derived.Below
import Derived.Carry
import Derived.ShutString
import Derived.Lib.QuietBelow
namespace Go.Proofs.Ytomecgfodchegaa.aluBranches
open Go.ChangeShapes Go.WideShapes Go.ChangeAt Go.RowKit
set_option linter.unusedVariables false

theorem own : ownKnob Try.prog.godebug = none := by kernel_rfl

theorem walk (a0 : Int) (w0 : (Lit.int .i64 a0).wf = true) (a1 : Int) (w1 : (Lit.int .u64 a1).wf = true) (a2 : Int) (w2 : (Lit.int .u64 a2).wf = true) (a3_0 : Int) (w3_0 : (Lit.int .i64 a3_0).wf = true) (a3_1 : Int) (w3_1 : (Lit.int .i64 a3_1).wf = true) (a3_2 : Int) (w3_2 : (Lit.int .i64 a3_2).wf = true) (a3_3 : Int) (w3_3 : (Lit.int .i64 a3_3).wf = true) (a3_4 : Int) (w3_4 : (Lit.int .i64 a3_4).wf = true) (a3_5 : Int) (w3_5 : (Lit.int .u64 a3_5).wf = true) (a3_6 : Int) (w3_6 : (Lit.int .i64 a3_6).wf = true) (a3_7 : Bool) (a3_8 : Bool) (a3_9 : Bool) (a3_10 : Int) (w3_10 : (Lit.int .i64 a3_10).wf = true) (a4 : Int) (w4 : (Lit.int .u64 a4).wf = true) (w : World) :
    Calls Try.prog 4 #[.int .i64 a0, .int .u64 a1, .int .u64 a2, .agg #[.int .i64 a3_0, .int .i64 a3_1, .int .i64 a3_2, .int .i64 a3_3, .int .i64 a3_4, .int .u64 a3_5, .int .i64 a3_6, .bool a3_7, .bool a3_8, .bool a3_9, .int .i64 a3_10], .int .u64 a4] w fun e w' => e = .returned (.bool true) ∧ Below w.heap.size w w' := by
  obtain ⟨a, rfl⟩ := u_of w1
  obtain ⟨b, rfl⟩ := u_of w2
  obtain ⟨m, rfl⟩ := u_of w3_5
  obtain ⟨pc, rfl⟩ := u_of w4
  have c0 : ∀ d' os', (Sort.grow (redrawn (w.alloc (.cells #[.int .i64 (a3_0), .int .i64 (a3_1), .int .i64 (a3_2), .int .i64 (a3_3), .int .i64 (a3_4), .int .u64 (u m), .int .i64 (a3_6), .bool a3_7, .bool a3_8, .bool a3_9, .int .i64 (a3_10)] 27)) d') os').cell? ⟨w.heap.size, 0, none⟩ = some (.int .i64 (a3_0)) := fun d' os' => new_cell _ _ _ _ rfl d' os'
  have c1 : ∀ d' os', (Sort.grow (redrawn (w.alloc (.cells #[.int .i64 (a3_0), .int .i64 (a3_1), .int .i64 (a3_2), .int .i64 (a3_3), .int .i64 (a3_4), .int .u64 (u m), .int .i64 (a3_6), .bool a3_7, .bool a3_8, .bool a3_9, .int .i64 (a3_10)] 27)) d') os').cell? ⟨w.heap.size, 1, none⟩ = some (.int .i64 (a3_1)) := fun d' os' => new_cell _ _ _ _ rfl d' os'
  have c2 : ∀ d' os', (Sort.grow (redrawn (w.alloc (.cells #[.int .i64 (a3_0), .int .i64 (a3_1), .int .i64 (a3_2), .int .i64 (a3_3), .int .i64 (a3_4), .int .u64 (u m), .int .i64 (a3_6), .bool a3_7, .bool a3_8, .bool a3_9, .int .i64 (a3_10)] 27)) d') os').cell? ⟨w.heap.size, 2, none⟩ = some (.int .i64 (a3_2)) := fun d' os' => new_cell _ _ _ _ rfl d' os'
  have c3 : ∀ d' os', (Sort.grow (redrawn (w.alloc (.cells #[.int .i64 (a3_0), .int .i64 (a3_1), .int .i64 (a3_2), .int .i64 (a3_3), .int .i64 (a3_4), .int .u64 (u m), .int .i64 (a3_6), .bool a3_7, .bool a3_8, .bool a3_9, .int .i64 (a3_10)] 27)) d') os').cell? ⟨w.heap.size, 3, none⟩ = some (.int .i64 (a3_3)) := fun d' os' => new_cell _ _ _ _ rfl d' os'
  have c4 : ∀ d' os', (Sort.grow (redrawn (w.alloc (.cells #[.int .i64 (a3_0), .int .i64 (a3_1), .int .i64 (a3_2), .int .i64 (a3_3), .int .i64 (a3_4), .int .u64 (u m), .int .i64 (a3_6), .bool a3_7, .bool a3_8, .bool a3_9, .int .i64 (a3_10)] 27)) d') os').cell? ⟨w.heap.size, 4, none⟩ = some (.int .i64 (a3_4)) := fun d' os' => new_cell _ _ _ _ rfl d' os'
  have c5 : ∀ d' os', (Sort.grow (redrawn (w.alloc (.cells #[.int .i64 (a3_0), .int .i64 (a3_1), .int .i64 (a3_2), .int .i64 (a3_3), .int .i64 (a3_4), .int .u64 (u m), .int .i64 (a3_6), .bool a3_7, .bool a3_8, .bool a3_9, .int .i64 (a3_10)] 27)) d') os').cell? ⟨w.heap.size, 5, none⟩ = some (.int .u64 (u m)) := fun d' os' => new_cell _ _ _ _ rfl d' os'
  have c6 : ∀ d' os', (Sort.grow (redrawn (w.alloc (.cells #[.int .i64 (a3_0), .int .i64 (a3_1), .int .i64 (a3_2), .int .i64 (a3_3), .int .i64 (a3_4), .int .u64 (u m), .int .i64 (a3_6), .bool a3_7, .bool a3_8, .bool a3_9, .int .i64 (a3_10)] 27)) d') os').cell? ⟨w.heap.size, 6, none⟩ = some (.int .i64 (a3_6)) := fun d' os' => new_cell _ _ _ _ rfl d' os'
  have c7 : ∀ d' os', (Sort.grow (redrawn (w.alloc (.cells #[.int .i64 (a3_0), .int .i64 (a3_1), .int .i64 (a3_2), .int .i64 (a3_3), .int .i64 (a3_4), .int .u64 (u m), .int .i64 (a3_6), .bool a3_7, .bool a3_8, .bool a3_9, .int .i64 (a3_10)] 27)) d') os').cell? ⟨w.heap.size, 7, none⟩ = some (.bool a3_7) := fun d' os' => new_cell _ _ _ _ rfl d' os'
  have c8 : ∀ d' os', (Sort.grow (redrawn (w.alloc (.cells #[.int .i64 (a3_0), .int .i64 (a3_1), .int .i64 (a3_2), .int .i64 (a3_3), .int .i64 (a3_4), .int .u64 (u m), .int .i64 (a3_6), .bool a3_7, .bool a3_8, .bool a3_9, .int .i64 (a3_10)] 27)) d') os').cell? ⟨w.heap.size, 8, none⟩ = some (.bool a3_8) := fun d' os' => new_cell _ _ _ _ rfl d' os'
  have c9 : ∀ d' os', (Sort.grow (redrawn (w.alloc (.cells #[.int .i64 (a3_0), .int .i64 (a3_1), .int .i64 (a3_2), .int .i64 (a3_3), .int .i64 (a3_4), .int .u64 (u m), .int .i64 (a3_6), .bool a3_7, .bool a3_8, .bool a3_9, .int .i64 (a3_10)] 27)) d') os').cell? ⟨w.heap.size, 9, none⟩ = some (.bool a3_9) := fun d' os' => new_cell _ _ _ _ rfl d' os'
  have c10 : ∀ d' os', (Sort.grow (redrawn (w.alloc (.cells #[.int .i64 (a3_0), .int .i64 (a3_1), .int .i64 (a3_2), .int .i64 (a3_3), .int .i64 (a3_4), .int .u64 (u m), .int .i64 (a3_6), .bool a3_7, .bool a3_8, .bool a3_9, .int .i64 (a3_10)] 27)) d') os').cell? ⟨w.heap.size, 10, none⟩ = some (.int .i64 (a3_10)) := fun d' os' => new_cell _ _ _ _ rfl d' os'
  go_enter Try.func4, Try.ntmps4
  go_wp2_with fail
  refine wp_region_quiet_below (by kernel_rfl) (by kernel_rfl) ?_
  repeat (go_big_quiet_step (first | (go_at_call 11; exact Calls.on_same (awake4_yes _)) | (go_at_call 14; exact Calls.on_same (branch_any _ _ _ _)) | (go_at_call 15; exact Calls.on_same (rbranch_any _ _ _ _)) | (go_at_call 16; exact Calls.on_of (target_any _ _ _ _ _ _ _ _ _ _ _ _ _ _)) | (go_at_call 17; exact Calls.on_of (rtarget_any _ _ _ _ _ _ _ _ _ _ _ _ _ _))))
  refine wpQuiet_nil ?_
  intro _ hw'
  obtain ⟨⟨dq, osq⟩, hw''⟩ := hw'
  subst hw''
  go_wp2
  go_ret
  exact ⟨by simp, ((On.refl w).alloc _).grow _ _⟩

set_option maxRecDepth 100000 in
theorem lifted (os : Os) (started : os.Started) (H : Type) (enc : TypeId × Value → H) :
    ReturnsInHanded {} Try.checked os 4 .any (Rows.aluBranchesSpec.pre6 enc Try.prog Try.f4 Rows.aluBranchesRow.domain false) (Rows.aluBranchesSpec.post enc Try.prog Try.f4 false true false false) := by
  refine returnsInHanded_of_change (C := Try.checked) own started (by kernel_rfl) Try.func4
    (ChangeSpec.witness6 (enc := enc) (C := Try.checked) false ⟨#[], #[.int .i64 0, .int .u64 0, .int .u64 0, .agg #[.int .i64 0, .int .i64 0, .int .i64 0, .int .i64 0, .int .i64 0, .int .u64 0, .int .i64 0, .bool false, .bool false, .bool false, .int .i64 0], .int .u64 0], []⟩ 12 (by kernel_rfl) (by kernel_rfl) (by kernel_rfl) (by kernel_rfl)) ?_
  intro W base args ds gs before hval0 hW hcnd _
  have hval : ∀ (j : Nat) t v, Try.f4.params[j]? = some t → args[j]? = some v → Value.okWide Try.prog W .any base t v := hval0
  have hW' := hW
  obtain ⟨p, q, hA0, hV, rfl, hfz, hnd⟩ := hW
  have hA : DataW.TrodAll enc Try.prog W 0 (fun _ => true) true Try.f4.params.toList args.toList ds p := hA0
  rw [Try.params4] at hA hval
  obtain ⟨v0, vs0, d0, ds0, p0, q0, hargs, rfl, rfl, h0, r0⟩ := trodAll_cons hA
  obtain ⟨v1, vs1, d1, ds1, p1, q1, rfl, rfl, rfl, h1, r1⟩ := trodAll_cons r0
  obtain ⟨v2, vs2, d2, ds2, p2, q2, rfl, rfl, rfl, h2, r2⟩ := trodAll_cons r1
  obtain ⟨v3, vs3, d3, ds3, p3, q3, rfl, rfl, rfl, h3, r3⟩ := trodAll_cons r2
  obtain ⟨v4, vs4, d4, ds4, p4, q4, rfl, rfl, rfl, h4, r4⟩ := trodAll_cons r3
  obtain ⟨rfl, rfl, rfl⟩ := trodAll_nil r4
  obtain rfl : args = #[v0, v1, v2, v3, v4] := by cases args; simp_all
  obtain ⟨rfl, rfl⟩ := trodVars_none hV
  obtain ⟨a0, rfl, rfl, rfl, w0⟩ := open_int Try.underlying3 (hval 0 3 v0 rfl rfl) h0
  obtain ⟨a1, rfl, rfl, rfl, w1⟩ := open_int Try.underlying22 (hval 1 22 v1 rfl rfl) h1
  obtain ⟨a2, rfl, rfl, rfl, w2⟩ := open_int Try.underlying22 (hval 2 22 v2 rfl rfl) h2
  have k3 := h3
  have l3 : ∀ x ∈ p3, x.block < W.heap.size := fun x hx => by have := hW'.lt x (by simp [hx]); simpa using this
  obtain ⟨c3, rfl, f3⟩ := open_flat 12 [.int .i64, .int .i64, .int .i64, .int .i64, .int .i64, .int .u64, .int .i64, .bool, .bool, .bool, .int .i64] (by kernel_rfl) (by kernel_rfl) (.inl ⟨_, Try.underlying27⟩) (hval 3 27 v3 rfl rfl) h3
  clear h3
  obtain ⟨a3_0, c3, rfl, w3_0, f3⟩ := f3
  obtain ⟨a3_1, c3, rfl, w3_1, f3⟩ := f3
  obtain ⟨a3_2, c3, rfl, w3_2, f3⟩ := f3
  obtain ⟨a3_3, c3, rfl, w3_3, f3⟩ := f3
  obtain ⟨a3_4, c3, rfl, w3_4, f3⟩ := f3
  obtain ⟨a3_5, c3, rfl, w3_5, f3⟩ := f3
  obtain ⟨a3_6, c3, rfl, w3_6, f3⟩ := f3
  obtain ⟨a3_7, c3, rfl, f3⟩ := f3
  obtain ⟨a3_8, c3, rfl, f3⟩ := f3
  obtain ⟨a3_9, c3, rfl, f3⟩ := f3
  obtain ⟨a3_10, c3, rfl, w3_10, f3⟩ := f3
  obtain rfl : c3 = [] := f3
  obtain ⟨a4, rfl, rfl, rfl, w4⟩ := open_int Try.underlying22 (hval 4 22 v4 rfl rfl) h4
  clear hA0 hval0
  refine (walk a0 w0 a1 w1 a2 w2 a3_0 w3_0 a3_1 w3_1 a3_2 w3_2 a3_3 w3_3 a3_4 w3_4 a3_5 w3_5 a3_6 w3_6 a3_7 a3_8 a3_9 a3_10 w3_10 a4 w4 W).mono fun e W' ⟨he, bel⟩ => ?_
  subst he
  exact ⟨_, rfl, _, _, _, [], _, [], hW', trodAll_mk1 (shut_bool Try.underlying4 _), (trodAll_cons_mk (shut_int Try.underlying3 w0) (trodAll_cons_mk (shut_int Try.underlying22 w1) (trodAll_cons_mk (shut_int Try.underlying22 w2) (trodAll_cons_mk (Below.trod (by kernel_rfl) (by kernel_rfl) (of_decide_eq_true (by kernel_rfl)) k3 bel l3) (trodAll_cons_mk (shut_int Try.underlying22 w4) trodAll_mk0))))), rfl, bel.frame _, fun h => by cases h⟩

theorem over : Rows.aluBranchesRow.holds Try.pinned (OpenSpec.ofChange Rows.aluBranchesSpec) :=
  OpenClaim.holds_of_wide 4 Try.f4 rfl rfl rfl rfl rfl rfl rfl ⟨rfl, rfl, rfl, rfl, rfl⟩ rfl rfl rfl rfl rfl (by kernel_rfl) Try.func4 (by kernel_rfl)
    (of_decide_eq_true (by kernel_rfl)) (by unfold Func.isWrapper; first | (rw [if_pos (by decide +kernel)]; kernel_rfl) | (rw [if_neg (by decide +kernel)]; exact ⟨rfl, rfl⟩))
    (fun os started H enc _ => lifted os started H enc)

theorem proved : Rows.AluBranchesSaid :=
  over
#print axioms proved
end Go.Proofs.Ytomecgfodchegaa.aluBranches
