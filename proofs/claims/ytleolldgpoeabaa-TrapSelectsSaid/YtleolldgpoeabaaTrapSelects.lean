/- Proves that for any hart and any outer world Select and Wakes, and for any kind of access Priv, answer what the reference does, and that the first test of the law holds. Conditions: none. -/
import Derived.Test.YtleolldgpoeabaaRows
import Derived.Test.YtleolldgpoeabaaTrapA
import Derived.Test.YtleolldgpoeabaaFlat
import Derived.WalkKit
import Derived.ProofKit
import Derived.OpenShut
import Derived.Below
import Derived.Carry
import Derived.ShutString
import Derived.Lib.QuietBelow
namespace Go.Proofs.Ytleolldgpoeabaa.trapSelects
open Go.ChangeShapes Go.WideShapes Go.ChangeAt Go.RowKit
set_option linter.unusedVariables false

theorem own : ownKnob Try.prog.godebug = none := by kernel_rfl

set_option maxRecDepth 100000 in
set_option maxHeartbeats 1000000 in
theorem walk (c0 : List Value) (f0 : Fits [.int .u64, .int .i64, .int .u64, .int .u64, .int .u64, .int .u64, .int .u64, .int .u64, .int .u64, .int .u64, .int .u64, .int .u64, .int .u64, .int .u64, .int .u64, .int .u64, .int .u64, .int .u64, .int .u64, .int .u64, .int .u64, .int .u64, .int .u64, .int .u64, .int .u64, .int .u64, .int .u64, .int .u64, .int .u64, .int .u64, .int .u64, .int .u64, .int .u64, .int .u64, .int .u64, .int .u64, .int .u64, .int .u64, .int .u64, .int .u64, .int .u64, .int .u64, .int .u64, .int .u64, .int .u64, .int .u64, .int .u64, .int .u64, .int .u64, .int .u64, .int .u64, .int .u64, .int .u64, .int .u64, .int .u64, .int .u64, .int .u64, .int .u64, .int .u64, .int .u64, .int .u64, .int .u64, .int .u64, .int .u64, .bool, .int .u64] c0) (c1 : List Value) (f1 : Fits [.int .u64, .int .u64, .int .u64, .int .u64, .int .u64, .int .u64, .int .u64, .bool, .int .u64, .bool] c1) (a2 : Int) (w2 : (Lit.int .i64 a2).wf = true) (w : World) :
    Calls Try.prog 5 #[.agg c0.toArray, .agg c1.toArray, .int .i64 a2] w fun e w' => e = .returned (.bool true) ∧ Below w.heap.size w w' := by
  have f0 : Fits hartLvs c0 := f0
  obtain ⟨h, p, r, wp, hc⟩ := hV_of f0
  rw [hc]
  clear hc f0
  have f1 : Fits (List.replicate 7 (.int .u64) ++ [.bool, .int .u64, .bool]) c1 := f1
  obtain ⟨e, q1, q2, he⟩ := eV_of f1
  rw [he]
  clear he f1
  clear w2
  have K1 : Hid (∀ w, Calls Try.prog 18 #[.agg (hV h p r), .agg (eV e q1 q2)] w fun r' w' => r' = .returned (.tuple #[.int .u64 (u (selV (cntM h p (cnd h e)) (cntS h p (cnd h e)))), .bool (selB (cntM h p (cnd h e)) (cntS h p (cnd h e)))]) ∧ On w w') := Lib.hid (fun w => sel_any h e p r q1 q2 w)
  have K2 : Hid (∀ w, Calls Try.prog 19 #[.agg (hV h p r), .agg (eV e q1 q2)] w fun r' w' => r' = .returned (.tuple #[.int .u64 (u (selV (cntM h p (cnd h e)) (cntS h p (cnd h e)))), .bool (selB (cntM h p (cnd h e)) (cntS h p (cnd h e)))]) ∧ On w w') := Lib.hid (fun w => rsel_any h e p r q1 q2 w)
  have K3 : Hid (∀ w, Calls Try.prog 20 #[.agg (hV h p r), .agg (eV e q1 q2)] w fun r' w' => r' = .returned (.bool (wak h e)) ∧ On w w') := Lib.hid (fun w => wak_any h e p r q1 q2 w)
  have K4 : Hid (∀ w, Calls Try.prog 21 #[.agg (hV h p r), .agg (eV e q1 q2)] w fun r' w' => r' = .returned (.bool (wak h e)) ∧ On w w') := Lib.hid (fun w => rwak_any h e p r q1 q2 w)
  have K5 : Hid (∀ w, Calls Try.prog 22 #[.agg (hV h p r), .int .i64 a2] w fun r' w' => r' = .returned (.int .i64 (prvA h p a2)) ∧ On w w') := Lib.hid (fun w => prv_any h p r a2 w)
  have K6 : Hid (∀ w, Calls Try.prog 23 #[.agg (hV h p r), .int .i64 a2] w fun r' w' => r' = .returned (.int .i64 (prvA h p a2)) ∧ On w w') := Lib.hid (fun w => rprv_any h p r a2 w)
  generalize selV (cntM h p (cnd h e)) (cntS h p (cnd h e)) = v at *
  generalize selB (cntM h p (cnd h e)) (cntS h p (cnd h e)) = b at *
  generalize wak h e = d at *
  generalize prvA h p a2 = k at *
  have HC : ∀ wr, On ((w.alloc (.cells (hV h p r) 28)).alloc (.cells (eV e q1 q2) 35)) wr → wr.heap[w.heap.size]? = some (.cells (hV h p r) 28 (0, 0)) := fun _ k => k.keep (box1 _ _ _)
  have HE : ∀ wr, On ((w.alloc (.cells (hV h p r) 28)).alloc (.cells (eV e q1 q2) 35)) wr → wr.heap[w.heap.size + 1]? = some (.cells (eV e q1 q2) 35 (0, 0)) := fun _ k => k.keep (box2 _ _ _)
  have HB : Hid (On w ((w.alloc (.cells (hV h p r) 28)).alloc (.cells (eV e q1 q2) 35))) := Lib.hid (((On.refl w).alloc _).alloc _)
  have hb := On.refl ((w.alloc (.cells (hV h p r) 28)).alloc (.cells (eV e q1 q2) 35))
  clear wp
  go_enter Try.func5, Try.ntmps5
  go_wp2_with (first | ((with_reducible apply hrt_ld); (case ho => exact rfl); (case hgd => exact rfl); (case hx => exact rfl); (case hg => exact HC _ (by assumption))) | ((with_reducible apply env_ld); (case ho => exact rfl); (case hgd => exact rfl); (case hx => exact rfl); (case hg => exact HE _ (by assumption))) | (go_at_call 18; refine (K1.out _).mono ?_; rintro e wn ⟨rfl, hb'⟩; have hb := hb.trans hb'; clear hb') | (go_at_call 19; refine (K2.out _).mono ?_; rintro e wn ⟨rfl, hb'⟩; have hb := hb.trans hb'; clear hb'))
  have L0 := row_lds hrtT (HC _ hb) (hV_size _ _ _)
  have L1 := row_lds envT (HE _ hb) (eV_size _ _ _)
  replace HB := Lib.hid (HB.out.trans hb)
  clear HC HE hb K1 K2
  generalize w.heap.size = n at *
  refine wp_region_quiet_below (by kernel_rfl) (by kernel_rfl) ?_
  repeat (first | (go_big_quiet_want; (first | refine row_quiet L0 rfl rfl ?_ | refine row_quiet L1 rfl rfl ?_); go_simp; go_big_quiet_on) | go_big_quiet_step (first | (go_at_call 11; exact Calls.on_of (awake8_yes _)) | (go_at_call 20; exact Calls.on_of (K3.out _)) | (go_at_call 21; exact Calls.on_of (K4.out _)) | (go_at_call 22; exact Calls.on_of (K5.out _)) | (go_at_call 23; exact Calls.on_of (K6.out _))))
  refine wpQuiet_nil ?_
  intro _ hw'
  obtain ⟨⟨dq, osq⟩, hw''⟩ := hw'
  subst hw''
  go_wp2
  go_ret
  exact ⟨by simp, HB.out.grow _ _⟩

set_option maxRecDepth 100000 in
theorem lifted (os : Os) (started : os.Started) (H : Type) (enc : TypeId × Value → H) :
    ReturnsInHanded {} Try.checked os 5 .any (Rows.trapSelectsSpec.pre6 enc Try.prog Try.f5 Rows.trapSelectsRow.domain false) (Rows.trapSelectsSpec.post enc Try.prog Try.f5 false true false false) := by
  refine returnsInHanded_of_change (C := Try.checked) own started (by kernel_rfl) Try.func5
    (ChangeSpec.witness6 (enc := enc) (C := Try.checked) false ⟨#[], #[.agg #[.int .u64 0, .int .i64 0, .int .u64 0, .int .u64 0, .int .u64 0, .int .u64 0, .int .u64 0, .int .u64 0, .int .u64 0, .int .u64 0, .int .u64 0, .int .u64 0, .int .u64 0, .int .u64 0, .int .u64 0, .int .u64 0, .int .u64 0, .int .u64 0, .int .u64 0, .int .u64 0, .int .u64 0, .int .u64 0, .int .u64 0, .int .u64 0, .int .u64 0, .int .u64 0, .int .u64 0, .int .u64 0, .int .u64 0, .int .u64 0, .int .u64 0, .int .u64 0, .int .u64 0, .int .u64 0, .int .u64 0, .int .u64 0, .int .u64 0, .int .u64 0, .int .u64 0, .int .u64 0, .int .u64 0, .int .u64 0, .int .u64 0, .int .u64 0, .int .u64 0, .int .u64 0, .int .u64 0, .int .u64 0, .int .u64 0, .int .u64 0, .int .u64 0, .int .u64 0, .int .u64 0, .int .u64 0, .int .u64 0, .int .u64 0, .int .u64 0, .int .u64 0, .int .u64 0, .int .u64 0, .int .u64 0, .int .u64 0, .int .u64 0, .int .u64 0, .bool false, .int .u64 0], .agg #[.int .u64 0, .int .u64 0, .int .u64 0, .int .u64 0, .int .u64 0, .int .u64 0, .int .u64 0, .bool false, .int .u64 0, .bool false], .int .i64 0], []⟩ 12 (by kernel_rfl) (by kernel_rfl) (by kernel_rfl) (by kernel_rfl)) ?_
  intro W base args ds gs before hval0 hW hcnd _
  have hval : ∀ (j : Nat) t v, Try.f5.params[j]? = some t → args[j]? = some v → Value.okWide Try.prog W .any base t v := hval0
  have hW' := hW
  obtain ⟨p, q, hA0, hV, rfl, hfz, hnd⟩ := hW
  have hA : DataW.TrodAll enc Try.prog W 0 (fun _ => true) true Try.f5.params.toList args.toList ds p := hA0
  rw [Try.params5] at hA hval
  obtain ⟨v0, vs0, d0, ds0, p0, q0, hargs, rfl, rfl, h0, r0⟩ := trodAll_cons hA
  obtain ⟨v1, vs1, d1, ds1, p1, q1, rfl, rfl, rfl, h1, r1⟩ := trodAll_cons r0
  obtain ⟨v2, vs2, d2, ds2, p2, q2, rfl, rfl, rfl, h2, r2⟩ := trodAll_cons r1
  obtain ⟨rfl, rfl, rfl⟩ := trodAll_nil r2
  obtain rfl : args = #[v0, v1, v2] := by cases args; simp_all
  obtain ⟨rfl, rfl⟩ := trodVars_none hV
  have k0 := h0
  have l0 : ∀ x ∈ p0, x.block < W.heap.size := fun x hx => by have := hW'.lt x (by simp [hx]); simpa using this
  obtain ⟨c0, rfl, f0⟩ := open_flat 12 [.int .u64, .int .i64, .int .u64, .int .u64, .int .u64, .int .u64, .int .u64, .int .u64, .int .u64, .int .u64, .int .u64, .int .u64, .int .u64, .int .u64, .int .u64, .int .u64, .int .u64, .int .u64, .int .u64, .int .u64, .int .u64, .int .u64, .int .u64, .int .u64, .int .u64, .int .u64, .int .u64, .int .u64, .int .u64, .int .u64, .int .u64, .int .u64, .int .u64, .int .u64, .int .u64, .int .u64, .int .u64, .int .u64, .int .u64, .int .u64, .int .u64, .int .u64, .int .u64, .int .u64, .int .u64, .int .u64, .int .u64, .int .u64, .int .u64, .int .u64, .int .u64, .int .u64, .int .u64, .int .u64, .int .u64, .int .u64, .int .u64, .int .u64, .int .u64, .int .u64, .int .u64, .int .u64, .int .u64, .int .u64, .bool, .int .u64] (by kernel_rfl) (by kernel_rfl) (.inl ⟨_, Try.underlying28⟩) (hval 0 28 v0 rfl rfl) h0
  clear h0
  have k1 := h1
  have l1 : ∀ x ∈ p1, x.block < W.heap.size := fun x hx => by have := hW'.lt x (by simp [hx]); simpa using this
  obtain ⟨c1, rfl, f1⟩ := open_flat 12 [.int .u64, .int .u64, .int .u64, .int .u64, .int .u64, .int .u64, .int .u64, .bool, .int .u64, .bool] (by kernel_rfl) (by kernel_rfl) (.inl ⟨_, Try.underlying35⟩) (hval 1 35 v1 rfl rfl) h1
  clear h1
  obtain ⟨a2, rfl, rfl, rfl, w2⟩ := open_int Try.underlying3 (hval 2 3 v2 rfl rfl) h2
  clear hA0 hval0
  refine (walk c0 f0 c1 f1 a2 w2 W).mono fun e W' ⟨he, bel⟩ => ?_
  subst he
  exact ⟨_, rfl, _, _, _, [], _, [], hW', trodAll_mk1 (shut_bool Try.underlying4 _), (trodAll_cons_mk (Below.trod (by kernel_rfl) (by kernel_rfl) (of_decide_eq_true (by kernel_rfl)) k0 bel l0) (trodAll_cons_mk (Below.trod (by kernel_rfl) (by kernel_rfl) (of_decide_eq_true (by kernel_rfl)) k1 bel l1) (trodAll_cons_mk (shut_int Try.underlying3 w2) trodAll_mk0))), rfl, bel.frame _, fun h => by cases h⟩

theorem over : Rows.trapSelectsRow.holds Try.pinned (OpenSpec.ofChange Rows.trapSelectsSpec) :=
  OpenClaim.holds_of_wide 5 Try.f5 rfl rfl rfl rfl rfl rfl rfl ⟨rfl, rfl, rfl, rfl, rfl⟩ rfl rfl rfl rfl rfl (by kernel_rfl) Try.func5 (by kernel_rfl)
    (of_decide_eq_true (by kernel_rfl)) (by unfold Func.isWrapper; first | (rw [if_pos (by decide +kernel)]; kernel_rfl) | (rw [if_neg (by decide +kernel)]; exact ⟨rfl, rfl⟩))
    (fun os started H enc _ => lifted os started H enc)

theorem proved : Rows.TrapSelectsSaid :=
  over
#print axioms proved
end Go.Proofs.Ytleolldgpoeabaa.trapSelects
