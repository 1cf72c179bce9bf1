/- Proves that for any hart Mret and Sret answer the hart that the reference does, and that the first test of the law holds. Conditions: none. -/
import Derived.Test.YtleolldgpoeabaaRows
import Derived.Test.YtleolldgpoeabaaTrapA
import Derived.Test.YtleolldgpoeabaaFlat
import Derived.WalkKit
import Derived.ProofKit
import Derived.OpenShut
import Derived.Below
import Derived.Carry
import Derived.ShutString
import Derived.Lib.QuietBelow
namespace Go.Proofs.Ytleolldgpoeabaa.trapReturns
open Go.ChangeShapes Go.WideShapes Go.ChangeAt Go.RowKit
set_option linter.unusedVariables false

theorem own : ownKnob Try.prog.godebug = none := by kernel_rfl

set_option maxRecDepth 100000 in
set_option maxHeartbeats 1000000 in
theorem walk (c0 : List Value) (f0 : Fits [.int .u64, .int .i64, .int .u64, .int .u64, .int .u64, .int .u64, .int .u64, .int .u64, .int .u64, .int .u64, .int .u64, .int .u64, .int .u64, .int .u64, .int .u64, .int .u64, .int .u64, .int .u64, .int .u64, .int .u64, .int .u64, .int .u64, .int .u64, .int .u64, .int .u64, .int .u64, .int .u64, .int .u64, .int .u64, .int .u64, .int .u64, .int .u64, .int .u64, .int .u64, .int .u64, .int .u64, .int .u64, .int .u64, .int .u64, .int .u64, .int .u64, .int .u64, .int .u64, .int .u64, .int .u64, .int .u64, .int .u64, .int .u64, .int .u64, .int .u64, .int .u64, .int .u64, .int .u64, .int .u64, .int .u64, .int .u64, .int .u64, .int .u64, .int .u64, .int .u64, .int .u64, .int .u64, .int .u64, .int .u64, .bool, .int .u64] c0) (w : World) :
    Calls Try.prog 4 #[.agg c0.toArray] w fun e w' => e = .returned (.bool true) ∧ Below w.heap.size w w' := by
  have f0 : Fits hartLvs c0 := f0
  obtain ⟨h, p, r, wp, hc⟩ := hV_of f0
  rw [hc]
  clear hc f0
  have wk := mpq_wf (h 34)
  have wj := srP_wf h
  have K1 : Hid (∀ w, Calls Try.prog 14 #[.agg (hV h p r)] w fun r' w' => r' = .returned (.agg (hV (mrH h) (mpq (h 34)) false)) ∧ On w w') := Lib.hid (fun w => mret_any h p r w)
  have K2 : Hid (∀ w, Calls Try.prog 15 #[.agg (hV h p r)] w fun r' w' => r' = .returned (.agg (hV (mrH h) (mpq (h 34)) false)) ∧ On w w') := Lib.hid (fun w => rmret_any h p r w)
  have K3 : Hid (∀ w, Calls Try.prog 16 #[.agg (hV h p r)] w fun r' w' => r' = .returned (.agg (hV (srH h) (srP h) false)) ∧ On w w') := Lib.hid (fun w => sret_any h p r w)
  have K4 : Hid (∀ w, Calls Try.prog 17 #[.agg (hV h p r)] w fun r' w' => r' = .returned (.agg (hV (srH h) (srP h) false)) ∧ On w w') := Lib.hid (fun w => rsret_any h p r w)
  generalize mrH h = y at *
  generalize mpq (h 34) = k at *
  generalize srH h = z at *
  generalize srP h = j at *
  have hs := fun w => hrt_self y false wk w
  have hq := fun w => hrt_eql y false wk w
  have hs' := fun w => hrt_self z false wj w
  have hq' := fun w => hrt_eql z false wj w
  have L0 := row_lds hrtT (heap_alloc_new w (.cells (hV h p r) 28)) (hV_size _ _ _)
  have HB : Hid (On w (w.alloc (.cells (hV h p r) 28))) := Lib.hid ((On.refl w).alloc _)
  clear wk wj wp
  go_enter Try.func4, Try.ntmps4
  go_wp2_with fail
  generalize (w.alloc (.cells (hV h p r) 28)) = W1 at *
  generalize w.heap.size = n at *
  refine wp_region_quiet_below (by kernel_rfl) (by kernel_rfl) ?_
  repeat (first | (go_big_quiet_want; (first | refine row_quiet L0 rfl rfl ?_); go_simp; go_big_quiet_on) | go_big_quiet_step (first | (go_at_call 11; exact Calls.on_of (awake8_yes _)) | (go_at_call 14; exact Calls.on_of (K1.out _)) | (go_at_call 15; exact Calls.on_of (K2.out _)) | (go_at_call 16; exact Calls.on_of (K3.out _)) | (go_at_call 17; exact Calls.on_of (K4.out _))))
  refine wpQuiet_nil ?_
  intro _ hw'
  obtain ⟨⟨dq, osq⟩, hw''⟩ := hw'
  subst hw''
  go_wp2
  go_ret
  exact ⟨by simp, HB.out.grow _ _⟩

set_option maxRecDepth 100000 in
theorem lifted (os : Os) (started : os.Started) (H : Type) (enc : TypeId × Value → H) :
    ReturnsInHanded {} Try.checked os 4 .any (Rows.trapReturnsSpec.pre6 enc Try.prog Try.f4 Rows.trapReturnsRow.domain false) (Rows.trapReturnsSpec.post enc Try.prog Try.f4 false true false false) := by
  refine returnsInHanded_of_change (C := Try.checked) own started (by kernel_rfl) Try.func4
    (ChangeSpec.witness6 (enc := enc) (C := Try.checked) false ⟨#[], #[.agg #[.int .u64 0, .int .i64 0, .int .u64 0, .int .u64 0, .int .u64 0, .int .u64 0, .int .u64 0, .int .u64 0, .int .u64 0, .int .u64 0, .int .u64 0, .int .u64 0, .int .u64 0, .int .u64 0, .int .u64 0, .int .u64 0, .int .u64 0, .int .u64 0, .int .u64 0, .int .u64 0, .int .u64 0, .int .u64 0, .int .u64 0, .int .u64 0, .int .u64 0, .int .u64 0, .int .u64 0, .int .u64 0, .int .u64 0, .int .u64 0, .int .u64 0, .int .u64 0, .int .u64 0, .int .u64 0, .int .u64 0, .int .u64 0, .int .u64 0, .int .u64 0, .int .u64 0, .int .u64 0, .int .u64 0, .int .u64 0, .int .u64 0, .int .u64 0, .int .u64 0, .int .u64 0, .int .u64 0, .int .u64 0, .int .u64 0, .int .u64 0, .int .u64 0, .int .u64 0, .int .u64 0, .int .u64 0, .int .u64 0, .int .u64 0, .int .u64 0, .int .u64 0, .int .u64 0, .int .u64 0, .int .u64 0, .int .u64 0, .int .u64 0, .int .u64 0, .bool false, .int .u64 0]], []⟩ 12 (by kernel_rfl) (by kernel_rfl) (by kernel_rfl) (by kernel_rfl)) ?_
  intro W base args ds gs before hval0 hW hcnd _
  have hval : ∀ (j : Nat) t v, Try.f4.params[j]? = some t → args[j]? = some v → Value.okWide Try.prog W .any base t v := hval0
  have hW' := hW
  obtain ⟨p, q, hA0, hV, rfl, hfz, hnd⟩ := hW
  have hA : DataW.TrodAll enc Try.prog W 0 (fun _ => true) true Try.f4.params.toList args.toList ds p := hA0
  rw [Try.params4] at hA hval
  obtain ⟨v0, vs0, d0, ds0, p0, q0, hargs, rfl, rfl, h0, r0⟩ := trodAll_cons hA
  obtain ⟨rfl, rfl, rfl⟩ := trodAll_nil r0
  obtain rfl : args = #[v0] := by cases args; simp_all
  obtain ⟨rfl, rfl⟩ := trodVars_none hV
  have k0 := h0
  have l0 : ∀ x ∈ p0, x.block < W.heap.size := fun x hx => by have := hW'.lt x (by simp [hx]); simpa using this
  obtain ⟨c0, rfl, f0⟩ := open_flat 12 [.int .u64, .int .i64, .int .u64, .int .u64, .int .u64, .int .u64, .int .u64, .int .u64, .int .u64, .int .u64, .int .u64, .int .u64, .int .u64, .int .u64, .int .u64, .int .u64, .int .u64, .int .u64, .int .u64, .int .u64, .int .u64, .int .u64, .int .u64, .int .u64, .int .u64, .int .u64, .int .u64, .int .u64, .int .u64, .int .u64, .int .u64, .int .u64, .int .u64, .int .u64, .int .u64, .int .u64, .int .u64, .int .u64, .int .u64, .int .u64, .int .u64, .int .u64, .int .u64, .int .u64, .int .u64, .int .u64, .int .u64, .int .u64, .int .u64, .int .u64, .int .u64, .int .u64, .int .u64, .int .u64, .int .u64, .int .u64, .int .u64, .int .u64, .int .u64, .int .u64, .int .u64, .int .u64, .int .u64, .int .u64, .bool, .int .u64] (by kernel_rfl) (by kernel_rfl) (.inl ⟨_, Try.underlying28⟩) (hval 0 28 v0 rfl rfl) h0
  clear h0
  clear hA0 hval0
  refine (walk c0 f0 W).mono fun e W' ⟨he, bel⟩ => ?_
  subst he
  exact ⟨_, rfl, _, _, _, [], _, [], hW', trodAll_mk1 (shut_bool Try.underlying4 _), (trodAll_cons_mk (Below.trod (by kernel_rfl) (by kernel_rfl) (of_decide_eq_true (by kernel_rfl)) k0 bel l0) trodAll_mk0), rfl, bel.frame _, fun h => by cases h⟩

theorem over : Rows.trapReturnsRow.holds Try.pinned (OpenSpec.ofChange Rows.trapReturnsSpec) :=
  OpenClaim.holds_of_wide 4 Try.f4 rfl rfl rfl rfl rfl rfl rfl ⟨rfl, rfl, rfl, rfl, rfl⟩ rfl rfl rfl rfl rfl (by kernel_rfl) Try.func4 (by kernel_rfl)
    (of_decide_eq_true (by kernel_rfl)) (by unfold Func.isWrapper; first | (rw [if_pos (by decide +kernel)]; kernel_rfl) | (rw [if_neg (by decide +kernel)]; exact ⟨rfl, rfl⟩))
    (fun os started H enc _ => lifted os started H enc)

theorem proved : Rows.TrapReturnsSaid :=
  over
#print axioms proved
end Go.Proofs.Ytleolldgpoeabaa.trapReturns
