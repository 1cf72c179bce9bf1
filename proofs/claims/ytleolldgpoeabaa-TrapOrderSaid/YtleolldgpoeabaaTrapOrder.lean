/- Proves that with one more interrupt pending none is taken that comes behind the one that was, that what is taken is pending and enabled, and that what does not wake is not taken, for any hart, any outer world and any further lines, and that the first test of the law holds. Conditions: none. -/
import Derived.Test.YtleolldgpoeabaaRows
import Derived.Test.YtleolldgpoeabaaTrapQ
import Derived.Test.YtleolldgpoeabaaFlat
import Derived.WalkKit
import Derived.ProofKit
import Derived.OpenShut
import Derived.Below
import Derived.Carry
import Derived.ShutString
namespace Go.Proofs.Ytleolldgpoeabaa.trapOrder
open Go.ChangeShapes Go.WideShapes Go.ChangeAt Go.RowKit
set_option linter.unusedVariables false

theorem own : ownKnob Try.prog.godebug = none := by kernel_rfl

set_option maxRecDepth 100000 in
set_option maxHeartbeats 4000000 in
theorem walk (c0 : List Value) (f0 : Fits [.int .u64, .int .i64, .int .u64, .int .u64, .int .u64, .int .u64, .int .u64, .int .u64, .int .u64, .int .u64, .int .u64, .int .u64, .int .u64, .int .u64, .int .u64, .int .u64, .int .u64, .int .u64, .int .u64, .int .u64, .int .u64, .int .u64, .int .u64, .int .u64, .int .u64, .int .u64, .int .u64, .int .u64, .int .u64, .int .u64, .int .u64, .int .u64, .int .u64, .int .u64, .int .u64, .int .u64, .int .u64, .int .u64, .int .u64, .int .u64, .int .u64, .int .u64, .int .u64, .int .u64, .int .u64, .int .u64, .int .u64, .int .u64, .int .u64, .int .u64, .int .u64, .int .u64, .int .u64, .int .u64, .int .u64, .int .u64, .int .u64, .int .u64, .int .u64, .int .u64, .int .u64, .int .u64, .int .u64, .int .u64, .bool, .int .u64] c0) (c1 : List Value) (f1 : Fits [.int .u64, .int .u64, .int .u64, .int .u64, .int .u64, .int .u64, .int .u64, .bool, .int .u64, .bool] c1) (a2 : Int) (w2 : (Lit.int .u64 a2).wf = true) (w : World) :
    Calls Try.prog 7 #[.agg c0.toArray, .agg c1.toArray, .int .u64 a2] w fun e w' => e = .returned (.bool true) ∧ Below w.heap.size w w' := by
  replace f0 : Fits hartLvs c0 := f0
  obtain ⟨h, p, r, wp, hc⟩ := hV_of f0
  rw [hc]
  clear hc f0
  replace f1 : Fits (List.replicate 7 (.int .u64) ++ [.bool, .int .u64, .bool]) c1 := f1
  obtain ⟨e, q1, q2, he⟩ := eV_of f1
  rw [he]
  clear he f1
  obtain ⟨mo, rfl⟩ := u_of w2
  clear w2
  clear wp
  have hZ := fun w => env_zero w
  have hO : bits .or .u64 (u (e 2)) (u mo) = u (e 2 ||| mo) := u_or _ _
  have SE := eV_set2 e q1 q2 (e 2 ||| mo)
  have GE := eV_get e q1 q2 2 (by omega)
  have fE := fun wr => blk_free (blk_new wr (.cells (eV e q1 q2) 35)) 2
  cases ho : selB (cntM h p (cnd h e)) (cntS h p (cnd h e))
  · have hv : selV (cntM h p (cnd h e)) (cntS h p (cnd h e)) = 0#64 := by unfold selB at ho; simpa using ho
    obtain ⟨vb, hvb⟩ : ∃ v, selV (cntM h p (cnd h (upd e 2 (e 2 ||| mo)))) (cntS h p (cnd h (upd e 2 (e 2 ||| mo)))) = v := ⟨_, rfl⟩
    obtain ⟨bb, hbb⟩ : ∃ v, selB (cntM h p (cnd h (upd e 2 (e 2 ||| mo)))) (cntS h p (cnd h (upd e 2 (e 2 ||| mo)))) = v := ⟨_, rfl⟩
    have K1 : Hid (∀ w, Calls Try.prog 18 #[.agg (hV h p r), .agg (eV e q1 q2)] w fun r' w' => r' = .returned (.tuple #[.int .u64 (u 0#64), .bool false]) ∧ On w w') := Lib.hid (fun w => by have := sel_any h e p r q1 q2 w; rw [hv, ho] at this; exact this)
    have K2 : Hid (∀ w, Calls Try.prog 18 #[.agg (hV h p r), .agg (eV (upd e 2 (e 2 ||| mo)) q1 q2)] w fun r' w' => r' = .returned (.tuple #[.int .u64 (u vb), .bool bb]) ∧ On w w') := Lib.hid (fun w => by have := sel_any h (upd e 2 (e 2 ||| mo)) p r q1 q2 w; rw [hvb, hbb] at this; exact this)
    have u0 : u 0#64 = 0 := rfl
    generalize (upd e 2 (e 2 ||| mo)) = e' at *
    generalize e 2 ||| mo = lm at *
    clear ho hv hvb hbb
    have s0 : ∀ wq, On ((w.alloc (.cells (hV h p r) 28)).alloc (.cells (eV e q1 q2) 35)) wq → wq.heap[w.heap.size]? = some (.cells (hV h p r) 28 (0, 0)) := fun _ h => h.keep (box1 _ _ _)
    have t0 : ∀ wq, On ((w.alloc (.cells (hV h p r) 28)).alloc (.cells (eV e q1 q2) 35)) wq → wq.heap[w.heap.size + 1]? = some (.cells (eV e q1 q2) 35 (0, 0)) := fun _ h => h.keep (box2 _ _ _)
    have hb0 := On.refl (((w.alloc (.cells (hV h p r) 28)).alloc (.cells (eV e q1 q2) 35)))
    have hb1 : ∀ ob : Obj, On (((w.alloc (.cells (hV h p r) 28)).alloc (.cells (eV e q1 q2) 35))) ((((w.alloc (.cells (hV h p r) 28)).alloc (.cells (eV e q1 q2) 35))).alloc ob) := fun ob => (On.refl _).alloc ob
    have e2 : ∀ wq, On ((w.alloc (.cells (hV h p r) 28)).alloc (.cells (eV e q1 q2) 35)) wq → wq.cell? ⟨w.heap.size + 1, 2, none⟩ = some (.int .u64 (u (e 2))) := fun _ hqq => blk_cell (t0 _ hqq) 2 (eV_get e q1 q2 2 (by omega))
    have HB : Hid (On w (((w.alloc (.cells (hV h p r) 28)).alloc (.cells (eV e q1 q2) 35)))) := Lib.hid (((On.refl w).alloc _).alloc _)
    go_enter Try.func7, Try.ntmps7
    go_wp2_with (first | ((with_reducible apply hrt_ld); (case ho => exact rfl); (case hgd => exact rfl); (case hx => exact rfl); (case hg => (first | exact s0 _ (by first | exact hb0 | exact hb1 _) | exact t0 _ (by first | exact hb0 | exact hb1 _) | exact heap_alloc_new _ _))) | ((with_reducible apply env_ld); (case ho => exact rfl); (case hgd => exact rfl); (case hx => exact rfl); (case hg => (first | exact s0 _ (by first | exact hb0 | exact hb1 _) | exact t0 _ (by first | exact hb0 | exact hb1 _) | exact heap_alloc_new _ _))) | ((with_reducible apply env_new_st); (case ho => exact rfl); (case hgd => exact rfl); (case hx => exact rfl); (case hy => exact rfl)))
    go_at_call 18; refine (K1.out _).mono ?_; rintro _ w1 ⟨rfl, hb'⟩
    have hb := hb'
    replace s0 := fun wq (h : On w1 wq) => s0 wq (hb.trans h)
    replace t0 := fun wq (h : On w1 wq) => t0 wq (hb.trans h)
    replace e2 := fun wq (h : On w1 wq) => e2 wq (hb.trans h)
    replace hb0 := On.refl w1
    replace hb1 : ∀ ob : Obj, On w1 (w1.alloc ob) := fun ob => (On.refl w1).alloc ob
    have HB := Lib.hid (HB.out.trans hb)
    clear hb hb'
    go_wp2_with (first | ((with_reducible apply hrt_ld); (case ho => exact rfl); (case hgd => exact rfl); (case hx => exact rfl); (case hg => (first | exact s0 _ (by first | exact hb0 | exact hb1 _) | exact t0 _ (by first | exact hb0 | exact hb1 _) | exact heap_alloc_new _ _))) | ((with_reducible apply env_ld); (case ho => exact rfl); (case hgd => exact rfl); (case hx => exact rfl); (case hg => (first | exact s0 _ (by first | exact hb0 | exact hb1 _) | exact t0 _ (by first | exact hb0 | exact hb1 _) | exact heap_alloc_new _ _))) | ((with_reducible apply env_new_st); (case ho => exact rfl); (case hgd => exact rfl); (case hx => exact rfl); (case hy => exact rfl)))
    go_at_call 18; refine (K2.out _).mono ?_; rintro _ w2 ⟨rfl, hb'⟩
    have t1 := fun wq (h : On w2 wq) => (hb'.trans h).keep (heap_alloc_new _ _)
    have hb := (hb1 _).trans hb'
    replace s0 := fun wq (h : On w2 wq) => s0 wq (hb.trans h)
    replace t0 := fun wq (h : On w2 wq) => t0 wq (hb.trans h)
    replace e2 := fun wq (h : On w2 wq) => e2 wq (hb.trans h)
    replace hb0 := On.refl w2
    replace hb1 : ∀ ob : Obj, On w2 (w2.alloc ob) := fun ob => (On.refl w2).alloc ob
    have HB := Lib.hid (HB.out.trans hb)
    clear hb hb'
    go_wp2_with (first | ((with_reducible apply hrt_ld); (case ho => exact rfl); (case hgd => exact rfl); (case hx => exact rfl); (case hg => (first | exact s0 _ (by first | exact hb0 | exact hb1 _) | exact t0 _ (by first | exact hb0 | exact hb1 _) | exact t1 _ (by first | exact hb0 | exact hb1 _) | exact heap_alloc_new _ _))) | ((with_reducible apply env_ld); (case ho => exact rfl); (case hgd => exact rfl); (case hx => exact rfl); (case hg => (first | exact s0 _ (by first | exact hb0 | exact hb1 _) | exact t0 _ (by first | exact hb0 | exact hb1 _) | exact t1 _ (by first | exact hb0 | exact hb1 _) | exact heap_alloc_new _ _))) | ((with_reducible apply env_new_st); (case ho => exact rfl); (case hgd => exact rfl); (case hx => exact rfl); (case hy => exact rfl)))
    go_at_call 11; refine (awake8_yes _).mono ?_; rintro _ w3 ⟨rfl, hb'⟩
    have hb := hb'
    replace s0 := fun wq (h : On w3 wq) => s0 wq (hb.trans h)
    replace t0 := fun wq (h : On w3 wq) => t0 wq (hb.trans h)
    replace t1 := fun wq (h : On w3 wq) => t1 wq (hb.trans h)
    replace e2 := fun wq (h : On w3 wq) => e2 wq (hb.trans h)
    replace hb0 := On.refl w3
    replace hb1 : ∀ ob : Obj, On w3 (w3.alloc ob) := fun ob => (On.refl w3).alloc ob
    have HB := Lib.hid (HB.out.trans hb)
    clear hb hb'
    go_wp2
    go_ret
    exact ⟨rfl, HB.out⟩
  · obtain ⟨hy, k, j, hk, hj, hv, hw, hx, hr⟩ := sel_mono h p (cnd_more h e mo) ho
    have K1 : Hid (∀ w, Calls Try.prog 18 #[.agg (hV h p r), .agg (eV e q1 q2)] w fun r' w' => r' = .returned (.tuple #[.int .u64 (u (cauN (ordN k))), .bool true]) ∧ On w w') := Lib.hid (fun w => by have := sel_any h e p r q1 q2 w; rw [hv, ho] at this; exact this)
    have K2 : Hid (∀ w, Calls Try.prog 18 #[.agg (hV h p r), .agg (eV (upd e 2 (e 2 ||| mo)) q1 q2)] w fun r' w' => r' = .returned (.tuple #[.int .u64 (u (cauN (ordN j))), .bool true]) ∧ On w w') := Lib.hid (fun w => by have := sel_any h (upd e 2 (e 2 ||| mo)) p r q1 q2 w; rw [hw, hy] at this; exact this)
    have K3 : Hid (∀ w, Calls Try.prog 20 #[.agg (hV h p r), .agg (eV e q1 q2)] w fun r' w' => r' = .returned (.bool true) ∧ On w w') := Lib.hid (fun w => by have := wak_any h e p r q1 q2 w; rw [wak_of hx] at this; exact this)
    have K4 : Hid (∀ w, Calls Try.prog 24 #[.agg (cV (cH h)), .agg (eV e q1 q2)] w fun r' w' => r' = .returned (.int .u64 (u (pend (cH h) e))) ∧ On w w') := Lib.hid (fun w => rpend_any (cH h) e q1 q2 w)
    have hN := cauN_num k
    have hT := cauN_top k
    have hP := (cnd_bit h e _ hx).1
    have hQ := (cnd_bit h e _ hx).2
    have hn := ordB_nat k
    have hl := ord_lt k
    rw [← hn] at hP hQ hl
    generalize ordB k = n at *
    have KA : Hid (∀ w', w'.heap[w.heap.size]? = some (.cells (hV h p r) 28 (0, 0)) → Calls Try.prog 25 #[.int .u64 (u (cauN (ordN k))), .pointer (some ⟨w.heap.size, 0, none⟩)] w' fun r' w'' => r' = .returned (.int .i64 (rnk (h 36) k : Nat)) ∧ On w' w'') := Lib.hid (fun w' hq => rank_any h p r w.heap.size k hk w' hq)
    have KB : Hid (∀ w', w'.heap[w.heap.size]? = some (.cells (hV h p r) 28 (0, 0)) → Calls Try.prog 25 #[.int .u64 (u (cauN (ordN j))), .pointer (some ⟨w.heap.size, 0, none⟩)] w' fun r' w'' => r' = .returned (.int .i64 (rnk (h 36) j : Nat)) ∧ On w' w'') := Lib.hid (fun w' hq => rank_any h p r w.heap.size j hj w' hq)
    have hle : ((rnk (h 36) j : Nat) : Int) ≤ ((rnk (h 36) k : Nat) : Int) := by omega
    generalize rnk (h 36) j = rb at *
    generalize rnk (h 36) k = ra at *
    generalize cauN (ordN k) = va at *
    generalize cauN (ordN j) = vb at *
    have B : bits .and .u64 (u va) 63 = u n := by rw [show (63 : Int) = u 63#64 from rfl, u_and, hN]
    have sh := fun v => shr_run Try.prog v n hl
    generalize pend (cH h) e = P at *
    have d1 : (bits .and .u64 (u (P >>> n.toNat)) 1 == 0) = false := (bit_at0 _ _).trans (by rw [hP]; rfl)
    have d1' : ¬ bits .and .u64 (u (P >>> n.toNat)) 1 = 0 := by simpa using d1
    have d2 : (bits .and .u64 (u (h 37 >>> n.toNat)) 1 == 0) = false := (bit_at0 _ _).trans (by rw [hQ]; rfl)
    have d2' : ¬ bits .and .u64 (u (h 37 >>> n.toNat)) 1 = 0 := by simpa using d2
    have T1 := top_div_ne hT
    have T2 : u va / 9223372036854775808 = 1 := by have := top_div va; rw [hT] at this; simpa using this
    generalize (upd e 2 (e 2 ||| mo)) = e' at *
    generalize e 2 ||| mo = lm at *
    clear ho hy hv hw hx hr hN hT hP hQ hn hl hk hj
    have s0 : ∀ wq, On ((w.alloc (.cells (hV h p r) 28)).alloc (.cells (eV e q1 q2) 35)) wq → wq.heap[w.heap.size]? = some (.cells (hV h p r) 28 (0, 0)) := fun _ h => h.keep (box1 _ _ _)
    have t0 : ∀ wq, On ((w.alloc (.cells (hV h p r) 28)).alloc (.cells (eV e q1 q2) 35)) wq → wq.heap[w.heap.size + 1]? = some (.cells (eV e q1 q2) 35 (0, 0)) := fun _ h => h.keep (box2 _ _ _)
    have hb0 := On.refl (((w.alloc (.cells (hV h p r) 28)).alloc (.cells (eV e q1 q2) 35)))
    have hb1 : ∀ ob : Obj, On (((w.alloc (.cells (hV h p r) 28)).alloc (.cells (eV e q1 q2) 35))) ((((w.alloc (.cells (hV h p r) 28)).alloc (.cells (eV e q1 q2) 35))).alloc ob) := fun ob => (On.refl _).alloc ob
    have e2 : ∀ wq, On ((w.alloc (.cells (hV h p r) 28)).alloc (.cells (eV e q1 q2) 35)) wq → wq.cell? ⟨w.heap.size + 1, 2, none⟩ = some (.int .u64 (u (e 2))) := fun _ hqq => blk_cell (t0 _ hqq) 2 (eV_get e q1 q2 2 (by omega))
    have c37 : ∀ wq, On ((w.alloc (.cells (hV h p r) 28)).alloc (.cells (eV e q1 q2) 35)) wq → wq.cell? ⟨w.heap.size, 37, none⟩ = some (.int .u64 (u (h 37))) := fun _ hqq => blk_cell (s0 _ hqq) 37 (hV_get h p r 37 (by omega) (by omega) (by omega))
    have HB : Hid (On w (((w.alloc (.cells (hV h p r) 28)).alloc (.cells (eV e q1 q2) 35)))) := Lib.hid (((On.refl w).alloc _).alloc _)
    go_enter Try.func7, Try.ntmps7
    go_wp2_with (first | ((with_reducible apply hrt_ld); (case ho => exact rfl); (case hgd => exact rfl); (case hx => exact rfl); (case hg => (first | exact s0 _ (by first | exact hb0 | exact hb1 _) | exact t0 _ (by first | exact hb0 | exact hb1 _) | exact heap_alloc_new _ _))) | ((with_reducible apply env_ld); (case ho => exact rfl); (case hgd => exact rfl); (case hx => exact rfl); (case hg => (first | exact s0 _ (by first | exact hb0 | exact hb1 _) | exact t0 _ (by first | exact hb0 | exact hb1 _) | exact heap_alloc_new _ _))) | ((with_reducible apply csr_of_ld); (case ho => exact rfl); (case hgd => exact rfl); (case hx => exact rfl); (case hg => (first | exact s0 _ (by first | exact hb0 | exact hb1 _) | exact t0 _ (by first | exact hb0 | exact hb1 _) | exact heap_alloc_new _ _))) | ((with_reducible apply env_new_st); (case ho => exact rfl); (case hgd => exact rfl); (case hx => exact rfl); (case hy => exact rfl)))
    go_at_call 18; refine (K1.out _).mono ?_; rintro _ w1 ⟨rfl, hb'⟩
    have hb := hb'
    replace s0 := fun wq (h : On w1 wq) => s0 wq (hb.trans h)
    replace t0 := fun wq (h : On w1 wq) => t0 wq (hb.trans h)
    replace e2 := fun wq (h : On w1 wq) => e2 wq (hb.trans h)
    replace c37 := fun wq (h : On w1 wq) => c37 wq (hb.trans h)
    replace hb0 := On.refl w1
    replace hb1 : ∀ ob : Obj, On w1 (w1.alloc ob) := fun ob => (On.refl w1).alloc ob
    have HB := Lib.hid (HB.out.trans hb)
    clear hb hb'
    go_wp2_with (first | ((with_reducible apply hrt_ld); (case ho => exact rfl); (case hgd => exact rfl); (case hx => exact rfl); (case hg => (first | exact s0 _ (by first | exact hb0 | exact hb1 _) | exact t0 _ (by first | exact hb0 | exact hb1 _) | exact heap_alloc_new _ _))) | ((with_reducible apply env_ld); (case ho => exact rfl); (case hgd => exact rfl); (case hx => exact rfl); (case hg => (first | exact s0 _ (by first | exact hb0 | exact hb1 _) | exact t0 _ (by first | exact hb0 | exact hb1 _) | exact heap_alloc_new _ _))) | ((with_reducible apply csr_of_ld); (case ho => exact rfl); (case hgd => exact rfl); (case hx => exact rfl); (case hg => (first | exact s0 _ (by first | exact hb0 | exact hb1 _) | exact t0 _ (by first | exact hb0 | exact hb1 _) | exact heap_alloc_new _ _))) | ((with_reducible apply env_new_st); (case ho => exact rfl); (case hgd => exact rfl); (case hx => exact rfl); (case hy => exact rfl)))
    go_at_call 18; refine (K2.out _).mono ?_; rintro _ w2 ⟨rfl, hb'⟩
    have t1 := fun wq (h : On w2 wq) => (hb'.trans h).keep (heap_alloc_new _ _)
    have hb := (hb1 _).trans hb'
    replace s0 := fun wq (h : On w2 wq) => s0 wq (hb.trans h)
    replace t0 := fun wq (h : On w2 wq) => t0 wq (hb.trans h)
    replace e2 := fun wq (h : On w2 wq) => e2 wq (hb.trans h)
    replace c37 := fun wq (h : On w2 wq) => c37 wq (hb.trans h)
    replace hb0 := On.refl w2
    replace hb1 : ∀ ob : Obj, On w2 (w2.alloc ob) := fun ob => (On.refl w2).alloc ob
    have HB := Lib.hid (HB.out.trans hb)
    clear hb hb'
    go_wp2_with (first | ((with_reducible apply hrt_ld); (case ho => exact rfl); (case hgd => exact rfl); (case hx => exact rfl); (case hg => (first | exact s0 _ (by first | exact hb0 | exact hb1 _) | exact t0 _ (by first | exact hb0 | exact hb1 _) | exact t1 _ (by first | exact hb0 | exact hb1 _) | exact heap_alloc_new _ _))) | ((with_reducible apply env_ld); (case ho => exact rfl); (case hgd => exact rfl); (case hx => exact rfl); (case hg => (first | exact s0 _ (by first | exact hb0 | exact hb1 _) | exact t0 _ (by first | exact hb0 | exact hb1 _) | exact t1 _ (by first | exact hb0 | exact hb1 _) | exact heap_alloc_new _ _))) | ((with_reducible apply csr_of_ld); (case ho => exact rfl); (case hgd => exact rfl); (case hx => exact rfl); (case hg => (first | exact s0 _ (by first | exact hb0 | exact hb1 _) | exact t0 _ (by first | exact hb0 | exact hb1 _) | exact t1 _ (by first | exact hb0 | exact hb1 _) | exact heap_alloc_new _ _))) | ((with_reducible apply env_new_st); (case ho => exact rfl); (case hgd => exact rfl); (case hx => exact rfl); (case hy => exact rfl)))
    go_at_call 11; refine (awake8_yes _).mono ?_; rintro _ w3 ⟨rfl, hb'⟩
    have hb := hb'
    replace s0 := fun wq (h : On w3 wq) => s0 wq (hb.trans h)
    replace t0 := fun wq (h : On w3 wq) => t0 wq (hb.trans h)
    replace t1 := fun wq (h : On w3 wq) => t1 wq (hb.trans h)
    replace e2 := fun wq (h : On w3 wq) => e2 wq (hb.trans h)
    replace c37 := fun wq (h : On w3 wq) => c37 wq (hb.trans h)
    replace hb0 := On.refl w3
    replace hb1 : ∀ ob : Obj, On w3 (w3.alloc ob) := fun ob => (On.refl w3).alloc ob
    have HB := Lib.hid (HB.out.trans hb)
    clear hb hb'
    go_wp2_with (first | ((with_reducible apply hrt_ld); (case ho => exact rfl); (case hgd => exact rfl); (case hx => exact rfl); (case hg => (first | exact s0 _ (by first | exact hb0 | exact hb1 _) | exact t0 _ (by first | exact hb0 | exact hb1 _) | exact t1 _ (by first | exact hb0 | exact hb1 _) | exact heap_alloc_new _ _))) | ((with_reducible apply env_ld); (case ho => exact rfl); (case hgd => exact rfl); (case hx => exact rfl); (case hg => (first | exact s0 _ (by first | exact hb0 | exact hb1 _) | exact t0 _ (by first | exact hb0 | exact hb1 _) | exact t1 _ (by first | exact hb0 | exact hb1 _) | exact heap_alloc_new _ _))) | ((with_reducible apply csr_of_ld); (case ho => exact rfl); (case hgd => exact rfl); (case hx => exact rfl); (case hg => (first | exact s0 _ (by first | exact hb0 | exact hb1 _) | exact t0 _ (by first | exact hb0 | exact hb1 _) | exact t1 _ (by first | exact hb0 | exact hb1 _) | exact heap_alloc_new _ _))) | ((with_reducible apply env_new_st); (case ho => exact rfl); (case hgd => exact rfl); (case hx => exact rfl); (case hy => exact rfl)))
    go_at_call 20; refine (K3.out _).mono ?_; rintro _ w4 ⟨rfl, hb'⟩
    have hb := hb'
    replace s0 := fun wq (h : On w4 wq) => s0 wq (hb.trans h)
    replace t0 := fun wq (h : On w4 wq) => t0 wq (hb.trans h)
    replace t1 := fun wq (h : On w4 wq) => t1 wq (hb.trans h)
    replace e2 := fun wq (h : On w4 wq) => e2 wq (hb.trans h)
    replace c37 := fun wq (h : On w4 wq) => c37 wq (hb.trans h)
    replace hb0 := On.refl w4
    replace hb1 : ∀ ob : Obj, On w4 (w4.alloc ob) := fun ob => (On.refl w4).alloc ob
    have HB := Lib.hid (HB.out.trans hb)
    clear hb hb'
    go_wp2_with (first | ((with_reducible apply hrt_ld); (case ho => exact rfl); (case hgd => exact rfl); (case hx => exact rfl); (case hg => (first | exact s0 _ (by first | exact hb0 | exact hb1 _) | exact t0 _ (by first | exact hb0 | exact hb1 _) | exact t1 _ (by first | exact hb0 | exact hb1 _) | exact heap_alloc_new _ _))) | ((with_reducible apply env_ld); (case ho => exact rfl); (case hgd => exact rfl); (case hx => exact rfl); (case hg => (first | exact s0 _ (by first | exact hb0 | exact hb1 _) | exact t0 _ (by first | exact hb0 | exact hb1 _) | exact t1 _ (by first | exact hb0 | exact hb1 _) | exact heap_alloc_new _ _))) | ((with_reducible apply csr_of_ld); (case ho => exact rfl); (case hgd => exact rfl); (case hx => exact rfl); (case hg => (first | exact s0 _ (by first | exact hb0 | exact hb1 _) | exact t0 _ (by first | exact hb0 | exact hb1 _) | exact t1 _ (by first | exact hb0 | exact hb1 _) | exact heap_alloc_new _ _))) | ((with_reducible apply env_new_st); (case ho => exact rfl); (case hgd => exact rfl); (case hx => exact rfl); (case hy => exact rfl)))
    go_at_call 24; refine (K4.out _).mono ?_; rintro _ w5 ⟨rfl, hb'⟩
    have hb := hb'
    replace s0 := fun wq (h : On w5 wq) => s0 wq (hb.trans h)
    replace t0 := fun wq (h : On w5 wq) => t0 wq (hb.trans h)
    replace t1 := fun wq (h : On w5 wq) => t1 wq (hb.trans h)
    replace e2 := fun wq (h : On w5 wq) => e2 wq (hb.trans h)
    replace c37 := fun wq (h : On w5 wq) => c37 wq (hb.trans h)
    replace hb0 := On.refl w5
    replace hb1 : ∀ ob : Obj, On w5 (w5.alloc ob) := fun ob => (On.refl w5).alloc ob
    have HB := Lib.hid (HB.out.trans hb)
    clear hb hb'
    go_wp2_with (first | ((with_reducible apply hrt_ld); (case ho => exact rfl); (case hgd => exact rfl); (case hx => exact rfl); (case hg => (first | exact s0 _ (by first | exact hb0 | exact hb1 _) | exact t0 _ (by first | exact hb0 | exact hb1 _) | exact t1 _ (by first | exact hb0 | exact hb1 _) | exact heap_alloc_new _ _))) | ((with_reducible apply env_ld); (case ho => exact rfl); (case hgd => exact rfl); (case hx => exact rfl); (case hg => (first | exact s0 _ (by first | exact hb0 | exact hb1 _) | exact t0 _ (by first | exact hb0 | exact hb1 _) | exact t1 _ (by first | exact hb0 | exact hb1 _) | exact heap_alloc_new _ _))) | ((with_reducible apply csr_of_ld); (case ho => exact rfl); (case hgd => exact rfl); (case hx => exact rfl); (case hg => (first | exact s0 _ (by first | exact hb0 | exact hb1 _) | exact t0 _ (by first | exact hb0 | exact hb1 _) | exact t1 _ (by first | exact hb0 | exact hb1 _) | exact heap_alloc_new _ _))) | ((with_reducible apply env_new_st); (case ho => exact rfl); (case hgd => exact rfl); (case hx => exact rfl); (case hy => exact rfl)))
    go_at_call 25; refine (KB.out _ (s0 _ hb0)).mono ?_; rintro _ w6 ⟨rfl, hb'⟩
    have hb := hb'
    replace s0 := fun wq (h : On w6 wq) => s0 wq (hb.trans h)
    replace t0 := fun wq (h : On w6 wq) => t0 wq (hb.trans h)
    replace t1 := fun wq (h : On w6 wq) => t1 wq (hb.trans h)
    replace e2 := fun wq (h : On w6 wq) => e2 wq (hb.trans h)
    replace c37 := fun wq (h : On w6 wq) => c37 wq (hb.trans h)
    replace hb0 := On.refl w6
    replace hb1 : ∀ ob : Obj, On w6 (w6.alloc ob) := fun ob => (On.refl w6).alloc ob
    have HB := Lib.hid (HB.out.trans hb)
    clear hb hb'
    go_wp2_with (first | ((with_reducible apply hrt_ld); (case ho => exact rfl); (case hgd => exact rfl); (case hx => exact rfl); (case hg => (first | exact s0 _ (by first | exact hb0 | exact hb1 _) | exact t0 _ (by first | exact hb0 | exact hb1 _) | exact t1 _ (by first | exact hb0 | exact hb1 _) | exact heap_alloc_new _ _))) | ((with_reducible apply env_ld); (case ho => exact rfl); (case hgd => exact rfl); (case hx => exact rfl); (case hg => (first | exact s0 _ (by first | exact hb0 | exact hb1 _) | exact t0 _ (by first | exact hb0 | exact hb1 _) | exact t1 _ (by first | exact hb0 | exact hb1 _) | exact heap_alloc_new _ _))) | ((with_reducible apply csr_of_ld); (case ho => exact rfl); (case hgd => exact rfl); (case hx => exact rfl); (case hg => (first | exact s0 _ (by first | exact hb0 | exact hb1 _) | exact t0 _ (by first | exact hb0 | exact hb1 _) | exact t1 _ (by first | exact hb0 | exact hb1 _) | exact heap_alloc_new _ _))) | ((with_reducible apply env_new_st); (case ho => exact rfl); (case hgd => exact rfl); (case hx => exact rfl); (case hy => exact rfl)))
    go_at_call 25; refine (KA.out _ (s0 _ hb0)).mono ?_; rintro _ w7 ⟨rfl, hb'⟩
    have hb := hb'
    replace s0 := fun wq (h : On w7 wq) => s0 wq (hb.trans h)
    replace t0 := fun wq (h : On w7 wq) => t0 wq (hb.trans h)
    replace t1 := fun wq (h : On w7 wq) => t1 wq (hb.trans h)
    replace e2 := fun wq (h : On w7 wq) => e2 wq (hb.trans h)
    replace c37 := fun wq (h : On w7 wq) => c37 wq (hb.trans h)
    replace hb0 := On.refl w7
    replace hb1 : ∀ ob : Obj, On w7 (w7.alloc ob) := fun ob => (On.refl w7).alloc ob
    have HB := Lib.hid (HB.out.trans hb)
    clear hb hb'
    go_wp2
    go_ret
    exact ⟨rfl, HB.out⟩

set_option maxRecDepth 100000 in
theorem lifted (os : Os) (started : os.Started) (H : Type) (enc : TypeId × Value → H) :
    ReturnsInHanded {} Try.checked os 7 .any (Rows.trapOrderSpec.pre6 enc Try.prog Try.f7 Rows.trapOrderRow.domain false) (Rows.trapOrderSpec.post enc Try.prog Try.f7 false true false false) := by
  refine returnsInHanded_of_change (C := Try.checked) own started (by kernel_rfl) Try.func7
    (ChangeSpec.witness6 (enc := enc) (C := Try.checked) false ⟨#[], #[.agg #[.int .u64 0, .int .i64 0, .int .u64 0, .int .u64 0, .int .u64 0, .int .u64 0, .int .u64 0, .int .u64 0, .int .u64 0, .int .u64 0, .int .u64 0, .int .u64 0, .int .u64 0, .int .u64 0, .int .u64 0, .int .u64 0, .int .u64 0, .int .u64 0, .int .u64 0, .int .u64 0, .int .u64 0, .int .u64 0, .int .u64 0, .int .u64 0, .int .u64 0, .int .u64 0, .int .u64 0, .int .u64 0, .int .u64 0, .int .u64 0, .int .u64 0, .int .u64 0, .int .u64 0, .int .u64 0, .int .u64 0, .int .u64 0, .int .u64 0, .int .u64 0, .int .u64 0, .int .u64 0, .int .u64 0, .int .u64 0, .int .u64 0, .int .u64 0, .int .u64 0, .int .u64 0, .int .u64 0, .int .u64 0, .int .u64 0, .int .u64 0, .int .u64 0, .int .u64 0, .int .u64 0, .int .u64 0, .int .u64 0, .int .u64 0, .int .u64 0, .int .u64 0, .int .u64 0, .int .u64 0, .int .u64 0, .int .u64 0, .int .u64 0, .int .u64 0, .bool false, .int .u64 0], .agg #[.int .u64 0, .int .u64 0, .int .u64 0, .int .u64 0, .int .u64 0, .int .u64 0, .int .u64 0, .bool false, .int .u64 0, .bool false], .int .u64 0], []⟩ 12 (by kernel_rfl) (by kernel_rfl) (by kernel_rfl) (by kernel_rfl)) ?_
  intro W base args ds gs before hval0 hW hcnd _
  have hval : ∀ (j : Nat) t v, Try.f7.params[j]? = some t → args[j]? = some v → Value.okWide Try.prog W .any base t v := hval0
  have hW' := hW
  obtain ⟨p, q, hA0, hV, rfl, hfz, hnd⟩ := hW
  have hA : DataW.TrodAll enc Try.prog W 0 (fun _ => true) true Try.f7.params.toList args.toList ds p := hA0
  rw [Try.params7] at hA hval
  obtain ⟨v0, vs0, d0, ds0, p0, q0, hargs, rfl, rfl, h0, r0⟩ := trodAll_cons hA
  obtain ⟨v1, vs1, d1, ds1, p1, q1, rfl, rfl, rfl, h1, r1⟩ := trodAll_cons r0
  obtain ⟨v2, vs2, d2, ds2, p2, q2, rfl, rfl, rfl, h2, r2⟩ := trodAll_cons r1
  obtain ⟨rfl, rfl, rfl⟩ := trodAll_nil r2
  obtain rfl : args = #[v0, v1, v2] := by cases args; simp_all
  obtain ⟨rfl, rfl⟩ := trodVars_none hV
  have k0 := h0
  have l0 : ∀ x ∈ p0, x.block < W.heap.size := fun x hx => by have := hW'.lt x (by simp [hx]); simpa using this
  obtain ⟨c0, rfl, f0⟩ := open_flat 12 [.int .u64, .int .i64, .int .u64, .int .u64, .int .u64, .int .u64, .int .u64, .int .u64, .int .u64, .int .u64, .int .u64, .int .u64, .int .u64, .int .u64, .int .u64, .int .u64, .int .u64, .int .u64, .int .u64, .int .u64, .int .u64, .int .u64, .int .u64, .int .u64, .int .u64, .int .u64, .int .u64, .int .u64, .int .u64, .int .u64, .int .u64, .int .u64, .int .u64, .int .u64, .int .u64, .int .u64, .int .u64, .int .u64, .int .u64, .int .u64, .int .u64, .int .u64, .int .u64, .int .u64, .int .u64, .int .u64, .int .u64, .int .u64, .int .u64, .int .u64, .int .u64, .int .u64, .int .u64, .int .u64, .int .u64, .int .u64, .int .u64, .int .u64, .int .u64, .int .u64, .int .u64, .int .u64, .int .u64, .int .u64, .bool, .int .u64] (by kernel_rfl) (by kernel_rfl) (.inl ⟨_, Try.underlying28⟩) (hval 0 28 v0 rfl rfl) h0
  clear h0
  have k1 := h1
  have l1 : ∀ x ∈ p1, x.block < W.heap.size := fun x hx => by have := hW'.lt x (by simp [hx]); simpa using this
  obtain ⟨c1, rfl, f1⟩ := open_flat 12 [.int .u64, .int .u64, .int .u64, .int .u64, .int .u64, .int .u64, .int .u64, .bool, .int .u64, .bool] (by kernel_rfl) (by kernel_rfl) (.inl ⟨_, Try.underlying35⟩) (hval 1 35 v1 rfl rfl) h1
  clear h1
  obtain ⟨a2, rfl, rfl, rfl, w2⟩ := open_int Try.underlying22 (hval 2 22 v2 rfl rfl) h2
  clear hA0 hval0
  refine (walk c0 f0 c1 f1 a2 w2 W).mono fun e W' ⟨he, bel⟩ => ?_
  subst he
  exact ⟨_, rfl, _, _, _, [], _, [], hW', trodAll_mk1 (shut_bool Try.underlying4 _), (trodAll_cons_mk (Below.trod (by kernel_rfl) (by kernel_rfl) (of_decide_eq_true (by kernel_rfl)) k0 bel l0) (trodAll_cons_mk (Below.trod (by kernel_rfl) (by kernel_rfl) (of_decide_eq_true (by kernel_rfl)) k1 bel l1) (trodAll_cons_mk (shut_int Try.underlying22 w2) trodAll_mk0))), rfl, bel.frame _, fun h => by cases h⟩

theorem over : Rows.trapOrderRow.holds Try.pinned (OpenSpec.ofChange Rows.trapOrderSpec) :=
  OpenClaim.holds_of_wide 7 Try.f7 rfl rfl rfl rfl rfl rfl rfl ⟨rfl, rfl, rfl, rfl, rfl⟩ rfl rfl rfl rfl rfl (by kernel_rfl) Try.func7 (by kernel_rfl)
    (of_decide_eq_true (by kernel_rfl)) (by unfold Func.isWrapper; first | (rw [if_pos (by decide +kernel)]; kernel_rfl) | (rw [if_neg (by decide +kernel)]; exact ⟨rfl, rfl⟩))
    (fun os started H enc _ => lifted os started H enc)

theorem proved : Rows.TrapOrderSaid :=
  over
#print axioms proved
end Go.Proofs.Ytleolldgpoeabaa.trapOrder
