/- Proves that with nothing set in Ie no interrupt is taken and none wakes, that in Machine with MIE clear none is taken, and that in User one is taken just if one of the six is pending and set, for any hart and any outer world, and that the first test of the law holds. Conditions: none. -/
import Derived.Test.YtleolldgpoeabaaRows
import Derived.Test.YtleolldgpoeabaaTrapC
import Derived.Test.YtleolldgpoeabaaFlat
import Derived.WalkKit
import Derived.ProofKit
import Derived.OpenShut
import Derived.Below
import Derived.Carry
import Derived.ShutString
namespace Go.Proofs.Ytleolldgpoeabaa.trapNone
open Go.ChangeShapes Go.WideShapes Go.ChangeAt Go.RowKit
set_option linter.unusedVariables false

theorem own : ownKnob Try.prog.godebug = none := by kernel_rfl

set_option maxRecDepth 100000 in
set_option maxHeartbeats 4000000 in
theorem walk (c0 : List Value) (f0 : Fits [.int .u64, .int .i64, .int .u64, .int .u64, .int .u64, .int .u64, .int .u64, .int .u64, .int .u64, .int .u64, .int .u64, .int .u64, .int .u64, .int .u64, .int .u64, .int .u64, .int .u64, .int .u64, .int .u64, .int .u64, .int .u64, .int .u64, .int .u64, .int .u64, .int .u64, .int .u64, .int .u64, .int .u64, .int .u64, .int .u64, .int .u64, .int .u64, .int .u64, .int .u64, .int .u64, .int .u64, .int .u64, .int .u64, .int .u64, .int .u64, .int .u64, .int .u64, .int .u64, .int .u64, .int .u64, .int .u64, .int .u64, .int .u64, .int .u64, .int .u64, .int .u64, .int .u64, .int .u64, .int .u64, .int .u64, .int .u64, .int .u64, .int .u64, .int .u64, .int .u64, .int .u64, .int .u64, .int .u64, .int .u64, .bool, .int .u64] c0) (c1 : List Value) (f1 : Fits [.int .u64, .int .u64, .int .u64, .int .u64, .int .u64, .int .u64, .int .u64, .bool, .int .u64, .bool] c1) (w : World) :
    Calls Try.prog 10 #[.agg c0.toArray, .agg c1.toArray] w fun e w' => e = .returned (.bool true) ∧ Below w.heap.size w w' := by
  replace f0 : Fits hartLvs c0 := f0
  obtain ⟨h, p, r, wp, hc⟩ := hV_of f0
  rw [hc]
  clear hc f0
  replace f1 : Fits (List.replicate 7 (.int .u64) ++ [.bool, .int .u64, .bool]) c1 := f1
  obtain ⟨e, q1, q2, he⟩ := eV_of f1
  rw [he]
  clear he f1
  clear wp
  have hZ := fun w => hrt_zero w
  have zg : selV (cntM (upd h 37 0#64) p (cnd (upd h 37 0#64) e)) (cntS (upd h 37 0#64) p (cnd (upd h 37 0#64) e)) = 0#64 ∧ selB (cntM (upd h 37 0#64) p (cnd (upd h 37 0#64) e)) (cntS (upd h 37 0#64) p (cnd (upd h 37 0#64) e)) = false := by rw [none_cnd, none_M, none_S]; exact ⟨rfl, rfl⟩
  have zm : selV (cntM (upd h 34 (h 34 &&& ~~~8#64)) 3 (cnd (upd h 34 (h 34 &&& ~~~8#64)) e)) (cntS (upd h 34 (h 34 &&& ~~~8#64)) 3 (cnd (upd h 34 (h 34 &&& ~~~8#64)) e)) = 0#64 ∧ selB (cntM (upd h 34 (h 34 &&& ~~~8#64)) 3 (cnd (upd h 34 (h 34 &&& ~~~8#64)) e)) (cntS (upd h 34 (h 34 &&& ~~~8#64)) 3 (cnd (upd h 34 (h 34 &&& ~~~8#64)) e)) = false := by rw [mach_M, mach_S]; exact ⟨rfl, rfl⟩
  have zw : wak (upd h 37 0#64) e = false := by unfold wak; rw [none_cnd]; rfl
  have K1 : Hid (∀ w, Calls Try.prog 18 #[.agg (hV (upd h 37 0#64) p r), .agg (eV e q1 q2)] w fun r' w' => r' = .returned (.tuple #[.int .u64 0, .bool false]) ∧ On w w') := Lib.hid (fun w => by have := sel_any (upd h 37 0#64) e p r q1 q2 w; rw [zg.1, zg.2] at this; exact this)
  have K2 : Hid (∀ w, Calls Try.prog 18 #[.agg (hV (upd h 34 (h 34 &&& ~~~8#64)) 3 r), .agg (eV e q1 q2)] w fun r' w' => r' = .returned (.tuple #[.int .u64 0, .bool false]) ∧ On w w') := Lib.hid (fun w => by have := sel_any (upd h 34 (h 34 &&& ~~~8#64)) e 3 r q1 q2 w; rw [zm.1, zm.2] at this; exact this)
  have K4 : Hid (∀ w, Calls Try.prog 20 #[.agg (hV (upd h 37 0#64) p r), .agg (eV e q1 q2)] w fun r' w' => r' = .returned (.bool false) ∧ On w w') := Lib.hid (fun w => by have := wak_any (upd h 37 0#64) e p r q1 q2 w; rw [zw] at this; exact this)
  have Z37 : (hV h p r).setIfInBounds 37 (.int .u64 0) = hV (upd h 37 0#64) p r := hV_set h p r 37 0#64 (by omega) (by omega)
  have S34 : (hV h 3 r).setIfInBounds 34 (.int .u64 (u (h 34 &&& ~~~8#64))) = hV (upd h 34 (h 34 &&& ~~~8#64)) 3 r := hV_set h 3 r 34 _ (by omega) (by omega)
  have A34 : bits .andNot .u64 (u (h 34)) 8 = u (h 34 &&& ~~~8#64) := u_andNot (h 34) 8#64
  generalize upd h 37 0#64 = g at *
  generalize (upd h 34 (h 34 &&& ~~~8#64)) = m at *
  generalize h 34 &&& ~~~8#64 = st at *
  clear zg zm zw
  have SP := fun v => hV_setp h p r v
  have G1 := fun p' => hV_priv h p' r
  have G34 := fun p' => hV_get h p' r 34 (by omega) (by omega) (by omega)
  have G37 := fun p' => hV_get h p' r 37 (by omega) (by omega) (by omega)
  have f1 := fun wr p' => blk_free (blk_new wr (.cells (hV h p' r) 28)) 1
  have f34 := fun wr p' => blk_free (blk_new wr (.cells (hV h p' r) 28)) 34
  have f37 := fun wr p' => blk_free (blk_new wr (.cells (hV h p' r) 28)) 37
  cases hd : wak h e
  · obtain ⟨v, hv⟩ : ∃ v, selV (cntM h 0 (cnd h e)) (cntS h 0 (cnd h e)) = v := ⟨_, rfl⟩
    have K3 : Hid (∀ w, Calls Try.prog 18 #[.agg (hV h 0 r), .agg (eV e q1 q2)] w fun r' w' => r' = .returned (.tuple #[.int .u64 (u v), .bool false]) ∧ On w w') := Lib.hid (fun w => by have := sel_any h e 0 r q1 q2 w; rw [user_sel, hv, smB_wak hd] at this; exact this)
    have K5 : Hid (∀ w, Calls Try.prog 20 #[.agg (hV h 0 r), .agg (eV e q1 q2)] w fun r' w' => r' = .returned (.bool false) ∧ On w w') := Lib.hid (fun w => by have := wak_any h e 0 r q1 q2 w; rw [hd] at this; exact this)
    clear hv hd
    have s0 : ∀ wq, On ((w.alloc (.cells (hV h p r) 28)).alloc (.cells (eV e q1 q2) 35)) wq → wq.heap[w.heap.size]? = some (.cells (hV h p r) 28 (0, 0)) := fun _ h => h.keep (box1 _ _ _)
    have t0 : ∀ wq, On ((w.alloc (.cells (hV h p r) 28)).alloc (.cells (eV e q1 q2) 35)) wq → wq.heap[w.heap.size + 1]? = some (.cells (eV e q1 q2) 35 (0, 0)) := fun _ h => h.keep (box2 _ _ _)
    have hb0 := On.refl (((w.alloc (.cells (hV h p r) 28)).alloc (.cells (eV e q1 q2) 35)))
    have hb1 : ∀ ob : Obj, On (((w.alloc (.cells (hV h p r) 28)).alloc (.cells (eV e q1 q2) 35))) ((((w.alloc (.cells (hV h p r) 28)).alloc (.cells (eV e q1 q2) 35))).alloc ob) := fun ob => (On.refl _).alloc ob
    have HB : Hid (On w (((w.alloc (.cells (hV h p r) 28)).alloc (.cells (eV e q1 q2) 35)))) := Lib.hid (((On.refl w).alloc _).alloc _)
    go_enter Try.func10, Try.ntmps10
    go_wp2_with (apply stop_load (t := 28); (case ho => exact rfl))
    refine ⟨?_⟩
    generalize ((w.alloc (.cells (hV h p r) 28)).alloc (.cells (eV e q1 q2) 35)) = W0 at *
    go_wp2_with (first | ((with_reducible apply hrt_ld); (case ho => exact rfl); (case hgd => exact rfl); (case hx => exact rfl); (case hg => (first | exact s0 _ (by first | exact hb0 | exact hb1 _) | exact t0 _ (by first | exact hb0 | exact hb1 _) | exact heap_alloc_new _ _))) | ((with_reducible apply env_ld); (case ho => exact rfl); (case hgd => exact rfl); (case hx => exact rfl); (case hg => (first | exact s0 _ (by first | exact hb0 | exact hb1 _) | exact t0 _ (by first | exact hb0 | exact hb1 _) | exact heap_alloc_new _ _))) | ((with_reducible apply hrt_new_st); (case ho => exact rfl); (case hgd => exact rfl); (case hx => exact rfl); (case hy => exact rfl)))
    go_at_call 18; refine (K1.out _).mono ?_; rintro _ w1 ⟨rfl, hb'⟩
    have s1 := fun wq (h : On w1 wq) => (hb'.trans h).keep (heap_alloc_new _ _)
    have hb := (hb1 _).trans hb'
    replace s0 := fun wq (h : On w1 wq) => s0 wq (hb.trans h)
    replace t0 := fun wq (h : On w1 wq) => t0 wq (hb.trans h)
    replace hb0 := On.refl w1
    replace hb1 : ∀ ob : Obj, On w1 (w1.alloc ob) := fun ob => (On.refl w1).alloc ob
    have HB := Lib.hid (HB.out.trans hb)
    clear hb hb'
    go_wp2_with (first | ((with_reducible apply hrt_ld); (case ho => exact rfl); (case hgd => exact rfl); (case hx => exact rfl); (case hg => (first | exact s0 _ (by first | exact hb0 | exact hb1 _) | exact t0 _ (by first | exact hb0 | exact hb1 _) | exact s1 _ (by first | exact hb0 | exact hb1 _) | exact heap_alloc_new _ _))) | ((with_reducible apply env_ld); (case ho => exact rfl); (case hgd => exact rfl); (case hx => exact rfl); (case hg => (first | exact s0 _ (by first | exact hb0 | exact hb1 _) | exact t0 _ (by first | exact hb0 | exact hb1 _) | exact s1 _ (by first | exact hb0 | exact hb1 _) | exact heap_alloc_new _ _))) | ((with_reducible apply hrt_new_st); (case ho => exact rfl); (case hgd => exact rfl); (case hx => exact rfl); (case hy => exact rfl)))
    go_at_call 18; refine (K2.out _).mono ?_; rintro _ w2 ⟨rfl, hb'⟩
    have s2 := fun wq (h : On w2 wq) => (hb'.trans h).keep (heap_alloc_new _ _)
    have hb := (hb1 _).trans hb'
    replace s0 := fun wq (h : On w2 wq) => s0 wq (hb.trans h)
    replace t0 := fun wq (h : On w2 wq) => t0 wq (hb.trans h)
    replace s1 := fun wq (h : On w2 wq) => s1 wq (hb.trans h)
    replace hb0 := On.refl w2
    replace hb1 : ∀ ob : Obj, On w2 (w2.alloc ob) := fun ob => (On.refl w2).alloc ob
    have HB := Lib.hid (HB.out.trans hb)
    clear hb hb'
    go_wp2_with (first | ((with_reducible apply hrt_ld); (case ho => exact rfl); (case hgd => exact rfl); (case hx => exact rfl); (case hg => (first | exact s0 _ (by first | exact hb0 | exact hb1 _) | exact t0 _ (by first | exact hb0 | exact hb1 _) | exact s1 _ (by first | exact hb0 | exact hb1 _) | exact s2 _ (by first | exact hb0 | exact hb1 _) | exact heap_alloc_new _ _))) | ((with_reducible apply env_ld); (case ho => exact rfl); (case hgd => exact rfl); (case hx => exact rfl); (case hg => (first | exact s0 _ (by first | exact hb0 | exact hb1 _) | exact t0 _ (by first | exact hb0 | exact hb1 _) | exact s1 _ (by first | exact hb0 | exact hb1 _) | exact s2 _ (by first | exact hb0 | exact hb1 _) | exact heap_alloc_new _ _))) | ((with_reducible apply hrt_new_st); (case ho => exact rfl); (case hgd => exact rfl); (case hx => exact rfl); (case hy => exact rfl)))
    go_at_call 18; refine (K3.out _).mono ?_; rintro _ w3 ⟨rfl, hb'⟩
    have s3 := fun wq (h : On w3 wq) => (hb'.trans h).keep (heap_alloc_new _ _)
    have hb := (hb1 _).trans hb'
    replace s0 := fun wq (h : On w3 wq) => s0 wq (hb.trans h)
    replace t0 := fun wq (h : On w3 wq) => t0 wq (hb.trans h)
    replace s1 := fun wq (h : On w3 wq) => s1 wq (hb.trans h)
    replace s2 := fun wq (h : On w3 wq) => s2 wq (hb.trans h)
    replace hb0 := On.refl w3
    replace hb1 : ∀ ob : Obj, On w3 (w3.alloc ob) := fun ob => (On.refl w3).alloc ob
    have HB := Lib.hid (HB.out.trans hb)
    clear hb hb'
    go_wp2_with (first | ((with_reducible apply hrt_ld); (case ho => exact rfl); (case hgd => exact rfl); (case hx => exact rfl); (case hg => (first | exact s0 _ (by first | exact hb0 | exact hb1 _) | exact t0 _ (by first | exact hb0 | exact hb1 _) | exact s1 _ (by first | exact hb0 | exact hb1 _) | exact s2 _ (by first | exact hb0 | exact hb1 _) | exact s3 _ (by first | exact hb0 | exact hb1 _) | exact heap_alloc_new _ _))) | ((with_reducible apply env_ld); (case ho => exact rfl); (case hgd => exact rfl); (case hx => exact rfl); (case hg => (first | exact s0 _ (by first | exact hb0 | exact hb1 _) | exact t0 _ (by first | exact hb0 | exact hb1 _) | exact s1 _ (by first | exact hb0 | exact hb1 _) | exact s2 _ (by first | exact hb0 | exact hb1 _) | exact s3 _ (by first | exact hb0 | exact hb1 _) | exact heap_alloc_new _ _))) | ((with_reducible apply hrt_new_st); (case ho => exact rfl); (case hgd => exact rfl); (case hx => exact rfl); (case hy => exact rfl)))
    go_at_call 11; refine (awake8_yes _).mono ?_; rintro _ w4 ⟨rfl, hb'⟩
    have hb := hb'
    replace s0 := fun wq (h : On w4 wq) => s0 wq (hb.trans h)
    replace t0 := fun wq (h : On w4 wq) => t0 wq (hb.trans h)
    replace s1 := fun wq (h : On w4 wq) => s1 wq (hb.trans h)
    replace s2 := fun wq (h : On w4 wq) => s2 wq (hb.trans h)
    replace s3 := fun wq (h : On w4 wq) => s3 wq (hb.trans h)
    replace hb0 := On.refl w4
    replace hb1 : ∀ ob : Obj, On w4 (w4.alloc ob) := fun ob => (On.refl w4).alloc ob
    have HB := Lib.hid (HB.out.trans hb)
    clear hb hb'
    go_wp2_with (first | ((with_reducible apply hrt_ld); (case ho => exact rfl); (case hgd => exact rfl); (case hx => exact rfl); (case hg => (first | exact s0 _ (by first | exact hb0 | exact hb1 _) | exact t0 _ (by first | exact hb0 | exact hb1 _) | exact s1 _ (by first | exact hb0 | exact hb1 _) | exact s2 _ (by first | exact hb0 | exact hb1 _) | exact s3 _ (by first | exact hb0 | exact hb1 _) | exact heap_alloc_new _ _))) | ((with_reducible apply env_ld); (case ho => exact rfl); (case hgd => exact rfl); (case hx => exact rfl); (case hg => (first | exact s0 _ (by first | exact hb0 | exact hb1 _) | exact t0 _ (by first | exact hb0 | exact hb1 _) | exact s1 _ (by first | exact hb0 | exact hb1 _) | exact s2 _ (by first | exact hb0 | exact hb1 _) | exact s3 _ (by first | exact hb0 | exact hb1 _) | exact heap_alloc_new _ _))) | ((with_reducible apply hrt_new_st); (case ho => exact rfl); (case hgd => exact rfl); (case hx => exact rfl); (case hy => exact rfl)))
    go_at_call 20; refine (K4.out _).mono ?_; rintro _ w5 ⟨rfl, hb'⟩
    have hb := hb'
    replace s0 := fun wq (h : On w5 wq) => s0 wq (hb.trans h)
    replace t0 := fun wq (h : On w5 wq) => t0 wq (hb.trans h)
    replace s1 := fun wq (h : On w5 wq) => s1 wq (hb.trans h)
    replace s2 := fun wq (h : On w5 wq) => s2 wq (hb.trans h)
    replace s3 := fun wq (h : On w5 wq) => s3 wq (hb.trans h)
    replace hb0 := On.refl w5
    replace hb1 : ∀ ob : Obj, On w5 (w5.alloc ob) := fun ob => (On.refl w5).alloc ob
    have HB := Lib.hid (HB.out.trans hb)
    clear hb hb'
    go_wp2_with (first | ((with_reducible apply hrt_ld); (case ho => exact rfl); (case hgd => exact rfl); (case hx => exact rfl); (case hg => (first | exact s0 _ (by first | exact hb0 | exact hb1 _) | exact t0 _ (by first | exact hb0 | exact hb1 _) | exact s1 _ (by first | exact hb0 | exact hb1 _) | exact s2 _ (by first | exact hb0 | exact hb1 _) | exact s3 _ (by first | exact hb0 | exact hb1 _) | exact heap_alloc_new _ _))) | ((with_reducible apply env_ld); (case ho => exact rfl); (case hgd => exact rfl); (case hx => exact rfl); (case hg => (first | exact s0 _ (by first | exact hb0 | exact hb1 _) | exact t0 _ (by first | exact hb0 | exact hb1 _) | exact s1 _ (by first | exact hb0 | exact hb1 _) | exact s2 _ (by first | exact hb0 | exact hb1 _) | exact s3 _ (by first | exact hb0 | exact hb1 _) | exact heap_alloc_new _ _))) | ((with_reducible apply hrt_new_st); (case ho => exact rfl); (case hgd => exact rfl); (case hx => exact rfl); (case hy => exact rfl)))
    go_at_call 20; refine (K5.out _).mono ?_; rintro _ w6 ⟨rfl, hb'⟩
    have hb := hb'
    replace s0 := fun wq (h : On w6 wq) => s0 wq (hb.trans h)
    replace t0 := fun wq (h : On w6 wq) => t0 wq (hb.trans h)
    replace s1 := fun wq (h : On w6 wq) => s1 wq (hb.trans h)
    replace s2 := fun wq (h : On w6 wq) => s2 wq (hb.trans h)
    replace s3 := fun wq (h : On w6 wq) => s3 wq (hb.trans h)
    replace hb0 := On.refl w6
    replace hb1 : ∀ ob : Obj, On w6 (w6.alloc ob) := fun ob => (On.refl w6).alloc ob
    have HB := Lib.hid (HB.out.trans hb)
    clear hb hb'
    go_wp2
    go_ret
    exact ⟨rfl, HB.out⟩
  · obtain ⟨v, hv⟩ : ∃ v, selV (cntM h 0 (cnd h e)) (cntS h 0 (cnd h e)) = v := ⟨_, rfl⟩
    have K3 : Hid (∀ w, Calls Try.prog 18 #[.agg (hV h 0 r), .agg (eV e q1 q2)] w fun r' w' => r' = .returned (.tuple #[.int .u64 (u v), .bool (smB h e)]) ∧ On w w') := Lib.hid (fun w => by have := sel_any h e 0 r q1 q2 w; rw [user_sel, hv] at this; exact this)
    have K6 : Hid (∀ w, Calls Try.prog 27 #[.agg (hV h 0 r), .agg (eV e q1 q2)] w fun r' w' => r' = .returned (.bool (smB h e)) ∧ On w w') := Lib.hid (fun w => some_any h e 0 r q1 q2 w)
    generalize smB h e = b at *
    have K5 : Hid (∀ w, Calls Try.prog 20 #[.agg (hV h 0 r), .agg (eV e q1 q2)] w fun r' w' => r' = .returned (.bool true) ∧ On w w') := Lib.hid (fun w => by have := wak_any h e 0 r q1 q2 w; rw [hd] at this; exact this)
    clear hv hd
    have s0 : ∀ wq, On ((w.alloc (.cells (hV h p r) 28)).alloc (.cells (eV e q1 q2) 35)) wq → wq.heap[w.heap.size]? = some (.cells (hV h p r) 28 (0, 0)) := fun _ h => h.keep (box1 _ _ _)
    have t0 : ∀ wq, On ((w.alloc (.cells (hV h p r) 28)).alloc (.cells (eV e q1 q2) 35)) wq → wq.heap[w.heap.size + 1]? = some (.cells (eV e q1 q2) 35 (0, 0)) := fun _ h => h.keep (box2 _ _ _)
    have hb0 := On.refl (((w.alloc (.cells (hV h p r) 28)).alloc (.cells (eV e q1 q2) 35)))
    have hb1 : ∀ ob : Obj, On (((w.alloc (.cells (hV h p r) 28)).alloc (.cells (eV e q1 q2) 35))) ((((w.alloc (.cells (hV h p r) 28)).alloc (.cells (eV e q1 q2) 35))).alloc ob) := fun ob => (On.refl _).alloc ob
    have HB : Hid (On w (((w.alloc (.cells (hV h p r) 28)).alloc (.cells (eV e q1 q2) 35)))) := Lib.hid (((On.refl w).alloc _).alloc _)
    go_enter Try.func10, Try.ntmps10
    go_wp2_with (apply stop_load (t := 28); (case ho => exact rfl))
    refine ⟨?_⟩
    generalize ((w.alloc (.cells (hV h p r) 28)).alloc (.cells (eV e q1 q2) 35)) = W0 at *
    go_wp2_with (first | ((with_reducible apply hrt_ld); (case ho => exact rfl); (case hgd => exact rfl); (case hx => exact rfl); (case hg => (first | exact s0 _ (by first | exact hb0 | exact hb1 _) | exact t0 _ (by first | exact hb0 | exact hb1 _) | exact heap_alloc_new _ _))) | ((with_reducible apply env_ld); (case ho => exact rfl); (case hgd => exact rfl); (case hx => exact rfl); (case hg => (first | exact s0 _ (by first | exact hb0 | exact hb1 _) | exact t0 _ (by first | exact hb0 | exact hb1 _) | exact heap_alloc_new _ _))) | ((with_reducible apply hrt_new_st); (case ho => exact rfl); (case hgd => exact rfl); (case hx => exact rfl); (case hy => exact rfl)))
    go_at_call 18; refine (K1.out _).mono ?_; rintro _ w1 ⟨rfl, hb'⟩
    have s1 := fun wq (h : On w1 wq) => (hb'.trans h).keep (heap_alloc_new _ _)
    have hb := (hb1 _).trans hb'
    replace s0 := fun wq (h : On w1 wq) => s0 wq (hb.trans h)
    replace t0 := fun wq (h : On w1 wq) => t0 wq (hb.trans h)
    replace hb0 := On.refl w1
    replace hb1 : ∀ ob : Obj, On w1 (w1.alloc ob) := fun ob => (On.refl w1).alloc ob
    have HB := Lib.hid (HB.out.trans hb)
    clear hb hb'
    go_wp2_with (first | ((with_reducible apply hrt_ld); (case ho => exact rfl); (case hgd => exact rfl); (case hx => exact rfl); (case hg => (first | exact s0 _ (by first | exact hb0 | exact hb1 _) | exact t0 _ (by first | exact hb0 | exact hb1 _) | exact s1 _ (by first | exact hb0 | exact hb1 _) | exact heap_alloc_new _ _))) | ((with_reducible apply env_ld); (case ho => exact rfl); (case hgd => exact rfl); (case hx => exact rfl); (case hg => (first | exact s0 _ (by first | exact hb0 | exact hb1 _) | exact t0 _ (by first | exact hb0 | exact hb1 _) | exact s1 _ (by first | exact hb0 | exact hb1 _) | exact heap_alloc_new _ _))) | ((with_reducible apply hrt_new_st); (case ho => exact rfl); (case hgd => exact rfl); (case hx => exact rfl); (case hy => exact rfl)))
    go_at_call 18; refine (K2.out _).mono ?_; rintro _ w2 ⟨rfl, hb'⟩
    have s2 := fun wq (h : On w2 wq) => (hb'.trans h).keep (heap_alloc_new _ _)
    have hb := (hb1 _).trans hb'
    replace s0 := fun wq (h : On w2 wq) => s0 wq (hb.trans h)
    replace t0 := fun wq (h : On w2 wq) => t0 wq (hb.trans h)
    replace s1 := fun wq (h : On w2 wq) => s1 wq (hb.trans h)
    replace hb0 := On.refl w2
    replace hb1 : ∀ ob : Obj, On w2 (w2.alloc ob) := fun ob => (On.refl w2).alloc ob
    have HB := Lib.hid (HB.out.trans hb)
    clear hb hb'
    go_wp2_with (first | ((with_reducible apply hrt_ld); (case ho => exact rfl); (case hgd => exact rfl); (case hx => exact rfl); (case hg => (first | exact s0 _ (by first | exact hb0 | exact hb1 _) | exact t0 _ (by first | exact hb0 | exact hb1 _) | exact s1 _ (by first | exact hb0 | exact hb1 _) | exact s2 _ (by first | exact hb0 | exact hb1 _) | exact heap_alloc_new _ _))) | ((with_reducible apply env_ld); (case ho => exact rfl); (case hgd => exact rfl); (case hx => exact rfl); (case hg => (first | exact s0 _ (by first | exact hb0 | exact hb1 _) | exact t0 _ (by first | exact hb0 | exact hb1 _) | exact s1 _ (by first | exact hb0 | exact hb1 _) | exact s2 _ (by first | exact hb0 | exact hb1 _) | exact heap_alloc_new _ _))) | ((with_reducible apply hrt_new_st); (case ho => exact rfl); (case hgd => exact rfl); (case hx => exact rfl); (case hy => exact rfl)))
    go_at_call 18; refine (K3.out _).mono ?_; rintro _ w3 ⟨rfl, hb'⟩
    have s3 := fun wq (h : On w3 wq) => (hb'.trans h).keep (heap_alloc_new _ _)
    have hb := (hb1 _).trans hb'
    replace s0 := fun wq (h : On w3 wq) => s0 wq (hb.trans h)
    replace t0 := fun wq (h : On w3 wq) => t0 wq (hb.trans h)
    replace s1 := fun wq (h : On w3 wq) => s1 wq (hb.trans h)
    replace s2 := fun wq (h : On w3 wq) => s2 wq (hb.trans h)
    replace hb0 := On.refl w3
    replace hb1 : ∀ ob : Obj, On w3 (w3.alloc ob) := fun ob => (On.refl w3).alloc ob
    have HB := Lib.hid (HB.out.trans hb)
    clear hb hb'
    go_wp2_with (first | ((with_reducible apply hrt_ld); (case ho => exact rfl); (case hgd => exact rfl); (case hx => exact rfl); (case hg => (first | exact s0 _ (by first | exact hb0 | exact hb1 _) | exact t0 _ (by first | exact hb0 | exact hb1 _) | exact s1 _ (by first | exact hb0 | exact hb1 _) | exact s2 _ (by first | exact hb0 | exact hb1 _) | exact s3 _ (by first | exact hb0 | exact hb1 _) | exact heap_alloc_new _ _))) | ((with_reducible apply env_ld); (case ho => exact rfl); (case hgd => exact rfl); (case hx => exact rfl); (case hg => (first | exact s0 _ (by first | exact hb0 | exact hb1 _) | exact t0 _ (by first | exact hb0 | exact hb1 _) | exact s1 _ (by first | exact hb0 | exact hb1 _) | exact s2 _ (by first | exact hb0 | exact hb1 _) | exact s3 _ (by first | exact hb0 | exact hb1 _) | exact heap_alloc_new _ _))) | ((with_reducible apply hrt_new_st); (case ho => exact rfl); (case hgd => exact rfl); (case hx => exact rfl); (case hy => exact rfl)))
    go_at_call 11; refine (awake8_yes _).mono ?_; rintro _ w4 ⟨rfl, hb'⟩
    have hb := hb'
    replace s0 := fun wq (h : On w4 wq) => s0 wq (hb.trans h)
    replace t0 := fun wq (h : On w4 wq) => t0 wq (hb.trans h)
    replace s1 := fun wq (h : On w4 wq) => s1 wq (hb.trans h)
    replace s2 := fun wq (h : On w4 wq) => s2 wq (hb.trans h)
    replace s3 := fun wq (h : On w4 wq) => s3 wq (hb.trans h)
    replace hb0 := On.refl w4
    replace hb1 : ∀ ob : Obj, On w4 (w4.alloc ob) := fun ob => (On.refl w4).alloc ob
    have HB := Lib.hid (HB.out.trans hb)
    clear hb hb'
    go_wp2_with (first | ((with_reducible apply hrt_ld); (case ho => exact rfl); (case hgd => exact rfl); (case hx => exact rfl); (case hg => (first | exact s0 _ (by first | exact hb0 | exact hb1 _) | exact t0 _ (by first | exact hb0 | exact hb1 _) | exact s1 _ (by first | exact hb0 | exact hb1 _) | exact s2 _ (by first | exact hb0 | exact hb1 _) | exact s3 _ (by first | exact hb0 | exact hb1 _) | exact heap_alloc_new _ _))) | ((with_reducible apply env_ld); (case ho => exact rfl); (case hgd => exact rfl); (case hx => exact rfl); (case hg => (first | exact s0 _ (by first | exact hb0 | exact hb1 _) | exact t0 _ (by first | exact hb0 | exact hb1 _) | exact s1 _ (by first | exact hb0 | exact hb1 _) | exact s2 _ (by first | exact hb0 | exact hb1 _) | exact s3 _ (by first | exact hb0 | exact hb1 _) | exact heap_alloc_new _ _))) | ((with_reducible apply hrt_new_st); (case ho => exact rfl); (case hgd => exact rfl); (case hx => exact rfl); (case hy => exact rfl)))
    go_at_call 20; refine (K4.out _).mono ?_; rintro _ w5 ⟨rfl, hb'⟩
    have hb := hb'
    replace s0 := fun wq (h : On w5 wq) => s0 wq (hb.trans h)
    replace t0 := fun wq (h : On w5 wq) => t0 wq (hb.trans h)
    replace s1 := fun wq (h : On w5 wq) => s1 wq (hb.trans h)
    replace s2 := fun wq (h : On w5 wq) => s2 wq (hb.trans h)
    replace s3 := fun wq (h : On w5 wq) => s3 wq (hb.trans h)
    replace hb0 := On.refl w5
    replace hb1 : ∀ ob : Obj, On w5 (w5.alloc ob) := fun ob => (On.refl w5).alloc ob
    have HB := Lib.hid (HB.out.trans hb)
    clear hb hb'
    go_wp2_with (first | ((with_reducible apply hrt_ld); (case ho => exact rfl); (case hgd => exact rfl); (case hx => exact rfl); (case hg => (first | exact s0 _ (by first | exact hb0 | exact hb1 _) | exact t0 _ (by first | exact hb0 | exact hb1 _) | exact s1 _ (by first | exact hb0 | exact hb1 _) | exact s2 _ (by first | exact hb0 | exact hb1 _) | exact s3 _ (by first | exact hb0 | exact hb1 _) | exact heap_alloc_new _ _))) | ((with_reducible apply env_ld); (case ho => exact rfl); (case hgd => exact rfl); (case hx => exact rfl); (case hg => (first | exact s0 _ (by first | exact hb0 | exact hb1 _) | exact t0 _ (by first | exact hb0 | exact hb1 _) | exact s1 _ (by first | exact hb0 | exact hb1 _) | exact s2 _ (by first | exact hb0 | exact hb1 _) | exact s3 _ (by first | exact hb0 | exact hb1 _) | exact heap_alloc_new _ _))) | ((with_reducible apply hrt_new_st); (case ho => exact rfl); (case hgd => exact rfl); (case hx => exact rfl); (case hy => exact rfl)))
    go_at_call 20; refine (K5.out _).mono ?_; rintro _ w6 ⟨rfl, hb'⟩
    have hb := hb'
    replace s0 := fun wq (h : On w6 wq) => s0 wq (hb.trans h)
    replace t0 := fun wq (h : On w6 wq) => t0 wq (hb.trans h)
    replace s1 := fun wq (h : On w6 wq) => s1 wq (hb.trans h)
    replace s2 := fun wq (h : On w6 wq) => s2 wq (hb.trans h)
    replace s3 := fun wq (h : On w6 wq) => s3 wq (hb.trans h)
    replace hb0 := On.refl w6
    replace hb1 : ∀ ob : Obj, On w6 (w6.alloc ob) := fun ob => (On.refl w6).alloc ob
    have HB := Lib.hid (HB.out.trans hb)
    clear hb hb'
    go_wp2_with (first | ((with_reducible apply hrt_ld); (case ho => exact rfl); (case hgd => exact rfl); (case hx => exact rfl); (case hg => (first | exact s0 _ (by first | exact hb0 | exact hb1 _) | exact t0 _ (by first | exact hb0 | exact hb1 _) | exact s1 _ (by first | exact hb0 | exact hb1 _) | exact s2 _ (by first | exact hb0 | exact hb1 _) | exact s3 _ (by first | exact hb0 | exact hb1 _) | exact heap_alloc_new _ _))) | ((with_reducible apply env_ld); (case ho => exact rfl); (case hgd => exact rfl); (case hx => exact rfl); (case hg => (first | exact s0 _ (by first | exact hb0 | exact hb1 _) | exact t0 _ (by first | exact hb0 | exact hb1 _) | exact s1 _ (by first | exact hb0 | exact hb1 _) | exact s2 _ (by first | exact hb0 | exact hb1 _) | exact s3 _ (by first | exact hb0 | exact hb1 _) | exact heap_alloc_new _ _))) | ((with_reducible apply hrt_new_st); (case ho => exact rfl); (case hgd => exact rfl); (case hx => exact rfl); (case hy => exact rfl)))
    go_at_call 27; refine (K6.out _).mono ?_; rintro _ w7 ⟨rfl, hb'⟩
    have hb := hb'
    replace s0 := fun wq (h : On w7 wq) => s0 wq (hb.trans h)
    replace t0 := fun wq (h : On w7 wq) => t0 wq (hb.trans h)
    replace s1 := fun wq (h : On w7 wq) => s1 wq (hb.trans h)
    replace s2 := fun wq (h : On w7 wq) => s2 wq (hb.trans h)
    replace s3 := fun wq (h : On w7 wq) => s3 wq (hb.trans h)
    replace hb0 := On.refl w7
    replace hb1 : ∀ ob : Obj, On w7 (w7.alloc ob) := fun ob => (On.refl w7).alloc ob
    have HB := Lib.hid (HB.out.trans hb)
    clear hb hb'
    go_wp2
    go_ret
    exact ⟨rfl, HB.out⟩

set_option maxRecDepth 100000 in
theorem lifted (os : Os) (started : os.Started) (H : Type) (enc : TypeId × Value → H) :
    ReturnsInHanded {} Try.checked os 10 .any (Rows.trapNoneSpec.pre6 enc Try.prog Try.f10 Rows.trapNoneRow.domain false) (Rows.trapNoneSpec.post enc Try.prog Try.f10 false true false false) := by
  refine returnsInHanded_of_change (C := Try.checked) own started (by kernel_rfl) Try.func10
    (ChangeSpec.witness6 (enc := enc) (C := Try.checked) false ⟨#[], #[.agg #[.int .u64 0, .int .i64 0, .int .u64 0, .int .u64 0, .int .u64 0, .int .u64 0, .int .u64 0, .int .u64 0, .int .u64 0, .int .u64 0, .int .u64 0, .int .u64 0, .int .u64 0, .int .u64 0, .int .u64 0, .int .u64 0, .int .u64 0, .int .u64 0, .int .u64 0, .int .u64 0, .int .u64 0, .int .u64 0, .int .u64 0, .int .u64 0, .int .u64 0, .int .u64 0, .int .u64 0, .int .u64 0, .int .u64 0, .int .u64 0, .int .u64 0, .int .u64 0, .int .u64 0, .int .u64 0, .int .u64 0, .int .u64 0, .int .u64 0, .int .u64 0, .int .u64 0, .int .u64 0, .int .u64 0, .int .u64 0, .int .u64 0, .int .u64 0, .int .u64 0, .int .u64 0, .int .u64 0, .int .u64 0, .int .u64 0, .int .u64 0, .int .u64 0, .int .u64 0, .int .u64 0, .int .u64 0, .int .u64 0, .int .u64 0, .int .u64 0, .int .u64 0, .int .u64 0, .int .u64 0, .int .u64 0, .int .u64 0, .int .u64 0, .int .u64 0, .bool false, .int .u64 0], .agg #[.int .u64 0, .int .u64 0, .int .u64 0, .int .u64 0, .int .u64 0, .int .u64 0, .int .u64 0, .bool false, .int .u64 0, .bool false]], []⟩ 12 (by kernel_rfl) (by kernel_rfl) (by kernel_rfl) (by kernel_rfl)) ?_
  intro W base args ds gs before hval0 hW hcnd _
  have hval : ∀ (j : Nat) t v, Try.f10.params[j]? = some t → args[j]? = some v → Value.okWide Try.prog W .any base t v := hval0
  have hW' := hW
  obtain ⟨p, q, hA0, hV, rfl, hfz, hnd⟩ := hW
  have hA : DataW.TrodAll enc Try.prog W 0 (fun _ => true) true Try.f10.params.toList args.toList ds p := hA0
  rw [Try.params10] at hA hval
  obtain ⟨v0, vs0, d0, ds0, p0, q0, hargs, rfl, rfl, h0, r0⟩ := trodAll_cons hA
  obtain ⟨v1, vs1, d1, ds1, p1, q1, rfl, rfl, rfl, h1, r1⟩ := trodAll_cons r0
  obtain ⟨rfl, rfl, rfl⟩ := trodAll_nil r1
  obtain rfl : args = #[v0, v1] := by cases args; simp_all
  obtain ⟨rfl, rfl⟩ := trodVars_none hV
  have k0 := h0
  have l0 : ∀ x ∈ p0, x.block < W.heap.size := fun x hx => by have := hW'.lt x (by simp [hx]); simpa using this
  obtain ⟨c0, rfl, f0⟩ := open_flat 12 [.int .u64, .int .i64, .int .u64, .int .u64, .int .u64, .int .u64, .int .u64, .int .u64, .int .u64, .int .u64, .int .u64, .int .u64, .int .u64, .int .u64, .int .u64, .int .u64, .int .u64, .int .u64, .int .u64, .int .u64, .int .u64, .int .u64, .int .u64, .int .u64, .int .u64, .int .u64, .int .u64, .int .u64, .int .u64, .int .u64, .int .u64, .int .u64, .int .u64, .int .u64, .int .u64, .int .u64, .int .u64, .int .u64, .int .u64, .int .u64, .int .u64, .int .u64, .int .u64, .int .u64, .int .u64, .int .u64, .int .u64, .int .u64, .int .u64, .int .u64, .int .u64, .int .u64, .int .u64, .int .u64, .int .u64, .int .u64, .int .u64, .int .u64, .int .u64, .int .u64, .int .u64, .int .u64, .int .u64, .int .u64, .bool, .int .u64] (by kernel_rfl) (by kernel_rfl) (.inl ⟨_, Try.underlying28⟩) (hval 0 28 v0 rfl rfl) h0
  clear h0
  have k1 := h1
  have l1 : ∀ x ∈ p1, x.block < W.heap.size := fun x hx => by have := hW'.lt x (by simp [hx]); simpa using this
  obtain ⟨c1, rfl, f1⟩ := open_flat 12 [.int .u64, .int .u64, .int .u64, .int .u64, .int .u64, .int .u64, .int .u64, .bool, .int .u64, .bool] (by kernel_rfl) (by kernel_rfl) (.inl ⟨_, Try.underlying35⟩) (hval 1 35 v1 rfl rfl) h1
  clear h1
  clear hA0 hval0
  refine (walk c0 f0 c1 f1 W).mono fun e W' ⟨he, bel⟩ => ?_
  subst he
  exact ⟨_, rfl, _, _, _, [], _, [], hW', trodAll_mk1 (shut_bool Try.underlying4 _), (trodAll_cons_mk (Below.trod (by kernel_rfl) (by kernel_rfl) (of_decide_eq_true (by kernel_rfl)) k0 bel l0) (trodAll_cons_mk (Below.trod (by kernel_rfl) (by kernel_rfl) (of_decide_eq_true (by kernel_rfl)) k1 bel l1) trodAll_mk0)), rfl, bel.frame _, fun h => by cases h⟩

theorem over : Rows.trapNoneRow.holds Try.pinned (OpenSpec.ofChange Rows.trapNoneSpec) :=
  OpenClaim.holds_of_wide 10 Try.f10 rfl rfl rfl rfl rfl rfl rfl ⟨rfl, rfl, rfl, rfl, rfl⟩ rfl rfl rfl rfl rfl (by kernel_rfl) Try.func10 (by kernel_rfl)
    (of_decide_eq_true (by kernel_rfl)) (by unfold Func.isWrapper; first | (rw [if_pos (by decide +kernel)]; kernel_rfl) | (rw [if_neg (by decide +kernel)]; exact ⟨rfl, rfl⟩))
    (fun os started H enc _ => lifted os started H enc)

theorem proved : Rows.TrapNoneSaid :=
  over
#print axioms proved
end Go.Proofs.Ytleolldgpoeabaa.trapNone
