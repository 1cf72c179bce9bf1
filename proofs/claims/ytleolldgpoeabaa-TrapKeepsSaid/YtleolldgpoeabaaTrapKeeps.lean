/- Proves that a hart whose control registers are such as writes leave them stays so behind a trap and behind each way back, that a trap leads to a multiple of four, and that a trap to Super touches nothing of Machine's alone, nor the other way round, for any hart, any cause and any value, and that the first test of the law holds. Conditions: none. -/
import Derived.Test.YtleolldgpoeabaaRows
import Derived.Test.YtleolldgpoeabaaTrapK
import Derived.Test.YtleolldgpoeabaaFlat
import Derived.WalkKit
import Derived.ProofKit
import Derived.OpenShut
import Derived.Below
import Derived.Carry
import Derived.ShutString
namespace Go.Proofs.Ytleolldgpoeabaa.trapKeeps
open Go.ChangeShapes Go.WideShapes Go.ChangeAt Go.RowKit
set_option linter.unusedVariables false

theorem own : ownKnob Try.prog.godebug = none := by kernel_rfl

set_option maxRecDepth 100000 in
set_option maxHeartbeats 8000000 in
theorem walk (c0 : List Value) (f0 : Fits [.int .u64, .int .i64, .int .u64, .int .u64, .int .u64, .int .u64, .int .u64, .int .u64, .int .u64, .int .u64, .int .u64, .int .u64, .int .u64, .int .u64, .int .u64, .int .u64, .int .u64, .int .u64, .int .u64, .int .u64, .int .u64, .int .u64, .int .u64, .int .u64, .int .u64, .int .u64, .int .u64, .int .u64, .int .u64, .int .u64, .int .u64, .int .u64, .int .u64, .int .u64, .int .u64, .int .u64, .int .u64, .int .u64, .int .u64, .int .u64, .int .u64, .int .u64, .int .u64, .int .u64, .int .u64, .int .u64, .int .u64, .int .u64, .int .u64, .int .u64, .int .u64, .int .u64, .int .u64, .int .u64, .int .u64, .int .u64, .int .u64, .int .u64, .int .u64, .int .u64, .int .u64, .int .u64, .int .u64, .int .u64, .bool, .int .u64] c0) (a1 : Int) (w1 : (Lit.int .u64 a1).wf = true) (a2 : Int) (w2 : (Lit.int .u64 a2).wf = true) (w : World) :
    Calls Try.prog 8 #[.agg c0.toArray, .int .u64 a1, .int .u64 a2] w fun e w' => e = .returned (.bool true) ∧ Below w.heap.size w w' := by
  replace f0 : Fits hartLvs c0 := f0
  obtain ⟨h, p, r, wp, hc⟩ := hV_of f0
  rw [hc]
  clear hc f0
  obtain ⟨c, rfl⟩ := u_of w1
  clear w1
  obtain ⟨t, rfl⟩ := u_of w2
  clear w2
  clear wp
  have hZ := fun w => hrt_zero w
  have A : bits .and .u64 (u (h 0)) 3 = u (h 0 &&& 3#64) := u_and (h 0) 3#64
  cases hok : okB (cH h)
  · have K0 : Hid (∀ w, Calls Try.prog 26 #[.agg (cV (cH h))] w fun r' w' => r' = .returned (.bool false) ∧ On w w') := Lib.hid (fun w => by have := rmay_any (cH h) w; rw [hok] at this; exact this)
    clear hok A
    have s0 : ∀ wq, On (w.alloc (.cells (hV h p r) 28)) wq → wq.heap[w.heap.size]? = some (.cells (hV h p r) 28 (0, 0)) := fun _ h => h.keep (heap_alloc_new _ _)
    have hb0 := On.refl ((w.alloc (.cells (hV h p r) 28)))
    have hb1 : ∀ ob : Obj, On ((w.alloc (.cells (hV h p r) 28))) (((w.alloc (.cells (hV h p r) 28))).alloc ob) := fun ob => (On.refl _).alloc ob
    have c0 : ∀ wq, On (w.alloc (.cells (hV h p r) 28)) wq → wq.cell? ⟨w.heap.size, 0, none⟩ = some (.int .u64 (u (h 0))) := fun _ hqq => blk_cell (s0 _ hqq) 0 (hV_get h p r 0 (by omega) (by omega) (by omega))
    have cP : ∀ wq, On (w.alloc (.cells (hV h p r) 28)) wq → wq.cell? ⟨w.heap.size, 1, none⟩ = some (.int .i64 p) := fun _ hqq => blk_cell (s0 _ hqq) 1 (hV_priv h p r)
    have HB : Hid (On w ((w.alloc (.cells (hV h p r) 28)))) := Lib.hid ((On.refl w).alloc _)
    go_enter Try.func8, Try.ntmps8
    go_wp2_with (first | ((with_reducible apply csr_of_ld); (case ho => exact rfl); (case hgd => exact rfl); (case hx => exact rfl); (case hg => (first | exact s0 _ (by first | exact hb0 | exact hb1 _) | exact heap_alloc_new _ _))))
    go_at_call 11; refine (awake8_yes _).mono ?_; rintro _ w1 ⟨rfl, hb'⟩
    have hb := hb'
    replace s0 := fun wq (h : On w1 wq) => s0 wq (hb.trans h)
    replace c0 := fun wq (h : On w1 wq) => c0 wq (hb.trans h)
    replace cP := fun wq (h : On w1 wq) => cP wq (hb.trans h)
    replace hb0 := On.refl w1
    replace hb1 : ∀ ob : Obj, On w1 (w1.alloc ob) := fun ob => (On.refl w1).alloc ob
    have HB := Lib.hid (HB.out.trans hb)
    clear hb hb'
    go_wp2_with (first | ((with_reducible apply csr_of_ld); (case ho => exact rfl); (case hgd => exact rfl); (case hx => exact rfl); (case hg => (first | exact s0 _ (by first | exact hb0 | exact hb1 _) | exact heap_alloc_new _ _))))
    go_at_call 26; refine (K0.out _).mono ?_; rintro _ w2 ⟨rfl, hb'⟩
    have hb := hb'
    replace s0 := fun wq (h : On w2 wq) => s0 wq (hb.trans h)
    replace c0 := fun wq (h : On w2 wq) => c0 wq (hb.trans h)
    replace cP := fun wq (h : On w2 wq) => cP wq (hb.trans h)
    replace hb0 := On.refl w2
    replace hb1 : ∀ ob : Obj, On w2 (w2.alloc ob) := fun ob => (On.refl w2).alloc ob
    have HB := Lib.hid (HB.out.trans hb)
    clear hb hb'
    go_wp2_with fail
    go_at_call 11; refine (awake8_yes _).mono ?_; rintro _ w3 ⟨rfl, hb'⟩
    have hb := hb'
    replace s0 := fun wq (h : On w3 wq) => s0 wq (hb.trans h)
    replace c0 := fun wq (h : On w3 wq) => c0 wq (hb.trans h)
    replace cP := fun wq (h : On w3 wq) => cP wq (hb.trans h)
    replace hb0 := On.refl w3
    replace hb1 : ∀ ob : Obj, On w3 (w3.alloc ob) := fun ob => (On.refl w3).alloc ob
    have HB := Lib.hid (HB.out.trans hb)
    clear hb hb'
    go_wp2
    go_ret
    exact ⟨rfl, HB.out⟩
  · by_cases h0 : h 0 &&& 3#64 = 0#64
    · by_cases hp : p = 0 ∨ p = 1 ∨ p = 3
      · rcases hp with rfl | rfl | rfl
        · cases hd : dlg h 0 c
          · have hk := okB_of hok
            have K0 : Hid (∀ w, Calls Try.prog 26 #[.agg (cV (cH h))] w fun r' w' => r' = .returned (.bool true) ∧ On w w') := Lib.hid (fun w => by have := rmay_any (cH h) w; rw [hok] at this; exact this)
            have K1 : Hid (∀ w, Calls Try.prog 12 #[.agg (hV h 0 r), .int .u64 (u c), .int .u64 (u t)] w fun r' w' => r' = .returned (.agg (hV (entH h 0 c t) 3 false)) ∧ On w w') := Lib.hid (fun w => by have := enter_any h 0 r c t w; unfold entP at this; rw [hd] at this; exact this)
            have M1 : Hid (∀ w, Calls Try.prog 26 #[.agg (cV (cH (entH h 0 c t)))] w fun r' w' => r' = .returned (.bool true) ∧ On w w') := Lib.hid (fun w => by have := rmay_any (cH (entH h 0 c t)) w; rw [okB_yes (ent_ok c t (.inl rfl) hk)] at this; exact this)
            have M2 : Hid (∀ w, Calls Try.prog 26 #[.agg (cV (cH (mrH h)))] w fun r' w' => r' = .returned (.bool true) ∧ On w w') := Lib.hid (fun w => by have := rmay_any (cH (mrH h)) w; rw [okB_yes (mr_ok hk)] at this; exact this)
            have M3 : Hid (∀ w, Calls Try.prog 26 #[.agg (cV (cH (srH h)))] w fun r' w' => r' = .returned (.bool true) ∧ On w w') := Lib.hid (fun w => by have := rmay_any (cH (srH h)) w; rw [okB_yes (sr_ok hk)] at this; exact this)
            have K2 : Hid (∀ w, Calls Try.prog 14 #[.agg (hV h 0 r)] w fun r' w' => r' = .returned (.agg (hV (mrH h) (mrP h) false)) ∧ On w w') := Lib.hid (fun w => mret_any h 0 r w)
            have K3 : Hid (∀ w, Calls Try.prog 16 #[.agg (hV h 0 r)] w fun r' w' => r' = .returned (.agg (hV (srH h) (srP h) false)) ∧ On w w') := Lib.hid (fun w => sret_any h 0 r w)
            have hF1 := fun w => hrt_csrs (mrH h) (mrP h) false w
            have hF2 := fun w => hrt_csrs (srH h) (srP h) false w
            obtain ⟨b1, b2, b3, b4⟩ := keep_M h 0 c t hd
            have b0 := ent_pc h 0 c t
            generalize entH h 0 c t = y at *
            generalize mrH h = z at *
            generalize mrP h = zp at *
            generalize srH h = v at *
            generalize srP h = vp at *
            have e48 : u (y 48) = u (h 48) := by rw [b1]
            have e49 : u (y 49) = u (h 49) := by rw [b2]
            have e50 : u (y 50) = u (h 50) := by rw [b3]
            have e34 : bits .and .u64 (bits .xor .u64 (u (y 34)) (u (h 34))) 290 = 0 := by rw [show (290 : Int) = u 290#64 from rfl, u_xor, u_and, b4]; rfl
            have e0 : bits .and .u64 (u (y 0)) 3 = 0 := by rw [show (3 : Int) = u 3#64 from rfl, u_and, b0]; rfl
            have e0' : (bits .and .u64 (u (y 0)) 3 != 0) = false := by rw [e0]; rfl
            have t0 : (bits .and .u64 (u (h 0)) 3 == 0) = true := by rw [A, h0]; rfl
            have t0' : (bits .and .u64 (u (h 0)) 3 != 0) = false := by unfold bne; rw [t0]; rfl
            have t0'' : bits .and .u64 (u (h 0)) 3 = 0 := by simpa using t0
            clear hk hok hd h0 A b0 b1 b2 b3 b4
            have s0 : ∀ wq, On (w.alloc (.cells (hV h 0 r) 28)) wq → wq.heap[w.heap.size]? = some (.cells (hV h 0 r) 28 (0, 0)) := fun _ h => h.keep (heap_alloc_new _ _)
            have hb0 := On.refl ((w.alloc (.cells (hV h 0 r) 28)))
            have hb1 : ∀ ob : Obj, On ((w.alloc (.cells (hV h 0 r) 28))) (((w.alloc (.cells (hV h 0 r) 28))).alloc ob) := fun ob => (On.refl _).alloc ob
            have c0 : ∀ wq, On (w.alloc (.cells (hV h 0 r) 28)) wq → wq.cell? ⟨w.heap.size, 0, none⟩ = some (.int .u64 (u (h 0))) := fun _ hqq => blk_cell (s0 _ hqq) 0 (hV_get h 0 r 0 (by omega) (by omega) (by omega))
            have c34 : ∀ wq, On (w.alloc (.cells (hV h 0 r) 28)) wq → wq.cell? ⟨w.heap.size, 34, none⟩ = some (.int .u64 (u (h 34))) := fun _ hqq => blk_cell (s0 _ hqq) 34 (hV_get h 0 r 34 (by omega) (by omega) (by omega))
            have c48 : ∀ wq, On (w.alloc (.cells (hV h 0 r) 28)) wq → wq.cell? ⟨w.heap.size, 48, none⟩ = some (.int .u64 (u (h 48))) := fun _ hqq => blk_cell (s0 _ hqq) 48 (hV_get h 0 r 48 (by omega) (by omega) (by omega))
            have c49 : ∀ wq, On (w.alloc (.cells (hV h 0 r) 28)) wq → wq.cell? ⟨w.heap.size, 49, none⟩ = some (.int .u64 (u (h 49))) := fun _ hqq => blk_cell (s0 _ hqq) 49 (hV_get h 0 r 49 (by omega) (by omega) (by omega))
            have c50 : ∀ wq, On (w.alloc (.cells (hV h 0 r) 28)) wq → wq.cell? ⟨w.heap.size, 50, none⟩ = some (.int .u64 (u (h 50))) := fun _ hqq => blk_cell (s0 _ hqq) 50 (hV_get h 0 r 50 (by omega) (by omega) (by omega))
            have cP : ∀ wq, On (w.alloc (.cells (hV h 0 r) 28)) wq → wq.cell? ⟨w.heap.size, 1, none⟩ = some (.int .i64 0) := fun _ hqq => blk_cell (s0 _ hqq) 1 (hV_priv h 0 r)
            have HB : Hid (On w ((w.alloc (.cells (hV h 0 r) 28)))) := Lib.hid ((On.refl w).alloc _)
            go_enter Try.func8, Try.ntmps8
            go_wp2_with (first | ((with_reducible apply csr_of_ld); (case ho => exact rfl); (case hgd => exact rfl); (case hx => exact rfl); (case hg => (first | exact s0 _ (by first | exact hb0 | exact hb1 _) | exact heap_alloc_new _ _))))
            go_at_call 11; refine (awake8_yes _).mono ?_; rintro _ w1 ⟨rfl, hb'⟩
            have hb := hb'
            replace s0 := fun wq (h : On w1 wq) => s0 wq (hb.trans h)
            replace c0 := fun wq (h : On w1 wq) => c0 wq (hb.trans h)
            replace c34 := fun wq (h : On w1 wq) => c34 wq (hb.trans h)
            replace c48 := fun wq (h : On w1 wq) => c48 wq (hb.trans h)
            replace c49 := fun wq (h : On w1 wq) => c49 wq (hb.trans h)
            replace c50 := fun wq (h : On w1 wq) => c50 wq (hb.trans h)
            replace cP := fun wq (h : On w1 wq) => cP wq (hb.trans h)
            replace hb0 := On.refl w1
            replace hb1 : ∀ ob : Obj, On w1 (w1.alloc ob) := fun ob => (On.refl w1).alloc ob
            have HB := Lib.hid (HB.out.trans hb)
            clear hb hb'
            go_wp2_with (first | ((with_reducible apply csr_of_ld); (case ho => exact rfl); (case hgd => exact rfl); (case hx => exact rfl); (case hg => (first | exact s0 _ (by first | exact hb0 | exact hb1 _) | exact heap_alloc_new _ _))))
            go_at_call 26; refine (K0.out _).mono ?_; rintro _ w2 ⟨rfl, hb'⟩
            have hb := hb'
            replace s0 := fun wq (h : On w2 wq) => s0 wq (hb.trans h)
            replace c0 := fun wq (h : On w2 wq) => c0 wq (hb.trans h)
            replace c34 := fun wq (h : On w2 wq) => c34 wq (hb.trans h)
            replace c48 := fun wq (h : On w2 wq) => c48 wq (hb.trans h)
            replace c49 := fun wq (h : On w2 wq) => c49 wq (hb.trans h)
            replace c50 := fun wq (h : On w2 wq) => c50 wq (hb.trans h)
            replace cP := fun wq (h : On w2 wq) => cP wq (hb.trans h)
            replace hb0 := On.refl w2
            replace hb1 : ∀ ob : Obj, On w2 (w2.alloc ob) := fun ob => (On.refl w2).alloc ob
            have HB := Lib.hid (HB.out.trans hb)
            clear hb hb'
            go_wp2_with (first | ((with_reducible apply hrt_ld); (case ho => exact rfl); (case hgd => exact rfl); (case hx => exact rfl); (case hg => (first | exact s0 _ (by first | exact hb0 | exact hb1 _) | exact heap_alloc_new _ _))) | ((with_reducible apply hrt_new_st); (case ho => exact rfl); (case hgd => exact rfl); (case hx => exact rfl); (case hy => exact rfl)))
            go_at_call 12; refine (K1.out _).mono ?_; rintro _ w3 ⟨rfl, hb'⟩
            have hb := hb'
            replace s0 := fun wq (h : On w3 wq) => s0 wq (hb.trans h)
            replace c0 := fun wq (h : On w3 wq) => c0 wq (hb.trans h)
            replace c34 := fun wq (h : On w3 wq) => c34 wq (hb.trans h)
            replace c48 := fun wq (h : On w3 wq) => c48 wq (hb.trans h)
            replace c49 := fun wq (h : On w3 wq) => c49 wq (hb.trans h)
            replace c50 := fun wq (h : On w3 wq) => c50 wq (hb.trans h)
            replace cP := fun wq (h : On w3 wq) => cP wq (hb.trans h)
            replace hb0 := On.refl w3
            replace hb1 : ∀ ob : Obj, On w3 (w3.alloc ob) := fun ob => (On.refl w3).alloc ob
            have HB := Lib.hid (HB.out.trans hb)
            clear hb hb'
            go_wp2_with (first | ((with_reducible apply csr_of_ld); (case ho => exact rfl); (case hgd => exact rfl); (case hx => exact rfl); (case hg => (first | exact s0 _ (by first | exact hb0 | exact hb1 _) | exact heap_alloc_new _ _))) | ((with_reducible apply hrt_new_st); (case ho => exact rfl); (case hgd => exact rfl); (case hx => exact rfl); (case hy => exact rfl)))
            go_at_call 26; refine (M1.out _).mono ?_; rintro _ w4 ⟨rfl, hb'⟩
            have s1 := fun wq (h : On w4 wq) => (hb'.trans h).keep (heap_alloc_new _ _)
            have hb := (hb1 _).trans hb'
            replace s0 := fun wq (h : On w4 wq) => s0 wq (hb.trans h)
            replace c0 := fun wq (h : On w4 wq) => c0 wq (hb.trans h)
            replace c34 := fun wq (h : On w4 wq) => c34 wq (hb.trans h)
            replace c48 := fun wq (h : On w4 wq) => c48 wq (hb.trans h)
            replace c49 := fun wq (h : On w4 wq) => c49 wq (hb.trans h)
            replace c50 := fun wq (h : On w4 wq) => c50 wq (hb.trans h)
            replace cP := fun wq (h : On w4 wq) => cP wq (hb.trans h)
            replace hb0 := On.refl w4
            replace hb1 : ∀ ob : Obj, On w4 (w4.alloc ob) := fun ob => (On.refl w4).alloc ob
            have HB := Lib.hid (HB.out.trans hb)
            clear hb hb'
            have y0 := fun wq (hqq : On w4 wq) => blk_cell (s1 wq hqq) 0 (hV_get y 3 false 0 (by omega) (by omega) (by omega))
            have y34 := fun wq (hqq : On w4 wq) => blk_cell (s1 wq hqq) 34 (hV_get y 3 false 34 (by omega) (by omega) (by omega))
            have y48 := fun wq (hqq : On w4 wq) => blk_cell (s1 wq hqq) 48 (hV_get y 3 false 48 (by omega) (by omega) (by omega))
            have y49 := fun wq (hqq : On w4 wq) => blk_cell (s1 wq hqq) 49 (hV_get y 3 false 49 (by omega) (by omega) (by omega))
            have y50 := fun wq (hqq : On w4 wq) => blk_cell (s1 wq hqq) 50 (hV_get y 3 false 50 (by omega) (by omega) (by omega))
            have yP := fun wq (hqq : On w4 wq) => blk_cell (s1 wq hqq) 1 (hV_priv y 3 false)
            go_wp2_with (first | ((with_reducible apply hrt_ld); (case ho => exact rfl); (case hgd => exact rfl); (case hx => exact rfl); (case hg => (first | exact s0 _ (by first | exact hb0 | exact hb1 _) | exact s1 _ (by first | exact hb0 | exact hb1 _) | exact heap_alloc_new _ _))))
            go_at_call 14; refine (K2.out _).mono ?_; rintro _ w5 ⟨rfl, hb'⟩
            have hb := hb'
            replace s0 := fun wq (h : On w5 wq) => s0 wq (hb.trans h)
            replace s1 := fun wq (h : On w5 wq) => s1 wq (hb.trans h)
            replace c0 := fun wq (h : On w5 wq) => c0 wq (hb.trans h)
            replace c34 := fun wq (h : On w5 wq) => c34 wq (hb.trans h)
            replace c48 := fun wq (h : On w5 wq) => c48 wq (hb.trans h)
            replace c49 := fun wq (h : On w5 wq) => c49 wq (hb.trans h)
            replace c50 := fun wq (h : On w5 wq) => c50 wq (hb.trans h)
            replace cP := fun wq (h : On w5 wq) => cP wq (hb.trans h)
            replace y0 := fun wq (h : On w5 wq) => y0 wq (hb.trans h)
            replace y34 := fun wq (h : On w5 wq) => y34 wq (hb.trans h)
            replace y48 := fun wq (h : On w5 wq) => y48 wq (hb.trans h)
            replace y49 := fun wq (h : On w5 wq) => y49 wq (hb.trans h)
            replace y50 := fun wq (h : On w5 wq) => y50 wq (hb.trans h)
            replace yP := fun wq (h : On w5 wq) => yP wq (hb.trans h)
            replace hb0 := On.refl w5
            replace hb1 : ∀ ob : Obj, On w5 (w5.alloc ob) := fun ob => (On.refl w5).alloc ob
            have HB := Lib.hid (HB.out.trans hb)
            clear hb hb'
            go_wp2_with (first | ((with_reducible apply hrt_ld); (case ho => exact rfl); (case hgd => exact rfl); (case hx => exact rfl); (case hg => (first | exact s0 _ (by first | exact hb0 | exact hb1 _) | exact s1 _ (by first | exact hb0 | exact hb1 _) | exact heap_alloc_new _ _))))
            go_at_call 26; refine (M2.out _).mono ?_; rintro _ w6 ⟨rfl, hb'⟩
            have hb := hb'
            replace s0 := fun wq (h : On w6 wq) => s0 wq (hb.trans h)
            replace s1 := fun wq (h : On w6 wq) => s1 wq (hb.trans h)
            replace c0 := fun wq (h : On w6 wq) => c0 wq (hb.trans h)
            replace c34 := fun wq (h : On w6 wq) => c34 wq (hb.trans h)
            replace c48 := fun wq (h : On w6 wq) => c48 wq (hb.trans h)
            replace c49 := fun wq (h : On w6 wq) => c49 wq (hb.trans h)
            replace c50 := fun wq (h : On w6 wq) => c50 wq (hb.trans h)
            replace cP := fun wq (h : On w6 wq) => cP wq (hb.trans h)
            replace y0 := fun wq (h : On w6 wq) => y0 wq (hb.trans h)
            replace y34 := fun wq (h : On w6 wq) => y34 wq (hb.trans h)
            replace y48 := fun wq (h : On w6 wq) => y48 wq (hb.trans h)
            replace y49 := fun wq (h : On w6 wq) => y49 wq (hb.trans h)
            replace y50 := fun wq (h : On w6 wq) => y50 wq (hb.trans h)
            replace yP := fun wq (h : On w6 wq) => yP wq (hb.trans h)
            replace hb0 := On.refl w6
            replace hb1 : ∀ ob : Obj, On w6 (w6.alloc ob) := fun ob => (On.refl w6).alloc ob
            have HB := Lib.hid (HB.out.trans hb)
            clear hb hb'
            go_wp2_with (first | ((with_reducible apply hrt_ld); (case ho => exact rfl); (case hgd => exact rfl); (case hx => exact rfl); (case hg => (first | exact s0 _ (by first | exact hb0 | exact hb1 _) | exact s1 _ (by first | exact hb0 | exact hb1 _) | exact heap_alloc_new _ _))))
            go_at_call 16; refine (K3.out _).mono ?_; rintro _ w7 ⟨rfl, hb'⟩
            have hb := hb'
            replace s0 := fun wq (h : On w7 wq) => s0 wq (hb.trans h)
            replace s1 := fun wq (h : On w7 wq) => s1 wq (hb.trans h)
            replace c0 := fun wq (h : On w7 wq) => c0 wq (hb.trans h)
            replace c34 := fun wq (h : On w7 wq) => c34 wq (hb.trans h)
            replace c48 := fun wq (h : On w7 wq) => c48 wq (hb.trans h)
            replace c49 := fun wq (h : On w7 wq) => c49 wq (hb.trans h)
            replace c50 := fun wq (h : On w7 wq) => c50 wq (hb.trans h)
            replace cP := fun wq (h : On w7 wq) => cP wq (hb.trans h)
            replace y0 := fun wq (h : On w7 wq) => y0 wq (hb.trans h)
            replace y34 := fun wq (h : On w7 wq) => y34 wq (hb.trans h)
            replace y48 := fun wq (h : On w7 wq) => y48 wq (hb.trans h)
            replace y49 := fun wq (h : On w7 wq) => y49 wq (hb.trans h)
            replace y50 := fun wq (h : On w7 wq) => y50 wq (hb.trans h)
            replace yP := fun wq (h : On w7 wq) => yP wq (hb.trans h)
            replace hb0 := On.refl w7
            replace hb1 : ∀ ob : Obj, On w7 (w7.alloc ob) := fun ob => (On.refl w7).alloc ob
            have HB := Lib.hid (HB.out.trans hb)
            clear hb hb'
            go_wp2_with (first | ((with_reducible apply hrt_ld); (case ho => exact rfl); (case hgd => exact rfl); (case hx => exact rfl); (case hg => (first | exact s0 _ (by first | exact hb0 | exact hb1 _) | exact s1 _ (by first | exact hb0 | exact hb1 _) | exact heap_alloc_new _ _))))
            go_at_call 26; refine (M3.out _).mono ?_; rintro _ w8 ⟨rfl, hb'⟩
            have hb := hb'
            replace s0 := fun wq (h : On w8 wq) => s0 wq (hb.trans h)
            replace s1 := fun wq (h : On w8 wq) => s1 wq (hb.trans h)
            replace c0 := fun wq (h : On w8 wq) => c0 wq (hb.trans h)
            replace c34 := fun wq (h : On w8 wq) => c34 wq (hb.trans h)
            replace c48 := fun wq (h : On w8 wq) => c48 wq (hb.trans h)
            replace c49 := fun wq (h : On w8 wq) => c49 wq (hb.trans h)
            replace c50 := fun wq (h : On w8 wq) => c50 wq (hb.trans h)
            replace cP := fun wq (h : On w8 wq) => cP wq (hb.trans h)
            replace y0 := fun wq (h : On w8 wq) => y0 wq (hb.trans h)
            replace y34 := fun wq (h : On w8 wq) => y34 wq (hb.trans h)
            replace y48 := fun wq (h : On w8 wq) => y48 wq (hb.trans h)
            replace y49 := fun wq (h : On w8 wq) => y49 wq (hb.trans h)
            replace y50 := fun wq (h : On w8 wq) => y50 wq (hb.trans h)
            replace yP := fun wq (h : On w8 wq) => yP wq (hb.trans h)
            replace hb0 := On.refl w8
            replace hb1 : ∀ ob : Obj, On w8 (w8.alloc ob) := fun ob => (On.refl w8).alloc ob
            have HB := Lib.hid (HB.out.trans hb)
            clear hb hb'
            go_wp2
            go_ret
            exact ⟨rfl, HB.out⟩
          · have hk := okB_of hok
            have K0 : Hid (∀ w, Calls Try.prog 26 #[.agg (cV (cH h))] w fun r' w' => r' = .returned (.bool true) ∧ On w w') := Lib.hid (fun w => by have := rmay_any (cH h) w; rw [hok] at this; exact this)
            have K1 : Hid (∀ w, Calls Try.prog 12 #[.agg (hV h 0 r), .int .u64 (u c), .int .u64 (u t)] w fun r' w' => r' = .returned (.agg (hV (entH h 0 c t) 1 false)) ∧ On w w') := Lib.hid (fun w => by have := enter_any h 0 r c t w; unfold entP at this; rw [hd] at this; exact this)
            have M1 : Hid (∀ w, Calls Try.prog 26 #[.agg (cV (cH (entH h 0 c t)))] w fun r' w' => r' = .returned (.bool true) ∧ On w w') := Lib.hid (fun w => by have := rmay_any (cH (entH h 0 c t)) w; rw [okB_yes (ent_ok c t (.inl rfl) hk)] at this; exact this)
            have M2 : Hid (∀ w, Calls Try.prog 26 #[.agg (cV (cH (mrH h)))] w fun r' w' => r' = .returned (.bool true) ∧ On w w') := Lib.hid (fun w => by have := rmay_any (cH (mrH h)) w; rw [okB_yes (mr_ok hk)] at this; exact this)
            have M3 : Hid (∀ w, Calls Try.prog 26 #[.agg (cV (cH (srH h)))] w fun r' w' => r' = .returned (.bool true) ∧ On w w') := Lib.hid (fun w => by have := rmay_any (cH (srH h)) w; rw [okB_yes (sr_ok hk)] at this; exact this)
            have K2 : Hid (∀ w, Calls Try.prog 14 #[.agg (hV h 0 r)] w fun r' w' => r' = .returned (.agg (hV (mrH h) (mrP h) false)) ∧ On w w') := Lib.hid (fun w => mret_any h 0 r w)
            have K3 : Hid (∀ w, Calls Try.prog 16 #[.agg (hV h 0 r)] w fun r' w' => r' = .returned (.agg (hV (srH h) (srP h) false)) ∧ On w w') := Lib.hid (fun w => sret_any h 0 r w)
            have hF1 := fun w => hrt_csrs (mrH h) (mrP h) false w
            have hF2 := fun w => hrt_csrs (srH h) (srP h) false w
            obtain ⟨b1, b2, b3, b4⟩ := keep_S h 0 c t hd
            have b0 := ent_pc h 0 c t
            generalize entH h 0 c t = y at *
            generalize mrH h = z at *
            generalize mrP h = zp at *
            generalize srH h = v at *
            generalize srP h = vp at *
            have e42 : u (y 42) = u (h 42) := by rw [b1]
            have e43 : u (y 43) = u (h 43) := by rw [b2]
            have e44 : u (y 44) = u (h 44) := by rw [b3]
            have e34 : bits .and .u64 (bits .xor .u64 (u (y 34)) (u (h 34))) 6280 = 0 := by rw [show (6280 : Int) = u 6280#64 from rfl, u_xor, u_and, b4]; rfl
            have e0 : bits .and .u64 (u (y 0)) 3 = 0 := by rw [show (3 : Int) = u 3#64 from rfl, u_and, b0]; rfl
            have e0' : (bits .and .u64 (u (y 0)) 3 != 0) = false := by rw [e0]; rfl
            have t0 : (bits .and .u64 (u (h 0)) 3 == 0) = true := by rw [A, h0]; rfl
            have t0' : (bits .and .u64 (u (h 0)) 3 != 0) = false := by unfold bne; rw [t0]; rfl
            have t0'' : bits .and .u64 (u (h 0)) 3 = 0 := by simpa using t0
            clear hk hok hd h0 A b0 b1 b2 b3 b4
            have s0 : ∀ wq, On (w.alloc (.cells (hV h 0 r) 28)) wq → wq.heap[w.heap.size]? = some (.cells (hV h 0 r) 28 (0, 0)) := fun _ h => h.keep (heap_alloc_new _ _)
            have hb0 := On.refl ((w.alloc (.cells (hV h 0 r) 28)))
            have hb1 : ∀ ob : Obj, On ((w.alloc (.cells (hV h 0 r) 28))) (((w.alloc (.cells (hV h 0 r) 28))).alloc ob) := fun ob => (On.refl _).alloc ob
            have c0 : ∀ wq, On (w.alloc (.cells (hV h 0 r) 28)) wq → wq.cell? ⟨w.heap.size, 0, none⟩ = some (.int .u64 (u (h 0))) := fun _ hqq => blk_cell (s0 _ hqq) 0 (hV_get h 0 r 0 (by omega) (by omega) (by omega))
            have c34 : ∀ wq, On (w.alloc (.cells (hV h 0 r) 28)) wq → wq.cell? ⟨w.heap.size, 34, none⟩ = some (.int .u64 (u (h 34))) := fun _ hqq => blk_cell (s0 _ hqq) 34 (hV_get h 0 r 34 (by omega) (by omega) (by omega))
            have c42 : ∀ wq, On (w.alloc (.cells (hV h 0 r) 28)) wq → wq.cell? ⟨w.heap.size, 42, none⟩ = some (.int .u64 (u (h 42))) := fun _ hqq => blk_cell (s0 _ hqq) 42 (hV_get h 0 r 42 (by omega) (by omega) (by omega))
            have c43 : ∀ wq, On (w.alloc (.cells (hV h 0 r) 28)) wq → wq.cell? ⟨w.heap.size, 43, none⟩ = some (.int .u64 (u (h 43))) := fun _ hqq => blk_cell (s0 _ hqq) 43 (hV_get h 0 r 43 (by omega) (by omega) (by omega))
            have c44 : ∀ wq, On (w.alloc (.cells (hV h 0 r) 28)) wq → wq.cell? ⟨w.heap.size, 44, none⟩ = some (.int .u64 (u (h 44))) := fun _ hqq => blk_cell (s0 _ hqq) 44 (hV_get h 0 r 44 (by omega) (by omega) (by omega))
            have cP : ∀ wq, On (w.alloc (.cells (hV h 0 r) 28)) wq → wq.cell? ⟨w.heap.size, 1, none⟩ = some (.int .i64 0) := fun _ hqq => blk_cell (s0 _ hqq) 1 (hV_priv h 0 r)
            have HB : Hid (On w ((w.alloc (.cells (hV h 0 r) 28)))) := Lib.hid ((On.refl w).alloc _)
            go_enter Try.func8, Try.ntmps8
            go_wp2_with (first | ((with_reducible apply csr_of_ld); (case ho => exact rfl); (case hgd => exact rfl); (case hx => exact rfl); (case hg => (first | exact s0 _ (by first | exact hb0 | exact hb1 _) | exact heap_alloc_new _ _))))
            go_at_call 11; refine (awake8_yes _).mono ?_; rintro _ w1 ⟨rfl, hb'⟩
            have hb := hb'
            replace s0 := fun wq (h : On w1 wq) => s0 wq (hb.trans h)
            replace c0 := fun wq (h : On w1 wq) => c0 wq (hb.trans h)
            replace c34 := fun wq (h : On w1 wq) => c34 wq (hb.trans h)
            replace c42 := fun wq (h : On w1 wq) => c42 wq (hb.trans h)
            replace c43 := fun wq (h : On w1 wq) => c43 wq (hb.trans h)
            replace c44 := fun wq (h : On w1 wq) => c44 wq (hb.trans h)
            replace cP := fun wq (h : On w1 wq) => cP wq (hb.trans h)
            replace hb0 := On.refl w1
            replace hb1 : ∀ ob : Obj, On w1 (w1.alloc ob) := fun ob => (On.refl w1).alloc ob
            have HB := Lib.hid (HB.out.trans hb)
            clear hb hb'
            go_wp2_with (first | ((with_reducible apply csr_of_ld); (case ho => exact rfl); (case hgd => exact rfl); (case hx => exact rfl); (case hg => (first | exact s0 _ (by first | exact hb0 | exact hb1 _) | exact heap_alloc_new _ _))))
            go_at_call 26; refine (K0.out _).mono ?_; rintro _ w2 ⟨rfl, hb'⟩
            have hb := hb'
            replace s0 := fun wq (h : On w2 wq) => s0 wq (hb.trans h)
            replace c0 := fun wq (h : On w2 wq) => c0 wq (hb.trans h)
            replace c34 := fun wq (h : On w2 wq) => c34 wq (hb.trans h)
            replace c42 := fun wq (h : On w2 wq) => c42 wq (hb.trans h)
            replace c43 := fun wq (h : On w2 wq) => c43 wq (hb.trans h)
            replace c44 := fun wq (h : On w2 wq) => c44 wq (hb.trans h)
            replace cP := fun wq (h : On w2 wq) => cP wq (hb.trans h)
            replace hb0 := On.refl w2
            replace hb1 : ∀ ob : Obj, On w2 (w2.alloc ob) := fun ob => (On.refl w2).alloc ob
            have HB := Lib.hid (HB.out.trans hb)
            clear hb hb'
            go_wp2_with (first | ((with_reducible apply hrt_ld); (case ho => exact rfl); (case hgd => exact rfl); (case hx => exact rfl); (case hg => (first | exact s0 _ (by first | exact hb0 | exact hb1 _) | exact heap_alloc_new _ _))) | ((with_reducible apply hrt_new_st); (case ho => exact rfl); (case hgd => exact rfl); (case hx => exact rfl); (case hy => exact rfl)))
            go_at_call 12; refine (K1.out _).mono ?_; rintro _ w3 ⟨rfl, hb'⟩
            have hb := hb'
            replace s0 := fun wq (h : On w3 wq) => s0 wq (hb.trans h)
            replace c0 := fun wq (h : On w3 wq) => c0 wq (hb.trans h)
            replace c34 := fun wq (h : On w3 wq) => c34 wq (hb.trans h)
            replace c42 := fun wq (h : On w3 wq) => c42 wq (hb.trans h)
            replace c43 := fun wq (h : On w3 wq) => c43 wq (hb.trans h)
            replace c44 := fun wq (h : On w3 wq) => c44 wq (hb.trans h)
            replace cP := fun wq (h : On w3 wq) => cP wq (hb.trans h)
            replace hb0 := On.refl w3
            replace hb1 : ∀ ob : Obj, On w3 (w3.alloc ob) := fun ob => (On.refl w3).alloc ob
            have HB := Lib.hid (HB.out.trans hb)
            clear hb hb'
            go_wp2_with (first | ((with_reducible apply csr_of_ld); (case ho => exact rfl); (case hgd => exact rfl); (case hx => exact rfl); (case hg => (first | exact s0 _ (by first | exact hb0 | exact hb1 _) | exact heap_alloc_new _ _))) | ((with_reducible apply hrt_new_st); (case ho => exact rfl); (case hgd => exact rfl); (case hx => exact rfl); (case hy => exact rfl)))
            go_at_call 26; refine (M1.out _).mono ?_; rintro _ w4 ⟨rfl, hb'⟩
            have s1 := fun wq (h : On w4 wq) => (hb'.trans h).keep (heap_alloc_new _ _)
            have hb := (hb1 _).trans hb'
            replace s0 := fun wq (h : On w4 wq) => s0 wq (hb.trans h)
            replace c0 := fun wq (h : On w4 wq) => c0 wq (hb.trans h)
            replace c34 := fun wq (h : On w4 wq) => c34 wq (hb.trans h)
            replace c42 := fun wq (h : On w4 wq) => c42 wq (hb.trans h)
            replace c43 := fun wq (h : On w4 wq) => c43 wq (hb.trans h)
            replace c44 := fun wq (h : On w4 wq) => c44 wq (hb.trans h)
            replace cP := fun wq (h : On w4 wq) => cP wq (hb.trans h)
            replace hb0 := On.refl w4
            replace hb1 : ∀ ob : Obj, On w4 (w4.alloc ob) := fun ob => (On.refl w4).alloc ob
            have HB := Lib.hid (HB.out.trans hb)
            clear hb hb'
            have y0 := fun wq (hqq : On w4 wq) => blk_cell (s1 wq hqq) 0 (hV_get y 1 false 0 (by omega) (by omega) (by omega))
            have y34 := fun wq (hqq : On w4 wq) => blk_cell (s1 wq hqq) 34 (hV_get y 1 false 34 (by omega) (by omega) (by omega))
            have y42 := fun wq (hqq : On w4 wq) => blk_cell (s1 wq hqq) 42 (hV_get y 1 false 42 (by omega) (by omega) (by omega))
            have y43 := fun wq (hqq : On w4 wq) => blk_cell (s1 wq hqq) 43 (hV_get y 1 false 43 (by omega) (by omega) (by omega))
            have y44 := fun wq (hqq : On w4 wq) => blk_cell (s1 wq hqq) 44 (hV_get y 1 false 44 (by omega) (by omega) (by omega))
            have yP := fun wq (hqq : On w4 wq) => blk_cell (s1 wq hqq) 1 (hV_priv y 1 false)
            go_wp2_with (first | ((with_reducible apply hrt_ld); (case ho => exact rfl); (case hgd => exact rfl); (case hx => exact rfl); (case hg => (first | exact s0 _ (by first | exact hb0 | exact hb1 _) | exact s1 _ (by first | exact hb0 | exact hb1 _) | exact heap_alloc_new _ _))))
            go_at_call 14; refine (K2.out _).mono ?_; rintro _ w5 ⟨rfl, hb'⟩
            have hb := hb'
            replace s0 := fun wq (h : On w5 wq) => s0 wq (hb.trans h)
            replace s1 := fun wq (h : On w5 wq) => s1 wq (hb.trans h)
            replace c0 := fun wq (h : On w5 wq) => c0 wq (hb.trans h)
            replace c34 := fun wq (h : On w5 wq) => c34 wq (hb.trans h)
            replace c42 := fun wq (h : On w5 wq) => c42 wq (hb.trans h)
            replace c43 := fun wq (h : On w5 wq) => c43 wq (hb.trans h)
            replace c44 := fun wq (h : On w5 wq) => c44 wq (hb.trans h)
            replace cP := fun wq (h : On w5 wq) => cP wq (hb.trans h)
            replace y0 := fun wq (h : On w5 wq) => y0 wq (hb.trans h)
            replace y34 := fun wq (h : On w5 wq) => y34 wq (hb.trans h)
            replace y42 := fun wq (h : On w5 wq) => y42 wq (hb.trans h)
            replace y43 := fun wq (h : On w5 wq) => y43 wq (hb.trans h)
            replace y44 := fun wq (h : On w5 wq) => y44 wq (hb.trans h)
            replace yP := fun wq (h : On w5 wq) => yP wq (hb.trans h)
            replace hb0 := On.refl w5
            replace hb1 : ∀ ob : Obj, On w5 (w5.alloc ob) := fun ob => (On.refl w5).alloc ob
            have HB := Lib.hid (HB.out.trans hb)
            clear hb hb'
            go_wp2_with (first | ((with_reducible apply hrt_ld); (case ho => exact rfl); (case hgd => exact rfl); (case hx => exact rfl); (case hg => (first | exact s0 _ (by first | exact hb0 | exact hb1 _) | exact s1 _ (by first | exact hb0 | exact hb1 _) | exact heap_alloc_new _ _))))
            go_at_call 26; refine (M2.out _).mono ?_; rintro _ w6 ⟨rfl, hb'⟩
            have hb := hb'
            replace s0 := fun wq (h : On w6 wq) => s0 wq (hb.trans h)
            replace s1 := fun wq (h : On w6 wq) => s1 wq (hb.trans h)
            replace c0 := fun wq (h : On w6 wq) => c0 wq (hb.trans h)
            replace c34 := fun wq (h : On w6 wq) => c34 wq (hb.trans h)
            replace c42 := fun wq (h : On w6 wq) => c42 wq (hb.trans h)
            replace c43 := fun wq (h : On w6 wq) => c43 wq (hb.trans h)
            replace c44 := fun wq (h : On w6 wq) => c44 wq (hb.trans h)
            replace cP := fun wq (h : On w6 wq) => cP wq (hb.trans h)
            replace y0 := fun wq (h : On w6 wq) => y0 wq (hb.trans h)
            replace y34 := fun wq (h : On w6 wq) => y34 wq (hb.trans h)
            replace y42 := fun wq (h : On w6 wq) => y42 wq (hb.trans h)
            replace y43 := fun wq (h : On w6 wq) => y43 wq (hb.trans h)
            replace y44 := fun wq (h : On w6 wq) => y44 wq (hb.trans h)
            replace yP := fun wq (h : On w6 wq) => yP wq (hb.trans h)
            replace hb0 := On.refl w6
            replace hb1 : ∀ ob : Obj, On w6 (w6.alloc ob) := fun ob => (On.refl w6).alloc ob
            have HB := Lib.hid (HB.out.trans hb)
            clear hb hb'
            go_wp2_with (first | ((with_reducible apply hrt_ld); (case ho => exact rfl); (case hgd => exact rfl); (case hx => exact rfl); (case hg => (first | exact s0 _ (by first | exact hb0 | exact hb1 _) | exact s1 _ (by first | exact hb0 | exact hb1 _) | exact heap_alloc_new _ _))))
            go_at_call 16; refine (K3.out _).mono ?_; rintro _ w7 ⟨rfl, hb'⟩
            have hb := hb'
            replace s0 := fun wq (h : On w7 wq) => s0 wq (hb.trans h)
            replace s1 := fun wq (h : On w7 wq) => s1 wq (hb.trans h)
            replace c0 := fun wq (h : On w7 wq) => c0 wq (hb.trans h)
            replace c34 := fun wq (h : On w7 wq) => c34 wq (hb.trans h)
            replace c42 := fun wq (h : On w7 wq) => c42 wq (hb.trans h)
            replace c43 := fun wq (h : On w7 wq) => c43 wq (hb.trans h)
            replace c44 := fun wq (h : On w7 wq) => c44 wq (hb.trans h)
            replace cP := fun wq (h : On w7 wq) => cP wq (hb.trans h)
            replace y0 := fun wq (h : On w7 wq) => y0 wq (hb.trans h)
            replace y34 := fun wq (h : On w7 wq) => y34 wq (hb.trans h)
            replace y42 := fun wq (h : On w7 wq) => y42 wq (hb.trans h)
            replace y43 := fun wq (h : On w7 wq) => y43 wq (hb.trans h)
            replace y44 := fun wq (h : On w7 wq) => y44 wq (hb.trans h)
            replace yP := fun wq (h : On w7 wq) => yP wq (hb.trans h)
            replace hb0 := On.refl w7
            replace hb1 : ∀ ob : Obj, On w7 (w7.alloc ob) := fun ob => (On.refl w7).alloc ob
            have HB := Lib.hid (HB.out.trans hb)
            clear hb hb'
            go_wp2_with (first | ((with_reducible apply hrt_ld); (case ho => exact rfl); (case hgd => exact rfl); (case hx => exact rfl); (case hg => (first | exact s0 _ (by first | exact hb0 | exact hb1 _) | exact s1 _ (by first | exact hb0 | exact hb1 _) | exact heap_alloc_new _ _))))
            go_at_call 26; refine (M3.out _).mono ?_; rintro _ w8 ⟨rfl, hb'⟩
            have hb := hb'
            replace s0 := fun wq (h : On w8 wq) => s0 wq (hb.trans h)
            replace s1 := fun wq (h : On w8 wq) => s1 wq (hb.trans h)
            replace c0 := fun wq (h : On w8 wq) => c0 wq (hb.trans h)
            replace c34 := fun wq (h : On w8 wq) => c34 wq (hb.trans h)
            replace c42 := fun wq (h : On w8 wq) => c42 wq (hb.trans h)
            replace c43 := fun wq (h : On w8 wq) => c43 wq (hb.trans h)
            replace c44 := fun wq (h : On w8 wq) => c44 wq (hb.trans h)
            replace cP := fun wq (h : On w8 wq) => cP wq (hb.trans h)
            replace y0 := fun wq (h : On w8 wq) => y0 wq (hb.trans h)
            replace y34 := fun wq (h : On w8 wq) => y34 wq (hb.trans h)
            replace y42 := fun wq (h : On w8 wq) => y42 wq (hb.trans h)
            replace y43 := fun wq (h : On w8 wq) => y43 wq (hb.trans h)
            replace y44 := fun wq (h : On w8 wq) => y44 wq (hb.trans h)
            replace yP := fun wq (h : On w8 wq) => yP wq (hb.trans h)
            replace hb0 := On.refl w8
            replace hb1 : ∀ ob : Obj, On w8 (w8.alloc ob) := fun ob => (On.refl w8).alloc ob
            have HB := Lib.hid (HB.out.trans hb)
            clear hb hb'
            go_wp2
            go_ret
            exact ⟨rfl, HB.out⟩
        · cases hd : dlg h 1 c
          · have hk := okB_of hok
            have K0 : Hid (∀ w, Calls Try.prog 26 #[.agg (cV (cH h))] w fun r' w' => r' = .returned (.bool true) ∧ On w w') := Lib.hid (fun w => by have := rmay_any (cH h) w; rw [hok] at this; exact this)
            have K1 : Hid (∀ w, Calls Try.prog 12 #[.agg (hV h 1 r), .int .u64 (u c), .int .u64 (u t)] w fun r' w' => r' = .returned (.agg (hV (entH h 1 c t) 3 false)) ∧ On w w') := Lib.hid (fun w => by have := enter_any h 1 r c t w; unfold entP at this; rw [hd] at this; exact this)
            have M1 : Hid (∀ w, Calls Try.prog 26 #[.agg (cV (cH (entH h 1 c t)))] w fun r' w' => r' = .returned (.bool true) ∧ On w w') := Lib.hid (fun w => by have := rmay_any (cH (entH h 1 c t)) w; rw [okB_yes (ent_ok c t (.inr (.inl rfl)) hk)] at this; exact this)
            have M2 : Hid (∀ w, Calls Try.prog 26 #[.agg (cV (cH (mrH h)))] w fun r' w' => r' = .returned (.bool true) ∧ On w w') := Lib.hid (fun w => by have := rmay_any (cH (mrH h)) w; rw [okB_yes (mr_ok hk)] at this; exact this)
            have M3 : Hid (∀ w, Calls Try.prog 26 #[.agg (cV (cH (srH h)))] w fun r' w' => r' = .returned (.bool true) ∧ On w w') := Lib.hid (fun w => by have := rmay_any (cH (srH h)) w; rw [okB_yes (sr_ok hk)] at this; exact this)
            have K2 : Hid (∀ w, Calls Try.prog 14 #[.agg (hV h 1 r)] w fun r' w' => r' = .returned (.agg (hV (mrH h) (mrP h) false)) ∧ On w w') := Lib.hid (fun w => mret_any h 1 r w)
            have K3 : Hid (∀ w, Calls Try.prog 16 #[.agg (hV h 1 r)] w fun r' w' => r' = .returned (.agg (hV (srH h) (srP h) false)) ∧ On w w') := Lib.hid (fun w => sret_any h 1 r w)
            have hF1 := fun w => hrt_csrs (mrH h) (mrP h) false w
            have hF2 := fun w => hrt_csrs (srH h) (srP h) false w
            obtain ⟨b1, b2, b3, b4⟩ := keep_M h 1 c t hd
            have b0 := ent_pc h 1 c t
            generalize entH h 1 c t = y at *
            generalize mrH h = z at *
            generalize mrP h = zp at *
            generalize srH h = v at *
            generalize srP h = vp at *
            have e48 : u (y 48) = u (h 48) := by rw [b1]
            have e49 : u (y 49) = u (h 49) := by rw [b2]
            have e50 : u (y 50) = u (h 50) := by rw [b3]
            have e34 : bits .and .u64 (bits .xor .u64 (u (y 34)) (u (h 34))) 290 = 0 := by rw [show (290 : Int) = u 290#64 from rfl, u_xor, u_and, b4]; rfl
            have e0 : bits .and .u64 (u (y 0)) 3 = 0 := by rw [show (3 : Int) = u 3#64 from rfl, u_and, b0]; rfl
            have e0' : (bits .and .u64 (u (y 0)) 3 != 0) = false := by rw [e0]; rfl
            have t0 : (bits .and .u64 (u (h 0)) 3 == 0) = true := by rw [A, h0]; rfl
            have t0' : (bits .and .u64 (u (h 0)) 3 != 0) = false := by unfold bne; rw [t0]; rfl
            have t0'' : bits .and .u64 (u (h 0)) 3 = 0 := by simpa using t0
            clear hk hok hd h0 A b0 b1 b2 b3 b4
            have s0 : ∀ wq, On (w.alloc (.cells (hV h 1 r) 28)) wq → wq.heap[w.heap.size]? = some (.cells (hV h 1 r) 28 (0, 0)) := fun _ h => h.keep (heap_alloc_new _ _)
            have hb0 := On.refl ((w.alloc (.cells (hV h 1 r) 28)))
            have hb1 : ∀ ob : Obj, On ((w.alloc (.cells (hV h 1 r) 28))) (((w.alloc (.cells (hV h 1 r) 28))).alloc ob) := fun ob => (On.refl _).alloc ob
            have c0 : ∀ wq, On (w.alloc (.cells (hV h 1 r) 28)) wq → wq.cell? ⟨w.heap.size, 0, none⟩ = some (.int .u64 (u (h 0))) := fun _ hqq => blk_cell (s0 _ hqq) 0 (hV_get h 1 r 0 (by omega) (by omega) (by omega))
            have c34 : ∀ wq, On (w.alloc (.cells (hV h 1 r) 28)) wq → wq.cell? ⟨w.heap.size, 34, none⟩ = some (.int .u64 (u (h 34))) := fun _ hqq => blk_cell (s0 _ hqq) 34 (hV_get h 1 r 34 (by omega) (by omega) (by omega))
            have c48 : ∀ wq, On (w.alloc (.cells (hV h 1 r) 28)) wq → wq.cell? ⟨w.heap.size, 48, none⟩ = some (.int .u64 (u (h 48))) := fun _ hqq => blk_cell (s0 _ hqq) 48 (hV_get h 1 r 48 (by omega) (by omega) (by omega))
            have c49 : ∀ wq, On (w.alloc (.cells (hV h 1 r) 28)) wq → wq.cell? ⟨w.heap.size, 49, none⟩ = some (.int .u64 (u (h 49))) := fun _ hqq => blk_cell (s0 _ hqq) 49 (hV_get h 1 r 49 (by omega) (by omega) (by omega))
            have c50 : ∀ wq, On (w.alloc (.cells (hV h 1 r) 28)) wq → wq.cell? ⟨w.heap.size, 50, none⟩ = some (.int .u64 (u (h 50))) := fun _ hqq => blk_cell (s0 _ hqq) 50 (hV_get h 1 r 50 (by omega) (by omega) (by omega))
            have cP : ∀ wq, On (w.alloc (.cells (hV h 1 r) 28)) wq → wq.cell? ⟨w.heap.size, 1, none⟩ = some (.int .i64 1) := fun _ hqq => blk_cell (s0 _ hqq) 1 (hV_priv h 1 r)
            have HB : Hid (On w ((w.alloc (.cells (hV h 1 r) 28)))) := Lib.hid ((On.refl w).alloc _)
            go_enter Try.func8, Try.ntmps8
            go_wp2_with (first | ((with_reducible apply csr_of_ld); (case ho => exact rfl); (case hgd => exact rfl); (case hx => exact rfl); (case hg => (first | exact s0 _ (by first | exact hb0 | exact hb1 _) | exact heap_alloc_new _ _))))
            go_at_call 11; refine (awake8_yes _).mono ?_; rintro _ w1 ⟨rfl, hb'⟩
            have hb := hb'
            replace s0 := fun wq (h : On w1 wq) => s0 wq (hb.trans h)
            replace c0 := fun wq (h : On w1 wq) => c0 wq (hb.trans h)
            replace c34 := fun wq (h : On w1 wq) => c34 wq (hb.trans h)
            replace c48 := fun wq (h : On w1 wq) => c48 wq (hb.trans h)
            replace c49 := fun wq (h : On w1 wq) => c49 wq (hb.trans h)
            replace c50 := fun wq (h : On w1 wq) => c50 wq (hb.trans h)
            replace cP := fun wq (h : On w1 wq) => cP wq (hb.trans h)
            replace hb0 := On.refl w1
            replace hb1 : ∀ ob : Obj, On w1 (w1.alloc ob) := fun ob => (On.refl w1).alloc ob
            have HB := Lib.hid (HB.out.trans hb)
            clear hb hb'
            go_wp2_with (first | ((with_reducible apply csr_of_ld); (case ho => exact rfl); (case hgd => exact rfl); (case hx => exact rfl); (case hg => (first | exact s0 _ (by first | exact hb0 | exact hb1 _) | exact heap_alloc_new _ _))))
            go_at_call 26; refine (K0.out _).mono ?_; rintro _ w2 ⟨rfl, hb'⟩
            have hb := hb'
            replace s0 := fun wq (h : On w2 wq) => s0 wq (hb.trans h)
            replace c0 := fun wq (h : On w2 wq) => c0 wq (hb.trans h)
            replace c34 := fun wq (h : On w2 wq) => c34 wq (hb.trans h)
            replace c48 := fun wq (h : On w2 wq) => c48 wq (hb.trans h)
            replace c49 := fun wq (h : On w2 wq) => c49 wq (hb.trans h)
            replace c50 := fun wq (h : On w2 wq) => c50 wq (hb.trans h)
            replace cP := fun wq (h : On w2 wq) => cP wq (hb.trans h)
            replace hb0 := On.refl w2
            replace hb1 : ∀ ob : Obj, On w2 (w2.alloc ob) := fun ob => (On.refl w2).alloc ob
            have HB := Lib.hid (HB.out.trans hb)
            clear hb hb'
            go_wp2_with (first | ((with_reducible apply hrt_ld); (case ho => exact rfl); (case hgd => exact rfl); (case hx => exact rfl); (case hg => (first | exact s0 _ (by first | exact hb0 | exact hb1 _) | exact heap_alloc_new _ _))) | ((with_reducible apply hrt_new_st); (case ho => exact rfl); (case hgd => exact rfl); (case hx => exact rfl); (case hy => exact rfl)))
            go_at_call 12; refine (K1.out _).mono ?_; rintro _ w3 ⟨rfl, hb'⟩
            have hb := hb'
            replace s0 := fun wq (h : On w3 wq) => s0 wq (hb.trans h)
            replace c0 := fun wq (h : On w3 wq) => c0 wq (hb.trans h)
            replace c34 := fun wq (h : On w3 wq) => c34 wq (hb.trans h)
            replace c48 := fun wq (h : On w3 wq) => c48 wq (hb.trans h)
            replace c49 := fun wq (h : On w3 wq) => c49 wq (hb.trans h)
            replace c50 := fun wq (h : On w3 wq) => c50 wq (hb.trans h)
            replace cP := fun wq (h : On w3 wq) => cP wq (hb.trans h)
            replace hb0 := On.refl w3
            replace hb1 : ∀ ob : Obj, On w3 (w3.alloc ob) := fun ob => (On.refl w3).alloc ob
            have HB := Lib.hid (HB.out.trans hb)
            clear hb hb'
            go_wp2_with (first | ((with_reducible apply csr_of_ld); (case ho => exact rfl); (case hgd => exact rfl); (case hx => exact rfl); (case hg => (first | exact s0 _ (by first | exact hb0 | exact hb1 _) | exact heap_alloc_new _ _))) | ((with_reducible apply hrt_new_st); (case ho => exact rfl); (case hgd => exact rfl); (case hx => exact rfl); (case hy => exact rfl)))
            go_at_call 26; refine (M1.out _).mono ?_; rintro _ w4 ⟨rfl, hb'⟩
            have s1 := fun wq (h : On w4 wq) => (hb'.trans h).keep (heap_alloc_new _ _)
            have hb := (hb1 _).trans hb'
            replace s0 := fun wq (h : On w4 wq) => s0 wq (hb.trans h)
            replace c0 := fun wq (h : On w4 wq) => c0 wq (hb.trans h)
            replace c34 := fun wq (h : On w4 wq) => c34 wq (hb.trans h)
            replace c48 := fun wq (h : On w4 wq) => c48 wq (hb.trans h)
            replace c49 := fun wq (h : On w4 wq) => c49 wq (hb.trans h)
            replace c50 := fun wq (h : On w4 wq) => c50 wq (hb.trans h)
            replace cP := fun wq (h : On w4 wq) => cP wq (hb.trans h)
            replace hb0 := On.refl w4
            replace hb1 : ∀ ob : Obj, On w4 (w4.alloc ob) := fun ob => (On.refl w4).alloc ob
            have HB := Lib.hid (HB.out.trans hb)
            clear hb hb'
            have y0 := fun wq (hqq : On w4 wq) => blk_cell (s1 wq hqq) 0 (hV_get y 3 false 0 (by omega) (by omega) (by omega))
            have y34 := fun wq (hqq : On w4 wq) => blk_cell (s1 wq hqq) 34 (hV_get y 3 false 34 (by omega) (by omega) (by omega))
            have y48 := fun wq (hqq : On w4 wq) => blk_cell (s1 wq hqq) 48 (hV_get y 3 false 48 (by omega) (by omega) (by omega))
            have y49 := fun wq (hqq : On w4 wq) => blk_cell (s1 wq hqq) 49 (hV_get y 3 false 49 (by omega) (by omega) (by omega))
            have y50 := fun wq (hqq : On w4 wq) => blk_cell (s1 wq hqq) 50 (hV_get y 3 false 50 (by omega) (by omega) (by omega))
            have yP := fun wq (hqq : On w4 wq) => blk_cell (s1 wq hqq) 1 (hV_priv y 3 false)
            go_wp2_with (first | ((with_reducible apply hrt_ld); (case ho => exact rfl); (case hgd => exact rfl); (case hx => exact rfl); (case hg => (first | exact s0 _ (by first | exact hb0 | exact hb1 _) | exact s1 _ (by first | exact hb0 | exact hb1 _) | exact heap_alloc_new _ _))))
            go_at_call 14; refine (K2.out _).mono ?_; rintro _ w5 ⟨rfl, hb'⟩
            have hb := hb'
            replace s0 := fun wq (h : On w5 wq) => s0 wq (hb.trans h)
            replace s1 := fun wq (h : On w5 wq) => s1 wq (hb.trans h)
            replace c0 := fun wq (h : On w5 wq) => c0 wq (hb.trans h)
            replace c34 := fun wq (h : On w5 wq) => c34 wq (hb.trans h)
            replace c48 := fun wq (h : On w5 wq) => c48 wq (hb.trans h)
            replace c49 := fun wq (h : On w5 wq) => c49 wq (hb.trans h)
            replace c50 := fun wq (h : On w5 wq) => c50 wq (hb.trans h)
            replace cP := fun wq (h : On w5 wq) => cP wq (hb.trans h)
            replace y0 := fun wq (h : On w5 wq) => y0 wq (hb.trans h)
            replace y34 := fun wq (h : On w5 wq) => y34 wq (hb.trans h)
            replace y48 := fun wq (h : On w5 wq) => y48 wq (hb.trans h)
            replace y49 := fun wq (h : On w5 wq) => y49 wq (hb.trans h)
            replace y50 := fun wq (h : On w5 wq) => y50 wq (hb.trans h)
            replace yP := fun wq (h : On w5 wq) => yP wq (hb.trans h)
            replace hb0 := On.refl w5
            replace hb1 : ∀ ob : Obj, On w5 (w5.alloc ob) := fun ob => (On.refl w5).alloc ob
            have HB := Lib.hid (HB.out.trans hb)
            clear hb hb'
            go_wp2_with (first | ((with_reducible apply hrt_ld); (case ho => exact rfl); (case hgd => exact rfl); (case hx => exact rfl); (case hg => (first | exact s0 _ (by first | exact hb0 | exact hb1 _) | exact s1 _ (by first | exact hb0 | exact hb1 _) | exact heap_alloc_new _ _))))
            go_at_call 26; refine (M2.out _).mono ?_; rintro _ w6 ⟨rfl, hb'⟩
            have hb := hb'
            replace s0 := fun wq (h : On w6 wq) => s0 wq (hb.trans h)
            replace s1 := fun wq (h : On w6 wq) => s1 wq (hb.trans h)
            replace c0 := fun wq (h : On w6 wq) => c0 wq (hb.trans h)
            replace c34 := fun wq (h : On w6 wq) => c34 wq (hb.trans h)
            replace c48 := fun wq (h : On w6 wq) => c48 wq (hb.trans h)
            replace c49 := fun wq (h : On w6 wq) => c49 wq (hb.trans h)
            replace c50 := fun wq (h : On w6 wq) => c50 wq (hb.trans h)
            replace cP := fun wq (h : On w6 wq) => cP wq (hb.trans h)
            replace y0 := fun wq (h : On w6 wq) => y0 wq (hb.trans h)
            replace y34 := fun wq (h : On w6 wq) => y34 wq (hb.trans h)
            replace y48 := fun wq (h : On w6 wq) => y48 wq (hb.trans h)
            replace y49 := fun wq (h : On w6 wq) => y49 wq (hb.trans h)
            replace y50 := fun wq (h : On w6 wq) => y50 wq (hb.trans h)
            replace yP := fun wq (h : On w6 wq) => yP wq (hb.trans h)
            replace hb0 := On.refl w6
            replace hb1 : ∀ ob : Obj, On w6 (w6.alloc ob) := fun ob => (On.refl w6).alloc ob
            have HB := Lib.hid (HB.out.trans hb)
            clear hb hb'
            go_wp2_with (first | ((with_reducible apply hrt_ld); (case ho => exact rfl); (case hgd => exact rfl); (case hx => exact rfl); (case hg => (first | exact s0 _ (by first | exact hb0 | exact hb1 _) | exact s1 _ (by first | exact hb0 | exact hb1 _) | exact heap_alloc_new _ _))))
            go_at_call 16; refine (K3.out _).mono ?_; rintro _ w7 ⟨rfl, hb'⟩
            have hb := hb'
            replace s0 := fun wq (h : On w7 wq) => s0 wq (hb.trans h)
            replace s1 := fun wq (h : On w7 wq) => s1 wq (hb.trans h)
            replace c0 := fun wq (h : On w7 wq) => c0 wq (hb.trans h)
            replace c34 := fun wq (h : On w7 wq) => c34 wq (hb.trans h)
            replace c48 := fun wq (h : On w7 wq) => c48 wq (hb.trans h)
            replace c49 := fun wq (h : On w7 wq) => c49 wq (hb.trans h)
            replace c50 := fun wq (h : On w7 wq) => c50 wq (hb.trans h)
            replace cP := fun wq (h : On w7 wq) => cP wq (hb.trans h)
            replace y0 := fun wq (h : On w7 wq) => y0 wq (hb.trans h)
            replace y34 := fun wq (h : On w7 wq) => y34 wq (hb.trans h)
            replace y48 := fun wq (h : On w7 wq) => y48 wq (hb.trans h)
            replace y49 := fun wq (h : On w7 wq) => y49 wq (hb.trans h)
            replace y50 := fun wq (h : On w7 wq) => y50 wq (hb.trans h)
            replace yP := fun wq (h : On w7 wq) => yP wq (hb.trans h)
            replace hb0 := On.refl w7
            replace hb1 : ∀ ob : Obj, On w7 (w7.alloc ob) := fun ob => (On.refl w7).alloc ob
            have HB := Lib.hid (HB.out.trans hb)
            clear hb hb'
            go_wp2_with (first | ((with_reducible apply hrt_ld); (case ho => exact rfl); (case hgd => exact rfl); (case hx => exact rfl); (case hg => (first | exact s0 _ (by first | exact hb0 | exact hb1 _) | exact s1 _ (by first | exact hb0 | exact hb1 _) | exact heap_alloc_new _ _))))
            go_at_call 26; refine (M3.out _).mono ?_; rintro _ w8 ⟨rfl, hb'⟩
            have hb := hb'
            replace s0 := fun wq (h : On w8 wq) => s0 wq (hb.trans h)
            replace s1 := fun wq (h : On w8 wq) => s1 wq (hb.trans h)
            replace c0 := fun wq (h : On w8 wq) => c0 wq (hb.trans h)
            replace c34 := fun wq (h : On w8 wq) => c34 wq (hb.trans h)
            replace c48 := fun wq (h : On w8 wq) => c48 wq (hb.trans h)
            replace c49 := fun wq (h : On w8 wq) => c49 wq (hb.trans h)
            replace c50 := fun wq (h : On w8 wq) => c50 wq (hb.trans h)
            replace cP := fun wq (h : On w8 wq) => cP wq (hb.trans h)
            replace y0 := fun wq (h : On w8 wq) => y0 wq (hb.trans h)
            replace y34 := fun wq (h : On w8 wq) => y34 wq (hb.trans h)
            replace y48 := fun wq (h : On w8 wq) => y48 wq (hb.trans h)
            replace y49 := fun wq (h : On w8 wq) => y49 wq (hb.trans h)
            replace y50 := fun wq (h : On w8 wq) => y50 wq (hb.trans h)
            replace yP := fun wq (h : On w8 wq) => yP wq (hb.trans h)
            replace hb0 := On.refl w8
            replace hb1 : ∀ ob : Obj, On w8 (w8.alloc ob) := fun ob => (On.refl w8).alloc ob
            have HB := Lib.hid (HB.out.trans hb)
            clear hb hb'
            go_wp2
            go_ret
            exact ⟨rfl, HB.out⟩
          · have hk := okB_of hok
            have K0 : Hid (∀ w, Calls Try.prog 26 #[.agg (cV (cH h))] w fun r' w' => r' = .returned (.bool true) ∧ On w w') := Lib.hid (fun w => by have := rmay_any (cH h) w; rw [hok] at this; exact this)
            have K1 : Hid (∀ w, Calls Try.prog 12 #[.agg (hV h 1 r), .int .u64 (u c), .int .u64 (u t)] w fun r' w' => r' = .returned (.agg (hV (entH h 1 c t) 1 false)) ∧ On w w') := Lib.hid (fun w => by have := enter_any h 1 r c t w; unfold entP at this; rw [hd] at this; exact this)
            have M1 : Hid (∀ w, Calls Try.prog 26 #[.agg (cV (cH (entH h 1 c t)))] w fun r' w' => r' = .returned (.bool true) ∧ On w w') := Lib.hid (fun w => by have := rmay_any (cH (entH h 1 c t)) w; rw [okB_yes (ent_ok c t (.inr (.inl rfl)) hk)] at this; exact this)
            have M2 : Hid (∀ w, Calls Try.prog 26 #[.agg (cV (cH (mrH h)))] w fun r' w' => r' = .returned (.bool true) ∧ On w w') := Lib.hid (fun w => by have := rmay_any (cH (mrH h)) w; rw [okB_yes (mr_ok hk)] at this; exact this)
            have M3 : Hid (∀ w, Calls Try.prog 26 #[.agg (cV (cH (srH h)))] w fun r' w' => r' = .returned (.bool true) ∧ On w w') := Lib.hid (fun w => by have := rmay_any (cH (srH h)) w; rw [okB_yes (sr_ok hk)] at this; exact this)
            have K2 : Hid (∀ w, Calls Try.prog 14 #[.agg (hV h 1 r)] w fun r' w' => r' = .returned (.agg (hV (mrH h) (mrP h) false)) ∧ On w w') := Lib.hid (fun w => mret_any h 1 r w)
            have K3 : Hid (∀ w, Calls Try.prog 16 #[.agg (hV h 1 r)] w fun r' w' => r' = .returned (.agg (hV (srH h) (srP h) false)) ∧ On w w') := Lib.hid (fun w => sret_any h 1 r w)
            have hF1 := fun w => hrt_csrs (mrH h) (mrP h) false w
            have hF2 := fun w => hrt_csrs (srH h) (srP h) false w
            obtain ⟨b1, b2, b3, b4⟩ := keep_S h 1 c t hd
            have b0 := ent_pc h 1 c t
            generalize entH h 1 c t = y at *
            generalize mrH h = z at *
            generalize mrP h = zp at *
            generalize srH h = v at *
            generalize srP h = vp at *
            have e42 : u (y 42) = u (h 42) := by rw [b1]
            have e43 : u (y 43) = u (h 43) := by rw [b2]
            have e44 : u (y 44) = u (h 44) := by rw [b3]
            have e34 : bits .and .u64 (bits .xor .u64 (u (y 34)) (u (h 34))) 6280 = 0 := by rw [show (6280 : Int) = u 6280#64 from rfl, u_xor, u_and, b4]; rfl
            have e0 : bits .and .u64 (u (y 0)) 3 = 0 := by rw [show (3 : Int) = u 3#64 from rfl, u_and, b0]; rfl
            have e0' : (bits .and .u64 (u (y 0)) 3 != 0) = false := by rw [e0]; rfl
            have t0 : (bits .and .u64 (u (h 0)) 3 == 0) = true := by rw [A, h0]; rfl
            have t0' : (bits .and .u64 (u (h 0)) 3 != 0) = false := by unfold bne; rw [t0]; rfl
            have t0'' : bits .and .u64 (u (h 0)) 3 = 0 := by simpa using t0
            clear hk hok hd h0 A b0 b1 b2 b3 b4
            have s0 : ∀ wq, On (w.alloc (.cells (hV h 1 r) 28)) wq → wq.heap[w.heap.size]? = some (.cells (hV h 1 r) 28 (0, 0)) := fun _ h => h.keep (heap_alloc_new _ _)
            have hb0 := On.refl ((w.alloc (.cells (hV h 1 r) 28)))
            have hb1 : ∀ ob : Obj, On ((w.alloc (.cells (hV h 1 r) 28))) (((w.alloc (.cells (hV h 1 r) 28))).alloc ob) := fun ob => (On.refl _).alloc ob
            have c0 : ∀ wq, On (w.alloc (.cells (hV h 1 r) 28)) wq → wq.cell? ⟨w.heap.size, 0, none⟩ = some (.int .u64 (u (h 0))) := fun _ hqq => blk_cell (s0 _ hqq) 0 (hV_get h 1 r 0 (by omega) (by omega) (by omega))
            have c34 : ∀ wq, On (w.alloc (.cells (hV h 1 r) 28)) wq → wq.cell? ⟨w.heap.size, 34, none⟩ = some (.int .u64 (u (h 34))) := fun _ hqq => blk_cell (s0 _ hqq) 34 (hV_get h 1 r 34 (by omega) (by omega) (by omega))
            have c42 : ∀ wq, On (w.alloc (.cells (hV h 1 r) 28)) wq → wq.cell? ⟨w.heap.size, 42, none⟩ = some (.int .u64 (u (h 42))) := fun _ hqq => blk_cell (s0 _ hqq) 42 (hV_get h 1 r 42 (by omega) (by omega) (by omega))
            have c43 : ∀ wq, On (w.alloc (.cells (hV h 1 r) 28)) wq → wq.cell? ⟨w.heap.size, 43, none⟩ = some (.int .u64 (u (h 43))) := fun _ hqq => blk_cell (s0 _ hqq) 43 (hV_get h 1 r 43 (by omega) (by omega) (by omega))
            have c44 : ∀ wq, On (w.alloc (.cells (hV h 1 r) 28)) wq → wq.cell? ⟨w.heap.size, 44, none⟩ = some (.int .u64 (u (h 44))) := fun _ hqq => blk_cell (s0 _ hqq) 44 (hV_get h 1 r 44 (by omega) (by omega) (by omega))
            have cP : ∀ wq, On (w.alloc (.cells (hV h 1 r) 28)) wq → wq.cell? ⟨w.heap.size, 1, none⟩ = some (.int .i64 1) := fun _ hqq => blk_cell (s0 _ hqq) 1 (hV_priv h 1 r)
            have HB : Hid (On w ((w.alloc (.cells (hV h 1 r) 28)))) := Lib.hid ((On.refl w).alloc _)
            go_enter Try.func8, Try.ntmps8
            go_wp2_with (first | ((with_reducible apply csr_of_ld); (case ho => exact rfl); (case hgd => exact rfl); (case hx => exact rfl); (case hg => (first | exact s0 _ (by first | exact hb0 | exact hb1 _) | exact heap_alloc_new _ _))))
            go_at_call 11; refine (awake8_yes _).mono ?_; rintro _ w1 ⟨rfl, hb'⟩
            have hb := hb'
            replace s0 := fun wq (h : On w1 wq) => s0 wq (hb.trans h)
            replace c0 := fun wq (h : On w1 wq) => c0 wq (hb.trans h)
            replace c34 := fun wq (h : On w1 wq) => c34 wq (hb.trans h)
            replace c42 := fun wq (h : On w1 wq) => c42 wq (hb.trans h)
            replace c43 := fun wq (h : On w1 wq) => c43 wq (hb.trans h)
            replace c44 := fun wq (h : On w1 wq) => c44 wq (hb.trans h)
            replace cP := fun wq (h : On w1 wq) => cP wq (hb.trans h)
            replace hb0 := On.refl w1
            replace hb1 : ∀ ob : Obj, On w1 (w1.alloc ob) := fun ob => (On.refl w1).alloc ob
            have HB := Lib.hid (HB.out.trans hb)
            clear hb hb'
            go_wp2_with (first | ((with_reducible apply csr_of_ld); (case ho => exact rfl); (case hgd => exact rfl); (case hx => exact rfl); (case hg => (first | exact s0 _ (by first | exact hb0 | exact hb1 _) | exact heap_alloc_new _ _))))
            go_at_call 26; refine (K0.out _).mono ?_; rintro _ w2 ⟨rfl, hb'⟩
            have hb := hb'
            replace s0 := fun wq (h : On w2 wq) => s0 wq (hb.trans h)
            replace c0 := fun wq (h : On w2 wq) => c0 wq (hb.trans h)
            replace c34 := fun wq (h : On w2 wq) => c34 wq (hb.trans h)
            replace c42 := fun wq (h : On w2 wq) => c42 wq (hb.trans h)
            replace c43 := fun wq (h : On w2 wq) => c43 wq (hb.trans h)
            replace c44 := fun wq (h : On w2 wq) => c44 wq (hb.trans h)
            replace cP := fun wq (h : On w2 wq) => cP wq (hb.trans h)
            replace hb0 := On.refl w2
            replace hb1 : ∀ ob : Obj, On w2 (w2.alloc ob) := fun ob => (On.refl w2).alloc ob
            have HB := Lib.hid (HB.out.trans hb)
            clear hb hb'
            go_wp2_with (first | ((with_reducible apply hrt_ld); (case ho => exact rfl); (case hgd => exact rfl); (case hx => exact rfl); (case hg => (first | exact s0 _ (by first | exact hb0 | exact hb1 _) | exact heap_alloc_new _ _))) | ((with_reducible apply hrt_new_st); (case ho => exact rfl); (case hgd => exact rfl); (case hx => exact rfl); (case hy => exact rfl)))
            go_at_call 12; refine (K1.out _).mono ?_; rintro _ w3 ⟨rfl, hb'⟩
            have hb := hb'
            replace s0 := fun wq (h : On w3 wq) => s0 wq (hb.trans h)
            replace c0 := fun wq (h : On w3 wq) => c0 wq (hb.trans h)
            replace c34 := fun wq (h : On w3 wq) => c34 wq (hb.trans h)
            replace c42 := fun wq (h : On w3 wq) => c42 wq (hb.trans h)
            replace c43 := fun wq (h : On w3 wq) => c43 wq (hb.trans h)
            replace c44 := fun wq (h : On w3 wq) => c44 wq (hb.trans h)
            replace cP := fun wq (h : On w3 wq) => cP wq (hb.trans h)
            replace hb0 := On.refl w3
            replace hb1 : ∀ ob : Obj, On w3 (w3.alloc ob) := fun ob => (On.refl w3).alloc ob
            have HB := Lib.hid (HB.out.trans hb)
            clear hb hb'
            go_wp2_with (first | ((with_reducible apply csr_of_ld); (case ho => exact rfl); (case hgd => exact rfl); (case hx => exact rfl); (case hg => (first | exact s0 _ (by first | exact hb0 | exact hb1 _) | exact heap_alloc_new _ _))) | ((with_reducible apply hrt_new_st); (case ho => exact rfl); (case hgd => exact rfl); (case hx => exact rfl); (case hy => exact rfl)))
            go_at_call 26; refine (M1.out _).mono ?_; rintro _ w4 ⟨rfl, hb'⟩
            have s1 := fun wq (h : On w4 wq) => (hb'.trans h).keep (heap_alloc_new _ _)
            have hb := (hb1 _).trans hb'
            replace s0 := fun wq (h : On w4 wq) => s0 wq (hb.trans h)
            replace c0 := fun wq (h : On w4 wq) => c0 wq (hb.trans h)
            replace c34 := fun wq (h : On w4 wq) => c34 wq (hb.trans h)
            replace c42 := fun wq (h : On w4 wq) => c42 wq (hb.trans h)
            replace c43 := fun wq (h : On w4 wq) => c43 wq (hb.trans h)
            replace c44 := fun wq (h : On w4 wq) => c44 wq (hb.trans h)
            replace cP := fun wq (h : On w4 wq) => cP wq (hb.trans h)
            replace hb0 := On.refl w4
            replace hb1 : ∀ ob : Obj, On w4 (w4.alloc ob) := fun ob => (On.refl w4).alloc ob
            have HB := Lib.hid (HB.out.trans hb)
            clear hb hb'
            have y0 := fun wq (hqq : On w4 wq) => blk_cell (s1 wq hqq) 0 (hV_get y 1 false 0 (by omega) (by omega) (by omega))
            have y34 := fun wq (hqq : On w4 wq) => blk_cell (s1 wq hqq) 34 (hV_get y 1 false 34 (by omega) (by omega) (by omega))
            have y42 := fun wq (hqq : On w4 wq) => blk_cell (s1 wq hqq) 42 (hV_get y 1 false 42 (by omega) (by omega) (by omega))
            have y43 := fun wq (hqq : On w4 wq) => blk_cell (s1 wq hqq) 43 (hV_get y 1 false 43 (by omega) (by omega) (by omega))
            have y44 := fun wq (hqq : On w4 wq) => blk_cell (s1 wq hqq) 44 (hV_get y 1 false 44 (by omega) (by omega) (by omega))
            have yP := fun wq (hqq : On w4 wq) => blk_cell (s1 wq hqq) 1 (hV_priv y 1 false)
            go_wp2_with (first | ((with_reducible apply hrt_ld); (case ho => exact rfl); (case hgd => exact rfl); (case hx => exact rfl); (case hg => (first | exact s0 _ (by first | exact hb0 | exact hb1 _) | exact s1 _ (by first | exact hb0 | exact hb1 _) | exact heap_alloc_new _ _))))
            go_at_call 14; refine (K2.out _).mono ?_; rintro _ w5 ⟨rfl, hb'⟩
            have hb := hb'
            replace s0 := fun wq (h : On w5 wq) => s0 wq (hb.trans h)
            replace s1 := fun wq (h : On w5 wq) => s1 wq (hb.trans h)
            replace c0 := fun wq (h : On w5 wq) => c0 wq (hb.trans h)
            replace c34 := fun wq (h : On w5 wq) => c34 wq (hb.trans h)
            replace c42 := fun wq (h : On w5 wq) => c42 wq (hb.trans h)
            replace c43 := fun wq (h : On w5 wq) => c43 wq (hb.trans h)
            replace c44 := fun wq (h : On w5 wq) => c44 wq (hb.trans h)
            replace cP := fun wq (h : On w5 wq) => cP wq (hb.trans h)
            replace y0 := fun wq (h : On w5 wq) => y0 wq (hb.trans h)
            replace y34 := fun wq (h : On w5 wq) => y34 wq (hb.trans h)
            replace y42 := fun wq (h : On w5 wq) => y42 wq (hb.trans h)
            replace y43 := fun wq (h : On w5 wq) => y43 wq (hb.trans h)
            replace y44 := fun wq (h : On w5 wq) => y44 wq (hb.trans h)
            replace yP := fun wq (h : On w5 wq) => yP wq (hb.trans h)
            replace hb0 := On.refl w5
            replace hb1 : ∀ ob : Obj, On w5 (w5.alloc ob) := fun ob => (On.refl w5).alloc ob
            have HB := Lib.hid (HB.out.trans hb)
            clear hb hb'
            go_wp2_with (first | ((with_reducible apply hrt_ld); (case ho => exact rfl); (case hgd => exact rfl); (case hx => exact rfl); (case hg => (first | exact s0 _ (by first | exact hb0 | exact hb1 _) | exact s1 _ (by first | exact hb0 | exact hb1 _) | exact heap_alloc_new _ _))))
            go_at_call 26; refine (M2.out _).mono ?_; rintro _ w6 ⟨rfl, hb'⟩
            have hb := hb'
            replace s0 := fun wq (h : On w6 wq) => s0 wq (hb.trans h)
            replace s1 := fun wq (h : On w6 wq) => s1 wq (hb.trans h)
            replace c0 := fun wq (h : On w6 wq) => c0 wq (hb.trans h)
            replace c34 := fun wq (h : On w6 wq) => c34 wq (hb.trans h)
            replace c42 := fun wq (h : On w6 wq) => c42 wq (hb.trans h)
            replace c43 := fun wq (h : On w6 wq) => c43 wq (hb.trans h)
            replace c44 := fun wq (h : On w6 wq) => c44 wq (hb.trans h)
            replace cP := fun wq (h : On w6 wq) => cP wq (hb.trans h)
            replace y0 := fun wq (h : On w6 wq) => y0 wq (hb.trans h)
            replace y34 := fun wq (h : On w6 wq) => y34 wq (hb.trans h)
            replace y42 := fun wq (h : On w6 wq) => y42 wq (hb.trans h)
            replace y43 := fun wq (h : On w6 wq) => y43 wq (hb.trans h)
            replace y44 := fun wq (h : On w6 wq) => y44 wq (hb.trans h)
            replace yP := fun wq (h : On w6 wq) => yP wq (hb.trans h)
            replace hb0 := On.refl w6
            replace hb1 : ∀ ob : Obj, On w6 (w6.alloc ob) := fun ob => (On.refl w6).alloc ob
            have HB := Lib.hid (HB.out.trans hb)
            clear hb hb'
            go_wp2_with (first | ((with_reducible apply hrt_ld); (case ho => exact rfl); (case hgd => exact rfl); (case hx => exact rfl); (case hg => (first | exact s0 _ (by first | exact hb0 | exact hb1 _) | exact s1 _ (by first | exact hb0 | exact hb1 _) | exact heap_alloc_new _ _))))
            go_at_call 16; refine (K3.out _).mono ?_; rintro _ w7 ⟨rfl, hb'⟩
            have hb := hb'
            replace s0 := fun wq (h : On w7 wq) => s0 wq (hb.trans h)
            replace s1 := fun wq (h : On w7 wq) => s1 wq (hb.trans h)
            replace c0 := fun wq (h : On w7 wq) => c0 wq (hb.trans h)
            replace c34 := fun wq (h : On w7 wq) => c34 wq (hb.trans h)
            replace c42 := fun wq (h : On w7 wq) => c42 wq (hb.trans h)
            replace c43 := fun wq (h : On w7 wq) => c43 wq (hb.trans h)
            replace c44 := fun wq (h : On w7 wq) => c44 wq (hb.trans h)
            replace cP := fun wq (h : On w7 wq) => cP wq (hb.trans h)
            replace y0 := fun wq (h : On w7 wq) => y0 wq (hb.trans h)
            replace y34 := fun wq (h : On w7 wq) => y34 wq (hb.trans h)
            replace y42 := fun wq (h : On w7 wq) => y42 wq (hb.trans h)
            replace y43 := fun wq (h : On w7 wq) => y43 wq (hb.trans h)
            replace y44 := fun wq (h : On w7 wq) => y44 wq (hb.trans h)
            replace yP := fun wq (h : On w7 wq) => yP wq (hb.trans h)
            replace hb0 := On.refl w7
            replace hb1 : ∀ ob : Obj, On w7 (w7.alloc ob) := fun ob => (On.refl w7).alloc ob
            have HB := Lib.hid (HB.out.trans hb)
            clear hb hb'
            go_wp2_with (first | ((with_reducible apply hrt_ld); (case ho => exact rfl); (case hgd => exact rfl); (case hx => exact rfl); (case hg => (first | exact s0 _ (by first | exact hb0 | exact hb1 _) | exact s1 _ (by first | exact hb0 | exact hb1 _) | exact heap_alloc_new _ _))))
            go_at_call 26; refine (M3.out _).mono ?_; rintro _ w8 ⟨rfl, hb'⟩
            have hb := hb'
            replace s0 := fun wq (h : On w8 wq) => s0 wq (hb.trans h)
            replace s1 := fun wq (h : On w8 wq) => s1 wq (hb.trans h)
            replace c0 := fun wq (h : On w8 wq) => c0 wq (hb.trans h)
            replace c34 := fun wq (h : On w8 wq) => c34 wq (hb.trans h)
            replace c42 := fun wq (h : On w8 wq) => c42 wq (hb.trans h)
            replace c43 := fun wq (h : On w8 wq) => c43 wq (hb.trans h)
            replace c44 := fun wq (h : On w8 wq) => c44 wq (hb.trans h)
            replace cP := fun wq (h : On w8 wq) => cP wq (hb.trans h)
            replace y0 := fun wq (h : On w8 wq) => y0 wq (hb.trans h)
            replace y34 := fun wq (h : On w8 wq) => y34 wq (hb.trans h)
            replace y42 := fun wq (h : On w8 wq) => y42 wq (hb.trans h)
            replace y43 := fun wq (h : On w8 wq) => y43 wq (hb.trans h)
            replace y44 := fun wq (h : On w8 wq) => y44 wq (hb.trans h)
            replace yP := fun wq (h : On w8 wq) => yP wq (hb.trans h)
            replace hb0 := On.refl w8
            replace hb1 : ∀ ob : Obj, On w8 (w8.alloc ob) := fun ob => (On.refl w8).alloc ob
            have HB := Lib.hid (HB.out.trans hb)
            clear hb hb'
            go_wp2
            go_ret
            exact ⟨rfl, HB.out⟩
        · have hd : dlg h 3 c = false := rfl
          have hk := okB_of hok
          have K0 : Hid (∀ w, Calls Try.prog 26 #[.agg (cV (cH h))] w fun r' w' => r' = .returned (.bool true) ∧ On w w') := Lib.hid (fun w => by have := rmay_any (cH h) w; rw [hok] at this; exact this)
          have K1 : Hid (∀ w, Calls Try.prog 12 #[.agg (hV h 3 r), .int .u64 (u c), .int .u64 (u t)] w fun r' w' => r' = .returned (.agg (hV (entH h 3 c t) 3 false)) ∧ On w w') := Lib.hid (fun w => by have := enter_any h 3 r c t w; unfold entP at this; rw [hd] at this; exact this)
          have M1 : Hid (∀ w, Calls Try.prog 26 #[.agg (cV (cH (entH h 3 c t)))] w fun r' w' => r' = .returned (.bool true) ∧ On w w') := Lib.hid (fun w => by have := rmay_any (cH (entH h 3 c t)) w; rw [okB_yes (ent_ok c t (.inr (.inr rfl)) hk)] at this; exact this)
          have M2 : Hid (∀ w, Calls Try.prog 26 #[.agg (cV (cH (mrH h)))] w fun r' w' => r' = .returned (.bool true) ∧ On w w') := Lib.hid (fun w => by have := rmay_any (cH (mrH h)) w; rw [okB_yes (mr_ok hk)] at this; exact this)
          have M3 : Hid (∀ w, Calls Try.prog 26 #[.agg (cV (cH (srH h)))] w fun r' w' => r' = .returned (.bool true) ∧ On w w') := Lib.hid (fun w => by have := rmay_any (cH (srH h)) w; rw [okB_yes (sr_ok hk)] at this; exact this)
          have K2 : Hid (∀ w, Calls Try.prog 14 #[.agg (hV h 3 r)] w fun r' w' => r' = .returned (.agg (hV (mrH h) (mrP h) false)) ∧ On w w') := Lib.hid (fun w => mret_any h 3 r w)
          have K3 : Hid (∀ w, Calls Try.prog 16 #[.agg (hV h 3 r)] w fun r' w' => r' = .returned (.agg (hV (srH h) (srP h) false)) ∧ On w w') := Lib.hid (fun w => sret_any h 3 r w)
          have hF1 := fun w => hrt_csrs (mrH h) (mrP h) false w
          have hF2 := fun w => hrt_csrs (srH h) (srP h) false w
          obtain ⟨b1, b2, b3, b4⟩ := keep_M h 3 c t hd
          have b0 := ent_pc h 3 c t
          generalize entH h 3 c t = y at *
          generalize mrH h = z at *
          generalize mrP h = zp at *
          generalize srH h = v at *
          generalize srP h = vp at *
          have e48 : u (y 48) = u (h 48) := by rw [b1]
          have e49 : u (y 49) = u (h 49) := by rw [b2]
          have e50 : u (y 50) = u (h 50) := by rw [b3]
          have e34 : bits .and .u64 (bits .xor .u64 (u (y 34)) (u (h 34))) 290 = 0 := by rw [show (290 : Int) = u 290#64 from rfl, u_xor, u_and, b4]; rfl
          have e0 : bits .and .u64 (u (y 0)) 3 = 0 := by rw [show (3 : Int) = u 3#64 from rfl, u_and, b0]; rfl
          have e0' : (bits .and .u64 (u (y 0)) 3 != 0) = false := by rw [e0]; rfl
          have t0 : (bits .and .u64 (u (h 0)) 3 == 0) = true := by rw [A, h0]; rfl
          have t0' : (bits .and .u64 (u (h 0)) 3 != 0) = false := by unfold bne; rw [t0]; rfl
          have t0'' : bits .and .u64 (u (h 0)) 3 = 0 := by simpa using t0
          clear hk hok hd h0 A b0 b1 b2 b3 b4
          have s0 : ∀ wq, On (w.alloc (.cells (hV h 3 r) 28)) wq → wq.heap[w.heap.size]? = some (.cells (hV h 3 r) 28 (0, 0)) := fun _ h => h.keep (heap_alloc_new _ _)
          have hb0 := On.refl ((w.alloc (.cells (hV h 3 r) 28)))
          have hb1 : ∀ ob : Obj, On ((w.alloc (.cells (hV h 3 r) 28))) (((w.alloc (.cells (hV h 3 r) 28))).alloc ob) := fun ob => (On.refl _).alloc ob
          have c0 : ∀ wq, On (w.alloc (.cells (hV h 3 r) 28)) wq → wq.cell? ⟨w.heap.size, 0, none⟩ = some (.int .u64 (u (h 0))) := fun _ hqq => blk_cell (s0 _ hqq) 0 (hV_get h 3 r 0 (by omega) (by omega) (by omega))
          have c34 : ∀ wq, On (w.alloc (.cells (hV h 3 r) 28)) wq → wq.cell? ⟨w.heap.size, 34, none⟩ = some (.int .u64 (u (h 34))) := fun _ hqq => blk_cell (s0 _ hqq) 34 (hV_get h 3 r 34 (by omega) (by omega) (by omega))
          have c48 : ∀ wq, On (w.alloc (.cells (hV h 3 r) 28)) wq → wq.cell? ⟨w.heap.size, 48, none⟩ = some (.int .u64 (u (h 48))) := fun _ hqq => blk_cell (s0 _ hqq) 48 (hV_get h 3 r 48 (by omega) (by omega) (by omega))
          have c49 : ∀ wq, On (w.alloc (.cells (hV h 3 r) 28)) wq → wq.cell? ⟨w.heap.size, 49, none⟩ = some (.int .u64 (u (h 49))) := fun _ hqq => blk_cell (s0 _ hqq) 49 (hV_get h 3 r 49 (by omega) (by omega) (by omega))
          have c50 : ∀ wq, On (w.alloc (.cells (hV h 3 r) 28)) wq → wq.cell? ⟨w.heap.size, 50, none⟩ = some (.int .u64 (u (h 50))) := fun _ hqq => blk_cell (s0 _ hqq) 50 (hV_get h 3 r 50 (by omega) (by omega) (by omega))
          have cP : ∀ wq, On (w.alloc (.cells (hV h 3 r) 28)) wq → wq.cell? ⟨w.heap.size, 1, none⟩ = some (.int .i64 3) := fun _ hqq => blk_cell (s0 _ hqq) 1 (hV_priv h 3 r)
          have HB : Hid (On w ((w.alloc (.cells (hV h 3 r) 28)))) := Lib.hid ((On.refl w).alloc _)
          go_enter Try.func8, Try.ntmps8
          go_wp2_with (first | ((with_reducible apply csr_of_ld); (case ho => exact rfl); (case hgd => exact rfl); (case hx => exact rfl); (case hg => (first | exact s0 _ (by first | exact hb0 | exact hb1 _) | exact heap_alloc_new _ _))))
          go_at_call 11; refine (awake8_yes _).mono ?_; rintro _ w1 ⟨rfl, hb'⟩
          have hb := hb'
          replace s0 := fun wq (h : On w1 wq) => s0 wq (hb.trans h)
          replace c0 := fun wq (h : On w1 wq) => c0 wq (hb.trans h)
          replace c34 := fun wq (h : On w1 wq) => c34 wq (hb.trans h)
          replace c48 := fun wq (h : On w1 wq) => c48 wq (hb.trans h)
          replace c49 := fun wq (h : On w1 wq) => c49 wq (hb.trans h)
          replace c50 := fun wq (h : On w1 wq) => c50 wq (hb.trans h)
          replace cP := fun wq (h : On w1 wq) => cP wq (hb.trans h)
          replace hb0 := On.refl w1
          replace hb1 : ∀ ob : Obj, On w1 (w1.alloc ob) := fun ob => (On.refl w1).alloc ob
          have HB := Lib.hid (HB.out.trans hb)
          clear hb hb'
          go_wp2_with (first | ((with_reducible apply csr_of_ld); (case ho => exact rfl); (case hgd => exact rfl); (case hx => exact rfl); (case hg => (first | exact s0 _ (by first | exact hb0 | exact hb1 _) | exact heap_alloc_new _ _))))
          go_at_call 26; refine (K0.out _).mono ?_; rintro _ w2 ⟨rfl, hb'⟩
          have hb := hb'
          replace s0 := fun wq (h : On w2 wq) => s0 wq (hb.trans h)
          replace c0 := fun wq (h : On w2 wq) => c0 wq (hb.trans h)
          replace c34 := fun wq (h : On w2 wq) => c34 wq (hb.trans h)
          replace c48 := fun wq (h : On w2 wq) => c48 wq (hb.trans h)
          replace c49 := fun wq (h : On w2 wq) => c49 wq (hb.trans h)
          replace c50 := fun wq (h : On w2 wq) => c50 wq (hb.trans h)
          replace cP := fun wq (h : On w2 wq) => cP wq (hb.trans h)
          replace hb0 := On.refl w2
          replace hb1 : ∀ ob : Obj, On w2 (w2.alloc ob) := fun ob => (On.refl w2).alloc ob
          have HB := Lib.hid (HB.out.trans hb)
          clear hb hb'
          go_wp2_with (first | ((with_reducible apply hrt_ld); (case ho => exact rfl); (case hgd => exact rfl); (case hx => exact rfl); (case hg => (first | exact s0 _ (by first | exact hb0 | exact hb1 _) | exact heap_alloc_new _ _))) | ((with_reducible apply hrt_new_st); (case ho => exact rfl); (case hgd => exact rfl); (case hx => exact rfl); (case hy => exact rfl)))
          go_at_call 12; refine (K1.out _).mono ?_; rintro _ w3 ⟨rfl, hb'⟩
          have hb := hb'
          replace s0 := fun wq (h : On w3 wq) => s0 wq (hb.trans h)
          replace c0 := fun wq (h : On w3 wq) => c0 wq (hb.trans h)
          replace c34 := fun wq (h : On w3 wq) => c34 wq (hb.trans h)
          replace c48 := fun wq (h : On w3 wq) => c48 wq (hb.trans h)
          replace c49 := fun wq (h : On w3 wq) => c49 wq (hb.trans h)
          replace c50 := fun wq (h : On w3 wq) => c50 wq (hb.trans h)
          replace cP := fun wq (h : On w3 wq) => cP wq (hb.trans h)
          replace hb0 := On.refl w3
          replace hb1 : ∀ ob : Obj, On w3 (w3.alloc ob) := fun ob => (On.refl w3).alloc ob
          have HB := Lib.hid (HB.out.trans hb)
          clear hb hb'
          go_wp2_with (first | ((with_reducible apply csr_of_ld); (case ho => exact rfl); (case hgd => exact rfl); (case hx => exact rfl); (case hg => (first | exact s0 _ (by first | exact hb0 | exact hb1 _) | exact heap_alloc_new _ _))) | ((with_reducible apply hrt_new_st); (case ho => exact rfl); (case hgd => exact rfl); (case hx => exact rfl); (case hy => exact rfl)))
          go_at_call 26; refine (M1.out _).mono ?_; rintro _ w4 ⟨rfl, hb'⟩
          have s1 := fun wq (h : On w4 wq) => (hb'.trans h).keep (heap_alloc_new _ _)
          have hb := (hb1 _).trans hb'
          replace s0 := fun wq (h : On w4 wq) => s0 wq (hb.trans h)
          replace c0 := fun wq (h : On w4 wq) => c0 wq (hb.trans h)
          replace c34 := fun wq (h : On w4 wq) => c34 wq (hb.trans h)
          replace c48 := fun wq (h : On w4 wq) => c48 wq (hb.trans h)
          replace c49 := fun wq (h : On w4 wq) => c49 wq (hb.trans h)
          replace c50 := fun wq (h : On w4 wq) => c50 wq (hb.trans h)
          replace cP := fun wq (h : On w4 wq) => cP wq (hb.trans h)
          replace hb0 := On.refl w4
          replace hb1 : ∀ ob : Obj, On w4 (w4.alloc ob) := fun ob => (On.refl w4).alloc ob
          have HB := Lib.hid (HB.out.trans hb)
          clear hb hb'
          have y0 := fun wq (hqq : On w4 wq) => blk_cell (s1 wq hqq) 0 (hV_get y 3 false 0 (by omega) (by omega) (by omega))
          have y34 := fun wq (hqq : On w4 wq) => blk_cell (s1 wq hqq) 34 (hV_get y 3 false 34 (by omega) (by omega) (by omega))
          have y48 := fun wq (hqq : On w4 wq) => blk_cell (s1 wq hqq) 48 (hV_get y 3 false 48 (by omega) (by omega) (by omega))
          have y49 := fun wq (hqq : On w4 wq) => blk_cell (s1 wq hqq) 49 (hV_get y 3 false 49 (by omega) (by omega) (by omega))
          have y50 := fun wq (hqq : On w4 wq) => blk_cell (s1 wq hqq) 50 (hV_get y 3 false 50 (by omega) (by omega) (by omega))
          have yP := fun wq (hqq : On w4 wq) => blk_cell (s1 wq hqq) 1 (hV_priv y 3 false)
          go_wp2_with (first | ((with_reducible apply hrt_ld); (case ho => exact rfl); (case hgd => exact rfl); (case hx => exact rfl); (case hg => (first | exact s0 _ (by first | exact hb0 | exact hb1 _) | exact s1 _ (by first | exact hb0 | exact hb1 _) | exact heap_alloc_new _ _))))
          go_at_call 14; refine (K2.out _).mono ?_; rintro _ w5 ⟨rfl, hb'⟩
          have hb := hb'
          replace s0 := fun wq (h : On w5 wq) => s0 wq (hb.trans h)
          replace s1 := fun wq (h : On w5 wq) => s1 wq (hb.trans h)
          replace c0 := fun wq (h : On w5 wq) => c0 wq (hb.trans h)
          replace c34 := fun wq (h : On w5 wq) => c34 wq (hb.trans h)
          replace c48 := fun wq (h : On w5 wq) => c48 wq (hb.trans h)
          replace c49 := fun wq (h : On w5 wq) => c49 wq (hb.trans h)
          replace c50 := fun wq (h : On w5 wq) => c50 wq (hb.trans h)
          replace cP := fun wq (h : On w5 wq) => cP wq (hb.trans h)
          replace y0 := fun wq (h : On w5 wq) => y0 wq (hb.trans h)
          replace y34 := fun wq (h : On w5 wq) => y34 wq (hb.trans h)
          replace y48 := fun wq (h : On w5 wq) => y48 wq (hb.trans h)
          replace y49 := fun wq (h : On w5 wq) => y49 wq (hb.trans h)
          replace y50 := fun wq (h : On w5 wq) => y50 wq (hb.trans h)
          replace yP := fun wq (h : On w5 wq) => yP wq (hb.trans h)
          replace hb0 := On.refl w5
          replace hb1 : ∀ ob : Obj, On w5 (w5.alloc ob) := fun ob => (On.refl w5).alloc ob
          have HB := Lib.hid (HB.out.trans hb)
          clear hb hb'
          go_wp2_with (first | ((with_reducible apply hrt_ld); (case ho => exact rfl); (case hgd => exact rfl); (case hx => exact rfl); (case hg => (first | exact s0 _ (by first | exact hb0 | exact hb1 _) | exact s1 _ (by first | exact hb0 | exact hb1 _) | exact heap_alloc_new _ _))))
          go_at_call 26; refine (M2.out _).mono ?_; rintro _ w6 ⟨rfl, hb'⟩
          have hb := hb'
          replace s0 := fun wq (h : On w6 wq) => s0 wq (hb.trans h)
          replace s1 := fun wq (h : On w6 wq) => s1 wq (hb.trans h)
          replace c0 := fun wq (h : On w6 wq) => c0 wq (hb.trans h)
          replace c34 := fun wq (h : On w6 wq) => c34 wq (hb.trans h)
          replace c48 := fun wq (h : On w6 wq) => c48 wq (hb.trans h)
          replace c49 := fun wq (h : On w6 wq) => c49 wq (hb.trans h)
          replace c50 := fun wq (h : On w6 wq) => c50 wq (hb.trans h)
          replace cP := fun wq (h : On w6 wq) => cP wq (hb.trans h)
          replace y0 := fun wq (h : On w6 wq) => y0 wq (hb.trans h)
          replace y34 := fun wq (h : On w6 wq) => y34 wq (hb.trans h)
          replace y48 := fun wq (h : On w6 wq) => y48 wq (hb.trans h)
          replace y49 := fun wq (h : On w6 wq) => y49 wq (hb.trans h)
          replace y50 := fun wq (h : On w6 wq) => y50 wq (hb.trans h)
          replace yP := fun wq (h : On w6 wq) => yP wq (hb.trans h)
          replace hb0 := On.refl w6
          replace hb1 : ∀ ob : Obj, On w6 (w6.alloc ob) := fun ob => (On.refl w6).alloc ob
          have HB := Lib.hid (HB.out.trans hb)
          clear hb hb'
          go_wp2_with (first | ((with_reducible apply hrt_ld); (case ho => exact rfl); (case hgd => exact rfl); (case hx => exact rfl); (case hg => (first | exact s0 _ (by first | exact hb0 | exact hb1 _) | exact s1 _ (by first | exact hb0 | exact hb1 _) | exact heap_alloc_new _ _))))
          go_at_call 16; refine (K3.out _).mono ?_; rintro _ w7 ⟨rfl, hb'⟩
          have hb := hb'
          replace s0 := fun wq (h : On w7 wq) => s0 wq (hb.trans h)
          replace s1 := fun wq (h : On w7 wq) => s1 wq (hb.trans h)
          replace c0 := fun wq (h : On w7 wq) => c0 wq (hb.trans h)
          replace c34 := fun wq (h : On w7 wq) => c34 wq (hb.trans h)
          replace c48 := fun wq (h : On w7 wq) => c48 wq (hb.trans h)
          replace c49 := fun wq (h : On w7 wq) => c49 wq (hb.trans h)
          replace c50 := fun wq (h : On w7 wq) => c50 wq (hb.trans h)
          replace cP := fun wq (h : On w7 wq) => cP wq (hb.trans h)
          replace y0 := fun wq (h : On w7 wq) => y0 wq (hb.trans h)
          replace y34 := fun wq (h : On w7 wq) => y34 wq (hb.trans h)
          replace y48 := fun wq (h : On w7 wq) => y48 wq (hb.trans h)
          replace y49 := fun wq (h : On w7 wq) => y49 wq (hb.trans h)
          replace y50 := fun wq (h : On w7 wq) => y50 wq (hb.trans h)
          replace yP := fun wq (h : On w7 wq) => yP wq (hb.trans h)
          replace hb0 := On.refl w7
          replace hb1 : ∀ ob : Obj, On w7 (w7.alloc ob) := fun ob => (On.refl w7).alloc ob
          have HB := Lib.hid (HB.out.trans hb)
          clear hb hb'
          go_wp2_with (first | ((with_reducible apply hrt_ld); (case ho => exact rfl); (case hgd => exact rfl); (case hx => exact rfl); (case hg => (first | exact s0 _ (by first | exact hb0 | exact hb1 _) | exact s1 _ (by first | exact hb0 | exact hb1 _) | exact heap_alloc_new _ _))))
          go_at_call 26; refine (M3.out _).mono ?_; rintro _ w8 ⟨rfl, hb'⟩
          have hb := hb'
          replace s0 := fun wq (h : On w8 wq) => s0 wq (hb.trans h)
          replace s1 := fun wq (h : On w8 wq) => s1 wq (hb.trans h)
          replace c0 := fun wq (h : On w8 wq) => c0 wq (hb.trans h)
          replace c34 := fun wq (h : On w8 wq) => c34 wq (hb.trans h)
          replace c48 := fun wq (h : On w8 wq) => c48 wq (hb.trans h)
          replace c49 := fun wq (h : On w8 wq) => c49 wq (hb.trans h)
          replace c50 := fun wq (h : On w8 wq) => c50 wq (hb.trans h)
          replace cP := fun wq (h : On w8 wq) => cP wq (hb.trans h)
          replace y0 := fun wq (h : On w8 wq) => y0 wq (hb.trans h)
          replace y34 := fun wq (h : On w8 wq) => y34 wq (hb.trans h)
          replace y48 := fun wq (h : On w8 wq) => y48 wq (hb.trans h)
          replace y49 := fun wq (h : On w8 wq) => y49 wq (hb.trans h)
          replace y50 := fun wq (h : On w8 wq) => y50 wq (hb.trans h)
          replace yP := fun wq (h : On w8 wq) => yP wq (hb.trans h)
          replace hb0 := On.refl w8
          replace hb1 : ∀ ob : Obj, On w8 (w8.alloc ob) := fun ob => (On.refl w8).alloc ob
          have HB := Lib.hid (HB.out.trans hb)
          clear hb hb'
          go_wp2
          go_ret
          exact ⟨rfl, HB.out⟩
      · by_cases n0 : p < 0
        · have K0 : Hid (∀ w, Calls Try.prog 26 #[.agg (cV (cH h))] w fun r' w' => r' = .returned (.bool true) ∧ On w w') := Lib.hid (fun w => by have := rmay_any (cH h) w; rw [hok] at this; exact this)
          have t0 : (bits .and .u64 (u (h 0)) 3 == 0) = true := by rw [A, h0]; rfl
          have t0' : (bits .and .u64 (u (h 0)) 3 != 0) = false := by unfold bne; rw [t0]; rfl
          have t0'' : bits .and .u64 (u (h 0)) 3 = 0 := by simpa using t0
          clear hp h0
          clear hok A
          have s0 : ∀ wq, On (w.alloc (.cells (hV h p r) 28)) wq → wq.heap[w.heap.size]? = some (.cells (hV h p r) 28 (0, 0)) := fun _ h => h.keep (heap_alloc_new _ _)
          have hb0 := On.refl ((w.alloc (.cells (hV h p r) 28)))
          have hb1 : ∀ ob : Obj, On ((w.alloc (.cells (hV h p r) 28))) (((w.alloc (.cells (hV h p r) 28))).alloc ob) := fun ob => (On.refl _).alloc ob
          have c0 : ∀ wq, On (w.alloc (.cells (hV h p r) 28)) wq → wq.cell? ⟨w.heap.size, 0, none⟩ = some (.int .u64 (u (h 0))) := fun _ hqq => blk_cell (s0 _ hqq) 0 (hV_get h p r 0 (by omega) (by omega) (by omega))
          have cP : ∀ wq, On (w.alloc (.cells (hV h p r) 28)) wq → wq.cell? ⟨w.heap.size, 1, none⟩ = some (.int .i64 p) := fun _ hqq => blk_cell (s0 _ hqq) 1 (hV_priv h p r)
          have HB : Hid (On w ((w.alloc (.cells (hV h p r) 28)))) := Lib.hid ((On.refl w).alloc _)
          go_enter Try.func8, Try.ntmps8
          go_wp2_with (first | ((with_reducible apply csr_of_ld); (case ho => exact rfl); (case hgd => exact rfl); (case hx => exact rfl); (case hg => (first | exact s0 _ (by first | exact hb0 | exact hb1 _) | exact heap_alloc_new _ _))))
          go_at_call 11; refine (awake8_yes _).mono ?_; rintro _ w1 ⟨rfl, hb'⟩
          have hb := hb'
          replace s0 := fun wq (h : On w1 wq) => s0 wq (hb.trans h)
          replace c0 := fun wq (h : On w1 wq) => c0 wq (hb.trans h)
          replace cP := fun wq (h : On w1 wq) => cP wq (hb.trans h)
          replace hb0 := On.refl w1
          replace hb1 : ∀ ob : Obj, On w1 (w1.alloc ob) := fun ob => (On.refl w1).alloc ob
          have HB := Lib.hid (HB.out.trans hb)
          clear hb hb'
          go_wp2_with (first | ((with_reducible apply csr_of_ld); (case ho => exact rfl); (case hgd => exact rfl); (case hx => exact rfl); (case hg => (first | exact s0 _ (by first | exact hb0 | exact hb1 _) | exact heap_alloc_new _ _))))
          go_at_call 26; refine (K0.out _).mono ?_; rintro _ w2 ⟨rfl, hb'⟩
          have hb := hb'
          replace s0 := fun wq (h : On w2 wq) => s0 wq (hb.trans h)
          replace c0 := fun wq (h : On w2 wq) => c0 wq (hb.trans h)
          replace cP := fun wq (h : On w2 wq) => cP wq (hb.trans h)
          replace hb0 := On.refl w2
          replace hb1 : ∀ ob : Obj, On w2 (w2.alloc ob) := fun ob => (On.refl w2).alloc ob
          have HB := Lib.hid (HB.out.trans hb)
          clear hb hb'
          go_wp2_with fail
          go_at_call 11; refine (awake8_yes _).mono ?_; rintro _ w3 ⟨rfl, hb'⟩
          have hb := hb'
          replace s0 := fun wq (h : On w3 wq) => s0 wq (hb.trans h)
          replace c0 := fun wq (h : On w3 wq) => c0 wq (hb.trans h)
          replace cP := fun wq (h : On w3 wq) => cP wq (hb.trans h)
          replace hb0 := On.refl w3
          replace hb1 : ∀ ob : Obj, On w3 (w3.alloc ob) := fun ob => (On.refl w3).alloc ob
          have HB := Lib.hid (HB.out.trans hb)
          clear hb hb'
          go_wp2
          go_ret
          exact ⟨rfl, HB.out⟩
        · by_cases n3 : 3 < p
          · have K0 : Hid (∀ w, Calls Try.prog 26 #[.agg (cV (cH h))] w fun r' w' => r' = .returned (.bool true) ∧ On w w') := Lib.hid (fun w => by have := rmay_any (cH h) w; rw [hok] at this; exact this)
            have t0 : (bits .and .u64 (u (h 0)) 3 == 0) = true := by rw [A, h0]; rfl
            have t0' : (bits .and .u64 (u (h 0)) 3 != 0) = false := by unfold bne; rw [t0]; rfl
            have t0'' : bits .and .u64 (u (h 0)) 3 = 0 := by simpa using t0
            clear hp h0
            clear hok A
            have s0 : ∀ wq, On (w.alloc (.cells (hV h p r) 28)) wq → wq.heap[w.heap.size]? = some (.cells (hV h p r) 28 (0, 0)) := fun _ h => h.keep (heap_alloc_new _ _)
            have hb0 := On.refl ((w.alloc (.cells (hV h p r) 28)))
            have hb1 : ∀ ob : Obj, On ((w.alloc (.cells (hV h p r) 28))) (((w.alloc (.cells (hV h p r) 28))).alloc ob) := fun ob => (On.refl _).alloc ob
            have c0 : ∀ wq, On (w.alloc (.cells (hV h p r) 28)) wq → wq.cell? ⟨w.heap.size, 0, none⟩ = some (.int .u64 (u (h 0))) := fun _ hqq => blk_cell (s0 _ hqq) 0 (hV_get h p r 0 (by omega) (by omega) (by omega))
            have cP : ∀ wq, On (w.alloc (.cells (hV h p r) 28)) wq → wq.cell? ⟨w.heap.size, 1, none⟩ = some (.int .i64 p) := fun _ hqq => blk_cell (s0 _ hqq) 1 (hV_priv h p r)
            have HB : Hid (On w ((w.alloc (.cells (hV h p r) 28)))) := Lib.hid ((On.refl w).alloc _)
            go_enter Try.func8, Try.ntmps8
            go_wp2_with (first | ((with_reducible apply csr_of_ld); (case ho => exact rfl); (case hgd => exact rfl); (case hx => exact rfl); (case hg => (first | exact s0 _ (by first | exact hb0 | exact hb1 _) | exact heap_alloc_new _ _))))
            go_at_call 11; refine (awake8_yes _).mono ?_; rintro _ w1 ⟨rfl, hb'⟩
            have hb := hb'
            replace s0 := fun wq (h : On w1 wq) => s0 wq (hb.trans h)
            replace c0 := fun wq (h : On w1 wq) => c0 wq (hb.trans h)
            replace cP := fun wq (h : On w1 wq) => cP wq (hb.trans h)
            replace hb0 := On.refl w1
            replace hb1 : ∀ ob : Obj, On w1 (w1.alloc ob) := fun ob => (On.refl w1).alloc ob
            have HB := Lib.hid (HB.out.trans hb)
            clear hb hb'
            go_wp2_with (first | ((with_reducible apply csr_of_ld); (case ho => exact rfl); (case hgd => exact rfl); (case hx => exact rfl); (case hg => (first | exact s0 _ (by first | exact hb0 | exact hb1 _) | exact heap_alloc_new _ _))))
            go_at_call 26; refine (K0.out _).mono ?_; rintro _ w2 ⟨rfl, hb'⟩
            have hb := hb'
            replace s0 := fun wq (h : On w2 wq) => s0 wq (hb.trans h)
            replace c0 := fun wq (h : On w2 wq) => c0 wq (hb.trans h)
            replace cP := fun wq (h : On w2 wq) => cP wq (hb.trans h)
            replace hb0 := On.refl w2
            replace hb1 : ∀ ob : Obj, On w2 (w2.alloc ob) := fun ob => (On.refl w2).alloc ob
            have HB := Lib.hid (HB.out.trans hb)
            clear hb hb'
            go_wp2_with fail
            go_at_call 11; refine (awake8_yes _).mono ?_; rintro _ w3 ⟨rfl, hb'⟩
            have hb := hb'
            replace s0 := fun wq (h : On w3 wq) => s0 wq (hb.trans h)
            replace c0 := fun wq (h : On w3 wq) => c0 wq (hb.trans h)
            replace cP := fun wq (h : On w3 wq) => cP wq (hb.trans h)
            replace hb0 := On.refl w3
            replace hb1 : ∀ ob : Obj, On w3 (w3.alloc ob) := fun ob => (On.refl w3).alloc ob
            have HB := Lib.hid (HB.out.trans hb)
            clear hb hb'
            go_wp2
            go_ret
            exact ⟨rfl, HB.out⟩
          · obtain rfl : p = 2 := by omega
            have K0 : Hid (∀ w, Calls Try.prog 26 #[.agg (cV (cH h))] w fun r' w' => r' = .returned (.bool true) ∧ On w w') := Lib.hid (fun w => by have := rmay_any (cH h) w; rw [hok] at this; exact this)
            have t0 : (bits .and .u64 (u (h 0)) 3 == 0) = true := by rw [A, h0]; rfl
            have t0' : (bits .and .u64 (u (h 0)) 3 != 0) = false := by unfold bne; rw [t0]; rfl
            have t0'' : bits .and .u64 (u (h 0)) 3 = 0 := by simpa using t0
            clear hp h0 n0 n3
            clear hok A
            have s0 : ∀ wq, On (w.alloc (.cells (hV h 2 r) 28)) wq → wq.heap[w.heap.size]? = some (.cells (hV h 2 r) 28 (0, 0)) := fun _ h => h.keep (heap_alloc_new _ _)
            have hb0 := On.refl ((w.alloc (.cells (hV h 2 r) 28)))
            have hb1 : ∀ ob : Obj, On ((w.alloc (.cells (hV h 2 r) 28))) (((w.alloc (.cells (hV h 2 r) 28))).alloc ob) := fun ob => (On.refl _).alloc ob
            have c0 : ∀ wq, On (w.alloc (.cells (hV h 2 r) 28)) wq → wq.cell? ⟨w.heap.size, 0, none⟩ = some (.int .u64 (u (h 0))) := fun _ hqq => blk_cell (s0 _ hqq) 0 (hV_get h 2 r 0 (by omega) (by omega) (by omega))
            have cP : ∀ wq, On (w.alloc (.cells (hV h 2 r) 28)) wq → wq.cell? ⟨w.heap.size, 1, none⟩ = some (.int .i64 2) := fun _ hqq => blk_cell (s0 _ hqq) 1 (hV_priv h 2 r)
            have HB : Hid (On w ((w.alloc (.cells (hV h 2 r) 28)))) := Lib.hid ((On.refl w).alloc _)
            go_enter Try.func8, Try.ntmps8
            go_wp2_with (first | ((with_reducible apply csr_of_ld); (case ho => exact rfl); (case hgd => exact rfl); (case hx => exact rfl); (case hg => (first | exact s0 _ (by first | exact hb0 | exact hb1 _) | exact heap_alloc_new _ _))))
            go_at_call 11; refine (awake8_yes _).mono ?_; rintro _ w1 ⟨rfl, hb'⟩
            have hb := hb'
            replace s0 := fun wq (h : On w1 wq) => s0 wq (hb.trans h)
            replace c0 := fun wq (h : On w1 wq) => c0 wq (hb.trans h)
            replace cP := fun wq (h : On w1 wq) => cP wq (hb.trans h)
            replace hb0 := On.refl w1
            replace hb1 : ∀ ob : Obj, On w1 (w1.alloc ob) := fun ob => (On.refl w1).alloc ob
            have HB := Lib.hid (HB.out.trans hb)
            clear hb hb'
            go_wp2_with (first | ((with_reducible apply csr_of_ld); (case ho => exact rfl); (case hgd => exact rfl); (case hx => exact rfl); (case hg => (first | exact s0 _ (by first | exact hb0 | exact hb1 _) | exact heap_alloc_new _ _))))
            go_at_call 26; refine (K0.out _).mono ?_; rintro _ w2 ⟨rfl, hb'⟩
            have hb := hb'
            replace s0 := fun wq (h : On w2 wq) => s0 wq (hb.trans h)
            replace c0 := fun wq (h : On w2 wq) => c0 wq (hb.trans h)
            replace cP := fun wq (h : On w2 wq) => cP wq (hb.trans h)
            replace hb0 := On.refl w2
            replace hb1 : ∀ ob : Obj, On w2 (w2.alloc ob) := fun ob => (On.refl w2).alloc ob
            have HB := Lib.hid (HB.out.trans hb)
            clear hb hb'
            go_wp2_with fail
            go_at_call 11; refine (awake8_yes _).mono ?_; rintro _ w3 ⟨rfl, hb'⟩
            have hb := hb'
            replace s0 := fun wq (h : On w3 wq) => s0 wq (hb.trans h)
            replace c0 := fun wq (h : On w3 wq) => c0 wq (hb.trans h)
            replace cP := fun wq (h : On w3 wq) => cP wq (hb.trans h)
            replace hb0 := On.refl w3
            replace hb1 : ∀ ob : Obj, On w3 (w3.alloc ob) := fun ob => (On.refl w3).alloc ob
            have HB := Lib.hid (HB.out.trans hb)
            clear hb hb'
            go_wp2
            go_ret
            exact ⟨rfl, HB.out⟩
    · have K0 : Hid (∀ w, Calls Try.prog 26 #[.agg (cV (cH h))] w fun r' w' => r' = .returned (.bool true) ∧ On w w') := Lib.hid (fun w => by have := rmay_any (cH h) w; rw [hok] at this; exact this)
      have t0 : (bits .and .u64 (u (h 0)) 3 == 0) = false := by rw [A, show (0 : Int) = u 0#64 from rfl, u_beq]; simpa using h0
      have t0' : (bits .and .u64 (u (h 0)) 3 != 0) = true := by unfold bne; rw [t0]; rfl
      have t0'' : ¬ bits .and .u64 (u (h 0)) 3 = 0 := by simpa using t0
      clear h0
      clear hok A
      have s0 : ∀ wq, On (w.alloc (.cells (hV h p r) 28)) wq → wq.heap[w.heap.size]? = some (.cells (hV h p r) 28 (0, 0)) := fun _ h => h.keep (heap_alloc_new _ _)
      have hb0 := On.refl ((w.alloc (.cells (hV h p r) 28)))
      have hb1 : ∀ ob : Obj, On ((w.alloc (.cells (hV h p r) 28))) (((w.alloc (.cells (hV h p r) 28))).alloc ob) := fun ob => (On.refl _).alloc ob
      have c0 : ∀ wq, On (w.alloc (.cells (hV h p r) 28)) wq → wq.cell? ⟨w.heap.size, 0, none⟩ = some (.int .u64 (u (h 0))) := fun _ hqq => blk_cell (s0 _ hqq) 0 (hV_get h p r 0 (by omega) (by omega) (by omega))
      have cP : ∀ wq, On (w.alloc (.cells (hV h p r) 28)) wq → wq.cell? ⟨w.heap.size, 1, none⟩ = some (.int .i64 p) := fun _ hqq => blk_cell (s0 _ hqq) 1 (hV_priv h p r)
      have HB : Hid (On w ((w.alloc (.cells (hV h p r) 28)))) := Lib.hid ((On.refl w).alloc _)
      go_enter Try.func8, Try.ntmps8
      go_wp2_with (first | ((with_reducible apply csr_of_ld); (case ho => exact rfl); (case hgd => exact rfl); (case hx => exact rfl); (case hg => (first | exact s0 _ (by first | exact hb0 | exact hb1 _) | exact heap_alloc_new _ _))))
      go_at_call 11; refine (awake8_yes _).mono ?_; rintro _ w1 ⟨rfl, hb'⟩
      have hb := hb'
      replace s0 := fun wq (h : On w1 wq) => s0 wq (hb.trans h)
      replace c0 := fun wq (h : On w1 wq) => c0 wq (hb.trans h)
      replace cP := fun wq (h : On w1 wq) => cP wq (hb.trans h)
      replace hb0 := On.refl w1
      replace hb1 : ∀ ob : Obj, On w1 (w1.alloc ob) := fun ob => (On.refl w1).alloc ob
      have HB := Lib.hid (HB.out.trans hb)
      clear hb hb'
      go_wp2_with (first | ((with_reducible apply csr_of_ld); (case ho => exact rfl); (case hgd => exact rfl); (case hx => exact rfl); (case hg => (first | exact s0 _ (by first | exact hb0 | exact hb1 _) | exact heap_alloc_new _ _))))
      go_at_call 26; refine (K0.out _).mono ?_; rintro _ w2 ⟨rfl, hb'⟩
      have hb := hb'
      replace s0 := fun wq (h : On w2 wq) => s0 wq (hb.trans h)
      replace c0 := fun wq (h : On w2 wq) => c0 wq (hb.trans h)
      replace cP := fun wq (h : On w2 wq) => cP wq (hb.trans h)
      replace hb0 := On.refl w2
      replace hb1 : ∀ ob : Obj, On w2 (w2.alloc ob) := fun ob => (On.refl w2).alloc ob
      have HB := Lib.hid (HB.out.trans hb)
      clear hb hb'
      go_wp2_with fail
      go_at_call 11; refine (awake8_yes _).mono ?_; rintro _ w3 ⟨rfl, hb'⟩
      have hb := hb'
      replace s0 := fun wq (h : On w3 wq) => s0 wq (hb.trans h)
      replace c0 := fun wq (h : On w3 wq) => c0 wq (hb.trans h)
      replace cP := fun wq (h : On w3 wq) => cP wq (hb.trans h)
      replace hb0 := On.refl w3
      replace hb1 : ∀ ob : Obj, On w3 (w3.alloc ob) := fun ob => (On.refl w3).alloc ob
      have HB := Lib.hid (HB.out.trans hb)
      clear hb hb'
      go_wp2
      go_ret
      exact ⟨rfl, HB.out⟩

set_option maxRecDepth 100000 in
theorem lifted (os : Os) (started : os.Started) (H : Type) (enc : TypeId × Value → H) :
    ReturnsInHanded {} Try.checked os 8 .any (Rows.trapKeepsSpec.pre6 enc Try.prog Try.f8 Rows.trapKeepsRow.domain false) (Rows.trapKeepsSpec.post enc Try.prog Try.f8 false true false false) := by
  refine returnsInHanded_of_change (C := Try.checked) own started (by kernel_rfl) Try.func8
    (ChangeSpec.witness6 (enc := enc) (C := Try.checked) false ⟨#[], #[.agg #[.int .u64 0, .int .i64 0, .int .u64 0, .int .u64 0, .int .u64 0, .int .u64 0, .int .u64 0, .int .u64 0, .int .u64 0, .int .u64 0, .int .u64 0, .int .u64 0, .int .u64 0, .int .u64 0, .int .u64 0, .int .u64 0, .int .u64 0, .int .u64 0, .int .u64 0, .int .u64 0, .int .u64 0, .int .u64 0, .int .u64 0, .int .u64 0, .int .u64 0, .int .u64 0, .int .u64 0, .int .u64 0, .int .u64 0, .int .u64 0, .int .u64 0, .int .u64 0, .int .u64 0, .int .u64 0, .int .u64 0, .int .u64 0, .int .u64 0, .int .u64 0, .int .u64 0, .int .u64 0, .int .u64 0, .int .u64 0, .int .u64 0, .int .u64 0, .int .u64 0, .int .u64 0, .int .u64 0, .int .u64 0, .int .u64 0, .int .u64 0, .int .u64 0, .int .u64 0, .int .u64 0, .int .u64 0, .int .u64 0, .int .u64 0, .int .u64 0, .int .u64 0, .int .u64 0, .int .u64 0, .int .u64 0, .int .u64 0, .int .u64 0, .int .u64 0, .bool false, .int .u64 0], .int .u64 0, .int .u64 0], []⟩ 12 (by kernel_rfl) (by kernel_rfl) (by kernel_rfl) (by kernel_rfl)) ?_
  intro W base args ds gs before hval0 hW hcnd _
  have hval : ∀ (j : Nat) t v, Try.f8.params[j]? = some t → args[j]? = some v → Value.okWide Try.prog W .any base t v := hval0
  have hW' := hW
  obtain ⟨p, q, hA0, hV, rfl, hfz, hnd⟩ := hW
  have hA : DataW.TrodAll enc Try.prog W 0 (fun _ => true) true Try.f8.params.toList args.toList ds p := hA0
  rw [Try.params8] at hA hval
  obtain ⟨v0, vs0, d0, ds0, p0, q0, hargs, rfl, rfl, h0, r0⟩ := trodAll_cons hA
  obtain ⟨v1, vs1, d1, ds1, p1, q1, rfl, rfl, rfl, h1, r1⟩ := trodAll_cons r0
  obtain ⟨v2, vs2, d2, ds2, p2, q2, rfl, rfl, rfl, h2, r2⟩ := trodAll_cons r1
  obtain ⟨rfl, rfl, rfl⟩ := trodAll_nil r2
  obtain rfl : args = #[v0, v1, v2] := by cases args; simp_all
  obtain ⟨rfl, rfl⟩ := trodVars_none hV
  have k0 := h0
  have l0 : ∀ x ∈ p0, x.block < W.heap.size := fun x hx => by have := hW'.lt x (by simp [hx]); simpa using this
  obtain ⟨c0, rfl, f0⟩ := open_flat 12 [.int .u64, .int .i64, .int .u64, .int .u64, .int .u64, .int .u64, .int .u64, .int .u64, .int .u64, .int .u64, .int .u64, .int .u64, .int .u64, .int .u64, .int .u64, .int .u64, .int .u64, .int .u64, .int .u64, .int .u64, .int .u64, .int .u64, .int .u64, .int .u64, .int .u64, .int .u64, .int .u64, .int .u64, .int .u64, .int .u64, .int .u64, .int .u64, .int .u64, .int .u64, .int .u64, .int .u64, .int .u64, .int .u64, .int .u64, .int .u64, .int .u64, .int .u64, .int .u64, .int .u64, .int .u64, .int .u64, .int .u64, .int .u64, .int .u64, .int .u64, .int .u64, .int .u64, .int .u64, .int .u64, .int .u64, .int .u64, .int .u64, .int .u64, .int .u64, .int .u64, .int .u64, .int .u64, .int .u64, .int .u64, .bool, .int .u64] (by kernel_rfl) (by kernel_rfl) (.inl ⟨_, Try.underlying28⟩) (hval 0 28 v0 rfl rfl) h0
  clear h0
  obtain ⟨a1, rfl, rfl, rfl, w1⟩ := open_int Try.underlying22 (hval 1 22 v1 rfl rfl) h1
  obtain ⟨a2, rfl, rfl, rfl, w2⟩ := open_int Try.underlying22 (hval 2 22 v2 rfl rfl) h2
  clear hA0 hval0
  refine (walk c0 f0 a1 w1 a2 w2 W).mono fun e W' ⟨he, bel⟩ => ?_
  subst he
  exact ⟨_, rfl, _, _, _, [], _, [], hW', trodAll_mk1 (shut_bool Try.underlying4 _), (trodAll_cons_mk (Below.trod (by kernel_rfl) (by kernel_rfl) (of_decide_eq_true (by kernel_rfl)) k0 bel l0) (trodAll_cons_mk (shut_int Try.underlying22 w1) (trodAll_cons_mk (shut_int Try.underlying22 w2) trodAll_mk0))), rfl, bel.frame _, fun h => by cases h⟩

theorem over : Rows.trapKeepsRow.holds Try.pinned (OpenSpec.ofChange Rows.trapKeepsSpec) :=
  OpenClaim.holds_of_wide 8 Try.f8 rfl rfl rfl rfl rfl rfl rfl ⟨rfl, rfl, rfl, rfl, rfl⟩ rfl rfl rfl rfl rfl (by kernel_rfl) Try.func8 (by kernel_rfl)
    (of_decide_eq_true (by kernel_rfl)) (by unfold Func.isWrapper; first | (rw [if_pos (by decide +kernel)]; kernel_rfl) | (rw [if_neg (by decide +kernel)]; exact ⟨rfl, rfl⟩))
    (fun os started H enc _ => lifted os started H enc)

theorem proved : Rows.TrapKeepsSaid :=
  over
#print axioms proved
end Go.Proofs.Ytleolldgpoeabaa.trapKeeps
