/- Proves that behind a trap, and the way back from where it came, the privilege, the place and the interrupt's bit are as they were, that the interrupt's bit is clear in between, and that a trap changes no register and clears the reservation, for any hart, any cause and any value, and that the first test of the law holds. Conditions: none. -/
import Derived.Test.YtleolldgpoeabaaRows
import Derived.Test.YtleolldgpoeabaaTrapB
import Derived.Test.YtleolldgpoeabaaFlat
import Derived.WalkKit
import Derived.ProofKit
import Derived.OpenShut
import Derived.Below
import Derived.Carry
import Derived.ShutString
namespace Go.Proofs.Ytleolldgpoeabaa.trapBack
open Go.ChangeShapes Go.WideShapes Go.ChangeAt Go.RowKit
set_option linter.unusedVariables false

theorem own : ownKnob Try.prog.godebug = none := by kernel_rfl

set_option maxRecDepth 100000 in
set_option maxHeartbeats 4000000 in
theorem walk (c0 : List Value) (f0 : Fits [.int .u64, .int .i64, .int .u64, .int .u64, .int .u64, .int .u64, .int .u64, .int .u64, .int .u64, .int .u64, .int .u64, .int .u64, .int .u64, .int .u64, .int .u64, .int .u64, .int .u64, .int .u64, .int .u64, .int .u64, .int .u64, .int .u64, .int .u64, .int .u64, .int .u64, .int .u64, .int .u64, .int .u64, .int .u64, .int .u64, .int .u64, .int .u64, .int .u64, .int .u64, .int .u64, .int .u64, .int .u64, .int .u64, .int .u64, .int .u64, .int .u64, .int .u64, .int .u64, .int .u64, .int .u64, .int .u64, .int .u64, .int .u64, .int .u64, .int .u64, .int .u64, .int .u64, .int .u64, .int .u64, .int .u64, .int .u64, .int .u64, .int .u64, .int .u64, .int .u64, .int .u64, .int .u64, .int .u64, .int .u64, .bool, .int .u64] c0) (a1 : Int) (w1 : (Lit.int .u64 a1).wf = true) (a2 : Int) (w2 : (Lit.int .u64 a2).wf = true) (w : World) :
    Calls Try.prog 6 #[.agg c0.toArray, .int .u64 a1, .int .u64 a2] w fun e w' => e = .returned (.bool true) ∧ Below w.heap.size w w' := by
  replace f0 : Fits hartLvs c0 := f0
  obtain ⟨h, p, r, wp, hc⟩ := hV_of f0
  rw [hc]
  clear hc f0
  obtain ⟨c, rfl⟩ := u_of w1
  clear w1
  obtain ⟨t, rfl⟩ := u_of w2
  clear w2
  have hZ := fun w => hrt_zero w
  have A : bits .and .u64 (u (h 0)) 3 = u (h 0 &&& 3#64) := u_and (h 0) 3#64
  by_cases h0 : h 0 &&& 3#64 = 0#64
  · have t0 : (bits .and .u64 (u (h 0)) 3 == 0) = true := by rw [A, h0]; rfl
    have t0' : (bits .and .u64 (u (h 0)) 3 != 0) = false := by unfold bne; rw [t0]; rfl
    have t0'' : bits .and .u64 (u (h 0)) 3 = 0 := by simpa using t0
    clear A
    by_cases hp : p = 0 ∨ p = 1 ∨ p = 3
    · rcases hp with rfl | rfl | rfl
      · cases hd : dlg h 0 c
        · obtain ⟨b0, b1, b2, b3, b4⟩ := back_M h 0 c t hd (by simp) h0
          have bx := ent_x h 0 c t
          have K1 : Hid (∀ w, Calls Try.prog 12 #[.agg (hV h 0 r), .int .u64 (u c), .int .u64 (u t)] w fun r' w' => r' = .returned (.agg (hV (entH h 0 c t) 3 false)) ∧ On w w') := Lib.hid (fun w => by have := enter_any h 0 r c t w; unfold entP at this; rw [hd] at this; exact this)
          generalize entH h 0 c t = y at *
          have K2 : Hid (∀ w, Calls Try.prog 14 #[.agg (hV y 3 false)] w fun r' w' => r' = .returned (.agg (hV (mrH y) 0 false)) ∧ On w w') := Lib.hid (fun w => by have := mret_any y 3 false w; unfold mrP at this; rw [b1] at this; exact this)
          generalize mrH y = z at *
          have z0 : u (z 0) = u (h 0) := by rw [b0]
          have z4 : u (z 42) = u (h 0) := by rw [b3]
          have e1 : bits .and .u64 (u (z 34)) 8 = bits .and .u64 (u (h 34)) 8 := by rw [show (8 : Int) = u 8#64 from rfl, u_and, u_and, b2]
          have e2 : bits .and .u64 (u (y 34)) 8 = 0 := by rw [show (8 : Int) = u 8#64 from rfl, u_and, b4]; rfl
          have xn := fun w => reg_neq h w
          have xe : xV y = xV h := bx
          have z0c := fun wr => blk_cell (blk_new wr (.cells (hV z 0 false) 28)) 0 (hV_get z 0 false 0 (by omega) (by omega) (by omega))
          have zPc := fun wr => blk_cell (blk_new wr (.cells (hV z 0 false) 28)) 1 (hV_priv z 0 false)
          have z34c := fun wr => blk_cell (blk_new wr (.cells (hV z 0 false) 28)) 34 (hV_get z 0 false 34 (by omega) (by omega) (by omega))
          have zqc := fun wr => blk_cell (blk_new wr (.cells (hV z 0 false) 28)) 42 (hV_get z 0 false 42 (by omega) (by omega) (by omega))
          have yPn := fun wr => blk_cell (blk_new wr (.cells (hV y 3 false) 28)) 1 (hV_priv y 3 false)
          have yRn := fun wr => blk_cell (blk_new wr (.cells (hV y 3 false) 28)) 64 (hV_res y 3 false)
          clear b0 b1 b2 b3 b4 bx hd h0
          have s0 : ∀ wq, On (w.alloc (.cells (hV h 0 r) 28)) wq → wq.heap[w.heap.size]? = some (.cells (hV h 0 r) 28 (0, 0)) := fun _ h => h.keep (heap_alloc_new _ _)
          have hb0 := On.refl ((w.alloc (.cells (hV h 0 r) 28)))
          have hb1 : ∀ ob : Obj, On ((w.alloc (.cells (hV h 0 r) 28))) (((w.alloc (.cells (hV h 0 r) 28))).alloc ob) := fun ob => (On.refl _).alloc ob
          have c0 : ∀ wq, On (w.alloc (.cells (hV h 0 r) 28)) wq → wq.cell? ⟨w.heap.size, 0, none⟩ = some (.int .u64 (u (h 0))) := fun _ hqq => blk_cell (s0 _ hqq) 0 (hV_get h 0 r 0 (by omega) (by omega) (by omega))
          have cP : ∀ wq, On (w.alloc (.cells (hV h 0 r) 28)) wq → wq.cell? ⟨w.heap.size, 1, none⟩ = some (.int .i64 0) := fun _ hqq => blk_cell (s0 _ hqq) 1 (hV_priv h 0 r)
          have c34 : ∀ wq, On (w.alloc (.cells (hV h 0 r) 28)) wq → wq.cell? ⟨w.heap.size, 34, none⟩ = some (.int .u64 (u (h 34))) := fun _ hqq => blk_cell (s0 _ hqq) 34 (hV_get h 0 r 34 (by omega) (by omega) (by omega))
          have HB : Hid (On w ((w.alloc (.cells (hV h 0 r) 28)))) := Lib.hid ((On.refl w).alloc _)
          go_enter Try.func6, Try.ntmps6
          go_wp2_with (first | ((with_reducible apply hrt_ld); (case ho => exact rfl); (case hgd => exact rfl); (case hx => exact rfl); (case hg => (first | exact s0 _ (by first | exact hb0 | exact hb1 _) | exact heap_alloc_new _ _))) | ((with_reducible apply reg_of_ld); (case ho => exact rfl); (case hgd => exact rfl); (case hx => exact rfl); (case hg => (first | exact s0 _ (by first | exact hb0 | exact hb1 _) | exact heap_alloc_new _ _))) | ((with_reducible apply hrt_new_st); (case ho => exact rfl); (case hgd => exact rfl); (case hx => exact rfl); (case hy => exact rfl)))
          go_at_call 11; refine (awake8_yes _).mono ?_; rintro _ w1 ⟨rfl, hb'⟩
          have hb := hb'
          replace s0 := fun wq (h : On w1 wq) => s0 wq (hb.trans h)
          replace c0 := fun wq (h : On w1 wq) => c0 wq (hb.trans h)
          replace cP := fun wq (h : On w1 wq) => cP wq (hb.trans h)
          replace c34 := fun wq (h : On w1 wq) => c34 wq (hb.trans h)
          replace hb0 := On.refl w1
          replace hb1 : ∀ ob : Obj, On w1 (w1.alloc ob) := fun ob => (On.refl w1).alloc ob
          have HB := Lib.hid (HB.out.trans hb)
          clear hb hb'
          go_wp2_with (first | ((with_reducible apply hrt_ld); (case ho => exact rfl); (case hgd => exact rfl); (case hx => exact rfl); (case hg => (first | exact s0 _ (by first | exact hb0 | exact hb1 _) | exact heap_alloc_new _ _))) | ((with_reducible apply reg_of_ld); (case ho => exact rfl); (case hgd => exact rfl); (case hx => exact rfl); (case hg => (first | exact s0 _ (by first | exact hb0 | exact hb1 _) | exact heap_alloc_new _ _))) | ((with_reducible apply hrt_new_st); (case ho => exact rfl); (case hgd => exact rfl); (case hx => exact rfl); (case hy => exact rfl)))
          go_at_call 12; refine (K1.out _).mono ?_; rintro _ w2 ⟨rfl, hb'⟩
          have hb := hb'
          replace s0 := fun wq (h : On w2 wq) => s0 wq (hb.trans h)
          replace c0 := fun wq (h : On w2 wq) => c0 wq (hb.trans h)
          replace cP := fun wq (h : On w2 wq) => cP wq (hb.trans h)
          replace c34 := fun wq (h : On w2 wq) => c34 wq (hb.trans h)
          replace hb0 := On.refl w2
          replace hb1 : ∀ ob : Obj, On w2 (w2.alloc ob) := fun ob => (On.refl w2).alloc ob
          have HB := Lib.hid (HB.out.trans hb)
          clear hb hb'
          have xs := fun w => reg_self h w
          go_wp2_with (first | ((with_reducible apply hrt_ld); (case ho => exact rfl); (case hgd => exact rfl); (case hx => exact rfl); (case hg => (first | exact s0 _ (by first | exact hb0 | exact hb1 _) | exact heap_alloc_new _ _))) | ((with_reducible apply reg_of_ld); (case ho => exact rfl); (case hgd => exact rfl); (case hx => exact rfl); (case hg => (first | exact s0 _ (by first | exact hb0 | exact hb1 _) | exact heap_alloc_new _ _))) | ((with_reducible apply hrt_new_st); (case ho => exact rfl); (case hgd => exact rfl); (case hx => exact rfl); (case hy => exact rfl)))
          go_at_call 14; refine (K2.out _).mono ?_; rintro _ w3 ⟨rfl, hb'⟩
          have s1 := fun wq (h : On w3 wq) => (hb'.trans h).keep (heap_alloc_new _ _)
          have hb := (hb1 _).trans hb'
          replace s0 := fun wq (h : On w3 wq) => s0 wq (hb.trans h)
          replace c0 := fun wq (h : On w3 wq) => c0 wq (hb.trans h)
          replace cP := fun wq (h : On w3 wq) => cP wq (hb.trans h)
          replace c34 := fun wq (h : On w3 wq) => c34 wq (hb.trans h)
          replace hb0 := On.refl w3
          replace hb1 : ∀ ob : Obj, On w3 (w3.alloc ob) := fun ob => (On.refl w3).alloc ob
          have HB := Lib.hid (HB.out.trans hb)
          clear hb hb'
          have y34 := fun wq (hqq : On w3 wq) => blk_cell (s1 wq hqq) 34 (hV_get y 3 false 34 (by omega) (by omega) (by omega))
          have yP := fun wq (hqq : On w3 wq) => blk_cell (s1 wq hqq) 1 (hV_priv y 3 false)
          go_wp2_with (first | ((with_reducible apply hrt_ld); (case ho => exact rfl); (case hgd => exact rfl); (case hx => exact rfl); (case hg => (first | exact s0 _ (by first | exact hb0 | exact hb1 _) | exact s1 _ (by first | exact hb0 | exact hb1 _) | exact heap_alloc_new _ _))) | ((with_reducible apply reg_of_ld); (case ho => exact rfl); (case hgd => exact rfl); (case hx => exact rfl); (case hg => (first | exact s0 _ (by first | exact hb0 | exact hb1 _) | exact s1 _ (by first | exact hb0 | exact hb1 _) | exact heap_alloc_new _ _))) | ((with_reducible apply hrt_new_st); (case ho => exact rfl); (case hgd => exact rfl); (case hx => exact rfl); (case hy => exact rfl)))
          go_ret
          exact ⟨rfl, HB.out.alloc _⟩
        · obtain ⟨b0, b1, b2, b3, b4⟩ := back_S h 0 c t hd h0
          have bx := ent_x h 0 c t
          have K1 : Hid (∀ w, Calls Try.prog 12 #[.agg (hV h 0 r), .int .u64 (u c), .int .u64 (u t)] w fun r' w' => r' = .returned (.agg (hV (entH h 0 c t) 1 false)) ∧ On w w') := Lib.hid (fun w => by have := enter_any h 0 r c t w; unfold entP at this; rw [hd] at this; exact this)
          generalize entH h 0 c t = y at *
          have K2 : Hid (∀ w, Calls Try.prog 16 #[.agg (hV y 1 false)] w fun r' w' => r' = .returned (.agg (hV (srH y) 0 false)) ∧ On w w') := Lib.hid (fun w => by have := sret_any y 1 false w; rw [b1] at this; exact this)
          generalize srH y = z at *
          have z0 : u (z 0) = u (h 0) := by rw [b0]
          have z4 : u (z 48) = u (h 0) := by rw [b3]
          have e1 : bits .and .u64 (u (z 34)) 2 = bits .and .u64 (u (h 34)) 2 := by rw [show (2 : Int) = u 2#64 from rfl, u_and, u_and, b2]
          have e2 : bits .and .u64 (u (y 34)) 2 = 0 := by rw [show (2 : Int) = u 2#64 from rfl, u_and, b4]; rfl
          have xn := fun w => reg_neq h w
          have xe : xV y = xV h := bx
          have z0c := fun wr => blk_cell (blk_new wr (.cells (hV z 0 false) 28)) 0 (hV_get z 0 false 0 (by omega) (by omega) (by omega))
          have zPc := fun wr => blk_cell (blk_new wr (.cells (hV z 0 false) 28)) 1 (hV_priv z 0 false)
          have z34c := fun wr => blk_cell (blk_new wr (.cells (hV z 0 false) 28)) 34 (hV_get z 0 false 34 (by omega) (by omega) (by omega))
          have zqc := fun wr => blk_cell (blk_new wr (.cells (hV z 0 false) 28)) 48 (hV_get z 0 false 48 (by omega) (by omega) (by omega))
          have yPn := fun wr => blk_cell (blk_new wr (.cells (hV y 1 false) 28)) 1 (hV_priv y 1 false)
          have yRn := fun wr => blk_cell (blk_new wr (.cells (hV y 1 false) 28)) 64 (hV_res y 1 false)
          clear b0 b1 b2 b3 b4 bx hd h0
          have s0 : ∀ wq, On (w.alloc (.cells (hV h 0 r) 28)) wq → wq.heap[w.heap.size]? = some (.cells (hV h 0 r) 28 (0, 0)) := fun _ h => h.keep (heap_alloc_new _ _)
          have hb0 := On.refl ((w.alloc (.cells (hV h 0 r) 28)))
          have hb1 : ∀ ob : Obj, On ((w.alloc (.cells (hV h 0 r) 28))) (((w.alloc (.cells (hV h 0 r) 28))).alloc ob) := fun ob => (On.refl _).alloc ob
          have c0 : ∀ wq, On (w.alloc (.cells (hV h 0 r) 28)) wq → wq.cell? ⟨w.heap.size, 0, none⟩ = some (.int .u64 (u (h 0))) := fun _ hqq => blk_cell (s0 _ hqq) 0 (hV_get h 0 r 0 (by omega) (by omega) (by omega))
          have cP : ∀ wq, On (w.alloc (.cells (hV h 0 r) 28)) wq → wq.cell? ⟨w.heap.size, 1, none⟩ = some (.int .i64 0) := fun _ hqq => blk_cell (s0 _ hqq) 1 (hV_priv h 0 r)
          have c34 : ∀ wq, On (w.alloc (.cells (hV h 0 r) 28)) wq → wq.cell? ⟨w.heap.size, 34, none⟩ = some (.int .u64 (u (h 34))) := fun _ hqq => blk_cell (s0 _ hqq) 34 (hV_get h 0 r 34 (by omega) (by omega) (by omega))
          have HB : Hid (On w ((w.alloc (.cells (hV h 0 r) 28)))) := Lib.hid ((On.refl w).alloc _)
          go_enter Try.func6, Try.ntmps6
          go_wp2_with (first | ((with_reducible apply hrt_ld); (case ho => exact rfl); (case hgd => exact rfl); (case hx => exact rfl); (case hg => (first | exact s0 _ (by first | exact hb0 | exact hb1 _) | exact heap_alloc_new _ _))) | ((with_reducible apply reg_of_ld); (case ho => exact rfl); (case hgd => exact rfl); (case hx => exact rfl); (case hg => (first | exact s0 _ (by first | exact hb0 | exact hb1 _) | exact heap_alloc_new _ _))) | ((with_reducible apply hrt_new_st); (case ho => exact rfl); (case hgd => exact rfl); (case hx => exact rfl); (case hy => exact rfl)))
          go_at_call 11; refine (awake8_yes _).mono ?_; rintro _ w1 ⟨rfl, hb'⟩
          have hb := hb'
          replace s0 := fun wq (h : On w1 wq) => s0 wq (hb.trans h)
          replace c0 := fun wq (h : On w1 wq) => c0 wq (hb.trans h)
          replace cP := fun wq (h : On w1 wq) => cP wq (hb.trans h)
          replace c34 := fun wq (h : On w1 wq) => c34 wq (hb.trans h)
          replace hb0 := On.refl w1
          replace hb1 : ∀ ob : Obj, On w1 (w1.alloc ob) := fun ob => (On.refl w1).alloc ob
          have HB := Lib.hid (HB.out.trans hb)
          clear hb hb'
          go_wp2_with (first | ((with_reducible apply hrt_ld); (case ho => exact rfl); (case hgd => exact rfl); (case hx => exact rfl); (case hg => (first | exact s0 _ (by first | exact hb0 | exact hb1 _) | exact heap_alloc_new _ _))) | ((with_reducible apply reg_of_ld); (case ho => exact rfl); (case hgd => exact rfl); (case hx => exact rfl); (case hg => (first | exact s0 _ (by first | exact hb0 | exact hb1 _) | exact heap_alloc_new _ _))) | ((with_reducible apply hrt_new_st); (case ho => exact rfl); (case hgd => exact rfl); (case hx => exact rfl); (case hy => exact rfl)))
          go_at_call 12; refine (K1.out _).mono ?_; rintro _ w2 ⟨rfl, hb'⟩
          have hb := hb'
          replace s0 := fun wq (h : On w2 wq) => s0 wq (hb.trans h)
          replace c0 := fun wq (h : On w2 wq) => c0 wq (hb.trans h)
          replace cP := fun wq (h : On w2 wq) => cP wq (hb.trans h)
          replace c34 := fun wq (h : On w2 wq) => c34 wq (hb.trans h)
          replace hb0 := On.refl w2
          replace hb1 : ∀ ob : Obj, On w2 (w2.alloc ob) := fun ob => (On.refl w2).alloc ob
          have HB := Lib.hid (HB.out.trans hb)
          clear hb hb'
          have xs := fun w => reg_self h w
          go_wp2_with (first | ((with_reducible apply hrt_ld); (case ho => exact rfl); (case hgd => exact rfl); (case hx => exact rfl); (case hg => (first | exact s0 _ (by first | exact hb0 | exact hb1 _) | exact heap_alloc_new _ _))) | ((with_reducible apply reg_of_ld); (case ho => exact rfl); (case hgd => exact rfl); (case hx => exact rfl); (case hg => (first | exact s0 _ (by first | exact hb0 | exact hb1 _) | exact heap_alloc_new _ _))) | ((with_reducible apply hrt_new_st); (case ho => exact rfl); (case hgd => exact rfl); (case hx => exact rfl); (case hy => exact rfl)))
          go_at_call 16; refine (K2.out _).mono ?_; rintro _ w3 ⟨rfl, hb'⟩
          have s1 := fun wq (h : On w3 wq) => (hb'.trans h).keep (heap_alloc_new _ _)
          have hb := (hb1 _).trans hb'
          replace s0 := fun wq (h : On w3 wq) => s0 wq (hb.trans h)
          replace c0 := fun wq (h : On w3 wq) => c0 wq (hb.trans h)
          replace cP := fun wq (h : On w3 wq) => cP wq (hb.trans h)
          replace c34 := fun wq (h : On w3 wq) => c34 wq (hb.trans h)
          replace hb0 := On.refl w3
          replace hb1 : ∀ ob : Obj, On w3 (w3.alloc ob) := fun ob => (On.refl w3).alloc ob
          have HB := Lib.hid (HB.out.trans hb)
          clear hb hb'
          have y34 := fun wq (hqq : On w3 wq) => blk_cell (s1 wq hqq) 34 (hV_get y 1 false 34 (by omega) (by omega) (by omega))
          have yP := fun wq (hqq : On w3 wq) => blk_cell (s1 wq hqq) 1 (hV_priv y 1 false)
          go_wp2_with (first | ((with_reducible apply hrt_ld); (case ho => exact rfl); (case hgd => exact rfl); (case hx => exact rfl); (case hg => (first | exact s0 _ (by first | exact hb0 | exact hb1 _) | exact s1 _ (by first | exact hb0 | exact hb1 _) | exact heap_alloc_new _ _))) | ((with_reducible apply reg_of_ld); (case ho => exact rfl); (case hgd => exact rfl); (case hx => exact rfl); (case hg => (first | exact s0 _ (by first | exact hb0 | exact hb1 _) | exact s1 _ (by first | exact hb0 | exact hb1 _) | exact heap_alloc_new _ _))) | ((with_reducible apply hrt_new_st); (case ho => exact rfl); (case hgd => exact rfl); (case hx => exact rfl); (case hy => exact rfl)))
          go_ret
          exact ⟨rfl, HB.out.alloc _⟩
      · cases hd : dlg h 1 c
        · obtain ⟨b0, b1, b2, b3, b4⟩ := back_M h 1 c t hd (by simp) h0
          have bx := ent_x h 1 c t
          have K1 : Hid (∀ w, Calls Try.prog 12 #[.agg (hV h 1 r), .int .u64 (u c), .int .u64 (u t)] w fun r' w' => r' = .returned (.agg (hV (entH h 1 c t) 3 false)) ∧ On w w') := Lib.hid (fun w => by have := enter_any h 1 r c t w; unfold entP at this; rw [hd] at this; exact this)
          generalize entH h 1 c t = y at *
          have K2 : Hid (∀ w, Calls Try.prog 14 #[.agg (hV y 3 false)] w fun r' w' => r' = .returned (.agg (hV (mrH y) 1 false)) ∧ On w w') := Lib.hid (fun w => by have := mret_any y 3 false w; unfold mrP at this; rw [b1] at this; exact this)
          generalize mrH y = z at *
          have z0 : u (z 0) = u (h 0) := by rw [b0]
          have z4 : u (z 42) = u (h 0) := by rw [b3]
          have e1 : bits .and .u64 (u (z 34)) 8 = bits .and .u64 (u (h 34)) 8 := by rw [show (8 : Int) = u 8#64 from rfl, u_and, u_and, b2]
          have e2 : bits .and .u64 (u (y 34)) 8 = 0 := by rw [show (8 : Int) = u 8#64 from rfl, u_and, b4]; rfl
          have xn := fun w => reg_neq h w
          have xe : xV y = xV h := bx
          have z0c := fun wr => blk_cell (blk_new wr (.cells (hV z 1 false) 28)) 0 (hV_get z 1 false 0 (by omega) (by omega) (by omega))
          have zPc := fun wr => blk_cell (blk_new wr (.cells (hV z 1 false) 28)) 1 (hV_priv z 1 false)
          have z34c := fun wr => blk_cell (blk_new wr (.cells (hV z 1 false) 28)) 34 (hV_get z 1 false 34 (by omega) (by omega) (by omega))
          have zqc := fun wr => blk_cell (blk_new wr (.cells (hV z 1 false) 28)) 42 (hV_get z 1 false 42 (by omega) (by omega) (by omega))
          have yPn := fun wr => blk_cell (blk_new wr (.cells (hV y 3 false) 28)) 1 (hV_priv y 3 false)
          have yRn := fun wr => blk_cell (blk_new wr (.cells (hV y 3 false) 28)) 64 (hV_res y 3 false)
          clear b0 b1 b2 b3 b4 bx hd h0
          have s0 : ∀ wq, On (w.alloc (.cells (hV h 1 r) 28)) wq → wq.heap[w.heap.size]? = some (.cells (hV h 1 r) 28 (0, 0)) := fun _ h => h.keep (heap_alloc_new _ _)
          have hb0 := On.refl ((w.alloc (.cells (hV h 1 r) 28)))
          have hb1 : ∀ ob : Obj, On ((w.alloc (.cells (hV h 1 r) 28))) (((w.alloc (.cells (hV h 1 r) 28))).alloc ob) := fun ob => (On.refl _).alloc ob
          have c0 : ∀ wq, On (w.alloc (.cells (hV h 1 r) 28)) wq → wq.cell? ⟨w.heap.size, 0, none⟩ = some (.int .u64 (u (h 0))) := fun _ hqq => blk_cell (s0 _ hqq) 0 (hV_get h 1 r 0 (by omega) (by omega) (by omega))
          have cP : ∀ wq, On (w.alloc (.cells (hV h 1 r) 28)) wq → wq.cell? ⟨w.heap.size, 1, none⟩ = some (.int .i64 1) := fun _ hqq => blk_cell (s0 _ hqq) 1 (hV_priv h 1 r)
          have c34 : ∀ wq, On (w.alloc (.cells (hV h 1 r) 28)) wq → wq.cell? ⟨w.heap.size, 34, none⟩ = some (.int .u64 (u (h 34))) := fun _ hqq => blk_cell (s0 _ hqq) 34 (hV_get h 1 r 34 (by omega) (by omega) (by omega))
          have HB : Hid (On w ((w.alloc (.cells (hV h 1 r) 28)))) := Lib.hid ((On.refl w).alloc _)
          go_enter Try.func6, Try.ntmps6
          go_wp2_with (first | ((with_reducible apply hrt_ld); (case ho => exact rfl); (case hgd => exact rfl); (case hx => exact rfl); (case hg => (first | exact s0 _ (by first | exact hb0 | exact hb1 _) | exact heap_alloc_new _ _))) | ((with_reducible apply reg_of_ld); (case ho => exact rfl); (case hgd => exact rfl); (case hx => exact rfl); (case hg => (first | exact s0 _ (by first | exact hb0 | exact hb1 _) | exact heap_alloc_new _ _))) | ((with_reducible apply hrt_new_st); (case ho => exact rfl); (case hgd => exact rfl); (case hx => exact rfl); (case hy => exact rfl)))
          go_at_call 11; refine (awake8_yes _).mono ?_; rintro _ w1 ⟨rfl, hb'⟩
          have hb := hb'
          replace s0 := fun wq (h : On w1 wq) => s0 wq (hb.trans h)
          replace c0 := fun wq (h : On w1 wq) => c0 wq (hb.trans h)
          replace cP := fun wq (h : On w1 wq) => cP wq (hb.trans h)
          replace c34 := fun wq (h : On w1 wq) => c34 wq (hb.trans h)
          replace hb0 := On.refl w1
          replace hb1 : ∀ ob : Obj, On w1 (w1.alloc ob) := fun ob => (On.refl w1).alloc ob
          have HB := Lib.hid (HB.out.trans hb)
          clear hb hb'
          go_wp2_with (first | ((with_reducible apply hrt_ld); (case ho => exact rfl); (case hgd => exact rfl); (case hx => exact rfl); (case hg => (first | exact s0 _ (by first | exact hb0 | exact hb1 _) | exact heap_alloc_new _ _))) | ((with_reducible apply reg_of_ld); (case ho => exact rfl); (case hgd => exact rfl); (case hx => exact rfl); (case hg => (first | exact s0 _ (by first | exact hb0 | exact hb1 _) | exact heap_alloc_new _ _))) | ((with_reducible apply hrt_new_st); (case ho => exact rfl); (case hgd => exact rfl); (case hx => exact rfl); (case hy => exact rfl)))
          go_at_call 12; refine (K1.out _).mono ?_; rintro _ w2 ⟨rfl, hb'⟩
          have hb := hb'
          replace s0 := fun wq (h : On w2 wq) => s0 wq (hb.trans h)
          replace c0 := fun wq (h : On w2 wq) => c0 wq (hb.trans h)
          replace cP := fun wq (h : On w2 wq) => cP wq (hb.trans h)
          replace c34 := fun wq (h : On w2 wq) => c34 wq (hb.trans h)
          replace hb0 := On.refl w2
          replace hb1 : ∀ ob : Obj, On w2 (w2.alloc ob) := fun ob => (On.refl w2).alloc ob
          have HB := Lib.hid (HB.out.trans hb)
          clear hb hb'
          have xs := fun w => reg_self h w
          go_wp2_with (first | ((with_reducible apply hrt_ld); (case ho => exact rfl); (case hgd => exact rfl); (case hx => exact rfl); (case hg => (first | exact s0 _ (by first | exact hb0 | exact hb1 _) | exact heap_alloc_new _ _))) | ((with_reducible apply reg_of_ld); (case ho => exact rfl); (case hgd => exact rfl); (case hx => exact rfl); (case hg => (first | exact s0 _ (by first | exact hb0 | exact hb1 _) | exact heap_alloc_new _ _))) | ((with_reducible apply hrt_new_st); (case ho => exact rfl); (case hgd => exact rfl); (case hx => exact rfl); (case hy => exact rfl)))
          go_at_call 14; refine (K2.out _).mono ?_; rintro _ w3 ⟨rfl, hb'⟩
          have s1 := fun wq (h : On w3 wq) => (hb'.trans h).keep (heap_alloc_new _ _)
          have hb := (hb1 _).trans hb'
          replace s0 := fun wq (h : On w3 wq) => s0 wq (hb.trans h)
          replace c0 := fun wq (h : On w3 wq) => c0 wq (hb.trans h)
          replace cP := fun wq (h : On w3 wq) => cP wq (hb.trans h)
          replace c34 := fun wq (h : On w3 wq) => c34 wq (hb.trans h)
          replace hb0 := On.refl w3
          replace hb1 : ∀ ob : Obj, On w3 (w3.alloc ob) := fun ob => (On.refl w3).alloc ob
          have HB := Lib.hid (HB.out.trans hb)
          clear hb hb'
          have y34 := fun wq (hqq : On w3 wq) => blk_cell (s1 wq hqq) 34 (hV_get y 3 false 34 (by omega) (by omega) (by omega))
          have yP := fun wq (hqq : On w3 wq) => blk_cell (s1 wq hqq) 1 (hV_priv y 3 false)
          go_wp2_with (first | ((with_reducible apply hrt_ld); (case ho => exact rfl); (case hgd => exact rfl); (case hx => exact rfl); (case hg => (first | exact s0 _ (by first | exact hb0 | exact hb1 _) | exact s1 _ (by first | exact hb0 | exact hb1 _) | exact heap_alloc_new _ _))) | ((with_reducible apply reg_of_ld); (case ho => exact rfl); (case hgd => exact rfl); (case hx => exact rfl); (case hg => (first | exact s0 _ (by first | exact hb0 | exact hb1 _) | exact s1 _ (by first | exact hb0 | exact hb1 _) | exact heap_alloc_new _ _))) | ((with_reducible apply hrt_new_st); (case ho => exact rfl); (case hgd => exact rfl); (case hx => exact rfl); (case hy => exact rfl)))
          go_ret
          exact ⟨rfl, HB.out.alloc _⟩
        · obtain ⟨b0, b1, b2, b3, b4⟩ := back_S h 1 c t hd h0
          have bx := ent_x h 1 c t
          have K1 : Hid (∀ w, Calls Try.prog 12 #[.agg (hV h 1 r), .int .u64 (u c), .int .u64 (u t)] w fun r' w' => r' = .returned (.agg (hV (entH h 1 c t) 1 false)) ∧ On w w') := Lib.hid (fun w => by have := enter_any h 1 r c t w; unfold entP at this; rw [hd] at this; exact this)
          generalize entH h 1 c t = y at *
          have K2 : Hid (∀ w, Calls Try.prog 16 #[.agg (hV y 1 false)] w fun r' w' => r' = .returned (.agg (hV (srH y) 1 false)) ∧ On w w') := Lib.hid (fun w => by have := sret_any y 1 false w; rw [b1] at this; exact this)
          generalize srH y = z at *
          have z0 : u (z 0) = u (h 0) := by rw [b0]
          have z4 : u (z 48) = u (h 0) := by rw [b3]
          have e1 : bits .and .u64 (u (z 34)) 2 = bits .and .u64 (u (h 34)) 2 := by rw [show (2 : Int) = u 2#64 from rfl, u_and, u_and, b2]
          have e2 : bits .and .u64 (u (y 34)) 2 = 0 := by rw [show (2 : Int) = u 2#64 from rfl, u_and, b4]; rfl
          have xn := fun w => reg_neq h w
          have xe : xV y = xV h := bx
          have z0c := fun wr => blk_cell (blk_new wr (.cells (hV z 1 false) 28)) 0 (hV_get z 1 false 0 (by omega) (by omega) (by omega))
          have zPc := fun wr => blk_cell (blk_new wr (.cells (hV z 1 false) 28)) 1 (hV_priv z 1 false)
          have z34c := fun wr => blk_cell (blk_new wr (.cells (hV z 1 false) 28)) 34 (hV_get z 1 false 34 (by omega) (by omega) (by omega))
          have zqc := fun wr => blk_cell (blk_new wr (.cells (hV z 1 false) 28)) 48 (hV_get z 1 false 48 (by omega) (by omega) (by omega))
          have yPn := fun wr => blk_cell (blk_new wr (.cells (hV y 1 false) 28)) 1 (hV_priv y 1 false)
          have yRn := fun wr => blk_cell (blk_new wr (.cells (hV y 1 false) 28)) 64 (hV_res y 1 false)
          clear b0 b1 b2 b3 b4 bx hd h0
          have s0 : ∀ wq, On (w.alloc (.cells (hV h 1 r) 28)) wq → wq.heap[w.heap.size]? = some (.cells (hV h 1 r) 28 (0, 0)) := fun _ h => h.keep (heap_alloc_new _ _)
          have hb0 := On.refl ((w.alloc (.cells (hV h 1 r) 28)))
          have hb1 : ∀ ob : Obj, On ((w.alloc (.cells (hV h 1 r) 28))) (((w.alloc (.cells (hV h 1 r) 28))).alloc ob) := fun ob => (On.refl _).alloc ob
          have c0 : ∀ wq, On (w.alloc (.cells (hV h 1 r) 28)) wq → wq.cell? ⟨w.heap.size, 0, none⟩ = some (.int .u64 (u (h 0))) := fun _ hqq => blk_cell (s0 _ hqq) 0 (hV_get h 1 r 0 (by omega) (by omega) (by omega))
          have cP : ∀ wq, On (w.alloc (.cells (hV h 1 r) 28)) wq → wq.cell? ⟨w.heap.size, 1, none⟩ = some (.int .i64 1) := fun _ hqq => blk_cell (s0 _ hqq) 1 (hV_priv h 1 r)
          have c34 : ∀ wq, On (w.alloc (.cells (hV h 1 r) 28)) wq → wq.cell? ⟨w.heap.size, 34, none⟩ = some (.int .u64 (u (h 34))) := fun _ hqq => blk_cell (s0 _ hqq) 34 (hV_get h 1 r 34 (by omega) (by omega) (by omega))
          have HB : Hid (On w ((w.alloc (.cells (hV h 1 r) 28)))) := Lib.hid ((On.refl w).alloc _)
          go_enter Try.func6, Try.ntmps6
          go_wp2_with (first | ((with_reducible apply hrt_ld); (case ho => exact rfl); (case hgd => exact rfl); (case hx => exact rfl); (case hg => (first | exact s0 _ (by first | exact hb0 | exact hb1 _) | exact heap_alloc_new _ _))) | ((with_reducible apply reg_of_ld); (case ho => exact rfl); (case hgd => exact rfl); (case hx => exact rfl); (case hg => (first | exact s0 _ (by first | exact hb0 | exact hb1 _) | exact heap_alloc_new _ _))) | ((with_reducible apply hrt_new_st); (case ho => exact rfl); (case hgd => exact rfl); (case hx => exact rfl); (case hy => exact rfl)))
          go_at_call 11; refine (awake8_yes _).mono ?_; rintro _ w1 ⟨rfl, hb'⟩
          have hb := hb'
          replace s0 := fun wq (h : On w1 wq) => s0 wq (hb.trans h)
          replace c0 := fun wq (h : On w1 wq) => c0 wq (hb.trans h)
          replace cP := fun wq (h : On w1 wq) => cP wq (hb.trans h)
          replace c34 := fun wq (h : On w1 wq) => c34 wq (hb.trans h)
          replace hb0 := On.refl w1
          replace hb1 : ∀ ob : Obj, On w1 (w1.alloc ob) := fun ob => (On.refl w1).alloc ob
          have HB := Lib.hid (HB.out.trans hb)
          clear hb hb'
          go_wp2_with (first | ((with_reducible apply hrt_ld); (case ho => exact rfl); (case hgd => exact rfl); (case hx => exact rfl); (case hg => (first | exact s0 _ (by first | exact hb0 | exact hb1 _) | exact heap_alloc_new _ _))) | ((with_reducible apply reg_of_ld); (case ho => exact rfl); (case hgd => exact rfl); (case hx => exact rfl); (case hg => (first | exact s0 _ (by first | exact hb0 | exact hb1 _) | exact heap_alloc_new _ _))) | ((with_reducible apply hrt_new_st); (case ho => exact rfl); (case hgd => exact rfl); (case hx => exact rfl); (case hy => exact rfl)))
          go_at_call 12; refine (K1.out _).mono ?_; rintro _ w2 ⟨rfl, hb'⟩
          have hb := hb'
          replace s0 := fun wq (h : On w2 wq) => s0 wq (hb.trans h)
          replace c0 := fun wq (h : On w2 wq) => c0 wq (hb.trans h)
          replace cP := fun wq (h : On w2 wq) => cP wq (hb.trans h)
          replace c34 := fun wq (h : On w2 wq) => c34 wq (hb.trans h)
          replace hb0 := On.refl w2
          replace hb1 : ∀ ob : Obj, On w2 (w2.alloc ob) := fun ob => (On.refl w2).alloc ob
          have HB := Lib.hid (HB.out.trans hb)
          clear hb hb'
          have xs := fun w => reg_self h w
          go_wp2_with (first | ((with_reducible apply hrt_ld); (case ho => exact rfl); (case hgd => exact rfl); (case hx => exact rfl); (case hg => (first | exact s0 _ (by first | exact hb0 | exact hb1 _) | exact heap_alloc_new _ _))) | ((with_reducible apply reg_of_ld); (case ho => exact rfl); (case hgd => exact rfl); (case hx => exact rfl); (case hg => (first | exact s0 _ (by first | exact hb0 | exact hb1 _) | exact heap_alloc_new _ _))) | ((with_reducible apply hrt_new_st); (case ho => exact rfl); (case hgd => exact rfl); (case hx => exact rfl); (case hy => exact rfl)))
          go_at_call 16; refine (K2.out _).mono ?_; rintro _ w3 ⟨rfl, hb'⟩
          have s1 := fun wq (h : On w3 wq) => (hb'.trans h).keep (heap_alloc_new _ _)
          have hb := (hb1 _).trans hb'
          replace s0 := fun wq (h : On w3 wq) => s0 wq (hb.trans h)
          replace c0 := fun wq (h : On w3 wq) => c0 wq (hb.trans h)
          replace cP := fun wq (h : On w3 wq) => cP wq (hb.trans h)
          replace c34 := fun wq (h : On w3 wq) => c34 wq (hb.trans h)
          replace hb0 := On.refl w3
          replace hb1 : ∀ ob : Obj, On w3 (w3.alloc ob) := fun ob => (On.refl w3).alloc ob
          have HB := Lib.hid (HB.out.trans hb)
          clear hb hb'
          have y34 := fun wq (hqq : On w3 wq) => blk_cell (s1 wq hqq) 34 (hV_get y 1 false 34 (by omega) (by omega) (by omega))
          have yP := fun wq (hqq : On w3 wq) => blk_cell (s1 wq hqq) 1 (hV_priv y 1 false)
          go_wp2_with (first | ((with_reducible apply hrt_ld); (case ho => exact rfl); (case hgd => exact rfl); (case hx => exact rfl); (case hg => (first | exact s0 _ (by first | exact hb0 | exact hb1 _) | exact s1 _ (by first | exact hb0 | exact hb1 _) | exact heap_alloc_new _ _))) | ((with_reducible apply reg_of_ld); (case ho => exact rfl); (case hgd => exact rfl); (case hx => exact rfl); (case hg => (first | exact s0 _ (by first | exact hb0 | exact hb1 _) | exact s1 _ (by first | exact hb0 | exact hb1 _) | exact heap_alloc_new _ _))) | ((with_reducible apply hrt_new_st); (case ho => exact rfl); (case hgd => exact rfl); (case hx => exact rfl); (case hy => exact rfl)))
          go_ret
          exact ⟨rfl, HB.out.alloc _⟩
      · have hd : dlg h 3 c = false := rfl
        obtain ⟨b0, b1, b2, b3, b4⟩ := back_M h 3 c t hd (by simp) h0
        have bx := ent_x h 3 c t
        have K1 : Hid (∀ w, Calls Try.prog 12 #[.agg (hV h 3 r), .int .u64 (u c), .int .u64 (u t)] w fun r' w' => r' = .returned (.agg (hV (entH h 3 c t) 3 false)) ∧ On w w') := Lib.hid (fun w => by have := enter_any h 3 r c t w; unfold entP at this; rw [hd] at this; exact this)
        generalize entH h 3 c t = y at *
        have K2 : Hid (∀ w, Calls Try.prog 14 #[.agg (hV y 3 false)] w fun r' w' => r' = .returned (.agg (hV (mrH y) 3 false)) ∧ On w w') := Lib.hid (fun w => by have := mret_any y 3 false w; unfold mrP at this; rw [b1] at this; exact this)
        generalize mrH y = z at *
        have z0 : u (z 0) = u (h 0) := by rw [b0]
        have z4 : u (z 42) = u (h 0) := by rw [b3]
        have e1 : bits .and .u64 (u (z 34)) 8 = bits .and .u64 (u (h 34)) 8 := by rw [show (8 : Int) = u 8#64 from rfl, u_and, u_and, b2]
        have e2 : bits .and .u64 (u (y 34)) 8 = 0 := by rw [show (8 : Int) = u 8#64 from rfl, u_and, b4]; rfl
        have xn := fun w => reg_neq h w
        have xe : xV y = xV h := bx
        have z0c := fun wr => blk_cell (blk_new wr (.cells (hV z 3 false) 28)) 0 (hV_get z 3 false 0 (by omega) (by omega) (by omega))
        have zPc := fun wr => blk_cell (blk_new wr (.cells (hV z 3 false) 28)) 1 (hV_priv z 3 false)
        have z34c := fun wr => blk_cell (blk_new wr (.cells (hV z 3 false) 28)) 34 (hV_get z 3 false 34 (by omega) (by omega) (by omega))
        have zqc := fun wr => blk_cell (blk_new wr (.cells (hV z 3 false) 28)) 42 (hV_get z 3 false 42 (by omega) (by omega) (by omega))
        have yPn := fun wr => blk_cell (blk_new wr (.cells (hV y 3 false) 28)) 1 (hV_priv y 3 false)
        have yRn := fun wr => blk_cell (blk_new wr (.cells (hV y 3 false) 28)) 64 (hV_res y 3 false)
        clear b0 b1 b2 b3 b4 bx hd h0
        have s0 : ∀ wq, On (w.alloc (.cells (hV h 3 r) 28)) wq → wq.heap[w.heap.size]? = some (.cells (hV h 3 r) 28 (0, 0)) := fun _ h => h.keep (heap_alloc_new _ _)
        have hb0 := On.refl ((w.alloc (.cells (hV h 3 r) 28)))
        have hb1 : ∀ ob : Obj, On ((w.alloc (.cells (hV h 3 r) 28))) (((w.alloc (.cells (hV h 3 r) 28))).alloc ob) := fun ob => (On.refl _).alloc ob
        have c0 : ∀ wq, On (w.alloc (.cells (hV h 3 r) 28)) wq → wq.cell? ⟨w.heap.size, 0, none⟩ = some (.int .u64 (u (h 0))) := fun _ hqq => blk_cell (s0 _ hqq) 0 (hV_get h 3 r 0 (by omega) (by omega) (by omega))
        have cP : ∀ wq, On (w.alloc (.cells (hV h 3 r) 28)) wq → wq.cell? ⟨w.heap.size, 1, none⟩ = some (.int .i64 3) := fun _ hqq => blk_cell (s0 _ hqq) 1 (hV_priv h 3 r)
        have c34 : ∀ wq, On (w.alloc (.cells (hV h 3 r) 28)) wq → wq.cell? ⟨w.heap.size, 34, none⟩ = some (.int .u64 (u (h 34))) := fun _ hqq => blk_cell (s0 _ hqq) 34 (hV_get h 3 r 34 (by omega) (by omega) (by omega))
        have HB : Hid (On w ((w.alloc (.cells (hV h 3 r) 28)))) := Lib.hid ((On.refl w).alloc _)
        go_enter Try.func6, Try.ntmps6
        go_wp2_with (first | ((with_reducible apply hrt_ld); (case ho => exact rfl); (case hgd => exact rfl); (case hx => exact rfl); (case hg => (first | exact s0 _ (by first | exact hb0 | exact hb1 _) | exact heap_alloc_new _ _))) | ((with_reducible apply reg_of_ld); (case ho => exact rfl); (case hgd => exact rfl); (case hx => exact rfl); (case hg => (first | exact s0 _ (by first | exact hb0 | exact hb1 _) | exact heap_alloc_new _ _))) | ((with_reducible apply hrt_new_st); (case ho => exact rfl); (case hgd => exact rfl); (case hx => exact rfl); (case hy => exact rfl)))
        go_at_call 11; refine (awake8_yes _).mono ?_; rintro _ w1 ⟨rfl, hb'⟩
        have hb := hb'
        replace s0 := fun wq (h : On w1 wq) => s0 wq (hb.trans h)
        replace c0 := fun wq (h : On w1 wq) => c0 wq (hb.trans h)
        replace cP := fun wq (h : On w1 wq) => cP wq (hb.trans h)
        replace c34 := fun wq (h : On w1 wq) => c34 wq (hb.trans h)
        replace hb0 := On.refl w1
        replace hb1 : ∀ ob : Obj, On w1 (w1.alloc ob) := fun ob => (On.refl w1).alloc ob
        have HB := Lib.hid (HB.out.trans hb)
        clear hb hb'
        go_wp2_with (first | ((with_reducible apply hrt_ld); (case ho => exact rfl); (case hgd => exact rfl); (case hx => exact rfl); (case hg => (first | exact s0 _ (by first | exact hb0 | exact hb1 _) | exact heap_alloc_new _ _))) | ((with_reducible apply reg_of_ld); (case ho => exact rfl); (case hgd => exact rfl); (case hx => exact rfl); (case hg => (first | exact s0 _ (by first | exact hb0 | exact hb1 _) | exact heap_alloc_new _ _))) | ((with_reducible apply hrt_new_st); (case ho => exact rfl); (case hgd => exact rfl); (case hx => exact rfl); (case hy => exact rfl)))
        go_at_call 12; refine (K1.out _).mono ?_; rintro _ w2 ⟨rfl, hb'⟩
        have hb := hb'
        replace s0 := fun wq (h : On w2 wq) => s0 wq (hb.trans h)
        replace c0 := fun wq (h : On w2 wq) => c0 wq (hb.trans h)
        replace cP := fun wq (h : On w2 wq) => cP wq (hb.trans h)
        replace c34 := fun wq (h : On w2 wq) => c34 wq (hb.trans h)
        replace hb0 := On.refl w2
        replace hb1 : ∀ ob : Obj, On w2 (w2.alloc ob) := fun ob => (On.refl w2).alloc ob
        have HB := Lib.hid (HB.out.trans hb)
        clear hb hb'
        have xs := fun w => reg_self h w
        go_wp2_with (first | ((with_reducible apply hrt_ld); (case ho => exact rfl); (case hgd => exact rfl); (case hx => exact rfl); (case hg => (first | exact s0 _ (by first | exact hb0 | exact hb1 _) | exact heap_alloc_new _ _))) | ((with_reducible apply reg_of_ld); (case ho => exact rfl); (case hgd => exact rfl); (case hx => exact rfl); (case hg => (first | exact s0 _ (by first | exact hb0 | exact hb1 _) | exact heap_alloc_new _ _))) | ((with_reducible apply hrt_new_st); (case ho => exact rfl); (case hgd => exact rfl); (case hx => exact rfl); (case hy => exact rfl)))
        go_at_call 14; refine (K2.out _).mono ?_; rintro _ w3 ⟨rfl, hb'⟩
        have s1 := fun wq (h : On w3 wq) => (hb'.trans h).keep (heap_alloc_new _ _)
        have hb := (hb1 _).trans hb'
        replace s0 := fun wq (h : On w3 wq) => s0 wq (hb.trans h)
        replace c0 := fun wq (h : On w3 wq) => c0 wq (hb.trans h)
        replace cP := fun wq (h : On w3 wq) => cP wq (hb.trans h)
        replace c34 := fun wq (h : On w3 wq) => c34 wq (hb.trans h)
        replace hb0 := On.refl w3
        replace hb1 : ∀ ob : Obj, On w3 (w3.alloc ob) := fun ob => (On.refl w3).alloc ob
        have HB := Lib.hid (HB.out.trans hb)
        clear hb hb'
        have y34 := fun wq (hqq : On w3 wq) => blk_cell (s1 wq hqq) 34 (hV_get y 3 false 34 (by omega) (by omega) (by omega))
        have yP := fun wq (hqq : On w3 wq) => blk_cell (s1 wq hqq) 1 (hV_priv y 3 false)
        go_wp2_with (first | ((with_reducible apply hrt_ld); (case ho => exact rfl); (case hgd => exact rfl); (case hx => exact rfl); (case hg => (first | exact s0 _ (by first | exact hb0 | exact hb1 _) | exact s1 _ (by first | exact hb0 | exact hb1 _) | exact heap_alloc_new _ _))) | ((with_reducible apply reg_of_ld); (case ho => exact rfl); (case hgd => exact rfl); (case hx => exact rfl); (case hg => (first | exact s0 _ (by first | exact hb0 | exact hb1 _) | exact s1 _ (by first | exact hb0 | exact hb1 _) | exact heap_alloc_new _ _))) | ((with_reducible apply hrt_new_st); (case ho => exact rfl); (case hgd => exact rfl); (case hx => exact rfl); (case hy => exact rfl)))
        go_ret
        exact ⟨rfl, HB.out.alloc _⟩
    · have p0 : (p == 0) = false := by simpa using fun e => hp (.inl e)
      have p1 : (p == 1) = false := by simpa using fun e => hp (.inr (.inl e))
      have p3 : (p == 3) = false := by simpa using fun e => hp (.inr (.inr e))
      have q0 : (p != 0) = true := by unfold bne; rw [p0]; rfl
      have q1 : (p != 1) = true := by unfold bne; rw [p1]; rfl
      have q3 : (p != 3) = true := by unfold bne; rw [p3]; rfl
      clear hp h0
      have s0 : ∀ wq, On (w.alloc (.cells (hV h p r) 28)) wq → wq.heap[w.heap.size]? = some (.cells (hV h p r) 28 (0, 0)) := fun _ h => h.keep (heap_alloc_new _ _)
      have hb0 := On.refl ((w.alloc (.cells (hV h p r) 28)))
      have hb1 : ∀ ob : Obj, On ((w.alloc (.cells (hV h p r) 28))) (((w.alloc (.cells (hV h p r) 28))).alloc ob) := fun ob => (On.refl _).alloc ob
      have c0 : ∀ wq, On (w.alloc (.cells (hV h p r) 28)) wq → wq.cell? ⟨w.heap.size, 0, none⟩ = some (.int .u64 (u (h 0))) := fun _ hqq => blk_cell (s0 _ hqq) 0 (hV_get h p r 0 (by omega) (by omega) (by omega))
      have cP : ∀ wq, On (w.alloc (.cells (hV h p r) 28)) wq → wq.cell? ⟨w.heap.size, 1, none⟩ = some (.int .i64 p) := fun _ hqq => blk_cell (s0 _ hqq) 1 (hV_priv h p r)
      have c34 : ∀ wq, On (w.alloc (.cells (hV h p r) 28)) wq → wq.cell? ⟨w.heap.size, 34, none⟩ = some (.int .u64 (u (h 34))) := fun _ hqq => blk_cell (s0 _ hqq) 34 (hV_get h p r 34 (by omega) (by omega) (by omega))
      have HB : Hid (On w ((w.alloc (.cells (hV h p r) 28)))) := Lib.hid ((On.refl w).alloc _)
      go_enter Try.func6, Try.ntmps6
      go_wp2_with fail
      go_at_call 11; refine (awake8_yes _).mono ?_; rintro _ w1 ⟨rfl, hb'⟩
      have hb := hb'
      replace s0 := fun wq (h : On w1 wq) => s0 wq (hb.trans h)
      replace c0 := fun wq (h : On w1 wq) => c0 wq (hb.trans h)
      replace cP := fun wq (h : On w1 wq) => cP wq (hb.trans h)
      replace c34 := fun wq (h : On w1 wq) => c34 wq (hb.trans h)
      replace hb0 := On.refl w1
      replace hb1 : ∀ ob : Obj, On w1 (w1.alloc ob) := fun ob => (On.refl w1).alloc ob
      have HB := Lib.hid (HB.out.trans hb)
      clear hb hb'
      go_wp2_with fail
      go_at_call 11; refine (awake8_yes _).mono ?_; rintro _ w2 ⟨rfl, hb'⟩
      have hb := hb'
      replace s0 := fun wq (h : On w2 wq) => s0 wq (hb.trans h)
      replace c0 := fun wq (h : On w2 wq) => c0 wq (hb.trans h)
      replace cP := fun wq (h : On w2 wq) => cP wq (hb.trans h)
      replace c34 := fun wq (h : On w2 wq) => c34 wq (hb.trans h)
      replace hb0 := On.refl w2
      replace hb1 : ∀ ob : Obj, On w2 (w2.alloc ob) := fun ob => (On.refl w2).alloc ob
      have HB := Lib.hid (HB.out.trans hb)
      clear hb hb'
      go_wp2
      go_ret
      exact ⟨rfl, HB.out⟩
  · have t0 : (bits .and .u64 (u (h 0)) 3 == 0) = false := by rw [A, show (0 : Int) = u 0#64 from rfl, u_beq]; simpa using h0
    have t0' : (bits .and .u64 (u (h 0)) 3 != 0) = true := by unfold bne; rw [t0]; rfl
    have t0'' : ¬ bits .and .u64 (u (h 0)) 3 = 0 := by simpa using t0
    clear A h0
    have s0 : ∀ wq, On (w.alloc (.cells (hV h p r) 28)) wq → wq.heap[w.heap.size]? = some (.cells (hV h p r) 28 (0, 0)) := fun _ h => h.keep (heap_alloc_new _ _)
    have hb0 := On.refl ((w.alloc (.cells (hV h p r) 28)))
    have hb1 : ∀ ob : Obj, On ((w.alloc (.cells (hV h p r) 28))) (((w.alloc (.cells (hV h p r) 28))).alloc ob) := fun ob => (On.refl _).alloc ob
    have c0 : ∀ wq, On (w.alloc (.cells (hV h p r) 28)) wq → wq.cell? ⟨w.heap.size, 0, none⟩ = some (.int .u64 (u (h 0))) := fun _ hqq => blk_cell (s0 _ hqq) 0 (hV_get h p r 0 (by omega) (by omega) (by omega))
    have cP : ∀ wq, On (w.alloc (.cells (hV h p r) 28)) wq → wq.cell? ⟨w.heap.size, 1, none⟩ = some (.int .i64 p) := fun _ hqq => blk_cell (s0 _ hqq) 1 (hV_priv h p r)
    have c34 : ∀ wq, On (w.alloc (.cells (hV h p r) 28)) wq → wq.cell? ⟨w.heap.size, 34, none⟩ = some (.int .u64 (u (h 34))) := fun _ hqq => blk_cell (s0 _ hqq) 34 (hV_get h p r 34 (by omega) (by omega) (by omega))
    have HB : Hid (On w ((w.alloc (.cells (hV h p r) 28)))) := Lib.hid ((On.refl w).alloc _)
    go_enter Try.func6, Try.ntmps6
    go_wp2_with fail
    go_at_call 11; refine (awake8_yes _).mono ?_; rintro _ w1 ⟨rfl, hb'⟩
    have hb := hb'
    replace s0 := fun wq (h : On w1 wq) => s0 wq (hb.trans h)
    replace c0 := fun wq (h : On w1 wq) => c0 wq (hb.trans h)
    replace cP := fun wq (h : On w1 wq) => cP wq (hb.trans h)
    replace c34 := fun wq (h : On w1 wq) => c34 wq (hb.trans h)
    replace hb0 := On.refl w1
    replace hb1 : ∀ ob : Obj, On w1 (w1.alloc ob) := fun ob => (On.refl w1).alloc ob
    have HB := Lib.hid (HB.out.trans hb)
    clear hb hb'
    go_wp2_with fail
    go_at_call 11; refine (awake8_yes _).mono ?_; rintro _ w2 ⟨rfl, hb'⟩
    have hb := hb'
    replace s0 := fun wq (h : On w2 wq) => s0 wq (hb.trans h)
    replace c0 := fun wq (h : On w2 wq) => c0 wq (hb.trans h)
    replace cP := fun wq (h : On w2 wq) => cP wq (hb.trans h)
    replace c34 := fun wq (h : On w2 wq) => c34 wq (hb.trans h)
    replace hb0 := On.refl w2
    replace hb1 : ∀ ob : Obj, On w2 (w2.alloc ob) := fun ob => (On.refl w2).alloc ob
    have HB := Lib.hid (HB.out.trans hb)
    clear hb hb'
    go_wp2
    go_ret
    exact ⟨rfl, HB.out⟩

set_option maxRecDepth 100000 in
theorem lifted (os : Os) (started : os.Started) (H : Type) (enc : TypeId × Value → H) :
    ReturnsInHanded {} Try.checked os 6 .any (Rows.trapBackSpec.pre6 enc Try.prog Try.f6 Rows.trapBackRow.domain false) (Rows.trapBackSpec.post enc Try.prog Try.f6 false true false false) := by
  refine returnsInHanded_of_change (C := Try.checked) own started (by kernel_rfl) Try.func6
    (ChangeSpec.witness6 (enc := enc) (C := Try.checked) false ⟨#[], #[.agg #[.int .u64 0, .int .i64 0, .int .u64 0, .int .u64 0, .int .u64 0, .int .u64 0, .int .u64 0, .int .u64 0, .int .u64 0, .int .u64 0, .int .u64 0, .int .u64 0, .int .u64 0, .int .u64 0, .int .u64 0, .int .u64 0, .int .u64 0, .int .u64 0, .int .u64 0, .int .u64 0, .int .u64 0, .int .u64 0, .int .u64 0, .int .u64 0, .int .u64 0, .int .u64 0, .int .u64 0, .int .u64 0, .int .u64 0, .int .u64 0, .int .u64 0, .int .u64 0, .int .u64 0, .int .u64 0, .int .u64 0, .int .u64 0, .int .u64 0, .int .u64 0, .int .u64 0, .int .u64 0, .int .u64 0, .int .u64 0, .int .u64 0, .int .u64 0, .int .u64 0, .int .u64 0, .int .u64 0, .int .u64 0, .int .u64 0, .int .u64 0, .int .u64 0, .int .u64 0, .int .u64 0, .int .u64 0, .int .u64 0, .int .u64 0, .int .u64 0, .int .u64 0, .int .u64 0, .int .u64 0, .int .u64 0, .int .u64 0, .int .u64 0, .int .u64 0, .bool false, .int .u64 0], .int .u64 0, .int .u64 0], []⟩ 12 (by kernel_rfl) (by kernel_rfl) (by kernel_rfl) (by kernel_rfl)) ?_
  intro W base args ds gs before hval0 hW hcnd _
  have hval : ∀ (j : Nat) t v, Try.f6.params[j]? = some t → args[j]? = some v → Value.okWide Try.prog W .any base t v := hval0
  have hW' := hW
  obtain ⟨p, q, hA0, hV, rfl, hfz, hnd⟩ := hW
  have hA : DataW.TrodAll enc Try.prog W 0 (fun _ => true) true Try.f6.params.toList args.toList ds p := hA0
  rw [Try.params6] at hA hval
  obtain ⟨v0, vs0, d0, ds0, p0, q0, hargs, rfl, rfl, h0, r0⟩ := trodAll_cons hA
  obtain ⟨v1, vs1, d1, ds1, p1, q1, rfl, rfl, rfl, h1, r1⟩ := trodAll_cons r0
  obtain ⟨v2, vs2, d2, ds2, p2, q2, rfl, rfl, rfl, h2, r2⟩ := trodAll_cons r1
  obtain ⟨rfl, rfl, rfl⟩ := trodAll_nil r2
  obtain rfl : args = #[v0, v1, v2] := by cases args; simp_all
  obtain ⟨rfl, rfl⟩ := trodVars_none hV
  have k0 := h0
  have l0 : ∀ x ∈ p0, x.block < W.heap.size := fun x hx => by have := hW'.lt x (by simp [hx]); simpa using this
  obtain ⟨c0, rfl, f0⟩ := open_flat 12 [.int .u64, .int .i64, .int .u64, .int .u64, .int .u64, .int .u64, .int .u64, .int .u64, .int .u64, .int .u64, .int .u64, .int .u64, .int .u64, .int .u64, .int .u64, .int .u64, .int .u64, .int .u64, .int .u64, .int .u64, .int .u64, .int .u64, .int .u64, .int .u64, .int .u64, .int .u64, .int .u64, .int .u64, .int .u64, .int .u64, .int .u64, .int .u64, .int .u64, .int .u64, .int .u64, .int .u64, .int .u64, .int .u64, .int .u64, .int .u64, .int .u64, .int .u64, .int .u64, .int .u64, .int .u64, .int .u64, .int .u64, .int .u64, .int .u64, .int .u64, .int .u64, .int .u64, .int .u64, .int .u64, .int .u64, .int .u64, .int .u64, .int .u64, .int .u64, .int .u64, .int .u64, .int .u64, .int .u64, .int .u64, .bool, .int .u64] (by kernel_rfl) (by kernel_rfl) (.inl ⟨_, Try.underlying28⟩) (hval 0 28 v0 rfl rfl) h0
  clear h0
  obtain ⟨a1, rfl, rfl, rfl, w1⟩ := open_int Try.underlying22 (hval 1 22 v1 rfl rfl) h1
  obtain ⟨a2, rfl, rfl, rfl, w2⟩ := open_int Try.underlying22 (hval 2 22 v2 rfl rfl) h2
  clear hA0 hval0
  refine (walk c0 f0 a1 w1 a2 w2 W).mono fun e W' ⟨he, bel⟩ => ?_
  subst he
  exact ⟨_, rfl, _, _, _, [], _, [], hW', trodAll_mk1 (shut_bool Try.underlying4 _), (trodAll_cons_mk (Below.trod (by kernel_rfl) (by kernel_rfl) (of_decide_eq_true (by kernel_rfl)) k0 bel l0) (trodAll_cons_mk (shut_int Try.underlying22 w1) (trodAll_cons_mk (shut_int Try.underlying22 w2) trodAll_mk0))), rfl, bel.frame _, fun h => by cases h⟩

theorem over : Rows.trapBackRow.holds Try.pinned (OpenSpec.ofChange Rows.trapBackSpec) :=
  OpenClaim.holds_of_wide 6 Try.f6 rfl rfl rfl rfl rfl rfl rfl ⟨rfl, rfl, rfl, rfl, rfl⟩ rfl rfl rfl rfl rfl (by kernel_rfl) Try.func6 (by kernel_rfl)
    (of_decide_eq_true (by kernel_rfl)) (by unfold Func.isWrapper; first | (rw [if_pos (by decide +kernel)]; kernel_rfl) | (rw [if_neg (by decide +kernel)]; exact ⟨rfl, rfl⟩))
    (fun os started H enc _ => lifted os started H enc)

theorem proved : Rows.TrapBackSaid :=
  over
#print axioms proved
end Go.Proofs.Ytleolldgpoeabaa.trapBack
