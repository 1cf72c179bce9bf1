/- Proves that a trap goes to Super just if it comes from below Machine and is delegated, and else to Machine, that it leads to that one's base and, for interrupts, if it asks so, four times the number further on, and that its cause and value are kept there, for any hart, any number, any value, and that the first test of the law holds. Conditions: none. -/
import Derived.Test.YtleolldgpoeabaaRows
import Derived.Test.YtleolldgpoeabaaTrapD2
import Derived.Test.YtleolldgpoeabaaFlat
import Derived.WalkKit
import Derived.ProofKit
import Derived.OpenShut
import Derived.Below
import Derived.Carry
import Derived.ShutString
import Derived.BigQuiet
namespace Go.Proofs.Ytleolldgpoeabaa.trapWhere
open Go.ChangeShapes Go.WideShapes Go.ChangeAt Go.RowKit
set_option linter.unusedVariables false

theorem own : ownKnob Try.prog.godebug = none := by kernel_rfl

set_option maxRecDepth 100000 in
set_option maxHeartbeats 8000000 in
theorem walk (c0 : List Value) (f0 : Fits [.int .u64, .int .i64, .int .u64, .int .u64, .int .u64, .int .u64, .int .u64, .int .u64, .int .u64, .int .u64, .int .u64, .int .u64, .int .u64, .int .u64, .int .u64, .int .u64, .int .u64, .int .u64, .int .u64, .int .u64, .int .u64, .int .u64, .int .u64, .int .u64, .int .u64, .int .u64, .int .u64, .int .u64, .int .u64, .int .u64, .int .u64, .int .u64, .int .u64, .int .u64, .int .u64, .int .u64, .int .u64, .int .u64, .int .u64, .int .u64, .int .u64, .int .u64, .int .u64, .int .u64, .int .u64, .int .u64, .int .u64, .int .u64, .int .u64, .int .u64, .int .u64, .int .u64, .int .u64, .int .u64, .int .u64, .int .u64, .int .u64, .int .u64, .int .u64, .int .u64, .int .u64, .int .u64, .int .u64, .int .u64, .bool, .int .u64] c0) (a1 : Int) (w1 : (Lit.int .i64 a1).wf = true) (a2 : Bool) (a3 : Int) (w3 : (Lit.int .u64 a3).wf = true) (w : World) :
    Calls Try.prog 9 #[.agg c0.toArray, .int .i64 a1, .bool a2, .int .u64 a3] w fun e w' => e = .returned (.bool true) ∧ Below w.heap.size w w' := by
  replace f0 : Fits hartLvs c0 := f0
  obtain ⟨h, p, r, wp, hc⟩ := hV_of f0
  rw [hc]
  clear hc f0
  obtain ⟨t, rfl⟩ := u_of w3
  clear w3
  clear wp
  have hZ := fun w => hrt_zero w
  obtain ⟨v, hv⟩ : ∃ v, wd64 a1 % 16#64 = v := ⟨_, rfl⟩
  have hv16 : v.toNat < 16 := by rw [← hv, BitVec.toNat_umod]; exact Nat.mod_lt _ (by decide)
  have N1 : IntKind.u64.wrap a1 % 16 = u v := by rw [wrap_wd, ← hv]; exact u_mod _ 16#64
  have N2 : (IntKind.u64.wrap a1).tmod 16 = u v := by rw [← N1, wrap_wd]; exact Int.tmod_eq_emod_of_nonneg (u_nonneg _)
  have v63 : v.getLsbD 63 = false := low_bits hv16 63 (by omega)
  have vn : v &&& 63#64 = v := low_and63 hv16
  have sh := fun x k => shr_run Try.prog x v (by omega) k
  have E2 : ∀ x : BitVec 64, u x / 2 ^ (u v).toNat = u (x >>> v.toNat) := fun x => by rw [show (u v).toNat = v.toNat from by unfold u; simp]; exact u_shr x _
  have X4 : IntKind.u64.wrap (4 * u v) = u (4#64 * v) := u_mul 4#64 v
  clear hv
  clear w1
  cases a2
  · by_cases h0 : p = 0
    · subst h0
      cases hb : (h 35).getLsbD v.toNat
      · cases hq : (h 39).getLsbD 0
        · have ct : v.getLsbD 63 = false := v63
          have cn : v &&& 63#64 = v := vn
          have cc : cau v = v := cau_low16 hv16
          have hd : dlg h 0 v = false := by unfold dlg; rw [ct, cn]; exact hb
          have y1 : u (entH h 0 v t 43) = u v := by rw [ent_M h 0 v t hd, cc]; rfl
          have y3 : u (entH h 0 v t 44) = u t := by rw [ent_M h 0 v t hd]; rfl
          have y0 : u (entH h 0 v t 0) = u (h 39 &&& ~~~3#64) := by rw [ent_M h 0 v t hd, show upd (entM h 0 (cau v) t) 65 0#64 0 = hdl (h 39) (cau v) from rfl]; unfold hdl; rw [cc, ct, cn, hq]; rfl
          have K1 : Hid (∀ w, Calls Try.prog 12 #[.agg (hV h 0 r), .int .u64 (u v), .int .u64 (u t)] w fun r' w' => r' = .returned (.agg (hV (entH h 0 v t) 3 false)) ∧ On w w') := Lib.hid (fun w => by have := enter_any h 0 r v t w; unfold entP at this; rw [hd] at this; exact this)
          generalize entH h 0 v t = y at *
          have d1 : (bits .and .u64 (u (h 35 >>> v.toNat)) 1 == 1) = false := (bit_at1 _ _).trans hb
          have d2 : ¬ bits .and .u64 (u (h 35 >>> v.toNat)) 1 = 1 := by simpa using d1
          have l1 : (bits .and .u64 (u (h 39)) 1 == 1) = false := (low_test1' _).trans hq
          have l2 : ¬ bits .and .u64 (u (h 39)) 1 = 1 := by simpa using l1
          have m1 : bits .andNot .u64 (u (h 39)) 3 = u (h 39 &&& ~~~3#64) := u_andNot _ 3#64
          clear ct cn cc hd hq v63 vn hv16 hb
          have g0 := hV_get y 3 false 0 (by omega) (by omega) (by omega)
          have g43 := hV_get y 3 false 43 (by omega) (by omega) (by omega)
          have g44 := hV_get y 3 false 44 (by omega) (by omega) (by omega)
          have s0 : ∀ wq, On (w.alloc (.cells (hV h 0 r) 28)) wq → wq.heap[w.heap.size]? = some (.cells (hV h 0 r) 28 (0, 0)) := fun _ h => h.keep (heap_alloc_new _ _)
          have hb0 := On.refl ((w.alloc (.cells (hV h 0 r) 28)))
          have hb1 : ∀ ob : Obj, On ((w.alloc (.cells (hV h 0 r) 28))) (((w.alloc (.cells (hV h 0 r) 28))).alloc ob) := fun ob => (On.refl _).alloc ob
          have c35 : ∀ wq, On (w.alloc (.cells (hV h 0 r) 28)) wq → wq.cell? ⟨w.heap.size, 35, none⟩ = some (.int .u64 (u (h 35))) := fun _ hqq => blk_cell (s0 _ hqq) 35 (hV_get h 0 r 35 (by omega) (by omega) (by omega))
          have c36 : ∀ wq, On (w.alloc (.cells (hV h 0 r) 28)) wq → wq.cell? ⟨w.heap.size, 36, none⟩ = some (.int .u64 (u (h 36))) := fun _ hqq => blk_cell (s0 _ hqq) 36 (hV_get h 0 r 36 (by omega) (by omega) (by omega))
          have c39 : ∀ wq, On (w.alloc (.cells (hV h 0 r) 28)) wq → wq.cell? ⟨w.heap.size, 39, none⟩ = some (.int .u64 (u (h 39))) := fun _ hqq => blk_cell (s0 _ hqq) 39 (hV_get h 0 r 39 (by omega) (by omega) (by omega))
          have c45 : ∀ wq, On (w.alloc (.cells (hV h 0 r) 28)) wq → wq.cell? ⟨w.heap.size, 45, none⟩ = some (.int .u64 (u (h 45))) := fun _ hqq => blk_cell (s0 _ hqq) 45 (hV_get h 0 r 45 (by omega) (by omega) (by omega))
          have cP : ∀ wq, On (w.alloc (.cells (hV h 0 r) 28)) wq → wq.cell? ⟨w.heap.size, 1, none⟩ = some (.int .i64 0) := fun _ hqq => blk_cell (s0 _ hqq) 1 (hV_priv h 0 r)
          have HB : Hid (On w ((w.alloc (.cells (hV h 0 r) 28)))) := Lib.hid ((On.refl w).alloc _)
          go_enter Try.func9, Try.ntmps9
          go_wp2_with (first | ((with_reducible apply hrt_ld); (case ho => exact rfl); (case hgd => exact rfl); (case hx => exact rfl); (case hg => (first | exact s0 _ (by first | exact hb0 | exact hb1 _) | exact heap_alloc_new _ _))) | ((with_reducible apply hrt_new_st); (case ho => exact rfl); (case hgd => exact rfl); (case hx => exact rfl); (case hy => exact rfl)))
          go_quiet (fail)
          rename_i nq
          have hb' := on_drawn ((w.alloc (.cells (hV h 0 r) 28))) nq
          generalize hwn : ((w.alloc (.cells (hV h 0 r) 28))).drewN nq = w1 at *
          clear hwn
          have hb := hb'
          replace s0 := fun wq (hqq : On w1 wq) => s0 wq (hb.trans hqq)
          replace c35 := fun wq (hqq : On w1 wq) => c35 wq (hb.trans hqq)
          replace c36 := fun wq (hqq : On w1 wq) => c36 wq (hb.trans hqq)
          replace c39 := fun wq (hqq : On w1 wq) => c39 wq (hb.trans hqq)
          replace c45 := fun wq (hqq : On w1 wq) => c45 wq (hb.trans hqq)
          replace cP := fun wq (hqq : On w1 wq) => cP wq (hb.trans hqq)
          replace hb0 := On.refl w1
          replace hb1 : ∀ ob : Obj, On w1 (w1.alloc ob) := fun ob => (On.refl w1).alloc ob
          have HB := Lib.hid (HB.out.trans hb)
          clear hb hb'
          go_wp2_with (first | ((with_reducible apply hrt_ld); (case ho => exact rfl); (case hgd => exact rfl); (case hx => exact rfl); (case hg => (first | exact s0 _ (by first | exact hb0 | exact hb1 _) | exact heap_alloc_new _ _))) | ((with_reducible apply hrt_new_st); (case ho => exact rfl); (case hgd => exact rfl); (case hx => exact rfl); (case hy => exact rfl)))
          go_at_call 12; refine (K1.out _).mono ?_; rintro _ w2 ⟨rfl, hb'⟩
          have hb := hb'
          replace s0 := fun wq (h : On w2 wq) => s0 wq (hb.trans h)
          replace c35 := fun wq (h : On w2 wq) => c35 wq (hb.trans h)
          replace c36 := fun wq (h : On w2 wq) => c36 wq (hb.trans h)
          replace c39 := fun wq (h : On w2 wq) => c39 wq (hb.trans h)
          replace c45 := fun wq (h : On w2 wq) => c45 wq (hb.trans h)
          replace cP := fun wq (h : On w2 wq) => cP wq (hb.trans h)
          replace hb0 := On.refl w2
          replace hb1 : ∀ ob : Obj, On w2 (w2.alloc ob) := fun ob => (On.refl w2).alloc ob
          have HB := Lib.hid (HB.out.trans hb)
          clear hb hb'
          go_wp2_with (first | ((with_reducible apply hrt_ld); (case ho => exact rfl); (case hgd => exact rfl); (case hx => exact rfl); (case hg => (first | exact s0 _ (by first | exact hb0 | exact hb1 _) | exact heap_alloc_new _ _))) | ((with_reducible apply hrt_new_st); (case ho => exact rfl); (case hgd => exact rfl); (case hx => exact rfl); (case hy => exact rfl)))
          go_quiet (fail)
          rename_i nq
          have hb' := on_drawn (w2.alloc (.cells (hV y 3 false) 28)) nq
          generalize hwn : (w2.alloc (.cells (hV y 3 false) 28)).drewN nq = w3 at *
          clear hwn
          have s1 := fun wq (hqq : On w3 wq) => (hb'.trans hqq).keep (heap_alloc_new _ _)
          have hb := (hb1 _).trans hb'
          replace s0 := fun wq (hqq : On w3 wq) => s0 wq (hb.trans hqq)
          replace c35 := fun wq (hqq : On w3 wq) => c35 wq (hb.trans hqq)
          replace c36 := fun wq (hqq : On w3 wq) => c36 wq (hb.trans hqq)
          replace c39 := fun wq (hqq : On w3 wq) => c39 wq (hb.trans hqq)
          replace c45 := fun wq (hqq : On w3 wq) => c45 wq (hb.trans hqq)
          replace cP := fun wq (hqq : On w3 wq) => cP wq (hb.trans hqq)
          replace hb0 := On.refl w3
          replace hb1 : ∀ ob : Obj, On w3 (w3.alloc ob) := fun ob => (On.refl w3).alloc ob
          have HB := Lib.hid (HB.out.trans hb)
          clear hb hb'
          have y0c := fun wq (hqq : On w3 wq) => blk_cell (s1 wq hqq) 0 g0
          have y1c := fun wq (hqq : On w3 wq) => blk_cell (s1 wq hqq) 43 g43
          have y3c := fun wq (hqq : On w3 wq) => blk_cell (s1 wq hqq) 44 g44
          have yPc := fun wq (hqq : On w3 wq) => blk_cell (s1 wq hqq) 1 (hV_priv y 3 false)
          go_wp2_with (first | ((with_reducible apply hrt_ld); (case ho => exact rfl); (case hgd => exact rfl); (case hx => exact rfl); (case hg => (first | exact s0 _ (by first | exact hb0 | exact hb1 _) | exact s1 _ (by first | exact hb0 | exact hb1 _) | exact heap_alloc_new _ _))) | ((with_reducible apply hrt_new_st); (case ho => exact rfl); (case hgd => exact rfl); (case hx => exact rfl); (case hy => exact rfl)))
          go_at_call 11; refine (awake8_yes _).mono ?_; rintro _ w4 ⟨rfl, hb'⟩
          have hb := hb'
          replace s0 := fun wq (h : On w4 wq) => s0 wq (hb.trans h)
          replace s1 := fun wq (h : On w4 wq) => s1 wq (hb.trans h)
          replace c35 := fun wq (h : On w4 wq) => c35 wq (hb.trans h)
          replace c36 := fun wq (h : On w4 wq) => c36 wq (hb.trans h)
          replace c39 := fun wq (h : On w4 wq) => c39 wq (hb.trans h)
          replace c45 := fun wq (h : On w4 wq) => c45 wq (hb.trans h)
          replace cP := fun wq (h : On w4 wq) => cP wq (hb.trans h)
          replace y0c := fun wq (h : On w4 wq) => y0c wq (hb.trans h)
          replace y1c := fun wq (h : On w4 wq) => y1c wq (hb.trans h)
          replace y3c := fun wq (h : On w4 wq) => y3c wq (hb.trans h)
          replace yPc := fun wq (h : On w4 wq) => yPc wq (hb.trans h)
          replace hb0 := On.refl w4
          replace hb1 : ∀ ob : Obj, On w4 (w4.alloc ob) := fun ob => (On.refl w4).alloc ob
          have HB := Lib.hid (HB.out.trans hb)
          clear hb hb'
          go_wp2
          go_ret
          exact ⟨rfl, HB.out⟩
        · have ct : v.getLsbD 63 = false := v63
          have cn : v &&& 63#64 = v := vn
          have cc : cau v = v := cau_low16 hv16
          have hd : dlg h 0 v = false := by unfold dlg; rw [ct, cn]; exact hb
          have y1 : u (entH h 0 v t 43) = u v := by rw [ent_M h 0 v t hd, cc]; rfl
          have y3 : u (entH h 0 v t 44) = u t := by rw [ent_M h 0 v t hd]; rfl
          have y0 : u (entH h 0 v t 0) = u (h 39 &&& ~~~3#64) := by rw [ent_M h 0 v t hd, show upd (entM h 0 (cau v) t) 65 0#64 0 = hdl (h 39) (cau v) from rfl]; unfold hdl; rw [cc, ct, cn, hq]; rfl
          have K1 : Hid (∀ w, Calls Try.prog 12 #[.agg (hV h 0 r), .int .u64 (u v), .int .u64 (u t)] w fun r' w' => r' = .returned (.agg (hV (entH h 0 v t) 3 false)) ∧ On w w') := Lib.hid (fun w => by have := enter_any h 0 r v t w; unfold entP at this; rw [hd] at this; exact this)
          generalize entH h 0 v t = y at *
          have d1 : (bits .and .u64 (u (h 35 >>> v.toNat)) 1 == 1) = false := (bit_at1 _ _).trans hb
          have d2 : ¬ bits .and .u64 (u (h 35 >>> v.toNat)) 1 = 1 := by simpa using d1
          have l1 : (bits .and .u64 (u (h 39)) 1 == 1) = true := (low_test1' _).trans hq
          have l2 : bits .and .u64 (u (h 39)) 1 = 1 := by simpa using l1
          have m1 : bits .andNot .u64 (u (h 39)) 3 = u (h 39 &&& ~~~3#64) := u_andNot _ 3#64
          clear ct cn cc hd hq v63 vn hv16 hb
          have g0 := hV_get y 3 false 0 (by omega) (by omega) (by omega)
          have g43 := hV_get y 3 false 43 (by omega) (by omega) (by omega)
          have g44 := hV_get y 3 false 44 (by omega) (by omega) (by omega)
          have s0 : ∀ wq, On (w.alloc (.cells (hV h 0 r) 28)) wq → wq.heap[w.heap.size]? = some (.cells (hV h 0 r) 28 (0, 0)) := fun _ h => h.keep (heap_alloc_new _ _)
          have hb0 := On.refl ((w.alloc (.cells (hV h 0 r) 28)))
          have hb1 : ∀ ob : Obj, On ((w.alloc (.cells (hV h 0 r) 28))) (((w.alloc (.cells (hV h 0 r) 28))).alloc ob) := fun ob => (On.refl _).alloc ob
          have c35 : ∀ wq, On (w.alloc (.cells (hV h 0 r) 28)) wq → wq.cell? ⟨w.heap.size, 35, none⟩ = some (.int .u64 (u (h 35))) := fun _ hqq => blk_cell (s0 _ hqq) 35 (hV_get h 0 r 35 (by omega) (by omega) (by omega))
          have c36 : ∀ wq, On (w.alloc (.cells (hV h 0 r) 28)) wq → wq.cell? ⟨w.heap.size, 36, none⟩ = some (.int .u64 (u (h 36))) := fun _ hqq => blk_cell (s0 _ hqq) 36 (hV_get h 0 r 36 (by omega) (by omega) (by omega))
          have c39 : ∀ wq, On (w.alloc (.cells (hV h 0 r) 28)) wq → wq.cell? ⟨w.heap.size, 39, none⟩ = some (.int .u64 (u (h 39))) := fun _ hqq => blk_cell (s0 _ hqq) 39 (hV_get h 0 r 39 (by omega) (by omega) (by omega))
          have c45 : ∀ wq, On (w.alloc (.cells (hV h 0 r) 28)) wq → wq.cell? ⟨w.heap.size, 45, none⟩ = some (.int .u64 (u (h 45))) := fun _ hqq => blk_cell (s0 _ hqq) 45 (hV_get h 0 r 45 (by omega) (by omega) (by omega))
          have cP : ∀ wq, On (w.alloc (.cells (hV h 0 r) 28)) wq → wq.cell? ⟨w.heap.size, 1, none⟩ = some (.int .i64 0) := fun _ hqq => blk_cell (s0 _ hqq) 1 (hV_priv h 0 r)
          have HB : Hid (On w ((w.alloc (.cells (hV h 0 r) 28)))) := Lib.hid ((On.refl w).alloc _)
          go_enter Try.func9, Try.ntmps9
          go_wp2_with (first | ((with_reducible apply hrt_ld); (case ho => exact rfl); (case hgd => exact rfl); (case hx => exact rfl); (case hg => (first | exact s0 _ (by first | exact hb0 | exact hb1 _) | exact heap_alloc_new _ _))) | ((with_reducible apply hrt_new_st); (case ho => exact rfl); (case hgd => exact rfl); (case hx => exact rfl); (case hy => exact rfl)))
          go_quiet (fail)
          rename_i nq
          have hb' := on_drawn ((w.alloc (.cells (hV h 0 r) 28))) nq
          generalize hwn : ((w.alloc (.cells (hV h 0 r) 28))).drewN nq = w1 at *
          clear hwn
          have hb := hb'
          replace s0 := fun wq (hqq : On w1 wq) => s0 wq (hb.trans hqq)
          replace c35 := fun wq (hqq : On w1 wq) => c35 wq (hb.trans hqq)
          replace c36 := fun wq (hqq : On w1 wq) => c36 wq (hb.trans hqq)
          replace c39 := fun wq (hqq : On w1 wq) => c39 wq (hb.trans hqq)
          replace c45 := fun wq (hqq : On w1 wq) => c45 wq (hb.trans hqq)
          replace cP := fun wq (hqq : On w1 wq) => cP wq (hb.trans hqq)
          replace hb0 := On.refl w1
          replace hb1 : ∀ ob : Obj, On w1 (w1.alloc ob) := fun ob => (On.refl w1).alloc ob
          have HB := Lib.hid (HB.out.trans hb)
          clear hb hb'
          go_wp2_with (first | ((with_reducible apply hrt_ld); (case ho => exact rfl); (case hgd => exact rfl); (case hx => exact rfl); (case hg => (first | exact s0 _ (by first | exact hb0 | exact hb1 _) | exact heap_alloc_new _ _))) | ((with_reducible apply hrt_new_st); (case ho => exact rfl); (case hgd => exact rfl); (case hx => exact rfl); (case hy => exact rfl)))
          go_at_call 12; refine (K1.out _).mono ?_; rintro _ w2 ⟨rfl, hb'⟩
          have hb := hb'
          replace s0 := fun wq (h : On w2 wq) => s0 wq (hb.trans h)
          replace c35 := fun wq (h : On w2 wq) => c35 wq (hb.trans h)
          replace c36 := fun wq (h : On w2 wq) => c36 wq (hb.trans h)
          replace c39 := fun wq (h : On w2 wq) => c39 wq (hb.trans h)
          replace c45 := fun wq (h : On w2 wq) => c45 wq (hb.trans h)
          replace cP := fun wq (h : On w2 wq) => cP wq (hb.trans h)
          replace hb0 := On.refl w2
          replace hb1 : ∀ ob : Obj, On w2 (w2.alloc ob) := fun ob => (On.refl w2).alloc ob
          have HB := Lib.hid (HB.out.trans hb)
          clear hb hb'
          go_wp2_with (first | ((with_reducible apply hrt_ld); (case ho => exact rfl); (case hgd => exact rfl); (case hx => exact rfl); (case hg => (first | exact s0 _ (by first | exact hb0 | exact hb1 _) | exact heap_alloc_new _ _))) | ((with_reducible apply hrt_new_st); (case ho => exact rfl); (case hgd => exact rfl); (case hx => exact rfl); (case hy => exact rfl)))
          go_quiet (fail)
          rename_i nq
          have hb' := on_drawn (w2.alloc (.cells (hV y 3 false) 28)) nq
          generalize hwn : (w2.alloc (.cells (hV y 3 false) 28)).drewN nq = w3 at *
          clear hwn
          have s1 := fun wq (hqq : On w3 wq) => (hb'.trans hqq).keep (heap_alloc_new _ _)
          have hb := (hb1 _).trans hb'
          replace s0 := fun wq (hqq : On w3 wq) => s0 wq (hb.trans hqq)
          replace c35 := fun wq (hqq : On w3 wq) => c35 wq (hb.trans hqq)
          replace c36 := fun wq (hqq : On w3 wq) => c36 wq (hb.trans hqq)
          replace c39 := fun wq (hqq : On w3 wq) => c39 wq (hb.trans hqq)
          replace c45 := fun wq (hqq : On w3 wq) => c45 wq (hb.trans hqq)
          replace cP := fun wq (hqq : On w3 wq) => cP wq (hb.trans hqq)
          replace hb0 := On.refl w3
          replace hb1 : ∀ ob : Obj, On w3 (w3.alloc ob) := fun ob => (On.refl w3).alloc ob
          have HB := Lib.hid (HB.out.trans hb)
          clear hb hb'
          have y0c := fun wq (hqq : On w3 wq) => blk_cell (s1 wq hqq) 0 g0
          have y1c := fun wq (hqq : On w3 wq) => blk_cell (s1 wq hqq) 43 g43
          have y3c := fun wq (hqq : On w3 wq) => blk_cell (s1 wq hqq) 44 g44
          have yPc := fun wq (hqq : On w3 wq) => blk_cell (s1 wq hqq) 1 (hV_priv y 3 false)
          go_wp2_with (first | ((with_reducible apply hrt_ld); (case ho => exact rfl); (case hgd => exact rfl); (case hx => exact rfl); (case hg => (first | exact s0 _ (by first | exact hb0 | exact hb1 _) | exact s1 _ (by first | exact hb0 | exact hb1 _) | exact heap_alloc_new _ _))) | ((with_reducible apply hrt_new_st); (case ho => exact rfl); (case hgd => exact rfl); (case hx => exact rfl); (case hy => exact rfl)))
          go_at_call 11; refine (awake8_yes _).mono ?_; rintro _ w4 ⟨rfl, hb'⟩
          have hb := hb'
          replace s0 := fun wq (h : On w4 wq) => s0 wq (hb.trans h)
          replace s1 := fun wq (h : On w4 wq) => s1 wq (hb.trans h)
          replace c35 := fun wq (h : On w4 wq) => c35 wq (hb.trans h)
          replace c36 := fun wq (h : On w4 wq) => c36 wq (hb.trans h)
          replace c39 := fun wq (h : On w4 wq) => c39 wq (hb.trans h)
          replace c45 := fun wq (h : On w4 wq) => c45 wq (hb.trans h)
          replace cP := fun wq (h : On w4 wq) => cP wq (hb.trans h)
          replace y0c := fun wq (h : On w4 wq) => y0c wq (hb.trans h)
          replace y1c := fun wq (h : On w4 wq) => y1c wq (hb.trans h)
          replace y3c := fun wq (h : On w4 wq) => y3c wq (hb.trans h)
          replace yPc := fun wq (h : On w4 wq) => yPc wq (hb.trans h)
          replace hb0 := On.refl w4
          replace hb1 : ∀ ob : Obj, On w4 (w4.alloc ob) := fun ob => (On.refl w4).alloc ob
          have HB := Lib.hid (HB.out.trans hb)
          clear hb hb'
          go_wp2
          go_ret
          exact ⟨rfl, HB.out⟩
      · cases hq : (h 45).getLsbD 0
        · have ct : v.getLsbD 63 = false := v63
          have cn : v &&& 63#64 = v := vn
          have cc : cau v = v := cau_low16 hv16
          have hd : dlg h 0 v = true := by unfold dlg; rw [ct, cn]; exact hb
          have y1 : u (entH h 0 v t 49) = u v := by rw [ent_S h 0 v t hd, cc]; rfl
          have y3 : u (entH h 0 v t 50) = u t := by rw [ent_S h 0 v t hd]; rfl
          have y0 : u (entH h 0 v t 0) = u (h 45 &&& ~~~3#64) := by rw [ent_S h 0 v t hd, show upd (entS h 0 (cau v) t) 65 0#64 0 = hdl (h 45) (cau v) from rfl]; unfold hdl; rw [cc, ct, cn, hq]; rfl
          have K1 : Hid (∀ w, Calls Try.prog 12 #[.agg (hV h 0 r), .int .u64 (u v), .int .u64 (u t)] w fun r' w' => r' = .returned (.agg (hV (entH h 0 v t) 1 false)) ∧ On w w') := Lib.hid (fun w => by have := enter_any h 0 r v t w; unfold entP at this; rw [hd] at this; exact this)
          generalize entH h 0 v t = y at *
          have d1 : (bits .and .u64 (u (h 35 >>> v.toNat)) 1 == 1) = true := (bit_at1 _ _).trans hb
          have d2 : bits .and .u64 (u (h 35 >>> v.toNat)) 1 = 1 := by simpa using d1
          have l1 : (bits .and .u64 (u (h 45)) 1 == 1) = false := (low_test1' _).trans hq
          have l2 : ¬ bits .and .u64 (u (h 45)) 1 = 1 := by simpa using l1
          have m1 : bits .andNot .u64 (u (h 45)) 3 = u (h 45 &&& ~~~3#64) := u_andNot _ 3#64
          clear ct cn cc hd hq v63 vn hv16 hb
          have g0 := hV_get y 1 false 0 (by omega) (by omega) (by omega)
          have g49 := hV_get y 1 false 49 (by omega) (by omega) (by omega)
          have g50 := hV_get y 1 false 50 (by omega) (by omega) (by omega)
          have s0 : ∀ wq, On (w.alloc (.cells (hV h 0 r) 28)) wq → wq.heap[w.heap.size]? = some (.cells (hV h 0 r) 28 (0, 0)) := fun _ h => h.keep (heap_alloc_new _ _)
          have hb0 := On.refl ((w.alloc (.cells (hV h 0 r) 28)))
          have hb1 : ∀ ob : Obj, On ((w.alloc (.cells (hV h 0 r) 28))) (((w.alloc (.cells (hV h 0 r) 28))).alloc ob) := fun ob => (On.refl _).alloc ob
          have c35 : ∀ wq, On (w.alloc (.cells (hV h 0 r) 28)) wq → wq.cell? ⟨w.heap.size, 35, none⟩ = some (.int .u64 (u (h 35))) := fun _ hqq => blk_cell (s0 _ hqq) 35 (hV_get h 0 r 35 (by omega) (by omega) (by omega))
          have c36 : ∀ wq, On (w.alloc (.cells (hV h 0 r) 28)) wq → wq.cell? ⟨w.heap.size, 36, none⟩ = some (.int .u64 (u (h 36))) := fun _ hqq => blk_cell (s0 _ hqq) 36 (hV_get h 0 r 36 (by omega) (by omega) (by omega))
          have c39 : ∀ wq, On (w.alloc (.cells (hV h 0 r) 28)) wq → wq.cell? ⟨w.heap.size, 39, none⟩ = some (.int .u64 (u (h 39))) := fun _ hqq => blk_cell (s0 _ hqq) 39 (hV_get h 0 r 39 (by omega) (by omega) (by omega))
          have c45 : ∀ wq, On (w.alloc (.cells (hV h 0 r) 28)) wq → wq.cell? ⟨w.heap.size, 45, none⟩ = some (.int .u64 (u (h 45))) := fun _ hqq => blk_cell (s0 _ hqq) 45 (hV_get h 0 r 45 (by omega) (by omega) (by omega))
          have cP : ∀ wq, On (w.alloc (.cells (hV h 0 r) 28)) wq → wq.cell? ⟨w.heap.size, 1, none⟩ = some (.int .i64 0) := fun _ hqq => blk_cell (s0 _ hqq) 1 (hV_priv h 0 r)
          have HB : Hid (On w ((w.alloc (.cells (hV h 0 r) 28)))) := Lib.hid ((On.refl w).alloc _)
          go_enter Try.func9, Try.ntmps9
          go_wp2_with (first | ((with_reducible apply hrt_ld); (case ho => exact rfl); (case hgd => exact rfl); (case hx => exact rfl); (case hg => (first | exact s0 _ (by first | exact hb0 | exact hb1 _) | exact heap_alloc_new _ _))) | ((with_reducible apply hrt_new_st); (case ho => exact rfl); (case hgd => exact rfl); (case hx => exact rfl); (case hy => exact rfl)))
          go_quiet (fail)
          rename_i nq
          have hb' := on_drawn ((w.alloc (.cells (hV h 0 r) 28))) nq
          generalize hwn : ((w.alloc (.cells (hV h 0 r) 28))).drewN nq = w1 at *
          clear hwn
          have hb := hb'
          replace s0 := fun wq (hqq : On w1 wq) => s0 wq (hb.trans hqq)
          replace c35 := fun wq (hqq : On w1 wq) => c35 wq (hb.trans hqq)
          replace c36 := fun wq (hqq : On w1 wq) => c36 wq (hb.trans hqq)
          replace c39 := fun wq (hqq : On w1 wq) => c39 wq (hb.trans hqq)
          replace c45 := fun wq (hqq : On w1 wq) => c45 wq (hb.trans hqq)
          replace cP := fun wq (hqq : On w1 wq) => cP wq (hb.trans hqq)
          replace hb0 := On.refl w1
          replace hb1 : ∀ ob : Obj, On w1 (w1.alloc ob) := fun ob => (On.refl w1).alloc ob
          have HB := Lib.hid (HB.out.trans hb)
          clear hb hb'
          go_wp2_with (first | ((with_reducible apply hrt_ld); (case ho => exact rfl); (case hgd => exact rfl); (case hx => exact rfl); (case hg => (first | exact s0 _ (by first | exact hb0 | exact hb1 _) | exact heap_alloc_new _ _))) | ((with_reducible apply hrt_new_st); (case ho => exact rfl); (case hgd => exact rfl); (case hx => exact rfl); (case hy => exact rfl)))
          go_at_call 12; refine (K1.out _).mono ?_; rintro _ w2 ⟨rfl, hb'⟩
          have hb := hb'
          replace s0 := fun wq (h : On w2 wq) => s0 wq (hb.trans h)
          replace c35 := fun wq (h : On w2 wq) => c35 wq (hb.trans h)
          replace c36 := fun wq (h : On w2 wq) => c36 wq (hb.trans h)
          replace c39 := fun wq (h : On w2 wq) => c39 wq (hb.trans h)
          replace c45 := fun wq (h : On w2 wq) => c45 wq (hb.trans h)
          replace cP := fun wq (h : On w2 wq) => cP wq (hb.trans h)
          replace hb0 := On.refl w2
          replace hb1 : ∀ ob : Obj, On w2 (w2.alloc ob) := fun ob => (On.refl w2).alloc ob
          have HB := Lib.hid (HB.out.trans hb)
          clear hb hb'
          go_wp2_with (first | ((with_reducible apply hrt_ld); (case ho => exact rfl); (case hgd => exact rfl); (case hx => exact rfl); (case hg => (first | exact s0 _ (by first | exact hb0 | exact hb1 _) | exact heap_alloc_new _ _))) | ((with_reducible apply hrt_new_st); (case ho => exact rfl); (case hgd => exact rfl); (case hx => exact rfl); (case hy => exact rfl)))
          go_quiet (fail)
          rename_i nq
          have hb' := on_drawn (w2.alloc (.cells (hV y 1 false) 28)) nq
          generalize hwn : (w2.alloc (.cells (hV y 1 false) 28)).drewN nq = w3 at *
          clear hwn
          have s1 := fun wq (hqq : On w3 wq) => (hb'.trans hqq).keep (heap_alloc_new _ _)
          have hb := (hb1 _).trans hb'
          replace s0 := fun wq (hqq : On w3 wq) => s0 wq (hb.trans hqq)
          replace c35 := fun wq (hqq : On w3 wq) => c35 wq (hb.trans hqq)
          replace c36 := fun wq (hqq : On w3 wq) => c36 wq (hb.trans hqq)
          replace c39 := fun wq (hqq : On w3 wq) => c39 wq (hb.trans hqq)
          replace c45 := fun wq (hqq : On w3 wq) => c45 wq (hb.trans hqq)
          replace cP := fun wq (hqq : On w3 wq) => cP wq (hb.trans hqq)
          replace hb0 := On.refl w3
          replace hb1 : ∀ ob : Obj, On w3 (w3.alloc ob) := fun ob => (On.refl w3).alloc ob
          have HB := Lib.hid (HB.out.trans hb)
          clear hb hb'
          have y0c := fun wq (hqq : On w3 wq) => blk_cell (s1 wq hqq) 0 g0
          have y1c := fun wq (hqq : On w3 wq) => blk_cell (s1 wq hqq) 49 g49
          have y3c := fun wq (hqq : On w3 wq) => blk_cell (s1 wq hqq) 50 g50
          have yPc := fun wq (hqq : On w3 wq) => blk_cell (s1 wq hqq) 1 (hV_priv y 1 false)
          go_wp2_with (first | ((with_reducible apply hrt_ld); (case ho => exact rfl); (case hgd => exact rfl); (case hx => exact rfl); (case hg => (first | exact s0 _ (by first | exact hb0 | exact hb1 _) | exact s1 _ (by first | exact hb0 | exact hb1 _) | exact heap_alloc_new _ _))) | ((with_reducible apply hrt_new_st); (case ho => exact rfl); (case hgd => exact rfl); (case hx => exact rfl); (case hy => exact rfl)))
          go_quiet (fail)
          rename_i nq
          have hb' := on_drawn (w3) nq
          generalize hwn : (w3).drewN nq = w4 at *
          clear hwn
          have hb := hb'
          replace s0 := fun wq (hqq : On w4 wq) => s0 wq (hb.trans hqq)
          replace s1 := fun wq (hqq : On w4 wq) => s1 wq (hb.trans hqq)
          replace c35 := fun wq (hqq : On w4 wq) => c35 wq (hb.trans hqq)
          replace c36 := fun wq (hqq : On w4 wq) => c36 wq (hb.trans hqq)
          replace c39 := fun wq (hqq : On w4 wq) => c39 wq (hb.trans hqq)
          replace c45 := fun wq (hqq : On w4 wq) => c45 wq (hb.trans hqq)
          replace cP := fun wq (hqq : On w4 wq) => cP wq (hb.trans hqq)
          replace y0c := fun wq (hqq : On w4 wq) => y0c wq (hb.trans hqq)
          replace y1c := fun wq (hqq : On w4 wq) => y1c wq (hb.trans hqq)
          replace y3c := fun wq (hqq : On w4 wq) => y3c wq (hb.trans hqq)
          replace yPc := fun wq (hqq : On w4 wq) => yPc wq (hb.trans hqq)
          replace hb0 := On.refl w4
          replace hb1 : ∀ ob : Obj, On w4 (w4.alloc ob) := fun ob => (On.refl w4).alloc ob
          have HB := Lib.hid (HB.out.trans hb)
          clear hb hb'
          go_wp2_with (first | ((with_reducible apply hrt_ld); (case ho => exact rfl); (case hgd => exact rfl); (case hx => exact rfl); (case hg => (first | exact s0 _ (by first | exact hb0 | exact hb1 _) | exact s1 _ (by first | exact hb0 | exact hb1 _) | exact heap_alloc_new _ _))) | ((with_reducible apply hrt_new_st); (case ho => exact rfl); (case hgd => exact rfl); (case hx => exact rfl); (case hy => exact rfl)))
          go_at_call 11; refine (awake8_yes _).mono ?_; rintro _ w5 ⟨rfl, hb'⟩
          have hb := hb'
          replace s0 := fun wq (h : On w5 wq) => s0 wq (hb.trans h)
          replace s1 := fun wq (h : On w5 wq) => s1 wq (hb.trans h)
          replace c35 := fun wq (h : On w5 wq) => c35 wq (hb.trans h)
          replace c36 := fun wq (h : On w5 wq) => c36 wq (hb.trans h)
          replace c39 := fun wq (h : On w5 wq) => c39 wq (hb.trans h)
          replace c45 := fun wq (h : On w5 wq) => c45 wq (hb.trans h)
          replace cP := fun wq (h : On w5 wq) => cP wq (hb.trans h)
          replace y0c := fun wq (h : On w5 wq) => y0c wq (hb.trans h)
          replace y1c := fun wq (h : On w5 wq) => y1c wq (hb.trans h)
          replace y3c := fun wq (h : On w5 wq) => y3c wq (hb.trans h)
          replace yPc := fun wq (h : On w5 wq) => yPc wq (hb.trans h)
          replace hb0 := On.refl w5
          replace hb1 : ∀ ob : Obj, On w5 (w5.alloc ob) := fun ob => (On.refl w5).alloc ob
          have HB := Lib.hid (HB.out.trans hb)
          clear hb hb'
          go_wp2
          go_ret
          exact ⟨rfl, HB.out⟩
        · have ct : v.getLsbD 63 = false := v63
          have cn : v &&& 63#64 = v := vn
          have cc : cau v = v := cau_low16 hv16
          have hd : dlg h 0 v = true := by unfold dlg; rw [ct, cn]; exact hb
          have y1 : u (entH h 0 v t 49) = u v := by rw [ent_S h 0 v t hd, cc]; rfl
          have y3 : u (entH h 0 v t 50) = u t := by rw [ent_S h 0 v t hd]; rfl
          have y0 : u (entH h 0 v t 0) = u (h 45 &&& ~~~3#64) := by rw [ent_S h 0 v t hd, show upd (entS h 0 (cau v) t) 65 0#64 0 = hdl (h 45) (cau v) from rfl]; unfold hdl; rw [cc, ct, cn, hq]; rfl
          have K1 : Hid (∀ w, Calls Try.prog 12 #[.agg (hV h 0 r), .int .u64 (u v), .int .u64 (u t)] w fun r' w' => r' = .returned (.agg (hV (entH h 0 v t) 1 false)) ∧ On w w') := Lib.hid (fun w => by have := enter_any h 0 r v t w; unfold entP at this; rw [hd] at this; exact this)
          generalize entH h 0 v t = y at *
          have d1 : (bits .and .u64 (u (h 35 >>> v.toNat)) 1 == 1) = true := (bit_at1 _ _).trans hb
          have d2 : bits .and .u64 (u (h 35 >>> v.toNat)) 1 = 1 := by simpa using d1
          have l1 : (bits .and .u64 (u (h 45)) 1 == 1) = true := (low_test1' _).trans hq
          have l2 : bits .and .u64 (u (h 45)) 1 = 1 := by simpa using l1
          have m1 : bits .andNot .u64 (u (h 45)) 3 = u (h 45 &&& ~~~3#64) := u_andNot _ 3#64
          clear ct cn cc hd hq v63 vn hv16 hb
          have g0 := hV_get y 1 false 0 (by omega) (by omega) (by omega)
          have g49 := hV_get y 1 false 49 (by omega) (by omega) (by omega)
          have g50 := hV_get y 1 false 50 (by omega) (by omega) (by omega)
          have s0 : ∀ wq, On (w.alloc (.cells (hV h 0 r) 28)) wq → wq.heap[w.heap.size]? = some (.cells (hV h 0 r) 28 (0, 0)) := fun _ h => h.keep (heap_alloc_new _ _)
          have hb0 := On.refl ((w.alloc (.cells (hV h 0 r) 28)))
          have hb1 : ∀ ob : Obj, On ((w.alloc (.cells (hV h 0 r) 28))) (((w.alloc (.cells (hV h 0 r) 28))).alloc ob) := fun ob => (On.refl _).alloc ob
          have c35 : ∀ wq, On (w.alloc (.cells (hV h 0 r) 28)) wq → wq.cell? ⟨w.heap.size, 35, none⟩ = some (.int .u64 (u (h 35))) := fun _ hqq => blk_cell (s0 _ hqq) 35 (hV_get h 0 r 35 (by omega) (by omega) (by omega))
          have c36 : ∀ wq, On (w.alloc (.cells (hV h 0 r) 28)) wq → wq.cell? ⟨w.heap.size, 36, none⟩ = some (.int .u64 (u (h 36))) := fun _ hqq => blk_cell (s0 _ hqq) 36 (hV_get h 0 r 36 (by omega) (by omega) (by omega))
          have c39 : ∀ wq, On (w.alloc (.cells (hV h 0 r) 28)) wq → wq.cell? ⟨w.heap.size, 39, none⟩ = some (.int .u64 (u (h 39))) := fun _ hqq => blk_cell (s0 _ hqq) 39 (hV_get h 0 r 39 (by omega) (by omega) (by omega))
          have c45 : ∀ wq, On (w.alloc (.cells (hV h 0 r) 28)) wq → wq.cell? ⟨w.heap.size, 45, none⟩ = some (.int .u64 (u (h 45))) := fun _ hqq => blk_cell (s0 _ hqq) 45 (hV_get h 0 r 45 (by omega) (by omega) (by omega))
          have cP : ∀ wq, On (w.alloc (.cells (hV h 0 r) 28)) wq → wq.cell? ⟨w.heap.size, 1, none⟩ = some (.int .i64 0) := fun _ hqq => blk_cell (s0 _ hqq) 1 (hV_priv h 0 r)
          have HB : Hid (On w ((w.alloc (.cells (hV h 0 r) 28)))) := Lib.hid ((On.refl w).alloc _)
          go_enter Try.func9, Try.ntmps9
          go_wp2_with (first | ((with_reducible apply hrt_ld); (case ho => exact rfl); (case hgd => exact rfl); (case hx => exact rfl); (case hg => (first | exact s0 _ (by first | exact hb0 | exact hb1 _) | exact heap_alloc_new _ _))) | ((with_reducible apply hrt_new_st); (case ho => exact rfl); (case hgd => exact rfl); (case hx => exact rfl); (case hy => exact rfl)))
          go_quiet (fail)
          rename_i nq
          have hb' := on_drawn ((w.alloc (.cells (hV h 0 r) 28))) nq
          generalize hwn : ((w.alloc (.cells (hV h 0 r) 28))).drewN nq = w1 at *
          clear hwn
          have hb := hb'
          replace s0 := fun wq (hqq : On w1 wq) => s0 wq (hb.trans hqq)
          replace c35 := fun wq (hqq : On w1 wq) => c35 wq (hb.trans hqq)
          replace c36 := fun wq (hqq : On w1 wq) => c36 wq (hb.trans hqq)
          replace c39 := fun wq (hqq : On w1 wq) => c39 wq (hb.trans hqq)
          replace c45 := fun wq (hqq : On w1 wq) => c45 wq (hb.trans hqq)
          replace cP := fun wq (hqq : On w1 wq) => cP wq (hb.trans hqq)
          replace hb0 := On.refl w1
          replace hb1 : ∀ ob : Obj, On w1 (w1.alloc ob) := fun ob => (On.refl w1).alloc ob
          have HB := Lib.hid (HB.out.trans hb)
          clear hb hb'
          go_wp2_with (first | ((with_reducible apply hrt_ld); (case ho => exact rfl); (case hgd => exact rfl); (case hx => exact rfl); (case hg => (first | exact s0 _ (by first | exact hb0 | exact hb1 _) | exact heap_alloc_new _ _))) | ((with_reducible apply hrt_new_st); (case ho => exact rfl); (case hgd => exact rfl); (case hx => exact rfl); (case hy => exact rfl)))
          go_at_call 12; refine (K1.out _).mono ?_; rintro _ w2 ⟨rfl, hb'⟩
          have hb := hb'
          replace s0 := fun wq (h : On w2 wq) => s0 wq (hb.trans h)
          replace c35 := fun wq (h : On w2 wq) => c35 wq (hb.trans h)
          replace c36 := fun wq (h : On w2 wq) => c36 wq (hb.trans h)
          replace c39 := fun wq (h : On w2 wq) => c39 wq (hb.trans h)
          replace c45 := fun wq (h : On w2 wq) => c45 wq (hb.trans h)
          replace cP := fun wq (h : On w2 wq) => cP wq (hb.trans h)
          replace hb0 := On.refl w2
          replace hb1 : ∀ ob : Obj, On w2 (w2.alloc ob) := fun ob => (On.refl w2).alloc ob
          have HB := Lib.hid (HB.out.trans hb)
          clear hb hb'
          go_wp2_with (first | ((with_reducible apply hrt_ld); (case ho => exact rfl); (case hgd => exact rfl); (case hx => exact rfl); (case hg => (first | exact s0 _ (by first | exact hb0 | exact hb1 _) | exact heap_alloc_new _ _))) | ((with_reducible apply hrt_new_st); (case ho => exact rfl); (case hgd => exact rfl); (case hx => exact rfl); (case hy => exact rfl)))
          go_quiet (fail)
          rename_i nq
          have hb' := on_drawn (w2.alloc (.cells (hV y 1 false) 28)) nq
          generalize hwn : (w2.alloc (.cells (hV y 1 false) 28)).drewN nq = w3 at *
          clear hwn
          have s1 := fun wq (hqq : On w3 wq) => (hb'.trans hqq).keep (heap_alloc_new _ _)
          have hb := (hb1 _).trans hb'
          replace s0 := fun wq (hqq : On w3 wq) => s0 wq (hb.trans hqq)
          replace c35 := fun wq (hqq : On w3 wq) => c35 wq (hb.trans hqq)
          replace c36 := fun wq (hqq : On w3 wq) => c36 wq (hb.trans hqq)
          replace c39 := fun wq (hqq : On w3 wq) => c39 wq (hb.trans hqq)
          replace c45 := fun wq (hqq : On w3 wq) => c45 wq (hb.trans hqq)
          replace cP := fun wq (hqq : On w3 wq) => cP wq (hb.trans hqq)
          replace hb0 := On.refl w3
          replace hb1 : ∀ ob : Obj, On w3 (w3.alloc ob) := fun ob => (On.refl w3).alloc ob
          have HB := Lib.hid (HB.out.trans hb)
          clear hb hb'
          have y0c := fun wq (hqq : On w3 wq) => blk_cell (s1 wq hqq) 0 g0
          have y1c := fun wq (hqq : On w3 wq) => blk_cell (s1 wq hqq) 49 g49
          have y3c := fun wq (hqq : On w3 wq) => blk_cell (s1 wq hqq) 50 g50
          have yPc := fun wq (hqq : On w3 wq) => blk_cell (s1 wq hqq) 1 (hV_priv y 1 false)
          go_wp2_with (first | ((with_reducible apply hrt_ld); (case ho => exact rfl); (case hgd => exact rfl); (case hx => exact rfl); (case hg => (first | exact s0 _ (by first | exact hb0 | exact hb1 _) | exact s1 _ (by first | exact hb0 | exact hb1 _) | exact heap_alloc_new _ _))) | ((with_reducible apply hrt_new_st); (case ho => exact rfl); (case hgd => exact rfl); (case hx => exact rfl); (case hy => exact rfl)))
          go_quiet (fail)
          rename_i nq
          have hb' := on_drawn (w3) nq
          generalize hwn : (w3).drewN nq = w4 at *
          clear hwn
          have hb := hb'
          replace s0 := fun wq (hqq : On w4 wq) => s0 wq (hb.trans hqq)
          replace s1 := fun wq (hqq : On w4 wq) => s1 wq (hb.trans hqq)
          replace c35 := fun wq (hqq : On w4 wq) => c35 wq (hb.trans hqq)
          replace c36 := fun wq (hqq : On w4 wq) => c36 wq (hb.trans hqq)
          replace c39 := fun wq (hqq : On w4 wq) => c39 wq (hb.trans hqq)
          replace c45 := fun wq (hqq : On w4 wq) => c45 wq (hb.trans hqq)
          replace cP := fun wq (hqq : On w4 wq) => cP wq (hb.trans hqq)
          replace y0c := fun wq (hqq : On w4 wq) => y0c wq (hb.trans hqq)
          replace y1c := fun wq (hqq : On w4 wq) => y1c wq (hb.trans hqq)
          replace y3c := fun wq (hqq : On w4 wq) => y3c wq (hb.trans hqq)
          replace yPc := fun wq (hqq : On w4 wq) => yPc wq (hb.trans hqq)
          replace hb0 := On.refl w4
          replace hb1 : ∀ ob : Obj, On w4 (w4.alloc ob) := fun ob => (On.refl w4).alloc ob
          have HB := Lib.hid (HB.out.trans hb)
          clear hb hb'
          go_wp2_with (first | ((with_reducible apply hrt_ld); (case ho => exact rfl); (case hgd => exact rfl); (case hx => exact rfl); (case hg => (first | exact s0 _ (by first | exact hb0 | exact hb1 _) | exact s1 _ (by first | exact hb0 | exact hb1 _) | exact heap_alloc_new _ _))) | ((with_reducible apply hrt_new_st); (case ho => exact rfl); (case hgd => exact rfl); (case hx => exact rfl); (case hy => exact rfl)))
          go_at_call 11; refine (awake8_yes _).mono ?_; rintro _ w5 ⟨rfl, hb'⟩
          have hb := hb'
          replace s0 := fun wq (h : On w5 wq) => s0 wq (hb.trans h)
          replace s1 := fun wq (h : On w5 wq) => s1 wq (hb.trans h)
          replace c35 := fun wq (h : On w5 wq) => c35 wq (hb.trans h)
          replace c36 := fun wq (h : On w5 wq) => c36 wq (hb.trans h)
          replace c39 := fun wq (h : On w5 wq) => c39 wq (hb.trans h)
          replace c45 := fun wq (h : On w5 wq) => c45 wq (hb.trans h)
          replace cP := fun wq (h : On w5 wq) => cP wq (hb.trans h)
          replace y0c := fun wq (h : On w5 wq) => y0c wq (hb.trans h)
          replace y1c := fun wq (h : On w5 wq) => y1c wq (hb.trans h)
          replace y3c := fun wq (h : On w5 wq) => y3c wq (hb.trans h)
          replace yPc := fun wq (h : On w5 wq) => yPc wq (hb.trans h)
          replace hb0 := On.refl w5
          replace hb1 : ∀ ob : Obj, On w5 (w5.alloc ob) := fun ob => (On.refl w5).alloc ob
          have HB := Lib.hid (HB.out.trans hb)
          clear hb hb'
          go_wp2
          go_ret
          exact ⟨rfl, HB.out⟩
    · by_cases h1 : p = 1
      · subst h1
        cases hb : (h 35).getLsbD v.toNat
        · cases hq : (h 39).getLsbD 0
          · have ct : v.getLsbD 63 = false := v63
            have cn : v &&& 63#64 = v := vn
            have cc : cau v = v := cau_low16 hv16
            have hd : dlg h 1 v = false := by unfold dlg; rw [ct, cn]; exact hb
            have y1 : u (entH h 1 v t 43) = u v := by rw [ent_M h 1 v t hd, cc]; rfl
            have y3 : u (entH h 1 v t 44) = u t := by rw [ent_M h 1 v t hd]; rfl
            have y0 : u (entH h 1 v t 0) = u (h 39 &&& ~~~3#64) := by rw [ent_M h 1 v t hd, show upd (entM h 1 (cau v) t) 65 0#64 0 = hdl (h 39) (cau v) from rfl]; unfold hdl; rw [cc, ct, cn, hq]; rfl
            have K1 : Hid (∀ w, Calls Try.prog 12 #[.agg (hV h 1 r), .int .u64 (u v), .int .u64 (u t)] w fun r' w' => r' = .returned (.agg (hV (entH h 1 v t) 3 false)) ∧ On w w') := Lib.hid (fun w => by have := enter_any h 1 r v t w; unfold entP at this; rw [hd] at this; exact this)
            generalize entH h 1 v t = y at *
            have d1 : (bits .and .u64 (u (h 35 >>> v.toNat)) 1 == 1) = false := (bit_at1 _ _).trans hb
            have d2 : ¬ bits .and .u64 (u (h 35 >>> v.toNat)) 1 = 1 := by simpa using d1
            have l1 : (bits .and .u64 (u (h 39)) 1 == 1) = false := (low_test1' _).trans hq
            have l2 : ¬ bits .and .u64 (u (h 39)) 1 = 1 := by simpa using l1
            have m1 : bits .andNot .u64 (u (h 39)) 3 = u (h 39 &&& ~~~3#64) := u_andNot _ 3#64
            clear ct cn cc hd hq v63 vn hv16 hb
            have g0 := hV_get y 3 false 0 (by omega) (by omega) (by omega)
            have g43 := hV_get y 3 false 43 (by omega) (by omega) (by omega)
            have g44 := hV_get y 3 false 44 (by omega) (by omega) (by omega)
            have s0 : ∀ wq, On (w.alloc (.cells (hV h 1 r) 28)) wq → wq.heap[w.heap.size]? = some (.cells (hV h 1 r) 28 (0, 0)) := fun _ h => h.keep (heap_alloc_new _ _)
            have hb0 := On.refl ((w.alloc (.cells (hV h 1 r) 28)))
            have hb1 : ∀ ob : Obj, On ((w.alloc (.cells (hV h 1 r) 28))) (((w.alloc (.cells (hV h 1 r) 28))).alloc ob) := fun ob => (On.refl _).alloc ob
            have c35 : ∀ wq, On (w.alloc (.cells (hV h 1 r) 28)) wq → wq.cell? ⟨w.heap.size, 35, none⟩ = some (.int .u64 (u (h 35))) := fun _ hqq => blk_cell (s0 _ hqq) 35 (hV_get h 1 r 35 (by omega) (by omega) (by omega))
            have c36 : ∀ wq, On (w.alloc (.cells (hV h 1 r) 28)) wq → wq.cell? ⟨w.heap.size, 36, none⟩ = some (.int .u64 (u (h 36))) := fun _ hqq => blk_cell (s0 _ hqq) 36 (hV_get h 1 r 36 (by omega) (by omega) (by omega))
            have c39 : ∀ wq, On (w.alloc (.cells (hV h 1 r) 28)) wq → wq.cell? ⟨w.heap.size, 39, none⟩ = some (.int .u64 (u (h 39))) := fun _ hqq => blk_cell (s0 _ hqq) 39 (hV_get h 1 r 39 (by omega) (by omega) (by omega))
            have c45 : ∀ wq, On (w.alloc (.cells (hV h 1 r) 28)) wq → wq.cell? ⟨w.heap.size, 45, none⟩ = some (.int .u64 (u (h 45))) := fun _ hqq => blk_cell (s0 _ hqq) 45 (hV_get h 1 r 45 (by omega) (by omega) (by omega))
            have cP : ∀ wq, On (w.alloc (.cells (hV h 1 r) 28)) wq → wq.cell? ⟨w.heap.size, 1, none⟩ = some (.int .i64 1) := fun _ hqq => blk_cell (s0 _ hqq) 1 (hV_priv h 1 r)
            have HB : Hid (On w ((w.alloc (.cells (hV h 1 r) 28)))) := Lib.hid ((On.refl w).alloc _)
            go_enter Try.func9, Try.ntmps9
            go_wp2_with (first | ((with_reducible apply hrt_ld); (case ho => exact rfl); (case hgd => exact rfl); (case hx => exact rfl); (case hg => (first | exact s0 _ (by first | exact hb0 | exact hb1 _) | exact heap_alloc_new _ _))) | ((with_reducible apply hrt_new_st); (case ho => exact rfl); (case hgd => exact rfl); (case hx => exact rfl); (case hy => exact rfl)))
            go_quiet (fail)
            rename_i nq
            have hb' := on_drawn ((w.alloc (.cells (hV h 1 r) 28))) nq
            generalize hwn : ((w.alloc (.cells (hV h 1 r) 28))).drewN nq = w1 at *
            clear hwn
            have hb := hb'
            replace s0 := fun wq (hqq : On w1 wq) => s0 wq (hb.trans hqq)
            replace c35 := fun wq (hqq : On w1 wq) => c35 wq (hb.trans hqq)
            replace c36 := fun wq (hqq : On w1 wq) => c36 wq (hb.trans hqq)
            replace c39 := fun wq (hqq : On w1 wq) => c39 wq (hb.trans hqq)
            replace c45 := fun wq (hqq : On w1 wq) => c45 wq (hb.trans hqq)
            replace cP := fun wq (hqq : On w1 wq) => cP wq (hb.trans hqq)
            replace hb0 := On.refl w1
            replace hb1 : ∀ ob : Obj, On w1 (w1.alloc ob) := fun ob => (On.refl w1).alloc ob
            have HB := Lib.hid (HB.out.trans hb)
            clear hb hb'
            go_wp2_with (first | ((with_reducible apply hrt_ld); (case ho => exact rfl); (case hgd => exact rfl); (case hx => exact rfl); (case hg => (first | exact s0 _ (by first | exact hb0 | exact hb1 _) | exact heap_alloc_new _ _))) | ((with_reducible apply hrt_new_st); (case ho => exact rfl); (case hgd => exact rfl); (case hx => exact rfl); (case hy => exact rfl)))
            go_at_call 12; refine (K1.out _).mono ?_; rintro _ w2 ⟨rfl, hb'⟩
            have hb := hb'
            replace s0 := fun wq (h : On w2 wq) => s0 wq (hb.trans h)
            replace c35 := fun wq (h : On w2 wq) => c35 wq (hb.trans h)
            replace c36 := fun wq (h : On w2 wq) => c36 wq (hb.trans h)
            replace c39 := fun wq (h : On w2 wq) => c39 wq (hb.trans h)
            replace c45 := fun wq (h : On w2 wq) => c45 wq (hb.trans h)
            replace cP := fun wq (h : On w2 wq) => cP wq (hb.trans h)
            replace hb0 := On.refl w2
            replace hb1 : ∀ ob : Obj, On w2 (w2.alloc ob) := fun ob => (On.refl w2).alloc ob
            have HB := Lib.hid (HB.out.trans hb)
            clear hb hb'
            go_wp2_with (first | ((with_reducible apply hrt_ld); (case ho => exact rfl); (case hgd => exact rfl); (case hx => exact rfl); (case hg => (first | exact s0 _ (by first | exact hb0 | exact hb1 _) | exact heap_alloc_new _ _))) | ((with_reducible apply hrt_new_st); (case ho => exact rfl); (case hgd => exact rfl); (case hx => exact rfl); (case hy => exact rfl)))
            go_quiet (fail)
            rename_i nq
            have hb' := on_drawn (w2.alloc (.cells (hV y 3 false) 28)) nq
            generalize hwn : (w2.alloc (.cells (hV y 3 false) 28)).drewN nq = w3 at *
            clear hwn
            have s1 := fun wq (hqq : On w3 wq) => (hb'.trans hqq).keep (heap_alloc_new _ _)
            have hb := (hb1 _).trans hb'
            replace s0 := fun wq (hqq : On w3 wq) => s0 wq (hb.trans hqq)
            replace c35 := fun wq (hqq : On w3 wq) => c35 wq (hb.trans hqq)
            replace c36 := fun wq (hqq : On w3 wq) => c36 wq (hb.trans hqq)
            replace c39 := fun wq (hqq : On w3 wq) => c39 wq (hb.trans hqq)
            replace c45 := fun wq (hqq : On w3 wq) => c45 wq (hb.trans hqq)
            replace cP := fun wq (hqq : On w3 wq) => cP wq (hb.trans hqq)
            replace hb0 := On.refl w3
            replace hb1 : ∀ ob : Obj, On w3 (w3.alloc ob) := fun ob => (On.refl w3).alloc ob
            have HB := Lib.hid (HB.out.trans hb)
            clear hb hb'
            have y0c := fun wq (hqq : On w3 wq) => blk_cell (s1 wq hqq) 0 g0
            have y1c := fun wq (hqq : On w3 wq) => blk_cell (s1 wq hqq) 43 g43
            have y3c := fun wq (hqq : On w3 wq) => blk_cell (s1 wq hqq) 44 g44
            have yPc := fun wq (hqq : On w3 wq) => blk_cell (s1 wq hqq) 1 (hV_priv y 3 false)
            go_wp2_with (first | ((with_reducible apply hrt_ld); (case ho => exact rfl); (case hgd => exact rfl); (case hx => exact rfl); (case hg => (first | exact s0 _ (by first | exact hb0 | exact hb1 _) | exact s1 _ (by first | exact hb0 | exact hb1 _) | exact heap_alloc_new _ _))) | ((with_reducible apply hrt_new_st); (case ho => exact rfl); (case hgd => exact rfl); (case hx => exact rfl); (case hy => exact rfl)))
            go_at_call 11; refine (awake8_yes _).mono ?_; rintro _ w4 ⟨rfl, hb'⟩
            have hb := hb'
            replace s0 := fun wq (h : On w4 wq) => s0 wq (hb.trans h)
            replace s1 := fun wq (h : On w4 wq) => s1 wq (hb.trans h)
            replace c35 := fun wq (h : On w4 wq) => c35 wq (hb.trans h)
            replace c36 := fun wq (h : On w4 wq) => c36 wq (hb.trans h)
            replace c39 := fun wq (h : On w4 wq) => c39 wq (hb.trans h)
            replace c45 := fun wq (h : On w4 wq) => c45 wq (hb.trans h)
            replace cP := fun wq (h : On w4 wq) => cP wq (hb.trans h)
            replace y0c := fun wq (h : On w4 wq) => y0c wq (hb.trans h)
            replace y1c := fun wq (h : On w4 wq) => y1c wq (hb.trans h)
            replace y3c := fun wq (h : On w4 wq) => y3c wq (hb.trans h)
            replace yPc := fun wq (h : On w4 wq) => yPc wq (hb.trans h)
            replace hb0 := On.refl w4
            replace hb1 : ∀ ob : Obj, On w4 (w4.alloc ob) := fun ob => (On.refl w4).alloc ob
            have HB := Lib.hid (HB.out.trans hb)
            clear hb hb'
            go_wp2
            go_ret
            exact ⟨rfl, HB.out⟩
          · have ct : v.getLsbD 63 = false := v63
            have cn : v &&& 63#64 = v := vn
            have cc : cau v = v := cau_low16 hv16
            have hd : dlg h 1 v = false := by unfold dlg; rw [ct, cn]; exact hb
            have y1 : u (entH h 1 v t 43) = u v := by rw [ent_M h 1 v t hd, cc]; rfl
            have y3 : u (entH h 1 v t 44) = u t := by rw [ent_M h 1 v t hd]; rfl
            have y0 : u (entH h 1 v t 0) = u (h 39 &&& ~~~3#64) := by rw [ent_M h 1 v t hd, show upd (entM h 1 (cau v) t) 65 0#64 0 = hdl (h 39) (cau v) from rfl]; unfold hdl; rw [cc, ct, cn, hq]; rfl
            have K1 : Hid (∀ w, Calls Try.prog 12 #[.agg (hV h 1 r), .int .u64 (u v), .int .u64 (u t)] w fun r' w' => r' = .returned (.agg (hV (entH h 1 v t) 3 false)) ∧ On w w') := Lib.hid (fun w => by have := enter_any h 1 r v t w; unfold entP at this; rw [hd] at this; exact this)
            generalize entH h 1 v t = y at *
            have d1 : (bits .and .u64 (u (h 35 >>> v.toNat)) 1 == 1) = false := (bit_at1 _ _).trans hb
            have d2 : ¬ bits .and .u64 (u (h 35 >>> v.toNat)) 1 = 1 := by simpa using d1
            have l1 : (bits .and .u64 (u (h 39)) 1 == 1) = true := (low_test1' _).trans hq
            have l2 : bits .and .u64 (u (h 39)) 1 = 1 := by simpa using l1
            have m1 : bits .andNot .u64 (u (h 39)) 3 = u (h 39 &&& ~~~3#64) := u_andNot _ 3#64
            clear ct cn cc hd hq v63 vn hv16 hb
            have g0 := hV_get y 3 false 0 (by omega) (by omega) (by omega)
            have g43 := hV_get y 3 false 43 (by omega) (by omega) (by omega)
            have g44 := hV_get y 3 false 44 (by omega) (by omega) (by omega)
            have s0 : ∀ wq, On (w.alloc (.cells (hV h 1 r) 28)) wq → wq.heap[w.heap.size]? = some (.cells (hV h 1 r) 28 (0, 0)) := fun _ h => h.keep (heap_alloc_new _ _)
            have hb0 := On.refl ((w.alloc (.cells (hV h 1 r) 28)))
            have hb1 : ∀ ob : Obj, On ((w.alloc (.cells (hV h 1 r) 28))) (((w.alloc (.cells (hV h 1 r) 28))).alloc ob) := fun ob => (On.refl _).alloc ob
            have c35 : ∀ wq, On (w.alloc (.cells (hV h 1 r) 28)) wq → wq.cell? ⟨w.heap.size, 35, none⟩ = some (.int .u64 (u (h 35))) := fun _ hqq => blk_cell (s0 _ hqq) 35 (hV_get h 1 r 35 (by omega) (by omega) (by omega))
            have c36 : ∀ wq, On (w.alloc (.cells (hV h 1 r) 28)) wq → wq.cell? ⟨w.heap.size, 36, none⟩ = some (.int .u64 (u (h 36))) := fun _ hqq => blk_cell (s0 _ hqq) 36 (hV_get h 1 r 36 (by omega) (by omega) (by omega))
            have c39 : ∀ wq, On (w.alloc (.cells (hV h 1 r) 28)) wq → wq.cell? ⟨w.heap.size, 39, none⟩ = some (.int .u64 (u (h 39))) := fun _ hqq => blk_cell (s0 _ hqq) 39 (hV_get h 1 r 39 (by omega) (by omega) (by omega))
            have c45 : ∀ wq, On (w.alloc (.cells (hV h 1 r) 28)) wq → wq.cell? ⟨w.heap.size, 45, none⟩ = some (.int .u64 (u (h 45))) := fun _ hqq => blk_cell (s0 _ hqq) 45 (hV_get h 1 r 45 (by omega) (by omega) (by omega))
            have cP : ∀ wq, On (w.alloc (.cells (hV h 1 r) 28)) wq → wq.cell? ⟨w.heap.size, 1, none⟩ = some (.int .i64 1) := fun _ hqq => blk_cell (s0 _ hqq) 1 (hV_priv h 1 r)
            have HB : Hid (On w ((w.alloc (.cells (hV h 1 r) 28)))) := Lib.hid ((On.refl w).alloc _)
            go_enter Try.func9, Try.ntmps9
            go_wp2_with (first | ((with_reducible apply hrt_ld); (case ho => exact rfl); (case hgd => exact rfl); (case hx => exact rfl); (case hg => (first | exact s0 _ (by first | exact hb0 | exact hb1 _) | exact heap_alloc_new _ _))) | ((with_reducible apply hrt_new_st); (case ho => exact rfl); (case hgd => exact rfl); (case hx => exact rfl); (case hy => exact rfl)))
            go_quiet (fail)
            rename_i nq
            have hb' := on_drawn ((w.alloc (.cells (hV h 1 r) 28))) nq
            generalize hwn : ((w.alloc (.cells (hV h 1 r) 28))).drewN nq = w1 at *
            clear hwn
            have hb := hb'
            replace s0 := fun wq (hqq : On w1 wq) => s0 wq (hb.trans hqq)
            replace c35 := fun wq (hqq : On w1 wq) => c35 wq (hb.trans hqq)
            replace c36 := fun wq (hqq : On w1 wq) => c36 wq (hb.trans hqq)
            replace c39 := fun wq (hqq : On w1 wq) => c39 wq (hb.trans hqq)
            replace c45 := fun wq (hqq : On w1 wq) => c45 wq (hb.trans hqq)
            replace cP := fun wq (hqq : On w1 wq) => cP wq (hb.trans hqq)
            replace hb0 := On.refl w1
            replace hb1 : ∀ ob : Obj, On w1 (w1.alloc ob) := fun ob => (On.refl w1).alloc ob
            have HB := Lib.hid (HB.out.trans hb)
            clear hb hb'
            go_wp2_with (first | ((with_reducible apply hrt_ld); (case ho => exact rfl); (case hgd => exact rfl); (case hx => exact rfl); (case hg => (first | exact s0 _ (by first | exact hb0 | exact hb1 _) | exact heap_alloc_new _ _))) | ((with_reducible apply hrt_new_st); (case ho => exact rfl); (case hgd => exact rfl); (case hx => exact rfl); (case hy => exact rfl)))
            go_at_call 12; refine (K1.out _).mono ?_; rintro _ w2 ⟨rfl, hb'⟩
            have hb := hb'
            replace s0 := fun wq (h : On w2 wq) => s0 wq (hb.trans h)
            replace c35 := fun wq (h : On w2 wq) => c35 wq (hb.trans h)
            replace c36 := fun wq (h : On w2 wq) => c36 wq (hb.trans h)
            replace c39 := fun wq (h : On w2 wq) => c39 wq (hb.trans h)
            replace c45 := fun wq (h : On w2 wq) => c45 wq (hb.trans h)
            replace cP := fun wq (h : On w2 wq) => cP wq (hb.trans h)
            replace hb0 := On.refl w2
            replace hb1 : ∀ ob : Obj, On w2 (w2.alloc ob) := fun ob => (On.refl w2).alloc ob
            have HB := Lib.hid (HB.out.trans hb)
            clear hb hb'
            go_wp2_with (first | ((with_reducible apply hrt_ld); (case ho => exact rfl); (case hgd => exact rfl); (case hx => exact rfl); (case hg => (first | exact s0 _ (by first | exact hb0 | exact hb1 _) | exact heap_alloc_new _ _))) | ((with_reducible apply hrt_new_st); (case ho => exact rfl); (case hgd => exact rfl); (case hx => exact rfl); (case hy => exact rfl)))
            go_quiet (fail)
            rename_i nq
            have hb' := on_drawn (w2.alloc (.cells (hV y 3 false) 28)) nq
            generalize hwn : (w2.alloc (.cells (hV y 3 false) 28)).drewN nq = w3 at *
            clear hwn
            have s1 := fun wq (hqq : On w3 wq) => (hb'.trans hqq).keep (heap_alloc_new _ _)
            have hb := (hb1 _).trans hb'
            replace s0 := fun wq (hqq : On w3 wq) => s0 wq (hb.trans hqq)
            replace c35 := fun wq (hqq : On w3 wq) => c35 wq (hb.trans hqq)
            replace c36 := fun wq (hqq : On w3 wq) => c36 wq (hb.trans hqq)
            replace c39 := fun wq (hqq : On w3 wq) => c39 wq (hb.trans hqq)
            replace c45 := fun wq (hqq : On w3 wq) => c45 wq (hb.trans hqq)
            replace cP := fun wq (hqq : On w3 wq) => cP wq (hb.trans hqq)
            replace hb0 := On.refl w3
            replace hb1 : ∀ ob : Obj, On w3 (w3.alloc ob) := fun ob => (On.refl w3).alloc ob
            have HB := Lib.hid (HB.out.trans hb)
            clear hb hb'
            have y0c := fun wq (hqq : On w3 wq) => blk_cell (s1 wq hqq) 0 g0
            have y1c := fun wq (hqq : On w3 wq) => blk_cell (s1 wq hqq) 43 g43
            have y3c := fun wq (hqq : On w3 wq) => blk_cell (s1 wq hqq) 44 g44
            have yPc := fun wq (hqq : On w3 wq) => blk_cell (s1 wq hqq) 1 (hV_priv y 3 false)
            go_wp2_with (first | ((with_reducible apply hrt_ld); (case ho => exact rfl); (case hgd => exact rfl); (case hx => exact rfl); (case hg => (first | exact s0 _ (by first | exact hb0 | exact hb1 _) | exact s1 _ (by first | exact hb0 | exact hb1 _) | exact heap_alloc_new _ _))) | ((with_reducible apply hrt_new_st); (case ho => exact rfl); (case hgd => exact rfl); (case hx => exact rfl); (case hy => exact rfl)))
            go_at_call 11; refine (awake8_yes _).mono ?_; rintro _ w4 ⟨rfl, hb'⟩
            have hb := hb'
            replace s0 := fun wq (h : On w4 wq) => s0 wq (hb.trans h)
            replace s1 := fun wq (h : On w4 wq) => s1 wq (hb.trans h)
            replace c35 := fun wq (h : On w4 wq) => c35 wq (hb.trans h)
            replace c36 := fun wq (h : On w4 wq) => c36 wq (hb.trans h)
            replace c39 := fun wq (h : On w4 wq) => c39 wq (hb.trans h)
            replace c45 := fun wq (h : On w4 wq) => c45 wq (hb.trans h)
            replace cP := fun wq (h : On w4 wq) => cP wq (hb.trans h)
            replace y0c := fun wq (h : On w4 wq) => y0c wq (hb.trans h)
            replace y1c := fun wq (h : On w4 wq) => y1c wq (hb.trans h)
            replace y3c := fun wq (h : On w4 wq) => y3c wq (hb.trans h)
            replace yPc := fun wq (h : On w4 wq) => yPc wq (hb.trans h)
            replace hb0 := On.refl w4
            replace hb1 : ∀ ob : Obj, On w4 (w4.alloc ob) := fun ob => (On.refl w4).alloc ob
            have HB := Lib.hid (HB.out.trans hb)
            clear hb hb'
            go_wp2
            go_ret
            exact ⟨rfl, HB.out⟩
        · cases hq : (h 45).getLsbD 0
          · have ct : v.getLsbD 63 = false := v63
            have cn : v &&& 63#64 = v := vn
            have cc : cau v = v := cau_low16 hv16
            have hd : dlg h 1 v = true := by unfold dlg; rw [ct, cn]; exact hb
            have y1 : u (entH h 1 v t 49) = u v := by rw [ent_S h 1 v t hd, cc]; rfl
            have y3 : u (entH h 1 v t 50) = u t := by rw [ent_S h 1 v t hd]; rfl
            have y0 : u (entH h 1 v t 0) = u (h 45 &&& ~~~3#64) := by rw [ent_S h 1 v t hd, show upd (entS h 1 (cau v) t) 65 0#64 0 = hdl (h 45) (cau v) from rfl]; unfold hdl; rw [cc, ct, cn, hq]; rfl
            have K1 : Hid (∀ w, Calls Try.prog 12 #[.agg (hV h 1 r), .int .u64 (u v), .int .u64 (u t)] w fun r' w' => r' = .returned (.agg (hV (entH h 1 v t) 1 false)) ∧ On w w') := Lib.hid (fun w => by have := enter_any h 1 r v t w; unfold entP at this; rw [hd] at this; exact this)
            generalize entH h 1 v t = y at *
            have d1 : (bits .and .u64 (u (h 35 >>> v.toNat)) 1 == 1) = true := (bit_at1 _ _).trans hb
            have d2 : bits .and .u64 (u (h 35 >>> v.toNat)) 1 = 1 := by simpa using d1
            have l1 : (bits .and .u64 (u (h 45)) 1 == 1) = false := (low_test1' _).trans hq
            have l2 : ¬ bits .and .u64 (u (h 45)) 1 = 1 := by simpa using l1
            have m1 : bits .andNot .u64 (u (h 45)) 3 = u (h 45 &&& ~~~3#64) := u_andNot _ 3#64
            clear ct cn cc hd hq v63 vn hv16 hb
            have g0 := hV_get y 1 false 0 (by omega) (by omega) (by omega)
            have g49 := hV_get y 1 false 49 (by omega) (by omega) (by omega)
            have g50 := hV_get y 1 false 50 (by omega) (by omega) (by omega)
            have s0 : ∀ wq, On (w.alloc (.cells (hV h 1 r) 28)) wq → wq.heap[w.heap.size]? = some (.cells (hV h 1 r) 28 (0, 0)) := fun _ h => h.keep (heap_alloc_new _ _)
            have hb0 := On.refl ((w.alloc (.cells (hV h 1 r) 28)))
            have hb1 : ∀ ob : Obj, On ((w.alloc (.cells (hV h 1 r) 28))) (((w.alloc (.cells (hV h 1 r) 28))).alloc ob) := fun ob => (On.refl _).alloc ob
            have c35 : ∀ wq, On (w.alloc (.cells (hV h 1 r) 28)) wq → wq.cell? ⟨w.heap.size, 35, none⟩ = some (.int .u64 (u (h 35))) := fun _ hqq => blk_cell (s0 _ hqq) 35 (hV_get h 1 r 35 (by omega) (by omega) (by omega))
            have c36 : ∀ wq, On (w.alloc (.cells (hV h 1 r) 28)) wq → wq.cell? ⟨w.heap.size, 36, none⟩ = some (.int .u64 (u (h 36))) := fun _ hqq => blk_cell (s0 _ hqq) 36 (hV_get h 1 r 36 (by omega) (by omega) (by omega))
            have c39 : ∀ wq, On (w.alloc (.cells (hV h 1 r) 28)) wq → wq.cell? ⟨w.heap.size, 39, none⟩ = some (.int .u64 (u (h 39))) := fun _ hqq => blk_cell (s0 _ hqq) 39 (hV_get h 1 r 39 (by omega) (by omega) (by omega))
            have c45 : ∀ wq, On (w.alloc (.cells (hV h 1 r) 28)) wq → wq.cell? ⟨w.heap.size, 45, none⟩ = some (.int .u64 (u (h 45))) := fun _ hqq => blk_cell (s0 _ hqq) 45 (hV_get h 1 r 45 (by omega) (by omega) (by omega))
            have cP : ∀ wq, On (w.alloc (.cells (hV h 1 r) 28)) wq → wq.cell? ⟨w.heap.size, 1, none⟩ = some (.int .i64 1) := fun _ hqq => blk_cell (s0 _ hqq) 1 (hV_priv h 1 r)
            have HB : Hid (On w ((w.alloc (.cells (hV h 1 r) 28)))) := Lib.hid ((On.refl w).alloc _)
            go_enter Try.func9, Try.ntmps9
            go_wp2_with (first | ((with_reducible apply hrt_ld); (case ho => exact rfl); (case hgd => exact rfl); (case hx => exact rfl); (case hg => (first | exact s0 _ (by first | exact hb0 | exact hb1 _) | exact heap_alloc_new _ _))) | ((with_reducible apply hrt_new_st); (case ho => exact rfl); (case hgd => exact rfl); (case hx => exact rfl); (case hy => exact rfl)))
            go_quiet (fail)
            rename_i nq
            have hb' := on_drawn ((w.alloc (.cells (hV h 1 r) 28))) nq
            generalize hwn : ((w.alloc (.cells (hV h 1 r) 28))).drewN nq = w1 at *
            clear hwn
            have hb := hb'
            replace s0 := fun wq (hqq : On w1 wq) => s0 wq (hb.trans hqq)
            replace c35 := fun wq (hqq : On w1 wq) => c35 wq (hb.trans hqq)
            replace c36 := fun wq (hqq : On w1 wq) => c36 wq (hb.trans hqq)
            replace c39 := fun wq (hqq : On w1 wq) => c39 wq (hb.trans hqq)
            replace c45 := fun wq (hqq : On w1 wq) => c45 wq (hb.trans hqq)
            replace cP := fun wq (hqq : On w1 wq) => cP wq (hb.trans hqq)
            replace hb0 := On.refl w1
            replace hb1 : ∀ ob : Obj, On w1 (w1.alloc ob) := fun ob => (On.refl w1).alloc ob
            have HB := Lib.hid (HB.out.trans hb)
            clear hb hb'
            go_wp2_with (first | ((with_reducible apply hrt_ld); (case ho => exact rfl); (case hgd => exact rfl); (case hx => exact rfl); (case hg => (first | exact s0 _ (by first | exact hb0 | exact hb1 _) | exact heap_alloc_new _ _))) | ((with_reducible apply hrt_new_st); (case ho => exact rfl); (case hgd => exact rfl); (case hx => exact rfl); (case hy => exact rfl)))
            go_at_call 12; refine (K1.out _).mono ?_; rintro _ w2 ⟨rfl, hb'⟩
            have hb := hb'
            replace s0 := fun wq (h : On w2 wq) => s0 wq (hb.trans h)
            replace c35 := fun wq (h : On w2 wq) => c35 wq (hb.trans h)
            replace c36 := fun wq (h : On w2 wq) => c36 wq (hb.trans h)
            replace c39 := fun wq (h : On w2 wq) => c39 wq (hb.trans h)
            replace c45 := fun wq (h : On w2 wq) => c45 wq (hb.trans h)
            replace cP := fun wq (h : On w2 wq) => cP wq (hb.trans h)
            replace hb0 := On.refl w2
            replace hb1 : ∀ ob : Obj, On w2 (w2.alloc ob) := fun ob => (On.refl w2).alloc ob
            have HB := Lib.hid (HB.out.trans hb)
            clear hb hb'
            go_wp2_with (first | ((with_reducible apply hrt_ld); (case ho => exact rfl); (case hgd => exact rfl); (case hx => exact rfl); (case hg => (first | exact s0 _ (by first | exact hb0 | exact hb1 _) | exact heap_alloc_new _ _))) | ((with_reducible apply hrt_new_st); (case ho => exact rfl); (case hgd => exact rfl); (case hx => exact rfl); (case hy => exact rfl)))
            go_quiet (fail)
            rename_i nq
            have hb' := on_drawn (w2.alloc (.cells (hV y 1 false) 28)) nq
            generalize hwn : (w2.alloc (.cells (hV y 1 false) 28)).drewN nq = w3 at *
            clear hwn
            have s1 := fun wq (hqq : On w3 wq) => (hb'.trans hqq).keep (heap_alloc_new _ _)
            have hb := (hb1 _).trans hb'
            replace s0 := fun wq (hqq : On w3 wq) => s0 wq (hb.trans hqq)
            replace c35 := fun wq (hqq : On w3 wq) => c35 wq (hb.trans hqq)
            replace c36 := fun wq (hqq : On w3 wq) => c36 wq (hb.trans hqq)
            replace c39 := fun wq (hqq : On w3 wq) => c39 wq (hb.trans hqq)
            replace c45 := fun wq (hqq : On w3 wq) => c45 wq (hb.trans hqq)
            replace cP := fun wq (hqq : On w3 wq) => cP wq (hb.trans hqq)
            replace hb0 := On.refl w3
            replace hb1 : ∀ ob : Obj, On w3 (w3.alloc ob) := fun ob => (On.refl w3).alloc ob
            have HB := Lib.hid (HB.out.trans hb)
            clear hb hb'
            have y0c := fun wq (hqq : On w3 wq) => blk_cell (s1 wq hqq) 0 g0
            have y1c := fun wq (hqq : On w3 wq) => blk_cell (s1 wq hqq) 49 g49
            have y3c := fun wq (hqq : On w3 wq) => blk_cell (s1 wq hqq) 50 g50
            have yPc := fun wq (hqq : On w3 wq) => blk_cell (s1 wq hqq) 1 (hV_priv y 1 false)
            go_wp2_with (first | ((with_reducible apply hrt_ld); (case ho => exact rfl); (case hgd => exact rfl); (case hx => exact rfl); (case hg => (first | exact s0 _ (by first | exact hb0 | exact hb1 _) | exact s1 _ (by first | exact hb0 | exact hb1 _) | exact heap_alloc_new _ _))) | ((with_reducible apply hrt_new_st); (case ho => exact rfl); (case hgd => exact rfl); (case hx => exact rfl); (case hy => exact rfl)))
            go_quiet (fail)
            rename_i nq
            have hb' := on_drawn (w3) nq
            generalize hwn : (w3).drewN nq = w4 at *
            clear hwn
            have hb := hb'
            replace s0 := fun wq (hqq : On w4 wq) => s0 wq (hb.trans hqq)
            replace s1 := fun wq (hqq : On w4 wq) => s1 wq (hb.trans hqq)
            replace c35 := fun wq (hqq : On w4 wq) => c35 wq (hb.trans hqq)
            replace c36 := fun wq (hqq : On w4 wq) => c36 wq (hb.trans hqq)
            replace c39 := fun wq (hqq : On w4 wq) => c39 wq (hb.trans hqq)
            replace c45 := fun wq (hqq : On w4 wq) => c45 wq (hb.trans hqq)
            replace cP := fun wq (hqq : On w4 wq) => cP wq (hb.trans hqq)
            replace y0c := fun wq (hqq : On w4 wq) => y0c wq (hb.trans hqq)
            replace y1c := fun wq (hqq : On w4 wq) => y1c wq (hb.trans hqq)
            replace y3c := fun wq (hqq : On w4 wq) => y3c wq (hb.trans hqq)
            replace yPc := fun wq (hqq : On w4 wq) => yPc wq (hb.trans hqq)
            replace hb0 := On.refl w4
            replace hb1 : ∀ ob : Obj, On w4 (w4.alloc ob) := fun ob => (On.refl w4).alloc ob
            have HB := Lib.hid (HB.out.trans hb)
            clear hb hb'
            go_wp2_with (first | ((with_reducible apply hrt_ld); (case ho => exact rfl); (case hgd => exact rfl); (case hx => exact rfl); (case hg => (first | exact s0 _ (by first | exact hb0 | exact hb1 _) | exact s1 _ (by first | exact hb0 | exact hb1 _) | exact heap_alloc_new _ _))) | ((with_reducible apply hrt_new_st); (case ho => exact rfl); (case hgd => exact rfl); (case hx => exact rfl); (case hy => exact rfl)))
            go_at_call 11; refine (awake8_yes _).mono ?_; rintro _ w5 ⟨rfl, hb'⟩
            have hb := hb'
            replace s0 := fun wq (h : On w5 wq) => s0 wq (hb.trans h)
            replace s1 := fun wq (h : On w5 wq) => s1 wq (hb.trans h)
            replace c35 := fun wq (h : On w5 wq) => c35 wq (hb.trans h)
            replace c36 := fun wq (h : On w5 wq) => c36 wq (hb.trans h)
            replace c39 := fun wq (h : On w5 wq) => c39 wq (hb.trans h)
            replace c45 := fun wq (h : On w5 wq) => c45 wq (hb.trans h)
            replace cP := fun wq (h : On w5 wq) => cP wq (hb.trans h)
            replace y0c := fun wq (h : On w5 wq) => y0c wq (hb.trans h)
            replace y1c := fun wq (h : On w5 wq) => y1c wq (hb.trans h)
            replace y3c := fun wq (h : On w5 wq) => y3c wq (hb.trans h)
            replace yPc := fun wq (h : On w5 wq) => yPc wq (hb.trans h)
            replace hb0 := On.refl w5
            replace hb1 : ∀ ob : Obj, On w5 (w5.alloc ob) := fun ob => (On.refl w5).alloc ob
            have HB := Lib.hid (HB.out.trans hb)
            clear hb hb'
            go_wp2
            go_ret
            exact ⟨rfl, HB.out⟩
          · have ct : v.getLsbD 63 = false := v63
            have cn : v &&& 63#64 = v := vn
            have cc : cau v = v := cau_low16 hv16
            have hd : dlg h 1 v = true := by unfold dlg; rw [ct, cn]; exact hb
            have y1 : u (entH h 1 v t 49) = u v := by rw [ent_S h 1 v t hd, cc]; rfl
            have y3 : u (entH h 1 v t 50) = u t := by rw [ent_S h 1 v t hd]; rfl
            have y0 : u (entH h 1 v t 0) = u (h 45 &&& ~~~3#64) := by rw [ent_S h 1 v t hd, show upd (entS h 1 (cau v) t) 65 0#64 0 = hdl (h 45) (cau v) from rfl]; unfold hdl; rw [cc, ct, cn, hq]; rfl
            have K1 : Hid (∀ w, Calls Try.prog 12 #[.agg (hV h 1 r), .int .u64 (u v), .int .u64 (u t)] w fun r' w' => r' = .returned (.agg (hV (entH h 1 v t) 1 false)) ∧ On w w') := Lib.hid (fun w => by have := enter_any h 1 r v t w; unfold entP at this; rw [hd] at this; exact this)
            generalize entH h 1 v t = y at *
            have d1 : (bits .and .u64 (u (h 35 >>> v.toNat)) 1 == 1) = true := (bit_at1 _ _).trans hb
            have d2 : bits .and .u64 (u (h 35 >>> v.toNat)) 1 = 1 := by simpa using d1
            have l1 : (bits .and .u64 (u (h 45)) 1 == 1) = true := (low_test1' _).trans hq
            have l2 : bits .and .u64 (u (h 45)) 1 = 1 := by simpa using l1
            have m1 : bits .andNot .u64 (u (h 45)) 3 = u (h 45 &&& ~~~3#64) := u_andNot _ 3#64
            clear ct cn cc hd hq v63 vn hv16 hb
            have g0 := hV_get y 1 false 0 (by omega) (by omega) (by omega)
            have g49 := hV_get y 1 false 49 (by omega) (by omega) (by omega)
            have g50 := hV_get y 1 false 50 (by omega) (by omega) (by omega)
            have s0 : ∀ wq, On (w.alloc (.cells (hV h 1 r) 28)) wq → wq.heap[w.heap.size]? = some (.cells (hV h 1 r) 28 (0, 0)) := fun _ h => h.keep (heap_alloc_new _ _)
            have hb0 := On.refl ((w.alloc (.cells (hV h 1 r) 28)))
            have hb1 : ∀ ob : Obj, On ((w.alloc (.cells (hV h 1 r) 28))) (((w.alloc (.cells (hV h 1 r) 28))).alloc ob) := fun ob => (On.refl _).alloc ob
            have c35 : ∀ wq, On (w.alloc (.cells (hV h 1 r) 28)) wq → wq.cell? ⟨w.heap.size, 35, none⟩ = some (.int .u64 (u (h 35))) := fun _ hqq => blk_cell (s0 _ hqq) 35 (hV_get h 1 r 35 (by omega) (by omega) (by omega))
            have c36 : ∀ wq, On (w.alloc (.cells (hV h 1 r) 28)) wq → wq.cell? ⟨w.heap.size, 36, none⟩ = some (.int .u64 (u (h 36))) := fun _ hqq => blk_cell (s0 _ hqq) 36 (hV_get h 1 r 36 (by omega) (by omega) (by omega))
            have c39 : ∀ wq, On (w.alloc (.cells (hV h 1 r) 28)) wq → wq.cell? ⟨w.heap.size, 39, none⟩ = some (.int .u64 (u (h 39))) := fun _ hqq => blk_cell (s0 _ hqq) 39 (hV_get h 1 r 39 (by omega) (by omega) (by omega))
            have c45 : ∀ wq, On (w.alloc (.cells (hV h 1 r) 28)) wq → wq.cell? ⟨w.heap.size, 45, none⟩ = some (.int .u64 (u (h 45))) := fun _ hqq => blk_cell (s0 _ hqq) 45 (hV_get h 1 r 45 (by omega) (by omega) (by omega))
            have cP : ∀ wq, On (w.alloc (.cells (hV h 1 r) 28)) wq → wq.cell? ⟨w.heap.size, 1, none⟩ = some (.int .i64 1) := fun _ hqq => blk_cell (s0 _ hqq) 1 (hV_priv h 1 r)
            have HB : Hid (On w ((w.alloc (.cells (hV h 1 r) 28)))) := Lib.hid ((On.refl w).alloc _)
            go_enter Try.func9, Try.ntmps9
            go_wp2_with (first | ((with_reducible apply hrt_ld); (case ho => exact rfl); (case hgd => exact rfl); (case hx => exact rfl); (case hg => (first | exact s0 _ (by first | exact hb0 | exact hb1 _) | exact heap_alloc_new _ _))) | ((with_reducible apply hrt_new_st); (case ho => exact rfl); (case hgd => exact rfl); (case hx => exact rfl); (case hy => exact rfl)))
            go_quiet (fail)
            rename_i nq
            have hb' := on_drawn ((w.alloc (.cells (hV h 1 r) 28))) nq
            generalize hwn : ((w.alloc (.cells (hV h 1 r) 28))).drewN nq = w1 at *
            clear hwn
            have hb := hb'
            replace s0 := fun wq (hqq : On w1 wq) => s0 wq (hb.trans hqq)
            replace c35 := fun wq (hqq : On w1 wq) => c35 wq (hb.trans hqq)
            replace c36 := fun wq (hqq : On w1 wq) => c36 wq (hb.trans hqq)
            replace c39 := fun wq (hqq : On w1 wq) => c39 wq (hb.trans hqq)
            replace c45 := fun wq (hqq : On w1 wq) => c45 wq (hb.trans hqq)
            replace cP := fun wq (hqq : On w1 wq) => cP wq (hb.trans hqq)
            replace hb0 := On.refl w1
            replace hb1 : ∀ ob : Obj, On w1 (w1.alloc ob) := fun ob => (On.refl w1).alloc ob
            have HB := Lib.hid (HB.out.trans hb)
            clear hb hb'
            go_wp2_with (first | ((with_reducible apply hrt_ld); (case ho => exact rfl); (case hgd => exact rfl); (case hx => exact rfl); (case hg => (first | exact s0 _ (by first | exact hb0 | exact hb1 _) | exact heap_alloc_new _ _))) | ((with_reducible apply hrt_new_st); (case ho => exact rfl); (case hgd => exact rfl); (case hx => exact rfl); (case hy => exact rfl)))
            go_at_call 12; refine (K1.out _).mono ?_; rintro _ w2 ⟨rfl, hb'⟩
            have hb := hb'
            replace s0 := fun wq (h : On w2 wq) => s0 wq (hb.trans h)
            replace c35 := fun wq (h : On w2 wq) => c35 wq (hb.trans h)
            replace c36 := fun wq (h : On w2 wq) => c36 wq (hb.trans h)
            replace c39 := fun wq (h : On w2 wq) => c39 wq (hb.trans h)
            replace c45 := fun wq (h : On w2 wq) => c45 wq (hb.trans h)
            replace cP := fun wq (h : On w2 wq) => cP wq (hb.trans h)
            replace hb0 := On.refl w2
            replace hb1 : ∀ ob : Obj, On w2 (w2.alloc ob) := fun ob => (On.refl w2).alloc ob
            have HB := Lib.hid (HB.out.trans hb)
            clear hb hb'
            go_wp2_with (first | ((with_reducible apply hrt_ld); (case ho => exact rfl); (case hgd => exact rfl); (case hx => exact rfl); (case hg => (first | exact s0 _ (by first | exact hb0 | exact hb1 _) | exact heap_alloc_new _ _))) | ((with_reducible apply hrt_new_st); (case ho => exact rfl); (case hgd => exact rfl); (case hx => exact rfl); (case hy => exact rfl)))
            go_quiet (fail)
            rename_i nq
            have hb' := on_drawn (w2.alloc (.cells (hV y 1 false) 28)) nq
            generalize hwn : (w2.alloc (.cells (hV y 1 false) 28)).drewN nq = w3 at *
            clear hwn
            have s1 := fun wq (hqq : On w3 wq) => (hb'.trans hqq).keep (heap_alloc_new _ _)
            have hb := (hb1 _).trans hb'
            replace s0 := fun wq (hqq : On w3 wq) => s0 wq (hb.trans hqq)
            replace c35 := fun wq (hqq : On w3 wq) => c35 wq (hb.trans hqq)
            replace c36 := fun wq (hqq : On w3 wq) => c36 wq (hb.trans hqq)
            replace c39 := fun wq (hqq : On w3 wq) => c39 wq (hb.trans hqq)
            replace c45 := fun wq (hqq : On w3 wq) => c45 wq (hb.trans hqq)
            replace cP := fun wq (hqq : On w3 wq) => cP wq (hb.trans hqq)
            replace hb0 := On.refl w3
            replace hb1 : ∀ ob : Obj, On w3 (w3.alloc ob) := fun ob => (On.refl w3).alloc ob
            have HB := Lib.hid (HB.out.trans hb)
            clear hb hb'
            have y0c := fun wq (hqq : On w3 wq) => blk_cell (s1 wq hqq) 0 g0
            have y1c := fun wq (hqq : On w3 wq) => blk_cell (s1 wq hqq) 49 g49
            have y3c := fun wq (hqq : On w3 wq) => blk_cell (s1 wq hqq) 50 g50
            have yPc := fun wq (hqq : On w3 wq) => blk_cell (s1 wq hqq) 1 (hV_priv y 1 false)
            go_wp2_with (first | ((with_reducible apply hrt_ld); (case ho => exact rfl); (case hgd => exact rfl); (case hx => exact rfl); (case hg => (first | exact s0 _ (by first | exact hb0 | exact hb1 _) | exact s1 _ (by first | exact hb0 | exact hb1 _) | exact heap_alloc_new _ _))) | ((with_reducible apply hrt_new_st); (case ho => exact rfl); (case hgd => exact rfl); (case hx => exact rfl); (case hy => exact rfl)))
            go_quiet (fail)
            rename_i nq
            have hb' := on_drawn (w3) nq
            generalize hwn : (w3).drewN nq = w4 at *
            clear hwn
            have hb := hb'
            replace s0 := fun wq (hqq : On w4 wq) => s0 wq (hb.trans hqq)
            replace s1 := fun wq (hqq : On w4 wq) => s1 wq (hb.trans hqq)
            replace c35 := fun wq (hqq : On w4 wq) => c35 wq (hb.trans hqq)
            replace c36 := fun wq (hqq : On w4 wq) => c36 wq (hb.trans hqq)
            replace c39 := fun wq (hqq : On w4 wq) => c39 wq (hb.trans hqq)
            replace c45 := fun wq (hqq : On w4 wq) => c45 wq (hb.trans hqq)
            replace cP := fun wq (hqq : On w4 wq) => cP wq (hb.trans hqq)
            replace y0c := fun wq (hqq : On w4 wq) => y0c wq (hb.trans hqq)
            replace y1c := fun wq (hqq : On w4 wq) => y1c wq (hb.trans hqq)
            replace y3c := fun wq (hqq : On w4 wq) => y3c wq (hb.trans hqq)
            replace yPc := fun wq (hqq : On w4 wq) => yPc wq (hb.trans hqq)
            replace hb0 := On.refl w4
            replace hb1 : ∀ ob : Obj, On w4 (w4.alloc ob) := fun ob => (On.refl w4).alloc ob
            have HB := Lib.hid (HB.out.trans hb)
            clear hb hb'
            go_wp2_with (first | ((with_reducible apply hrt_ld); (case ho => exact rfl); (case hgd => exact rfl); (case hx => exact rfl); (case hg => (first | exact s0 _ (by first | exact hb0 | exact hb1 _) | exact s1 _ (by first | exact hb0 | exact hb1 _) | exact heap_alloc_new _ _))) | ((with_reducible apply hrt_new_st); (case ho => exact rfl); (case hgd => exact rfl); (case hx => exact rfl); (case hy => exact rfl)))
            go_at_call 11; refine (awake8_yes _).mono ?_; rintro _ w5 ⟨rfl, hb'⟩
            have hb := hb'
            replace s0 := fun wq (h : On w5 wq) => s0 wq (hb.trans h)
            replace s1 := fun wq (h : On w5 wq) => s1 wq (hb.trans h)
            replace c35 := fun wq (h : On w5 wq) => c35 wq (hb.trans h)
            replace c36 := fun wq (h : On w5 wq) => c36 wq (hb.trans h)
            replace c39 := fun wq (h : On w5 wq) => c39 wq (hb.trans h)
            replace c45 := fun wq (h : On w5 wq) => c45 wq (hb.trans h)
            replace cP := fun wq (h : On w5 wq) => cP wq (hb.trans h)
            replace y0c := fun wq (h : On w5 wq) => y0c wq (hb.trans h)
            replace y1c := fun wq (h : On w5 wq) => y1c wq (hb.trans h)
            replace y3c := fun wq (h : On w5 wq) => y3c wq (hb.trans h)
            replace yPc := fun wq (h : On w5 wq) => yPc wq (hb.trans h)
            replace hb0 := On.refl w5
            replace hb1 : ∀ ob : Obj, On w5 (w5.alloc ob) := fun ob => (On.refl w5).alloc ob
            have HB := Lib.hid (HB.out.trans hb)
            clear hb hb'
            go_wp2
            go_ret
            exact ⟨rfl, HB.out⟩
      · cases hq : (h 39).getLsbD 0
        · have ct : v.getLsbD 63 = false := v63
          have cn : v &&& 63#64 = v := vn
          have cc : cau v = v := cau_low16 hv16
          have p0 : (p == 0) = false := by simpa using h0
          have p1 : (p == 1) = false := by simpa using h1
          have hd : dlg h p v = false := by unfold dlg; rw [p0, p1]; rfl
          have y1 : u (entH h p v t 43) = u v := by rw [ent_M h p v t hd, cc]; rfl
          have y3 : u (entH h p v t 44) = u t := by rw [ent_M h p v t hd]; rfl
          have y0 : u (entH h p v t 0) = u (h 39 &&& ~~~3#64) := by rw [ent_M h p v t hd, show upd (entM h p (cau v) t) 65 0#64 0 = hdl (h 39) (cau v) from rfl]; unfold hdl; rw [cc, ct, cn, hq]; rfl
          have K1 : Hid (∀ w, Calls Try.prog 12 #[.agg (hV h p r), .int .u64 (u v), .int .u64 (u t)] w fun r' w' => r' = .returned (.agg (hV (entH h p v t) 3 false)) ∧ On w w') := Lib.hid (fun w => by have := enter_any h p r v t w; unfold entP at this; rw [hd] at this; exact this)
          generalize entH h p v t = y at *
          have l1 : (bits .and .u64 (u (h 39)) 1 == 1) = false := (low_test1' _).trans hq
          have l2 : ¬ bits .and .u64 (u (h 39)) 1 = 1 := by simpa using l1
          have m1 : bits .andNot .u64 (u (h 39)) 3 = u (h 39 &&& ~~~3#64) := u_andNot _ 3#64
          clear ct cn cc hd hq v63 vn hv16 h0 h1
          have g0 := hV_get y 3 false 0 (by omega) (by omega) (by omega)
          have g43 := hV_get y 3 false 43 (by omega) (by omega) (by omega)
          have g44 := hV_get y 3 false 44 (by omega) (by omega) (by omega)
          have s0 : ∀ wq, On (w.alloc (.cells (hV h p r) 28)) wq → wq.heap[w.heap.size]? = some (.cells (hV h p r) 28 (0, 0)) := fun _ h => h.keep (heap_alloc_new _ _)
          have hb0 := On.refl ((w.alloc (.cells (hV h p r) 28)))
          have hb1 : ∀ ob : Obj, On ((w.alloc (.cells (hV h p r) 28))) (((w.alloc (.cells (hV h p r) 28))).alloc ob) := fun ob => (On.refl _).alloc ob
          have c35 : ∀ wq, On (w.alloc (.cells (hV h p r) 28)) wq → wq.cell? ⟨w.heap.size, 35, none⟩ = some (.int .u64 (u (h 35))) := fun _ hqq => blk_cell (s0 _ hqq) 35 (hV_get h p r 35 (by omega) (by omega) (by omega))
          have c36 : ∀ wq, On (w.alloc (.cells (hV h p r) 28)) wq → wq.cell? ⟨w.heap.size, 36, none⟩ = some (.int .u64 (u (h 36))) := fun _ hqq => blk_cell (s0 _ hqq) 36 (hV_get h p r 36 (by omega) (by omega) (by omega))
          have c39 : ∀ wq, On (w.alloc (.cells (hV h p r) 28)) wq → wq.cell? ⟨w.heap.size, 39, none⟩ = some (.int .u64 (u (h 39))) := fun _ hqq => blk_cell (s0 _ hqq) 39 (hV_get h p r 39 (by omega) (by omega) (by omega))
          have c45 : ∀ wq, On (w.alloc (.cells (hV h p r) 28)) wq → wq.cell? ⟨w.heap.size, 45, none⟩ = some (.int .u64 (u (h 45))) := fun _ hqq => blk_cell (s0 _ hqq) 45 (hV_get h p r 45 (by omega) (by omega) (by omega))
          have cP : ∀ wq, On (w.alloc (.cells (hV h p r) 28)) wq → wq.cell? ⟨w.heap.size, 1, none⟩ = some (.int .i64 p) := fun _ hqq => blk_cell (s0 _ hqq) 1 (hV_priv h p r)
          have HB : Hid (On w ((w.alloc (.cells (hV h p r) 28)))) := Lib.hid ((On.refl w).alloc _)
          go_enter Try.func9, Try.ntmps9
          go_wp2_with (first | ((with_reducible apply hrt_ld); (case ho => exact rfl); (case hgd => exact rfl); (case hx => exact rfl); (case hg => (first | exact s0 _ (by first | exact hb0 | exact hb1 _) | exact heap_alloc_new _ _))) | ((with_reducible apply hrt_new_st); (case ho => exact rfl); (case hgd => exact rfl); (case hx => exact rfl); (case hy => exact rfl)))
          go_quiet (fail)
          rename_i nq
          have hb' := on_drawn ((w.alloc (.cells (hV h p r) 28))) nq
          generalize hwn : ((w.alloc (.cells (hV h p r) 28))).drewN nq = w1 at *
          clear hwn
          have hb := hb'
          replace s0 := fun wq (hqq : On w1 wq) => s0 wq (hb.trans hqq)
          replace c35 := fun wq (hqq : On w1 wq) => c35 wq (hb.trans hqq)
          replace c36 := fun wq (hqq : On w1 wq) => c36 wq (hb.trans hqq)
          replace c39 := fun wq (hqq : On w1 wq) => c39 wq (hb.trans hqq)
          replace c45 := fun wq (hqq : On w1 wq) => c45 wq (hb.trans hqq)
          replace cP := fun wq (hqq : On w1 wq) => cP wq (hb.trans hqq)
          replace hb0 := On.refl w1
          replace hb1 : ∀ ob : Obj, On w1 (w1.alloc ob) := fun ob => (On.refl w1).alloc ob
          have HB := Lib.hid (HB.out.trans hb)
          clear hb hb'
          go_wp2_with (first | ((with_reducible apply hrt_ld); (case ho => exact rfl); (case hgd => exact rfl); (case hx => exact rfl); (case hg => (first | exact s0 _ (by first | exact hb0 | exact hb1 _) | exact heap_alloc_new _ _))) | ((with_reducible apply hrt_new_st); (case ho => exact rfl); (case hgd => exact rfl); (case hx => exact rfl); (case hy => exact rfl)))
          go_at_call 12; refine (K1.out _).mono ?_; rintro _ w2 ⟨rfl, hb'⟩
          have hb := hb'
          replace s0 := fun wq (h : On w2 wq) => s0 wq (hb.trans h)
          replace c35 := fun wq (h : On w2 wq) => c35 wq (hb.trans h)
          replace c36 := fun wq (h : On w2 wq) => c36 wq (hb.trans h)
          replace c39 := fun wq (h : On w2 wq) => c39 wq (hb.trans h)
          replace c45 := fun wq (h : On w2 wq) => c45 wq (hb.trans h)
          replace cP := fun wq (h : On w2 wq) => cP wq (hb.trans h)
          replace hb0 := On.refl w2
          replace hb1 : ∀ ob : Obj, On w2 (w2.alloc ob) := fun ob => (On.refl w2).alloc ob
          have HB := Lib.hid (HB.out.trans hb)
          clear hb hb'
          go_wp2_with (first | ((with_reducible apply hrt_ld); (case ho => exact rfl); (case hgd => exact rfl); (case hx => exact rfl); (case hg => (first | exact s0 _ (by first | exact hb0 | exact hb1 _) | exact heap_alloc_new _ _))) | ((with_reducible apply hrt_new_st); (case ho => exact rfl); (case hgd => exact rfl); (case hx => exact rfl); (case hy => exact rfl)))
          go_quiet (fail)
          rename_i nq
          have hb' := on_drawn (w2.alloc (.cells (hV y 3 false) 28)) nq
          generalize hwn : (w2.alloc (.cells (hV y 3 false) 28)).drewN nq = w3 at *
          clear hwn
          have s1 := fun wq (hqq : On w3 wq) => (hb'.trans hqq).keep (heap_alloc_new _ _)
          have hb := (hb1 _).trans hb'
          replace s0 := fun wq (hqq : On w3 wq) => s0 wq (hb.trans hqq)
          replace c35 := fun wq (hqq : On w3 wq) => c35 wq (hb.trans hqq)
          replace c36 := fun wq (hqq : On w3 wq) => c36 wq (hb.trans hqq)
          replace c39 := fun wq (hqq : On w3 wq) => c39 wq (hb.trans hqq)
          replace c45 := fun wq (hqq : On w3 wq) => c45 wq (hb.trans hqq)
          replace cP := fun wq (hqq : On w3 wq) => cP wq (hb.trans hqq)
          replace hb0 := On.refl w3
          replace hb1 : ∀ ob : Obj, On w3 (w3.alloc ob) := fun ob => (On.refl w3).alloc ob
          have HB := Lib.hid (HB.out.trans hb)
          clear hb hb'
          have y0c := fun wq (hqq : On w3 wq) => blk_cell (s1 wq hqq) 0 g0
          have y1c := fun wq (hqq : On w3 wq) => blk_cell (s1 wq hqq) 43 g43
          have y3c := fun wq (hqq : On w3 wq) => blk_cell (s1 wq hqq) 44 g44
          have yPc := fun wq (hqq : On w3 wq) => blk_cell (s1 wq hqq) 1 (hV_priv y 3 false)
          go_wp2_with (first | ((with_reducible apply hrt_ld); (case ho => exact rfl); (case hgd => exact rfl); (case hx => exact rfl); (case hg => (first | exact s0 _ (by first | exact hb0 | exact hb1 _) | exact s1 _ (by first | exact hb0 | exact hb1 _) | exact heap_alloc_new _ _))) | ((with_reducible apply hrt_new_st); (case ho => exact rfl); (case hgd => exact rfl); (case hx => exact rfl); (case hy => exact rfl)))
          go_at_call 11; refine (awake8_yes _).mono ?_; rintro _ w4 ⟨rfl, hb'⟩
          have hb := hb'
          replace s0 := fun wq (h : On w4 wq) => s0 wq (hb.trans h)
          replace s1 := fun wq (h : On w4 wq) => s1 wq (hb.trans h)
          replace c35 := fun wq (h : On w4 wq) => c35 wq (hb.trans h)
          replace c36 := fun wq (h : On w4 wq) => c36 wq (hb.trans h)
          replace c39 := fun wq (h : On w4 wq) => c39 wq (hb.trans h)
          replace c45 := fun wq (h : On w4 wq) => c45 wq (hb.trans h)
          replace cP := fun wq (h : On w4 wq) => cP wq (hb.trans h)
          replace y0c := fun wq (h : On w4 wq) => y0c wq (hb.trans h)
          replace y1c := fun wq (h : On w4 wq) => y1c wq (hb.trans h)
          replace y3c := fun wq (h : On w4 wq) => y3c wq (hb.trans h)
          replace yPc := fun wq (h : On w4 wq) => yPc wq (hb.trans h)
          replace hb0 := On.refl w4
          replace hb1 : ∀ ob : Obj, On w4 (w4.alloc ob) := fun ob => (On.refl w4).alloc ob
          have HB := Lib.hid (HB.out.trans hb)
          clear hb hb'
          go_wp2
          go_ret
          exact ⟨rfl, HB.out⟩
        · have ct : v.getLsbD 63 = false := v63
          have cn : v &&& 63#64 = v := vn
          have cc : cau v = v := cau_low16 hv16
          have p0 : (p == 0) = false := by simpa using h0
          have p1 : (p == 1) = false := by simpa using h1
          have hd : dlg h p v = false := by unfold dlg; rw [p0, p1]; rfl
          have y1 : u (entH h p v t 43) = u v := by rw [ent_M h p v t hd, cc]; rfl
          have y3 : u (entH h p v t 44) = u t := by rw [ent_M h p v t hd]; rfl
          have y0 : u (entH h p v t 0) = u (h 39 &&& ~~~3#64) := by rw [ent_M h p v t hd, show upd (entM h p (cau v) t) 65 0#64 0 = hdl (h 39) (cau v) from rfl]; unfold hdl; rw [cc, ct, cn, hq]; rfl
          have K1 : Hid (∀ w, Calls Try.prog 12 #[.agg (hV h p r), .int .u64 (u v), .int .u64 (u t)] w fun r' w' => r' = .returned (.agg (hV (entH h p v t) 3 false)) ∧ On w w') := Lib.hid (fun w => by have := enter_any h p r v t w; unfold entP at this; rw [hd] at this; exact this)
          generalize entH h p v t = y at *
          have l1 : (bits .and .u64 (u (h 39)) 1 == 1) = true := (low_test1' _).trans hq
          have l2 : bits .and .u64 (u (h 39)) 1 = 1 := by simpa using l1
          have m1 : bits .andNot .u64 (u (h 39)) 3 = u (h 39 &&& ~~~3#64) := u_andNot _ 3#64
          clear ct cn cc hd hq v63 vn hv16 h0 h1
          have g0 := hV_get y 3 false 0 (by omega) (by omega) (by omega)
          have g43 := hV_get y 3 false 43 (by omega) (by omega) (by omega)
          have g44 := hV_get y 3 false 44 (by omega) (by omega) (by omega)
          have s0 : ∀ wq, On (w.alloc (.cells (hV h p r) 28)) wq → wq.heap[w.heap.size]? = some (.cells (hV h p r) 28 (0, 0)) := fun _ h => h.keep (heap_alloc_new _ _)
          have hb0 := On.refl ((w.alloc (.cells (hV h p r) 28)))
          have hb1 : ∀ ob : Obj, On ((w.alloc (.cells (hV h p r) 28))) (((w.alloc (.cells (hV h p r) 28))).alloc ob) := fun ob => (On.refl _).alloc ob
          have c35 : ∀ wq, On (w.alloc (.cells (hV h p r) 28)) wq → wq.cell? ⟨w.heap.size, 35, none⟩ = some (.int .u64 (u (h 35))) := fun _ hqq => blk_cell (s0 _ hqq) 35 (hV_get h p r 35 (by omega) (by omega) (by omega))
          have c36 : ∀ wq, On (w.alloc (.cells (hV h p r) 28)) wq → wq.cell? ⟨w.heap.size, 36, none⟩ = some (.int .u64 (u (h 36))) := fun _ hqq => blk_cell (s0 _ hqq) 36 (hV_get h p r 36 (by omega) (by omega) (by omega))
          have c39 : ∀ wq, On (w.alloc (.cells (hV h p r) 28)) wq → wq.cell? ⟨w.heap.size, 39, none⟩ = some (.int .u64 (u (h 39))) := fun _ hqq => blk_cell (s0 _ hqq) 39 (hV_get h p r 39 (by omega) (by omega) (by omega))
          have c45 : ∀ wq, On (w.alloc (.cells (hV h p r) 28)) wq → wq.cell? ⟨w.heap.size, 45, none⟩ = some (.int .u64 (u (h 45))) := fun _ hqq => blk_cell (s0 _ hqq) 45 (hV_get h p r 45 (by omega) (by omega) (by omega))
          have cP : ∀ wq, On (w.alloc (.cells (hV h p r) 28)) wq → wq.cell? ⟨w.heap.size, 1, none⟩ = some (.int .i64 p) := fun _ hqq => blk_cell (s0 _ hqq) 1 (hV_priv h p r)
          have HB : Hid (On w ((w.alloc (.cells (hV h p r) 28)))) := Lib.hid ((On.refl w).alloc _)
          go_enter Try.func9, Try.ntmps9
          go_wp2_with (first | ((with_reducible apply hrt_ld); (case ho => exact rfl); (case hgd => exact rfl); (case hx => exact rfl); (case hg => (first | exact s0 _ (by first | exact hb0 | exact hb1 _) | exact heap_alloc_new _ _))) | ((with_reducible apply hrt_new_st); (case ho => exact rfl); (case hgd => exact rfl); (case hx => exact rfl); (case hy => exact rfl)))
          go_quiet (fail)
          rename_i nq
          have hb' := on_drawn ((w.alloc (.cells (hV h p r) 28))) nq
          generalize hwn : ((w.alloc (.cells (hV h p r) 28))).drewN nq = w1 at *
          clear hwn
          have hb := hb'
          replace s0 := fun wq (hqq : On w1 wq) => s0 wq (hb.trans hqq)
          replace c35 := fun wq (hqq : On w1 wq) => c35 wq (hb.trans hqq)
          replace c36 := fun wq (hqq : On w1 wq) => c36 wq (hb.trans hqq)
          replace c39 := fun wq (hqq : On w1 wq) => c39 wq (hb.trans hqq)
          replace c45 := fun wq (hqq : On w1 wq) => c45 wq (hb.trans hqq)
          replace cP := fun wq (hqq : On w1 wq) => cP wq (hb.trans hqq)
          replace hb0 := On.refl w1
          replace hb1 : ∀ ob : Obj, On w1 (w1.alloc ob) := fun ob => (On.refl w1).alloc ob
          have HB := Lib.hid (HB.out.trans hb)
          clear hb hb'
          go_wp2_with (first | ((with_reducible apply hrt_ld); (case ho => exact rfl); (case hgd => exact rfl); (case hx => exact rfl); (case hg => (first | exact s0 _ (by first | exact hb0 | exact hb1 _) | exact heap_alloc_new _ _))) | ((with_reducible apply hrt_new_st); (case ho => exact rfl); (case hgd => exact rfl); (case hx => exact rfl); (case hy => exact rfl)))
          go_at_call 12; refine (K1.out _).mono ?_; rintro _ w2 ⟨rfl, hb'⟩
          have hb := hb'
          replace s0 := fun wq (h : On w2 wq) => s0 wq (hb.trans h)
          replace c35 := fun wq (h : On w2 wq) => c35 wq (hb.trans h)
          replace c36 := fun wq (h : On w2 wq) => c36 wq (hb.trans h)
          replace c39 := fun wq (h : On w2 wq) => c39 wq (hb.trans h)
          replace c45 := fun wq (h : On w2 wq) => c45 wq (hb.trans h)
          replace cP := fun wq (h : On w2 wq) => cP wq (hb.trans h)
          replace hb0 := On.refl w2
          replace hb1 : ∀ ob : Obj, On w2 (w2.alloc ob) := fun ob => (On.refl w2).alloc ob
          have HB := Lib.hid (HB.out.trans hb)
          clear hb hb'
          go_wp2_with (first | ((with_reducible apply hrt_ld); (case ho => exact rfl); (case hgd => exact rfl); (case hx => exact rfl); (case hg => (first | exact s0 _ (by first | exact hb0 | exact hb1 _) | exact heap_alloc_new _ _))) | ((with_reducible apply hrt_new_st); (case ho => exact rfl); (case hgd => exact rfl); (case hx => exact rfl); (case hy => exact rfl)))
          go_quiet (fail)
          rename_i nq
          have hb' := on_drawn (w2.alloc (.cells (hV y 3 false) 28)) nq
          generalize hwn : (w2.alloc (.cells (hV y 3 false) 28)).drewN nq = w3 at *
          clear hwn
          have s1 := fun wq (hqq : On w3 wq) => (hb'.trans hqq).keep (heap_alloc_new _ _)
          have hb := (hb1 _).trans hb'
          replace s0 := fun wq (hqq : On w3 wq) => s0 wq (hb.trans hqq)
          replace c35 := fun wq (hqq : On w3 wq) => c35 wq (hb.trans hqq)
          replace c36 := fun wq (hqq : On w3 wq) => c36 wq (hb.trans hqq)
          replace c39 := fun wq (hqq : On w3 wq) => c39 wq (hb.trans hqq)
          replace c45 := fun wq (hqq : On w3 wq) => c45 wq (hb.trans hqq)
          replace cP := fun wq (hqq : On w3 wq) => cP wq (hb.trans hqq)
          replace hb0 := On.refl w3
          replace hb1 : ∀ ob : Obj, On w3 (w3.alloc ob) := fun ob => (On.refl w3).alloc ob
          have HB := Lib.hid (HB.out.trans hb)
          clear hb hb'
          have y0c := fun wq (hqq : On w3 wq) => blk_cell (s1 wq hqq) 0 g0
          have y1c := fun wq (hqq : On w3 wq) => blk_cell (s1 wq hqq) 43 g43
          have y3c := fun wq (hqq : On w3 wq) => blk_cell (s1 wq hqq) 44 g44
          have yPc := fun wq (hqq : On w3 wq) => blk_cell (s1 wq hqq) 1 (hV_priv y 3 false)
          go_wp2_with (first | ((with_reducible apply hrt_ld); (case ho => exact rfl); (case hgd => exact rfl); (case hx => exact rfl); (case hg => (first | exact s0 _ (by first | exact hb0 | exact hb1 _) | exact s1 _ (by first | exact hb0 | exact hb1 _) | exact heap_alloc_new _ _))) | ((with_reducible apply hrt_new_st); (case ho => exact rfl); (case hgd => exact rfl); (case hx => exact rfl); (case hy => exact rfl)))
          go_at_call 11; refine (awake8_yes _).mono ?_; rintro _ w4 ⟨rfl, hb'⟩
          have hb := hb'
          replace s0 := fun wq (h : On w4 wq) => s0 wq (hb.trans h)
          replace s1 := fun wq (h : On w4 wq) => s1 wq (hb.trans h)
          replace c35 := fun wq (h : On w4 wq) => c35 wq (hb.trans h)
          replace c36 := fun wq (h : On w4 wq) => c36 wq (hb.trans h)
          replace c39 := fun wq (h : On w4 wq) => c39 wq (hb.trans h)
          replace c45 := fun wq (h : On w4 wq) => c45 wq (hb.trans h)
          replace cP := fun wq (h : On w4 wq) => cP wq (hb.trans h)
          replace y0c := fun wq (h : On w4 wq) => y0c wq (hb.trans h)
          replace y1c := fun wq (h : On w4 wq) => y1c wq (hb.trans h)
          replace y3c := fun wq (h : On w4 wq) => y3c wq (hb.trans h)
          replace yPc := fun wq (h : On w4 wq) => yPc wq (hb.trans h)
          replace hb0 := On.refl w4
          replace hb1 : ∀ ob : Obj, On w4 (w4.alloc ob) := fun ob => (On.refl w4).alloc ob
          have HB := Lib.hid (HB.out.trans hb)
          clear hb hb'
          go_wp2
          go_ret
          exact ⟨rfl, HB.out⟩
  · by_cases h0 : p = 0
    · subst h0
      cases hb : (h 36).getLsbD v.toNat
      · cases hq : (h 39).getLsbD 0
        · have ct : (0x8000000000000000#64 ||| v).getLsbD 63 = true := top_set v
          have cn : (0x8000000000000000#64 ||| v) &&& 63#64 = v := by rw [top_num, vn]
          have cc : cau (0x8000000000000000#64 ||| v) = (0x8000000000000000#64 ||| v) := cau_top16 hv16
          have hd : dlg h 0 (0x8000000000000000#64 ||| v) = false := by unfold dlg; rw [ct, cn]; exact hb
          have y1 : u (entH h 0 (0x8000000000000000#64 ||| v) t 43) = u (0x8000000000000000#64 ||| v) := by rw [ent_M h 0 (0x8000000000000000#64 ||| v) t hd, cc]; rfl
          have y3 : u (entH h 0 (0x8000000000000000#64 ||| v) t 44) = u t := by rw [ent_M h 0 (0x8000000000000000#64 ||| v) t hd]; rfl
          have y0 : u (entH h 0 (0x8000000000000000#64 ||| v) t 0) = u (h 39 &&& ~~~3#64) := by rw [ent_M h 0 (0x8000000000000000#64 ||| v) t hd, show upd (entM h 0 (cau (0x8000000000000000#64 ||| v)) t) 65 0#64 0 = hdl (h 39) (cau (0x8000000000000000#64 ||| v)) from rfl]; unfold hdl; rw [cc, ct, cn, hq]; rfl
          have K1 : Hid (∀ w, Calls Try.prog 12 #[.agg (hV h 0 r), .int .u64 (u (0x8000000000000000#64 ||| v)), .int .u64 (u t)] w fun r' w' => r' = .returned (.agg (hV (entH h 0 (0x8000000000000000#64 ||| v) t) 3 false)) ∧ On w w') := Lib.hid (fun w => by have := enter_any h 0 r (0x8000000000000000#64 ||| v) t w; unfold entP at this; rw [hd] at this; exact this)
          have O1 : bits .or .u64 (u v) 9223372036854775808 = u (0x8000000000000000#64 ||| v) := by rw [show (9223372036854775808 : Int) = u 0x8000000000000000#64 from rfl, u_or, BitVec.or_comm]
          generalize entH h 0 (0x8000000000000000#64 ||| v) t = y at *
          generalize 0x8000000000000000#64 ||| v = c at *
          have d1 : (bits .and .u64 (u (h 36 >>> v.toNat)) 1 == 1) = false := (bit_at1 _ _).trans hb
          have d2 : ¬ bits .and .u64 (u (h 36 >>> v.toNat)) 1 = 1 := by simpa using d1
          have l1 : (bits .and .u64 (u (h 39)) 1 == 1) = false := (low_test1' _).trans hq
          have l2 : ¬ bits .and .u64 (u (h 39)) 1 = 1 := by simpa using l1
          have m1 : bits .andNot .u64 (u (h 39)) 3 = u (h 39 &&& ~~~3#64) := u_andNot _ 3#64
          clear ct cn cc hd hq v63 vn hv16 hb
          have g0 := hV_get y 3 false 0 (by omega) (by omega) (by omega)
          have g43 := hV_get y 3 false 43 (by omega) (by omega) (by omega)
          have g44 := hV_get y 3 false 44 (by omega) (by omega) (by omega)
          have s0 : ∀ wq, On (w.alloc (.cells (hV h 0 r) 28)) wq → wq.heap[w.heap.size]? = some (.cells (hV h 0 r) 28 (0, 0)) := fun _ h => h.keep (heap_alloc_new _ _)
          have hb0 := On.refl ((w.alloc (.cells (hV h 0 r) 28)))
          have hb1 : ∀ ob : Obj, On ((w.alloc (.cells (hV h 0 r) 28))) (((w.alloc (.cells (hV h 0 r) 28))).alloc ob) := fun ob => (On.refl _).alloc ob
          have c35 : ∀ wq, On (w.alloc (.cells (hV h 0 r) 28)) wq → wq.cell? ⟨w.heap.size, 35, none⟩ = some (.int .u64 (u (h 35))) := fun _ hqq => blk_cell (s0 _ hqq) 35 (hV_get h 0 r 35 (by omega) (by omega) (by omega))
          have c36 : ∀ wq, On (w.alloc (.cells (hV h 0 r) 28)) wq → wq.cell? ⟨w.heap.size, 36, none⟩ = some (.int .u64 (u (h 36))) := fun _ hqq => blk_cell (s0 _ hqq) 36 (hV_get h 0 r 36 (by omega) (by omega) (by omega))
          have c39 : ∀ wq, On (w.alloc (.cells (hV h 0 r) 28)) wq → wq.cell? ⟨w.heap.size, 39, none⟩ = some (.int .u64 (u (h 39))) := fun _ hqq => blk_cell (s0 _ hqq) 39 (hV_get h 0 r 39 (by omega) (by omega) (by omega))
          have c45 : ∀ wq, On (w.alloc (.cells (hV h 0 r) 28)) wq → wq.cell? ⟨w.heap.size, 45, none⟩ = some (.int .u64 (u (h 45))) := fun _ hqq => blk_cell (s0 _ hqq) 45 (hV_get h 0 r 45 (by omega) (by omega) (by omega))
          have cP : ∀ wq, On (w.alloc (.cells (hV h 0 r) 28)) wq → wq.cell? ⟨w.heap.size, 1, none⟩ = some (.int .i64 0) := fun _ hqq => blk_cell (s0 _ hqq) 1 (hV_priv h 0 r)
          have HB : Hid (On w ((w.alloc (.cells (hV h 0 r) 28)))) := Lib.hid ((On.refl w).alloc _)
          go_enter Try.func9, Try.ntmps9
          go_wp2_with (first | ((with_reducible apply hrt_ld); (case ho => exact rfl); (case hgd => exact rfl); (case hx => exact rfl); (case hg => (first | exact s0 _ (by first | exact hb0 | exact hb1 _) | exact heap_alloc_new _ _))) | ((with_reducible apply hrt_new_st); (case ho => exact rfl); (case hgd => exact rfl); (case hx => exact rfl); (case hy => exact rfl)))
          go_quiet (fail)
          rename_i nq
          have hb' := on_drawn ((w.alloc (.cells (hV h 0 r) 28))) nq
          generalize hwn : ((w.alloc (.cells (hV h 0 r) 28))).drewN nq = w1 at *
          clear hwn
          have hb := hb'
          replace s0 := fun wq (hqq : On w1 wq) => s0 wq (hb.trans hqq)
          replace c35 := fun wq (hqq : On w1 wq) => c35 wq (hb.trans hqq)
          replace c36 := fun wq (hqq : On w1 wq) => c36 wq (hb.trans hqq)
          replace c39 := fun wq (hqq : On w1 wq) => c39 wq (hb.trans hqq)
          replace c45 := fun wq (hqq : On w1 wq) => c45 wq (hb.trans hqq)
          replace cP := fun wq (hqq : On w1 wq) => cP wq (hb.trans hqq)
          replace hb0 := On.refl w1
          replace hb1 : ∀ ob : Obj, On w1 (w1.alloc ob) := fun ob => (On.refl w1).alloc ob
          have HB := Lib.hid (HB.out.trans hb)
          clear hb hb'
          go_wp2_with (first | ((with_reducible apply hrt_ld); (case ho => exact rfl); (case hgd => exact rfl); (case hx => exact rfl); (case hg => (first | exact s0 _ (by first | exact hb0 | exact hb1 _) | exact heap_alloc_new _ _))) | ((with_reducible apply hrt_new_st); (case ho => exact rfl); (case hgd => exact rfl); (case hx => exact rfl); (case hy => exact rfl)))
          go_quiet (fail)
          rename_i nq
          have hb' := on_drawn (w1) nq
          generalize hwn : (w1).drewN nq = w2 at *
          clear hwn
          have hb := hb'
          replace s0 := fun wq (hqq : On w2 wq) => s0 wq (hb.trans hqq)
          replace c35 := fun wq (hqq : On w2 wq) => c35 wq (hb.trans hqq)
          replace c36 := fun wq (hqq : On w2 wq) => c36 wq (hb.trans hqq)
          replace c39 := fun wq (hqq : On w2 wq) => c39 wq (hb.trans hqq)
          replace c45 := fun wq (hqq : On w2 wq) => c45 wq (hb.trans hqq)
          replace cP := fun wq (hqq : On w2 wq) => cP wq (hb.trans hqq)
          replace hb0 := On.refl w2
          replace hb1 : ∀ ob : Obj, On w2 (w2.alloc ob) := fun ob => (On.refl w2).alloc ob
          have HB := Lib.hid (HB.out.trans hb)
          clear hb hb'
          go_wp2_with (first | ((with_reducible apply hrt_ld); (case ho => exact rfl); (case hgd => exact rfl); (case hx => exact rfl); (case hg => (first | exact s0 _ (by first | exact hb0 | exact hb1 _) | exact heap_alloc_new _ _))) | ((with_reducible apply hrt_new_st); (case ho => exact rfl); (case hgd => exact rfl); (case hx => exact rfl); (case hy => exact rfl)))
          go_at_call 12; refine (K1.out _).mono ?_; rintro _ w3 ⟨rfl, hb'⟩
          have hb := hb'
          replace s0 := fun wq (h : On w3 wq) => s0 wq (hb.trans h)
          replace c35 := fun wq (h : On w3 wq) => c35 wq (hb.trans h)
          replace c36 := fun wq (h : On w3 wq) => c36 wq (hb.trans h)
          replace c39 := fun wq (h : On w3 wq) => c39 wq (hb.trans h)
          replace c45 := fun wq (h : On w3 wq) => c45 wq (hb.trans h)
          replace cP := fun wq (h : On w3 wq) => cP wq (hb.trans h)
          replace hb0 := On.refl w3
          replace hb1 : ∀ ob : Obj, On w3 (w3.alloc ob) := fun ob => (On.refl w3).alloc ob
          have HB := Lib.hid (HB.out.trans hb)
          clear hb hb'
          go_wp2_with (first | ((with_reducible apply hrt_ld); (case ho => exact rfl); (case hgd => exact rfl); (case hx => exact rfl); (case hg => (first | exact s0 _ (by first | exact hb0 | exact hb1 _) | exact heap_alloc_new _ _))) | ((with_reducible apply hrt_new_st); (case ho => exact rfl); (case hgd => exact rfl); (case hx => exact rfl); (case hy => exact rfl)))
          go_quiet (fail)
          rename_i nq
          have hb' := on_drawn (w3.alloc (.cells (hV y 3 false) 28)) nq
          generalize hwn : (w3.alloc (.cells (hV y 3 false) 28)).drewN nq = w4 at *
          clear hwn
          have s1 := fun wq (hqq : On w4 wq) => (hb'.trans hqq).keep (heap_alloc_new _ _)
          have hb := (hb1 _).trans hb'
          replace s0 := fun wq (hqq : On w4 wq) => s0 wq (hb.trans hqq)
          replace c35 := fun wq (hqq : On w4 wq) => c35 wq (hb.trans hqq)
          replace c36 := fun wq (hqq : On w4 wq) => c36 wq (hb.trans hqq)
          replace c39 := fun wq (hqq : On w4 wq) => c39 wq (hb.trans hqq)
          replace c45 := fun wq (hqq : On w4 wq) => c45 wq (hb.trans hqq)
          replace cP := fun wq (hqq : On w4 wq) => cP wq (hb.trans hqq)
          replace hb0 := On.refl w4
          replace hb1 : ∀ ob : Obj, On w4 (w4.alloc ob) := fun ob => (On.refl w4).alloc ob
          have HB := Lib.hid (HB.out.trans hb)
          clear hb hb'
          have y0c := fun wq (hqq : On w4 wq) => blk_cell (s1 wq hqq) 0 g0
          have y1c := fun wq (hqq : On w4 wq) => blk_cell (s1 wq hqq) 43 g43
          have y3c := fun wq (hqq : On w4 wq) => blk_cell (s1 wq hqq) 44 g44
          have yPc := fun wq (hqq : On w4 wq) => blk_cell (s1 wq hqq) 1 (hV_priv y 3 false)
          go_wp2_with (first | ((with_reducible apply hrt_ld); (case ho => exact rfl); (case hgd => exact rfl); (case hx => exact rfl); (case hg => (first | exact s0 _ (by first | exact hb0 | exact hb1 _) | exact s1 _ (by first | exact hb0 | exact hb1 _) | exact heap_alloc_new _ _))) | ((with_reducible apply hrt_new_st); (case ho => exact rfl); (case hgd => exact rfl); (case hx => exact rfl); (case hy => exact rfl)))
          go_at_call 11; refine (awake8_yes _).mono ?_; rintro _ w5 ⟨rfl, hb'⟩
          have hb := hb'
          replace s0 := fun wq (h : On w5 wq) => s0 wq (hb.trans h)
          replace s1 := fun wq (h : On w5 wq) => s1 wq (hb.trans h)
          replace c35 := fun wq (h : On w5 wq) => c35 wq (hb.trans h)
          replace c36 := fun wq (h : On w5 wq) => c36 wq (hb.trans h)
          replace c39 := fun wq (h : On w5 wq) => c39 wq (hb.trans h)
          replace c45 := fun wq (h : On w5 wq) => c45 wq (hb.trans h)
          replace cP := fun wq (h : On w5 wq) => cP wq (hb.trans h)
          replace y0c := fun wq (h : On w5 wq) => y0c wq (hb.trans h)
          replace y1c := fun wq (h : On w5 wq) => y1c wq (hb.trans h)
          replace y3c := fun wq (h : On w5 wq) => y3c wq (hb.trans h)
          replace yPc := fun wq (h : On w5 wq) => yPc wq (hb.trans h)
          replace hb0 := On.refl w5
          replace hb1 : ∀ ob : Obj, On w5 (w5.alloc ob) := fun ob => (On.refl w5).alloc ob
          have HB := Lib.hid (HB.out.trans hb)
          clear hb hb'
          go_wp2
          go_ret
          exact ⟨rfl, HB.out⟩
        · have ct : (0x8000000000000000#64 ||| v).getLsbD 63 = true := top_set v
          have cn : (0x8000000000000000#64 ||| v) &&& 63#64 = v := by rw [top_num, vn]
          have cc : cau (0x8000000000000000#64 ||| v) = (0x8000000000000000#64 ||| v) := cau_top16 hv16
          have hd : dlg h 0 (0x8000000000000000#64 ||| v) = false := by unfold dlg; rw [ct, cn]; exact hb
          have y1 : u (entH h 0 (0x8000000000000000#64 ||| v) t 43) = u (0x8000000000000000#64 ||| v) := by rw [ent_M h 0 (0x8000000000000000#64 ||| v) t hd, cc]; rfl
          have y3 : u (entH h 0 (0x8000000000000000#64 ||| v) t 44) = u t := by rw [ent_M h 0 (0x8000000000000000#64 ||| v) t hd]; rfl
          have y0 : u (entH h 0 (0x8000000000000000#64 ||| v) t 0) = u ((h 39 &&& ~~~3#64) + 4#64 * v) := by rw [ent_M h 0 (0x8000000000000000#64 ||| v) t hd, show upd (entM h 0 (cau (0x8000000000000000#64 ||| v)) t) 65 0#64 0 = hdl (h 39) (cau (0x8000000000000000#64 ||| v)) from rfl]; unfold hdl; rw [cc, ct, cn, hq]; rfl
          have K1 : Hid (∀ w, Calls Try.prog 12 #[.agg (hV h 0 r), .int .u64 (u (0x8000000000000000#64 ||| v)), .int .u64 (u t)] w fun r' w' => r' = .returned (.agg (hV (entH h 0 (0x8000000000000000#64 ||| v) t) 3 false)) ∧ On w w') := Lib.hid (fun w => by have := enter_any h 0 r (0x8000000000000000#64 ||| v) t w; unfold entP at this; rw [hd] at this; exact this)
          have O1 : bits .or .u64 (u v) 9223372036854775808 = u (0x8000000000000000#64 ||| v) := by rw [show (9223372036854775808 : Int) = u 0x8000000000000000#64 from rfl, u_or, BitVec.or_comm]
          generalize entH h 0 (0x8000000000000000#64 ||| v) t = y at *
          generalize 0x8000000000000000#64 ||| v = c at *
          have d1 : (bits .and .u64 (u (h 36 >>> v.toNat)) 1 == 1) = false := (bit_at1 _ _).trans hb
          have d2 : ¬ bits .and .u64 (u (h 36 >>> v.toNat)) 1 = 1 := by simpa using d1
          have l1 : (bits .and .u64 (u (h 39)) 1 == 1) = true := (low_test1' _).trans hq
          have l2 : bits .and .u64 (u (h 39)) 1 = 1 := by simpa using l1
          have m1 : bits .andNot .u64 (u (h 39)) 3 = u (h 39 &&& ~~~3#64) := u_andNot _ 3#64
          have m2 : IntKind.u64.wrap (u (h 39 &&& ~~~3#64) + u (4#64 * v)) = u ((h 39 &&& ~~~3#64) + 4#64 * v) := u_add _ _
          clear ct cn cc hd hq v63 vn hv16 hb
          have g0 := hV_get y 3 false 0 (by omega) (by omega) (by omega)
          have g43 := hV_get y 3 false 43 (by omega) (by omega) (by omega)
          have g44 := hV_get y 3 false 44 (by omega) (by omega) (by omega)
          have s0 : ∀ wq, On (w.alloc (.cells (hV h 0 r) 28)) wq → wq.heap[w.heap.size]? = some (.cells (hV h 0 r) 28 (0, 0)) := fun _ h => h.keep (heap_alloc_new _ _)
          have hb0 := On.refl ((w.alloc (.cells (hV h 0 r) 28)))
          have hb1 : ∀ ob : Obj, On ((w.alloc (.cells (hV h 0 r) 28))) (((w.alloc (.cells (hV h 0 r) 28))).alloc ob) := fun ob => (On.refl _).alloc ob
          have c35 : ∀ wq, On (w.alloc (.cells (hV h 0 r) 28)) wq → wq.cell? ⟨w.heap.size, 35, none⟩ = some (.int .u64 (u (h 35))) := fun _ hqq => blk_cell (s0 _ hqq) 35 (hV_get h 0 r 35 (by omega) (by omega) (by omega))
          have c36 : ∀ wq, On (w.alloc (.cells (hV h 0 r) 28)) wq → wq.cell? ⟨w.heap.size, 36, none⟩ = some (.int .u64 (u (h 36))) := fun _ hqq => blk_cell (s0 _ hqq) 36 (hV_get h 0 r 36 (by omega) (by omega) (by omega))
          have c39 : ∀ wq, On (w.alloc (.cells (hV h 0 r) 28)) wq → wq.cell? ⟨w.heap.size, 39, none⟩ = some (.int .u64 (u (h 39))) := fun _ hqq => blk_cell (s0 _ hqq) 39 (hV_get h 0 r 39 (by omega) (by omega) (by omega))
          have c45 : ∀ wq, On (w.alloc (.cells (hV h 0 r) 28)) wq → wq.cell? ⟨w.heap.size, 45, none⟩ = some (.int .u64 (u (h 45))) := fun _ hqq => blk_cell (s0 _ hqq) 45 (hV_get h 0 r 45 (by omega) (by omega) (by omega))
          have cP : ∀ wq, On (w.alloc (.cells (hV h 0 r) 28)) wq → wq.cell? ⟨w.heap.size, 1, none⟩ = some (.int .i64 0) := fun _ hqq => blk_cell (s0 _ hqq) 1 (hV_priv h 0 r)
          have HB : Hid (On w ((w.alloc (.cells (hV h 0 r) 28)))) := Lib.hid ((On.refl w).alloc _)
          go_enter Try.func9, Try.ntmps9
          go_wp2_with (first | ((with_reducible apply hrt_ld); (case ho => exact rfl); (case hgd => exact rfl); (case hx => exact rfl); (case hg => (first | exact s0 _ (by first | exact hb0 | exact hb1 _) | exact heap_alloc_new _ _))) | ((with_reducible apply hrt_new_st); (case ho => exact rfl); (case hgd => exact rfl); (case hx => exact rfl); (case hy => exact rfl)))
          go_quiet (fail)
          rename_i nq
          have hb' := on_drawn ((w.alloc (.cells (hV h 0 r) 28))) nq
          generalize hwn : ((w.alloc (.cells (hV h 0 r) 28))).drewN nq = w1 at *
          clear hwn
          have hb := hb'
          replace s0 := fun wq (hqq : On w1 wq) => s0 wq (hb.trans hqq)
          replace c35 := fun wq (hqq : On w1 wq) => c35 wq (hb.trans hqq)
          replace c36 := fun wq (hqq : On w1 wq) => c36 wq (hb.trans hqq)
          replace c39 := fun wq (hqq : On w1 wq) => c39 wq (hb.trans hqq)
          replace c45 := fun wq (hqq : On w1 wq) => c45 wq (hb.trans hqq)
          replace cP := fun wq (hqq : On w1 wq) => cP wq (hb.trans hqq)
          replace hb0 := On.refl w1
          replace hb1 : ∀ ob : Obj, On w1 (w1.alloc ob) := fun ob => (On.refl w1).alloc ob
          have HB := Lib.hid (HB.out.trans hb)
          clear hb hb'
          go_wp2_with (first | ((with_reducible apply hrt_ld); (case ho => exact rfl); (case hgd => exact rfl); (case hx => exact rfl); (case hg => (first | exact s0 _ (by first | exact hb0 | exact hb1 _) | exact heap_alloc_new _ _))) | ((with_reducible apply hrt_new_st); (case ho => exact rfl); (case hgd => exact rfl); (case hx => exact rfl); (case hy => exact rfl)))
          go_quiet (fail)
          rename_i nq
          have hb' := on_drawn (w1) nq
          generalize hwn : (w1).drewN nq = w2 at *
          clear hwn
          have hb := hb'
          replace s0 := fun wq (hqq : On w2 wq) => s0 wq (hb.trans hqq)
          replace c35 := fun wq (hqq : On w2 wq) => c35 wq (hb.trans hqq)
          replace c36 := fun wq (hqq : On w2 wq) => c36 wq (hb.trans hqq)
          replace c39 := fun wq (hqq : On w2 wq) => c39 wq (hb.trans hqq)
          replace c45 := fun wq (hqq : On w2 wq) => c45 wq (hb.trans hqq)
          replace cP := fun wq (hqq : On w2 wq) => cP wq (hb.trans hqq)
          replace hb0 := On.refl w2
          replace hb1 : ∀ ob : Obj, On w2 (w2.alloc ob) := fun ob => (On.refl w2).alloc ob
          have HB := Lib.hid (HB.out.trans hb)
          clear hb hb'
          go_wp2_with (first | ((with_reducible apply hrt_ld); (case ho => exact rfl); (case hgd => exact rfl); (case hx => exact rfl); (case hg => (first | exact s0 _ (by first | exact hb0 | exact hb1 _) | exact heap_alloc_new _ _))) | ((with_reducible apply hrt_new_st); (case ho => exact rfl); (case hgd => exact rfl); (case hx => exact rfl); (case hy => exact rfl)))
          go_at_call 12; refine (K1.out _).mono ?_; rintro _ w3 ⟨rfl, hb'⟩
          have hb := hb'
          replace s0 := fun wq (h : On w3 wq) => s0 wq (hb.trans h)
          replace c35 := fun wq (h : On w3 wq) => c35 wq (hb.trans h)
          replace c36 := fun wq (h : On w3 wq) => c36 wq (hb.trans h)
          replace c39 := fun wq (h : On w3 wq) => c39 wq (hb.trans h)
          replace c45 := fun wq (h : On w3 wq) => c45 wq (hb.trans h)
          replace cP := fun wq (h : On w3 wq) => cP wq (hb.trans h)
          replace hb0 := On.refl w3
          replace hb1 : ∀ ob : Obj, On w3 (w3.alloc ob) := fun ob => (On.refl w3).alloc ob
          have HB := Lib.hid (HB.out.trans hb)
          clear hb hb'
          go_wp2_with (first | ((with_reducible apply hrt_ld); (case ho => exact rfl); (case hgd => exact rfl); (case hx => exact rfl); (case hg => (first | exact s0 _ (by first | exact hb0 | exact hb1 _) | exact heap_alloc_new _ _))) | ((with_reducible apply hrt_new_st); (case ho => exact rfl); (case hgd => exact rfl); (case hx => exact rfl); (case hy => exact rfl)))
          go_quiet (fail)
          rename_i nq
          have hb' := on_drawn (w3.alloc (.cells (hV y 3 false) 28)) nq
          generalize hwn : (w3.alloc (.cells (hV y 3 false) 28)).drewN nq = w4 at *
          clear hwn
          have s1 := fun wq (hqq : On w4 wq) => (hb'.trans hqq).keep (heap_alloc_new _ _)
          have hb := (hb1 _).trans hb'
          replace s0 := fun wq (hqq : On w4 wq) => s0 wq (hb.trans hqq)
          replace c35 := fun wq (hqq : On w4 wq) => c35 wq (hb.trans hqq)
          replace c36 := fun wq (hqq : On w4 wq) => c36 wq (hb.trans hqq)
          replace c39 := fun wq (hqq : On w4 wq) => c39 wq (hb.trans hqq)
          replace c45 := fun wq (hqq : On w4 wq) => c45 wq (hb.trans hqq)
          replace cP := fun wq (hqq : On w4 wq) => cP wq (hb.trans hqq)
          replace hb0 := On.refl w4
          replace hb1 : ∀ ob : Obj, On w4 (w4.alloc ob) := fun ob => (On.refl w4).alloc ob
          have HB := Lib.hid (HB.out.trans hb)
          clear hb hb'
          have y0c := fun wq (hqq : On w4 wq) => blk_cell (s1 wq hqq) 0 g0
          have y1c := fun wq (hqq : On w4 wq) => blk_cell (s1 wq hqq) 43 g43
          have y3c := fun wq (hqq : On w4 wq) => blk_cell (s1 wq hqq) 44 g44
          have yPc := fun wq (hqq : On w4 wq) => blk_cell (s1 wq hqq) 1 (hV_priv y 3 false)
          go_wp2_with (first | ((with_reducible apply hrt_ld); (case ho => exact rfl); (case hgd => exact rfl); (case hx => exact rfl); (case hg => (first | exact s0 _ (by first | exact hb0 | exact hb1 _) | exact s1 _ (by first | exact hb0 | exact hb1 _) | exact heap_alloc_new _ _))) | ((with_reducible apply hrt_new_st); (case ho => exact rfl); (case hgd => exact rfl); (case hx => exact rfl); (case hy => exact rfl)))
          go_at_call 11; refine (awake8_yes _).mono ?_; rintro _ w5 ⟨rfl, hb'⟩
          have hb := hb'
          replace s0 := fun wq (h : On w5 wq) => s0 wq (hb.trans h)
          replace s1 := fun wq (h : On w5 wq) => s1 wq (hb.trans h)
          replace c35 := fun wq (h : On w5 wq) => c35 wq (hb.trans h)
          replace c36 := fun wq (h : On w5 wq) => c36 wq (hb.trans h)
          replace c39 := fun wq (h : On w5 wq) => c39 wq (hb.trans h)
          replace c45 := fun wq (h : On w5 wq) => c45 wq (hb.trans h)
          replace cP := fun wq (h : On w5 wq) => cP wq (hb.trans h)
          replace y0c := fun wq (h : On w5 wq) => y0c wq (hb.trans h)
          replace y1c := fun wq (h : On w5 wq) => y1c wq (hb.trans h)
          replace y3c := fun wq (h : On w5 wq) => y3c wq (hb.trans h)
          replace yPc := fun wq (h : On w5 wq) => yPc wq (hb.trans h)
          replace hb0 := On.refl w5
          replace hb1 : ∀ ob : Obj, On w5 (w5.alloc ob) := fun ob => (On.refl w5).alloc ob
          have HB := Lib.hid (HB.out.trans hb)
          clear hb hb'
          go_wp2
          go_ret
          exact ⟨rfl, HB.out⟩
      · cases hq : (h 45).getLsbD 0
        · have ct : (0x8000000000000000#64 ||| v).getLsbD 63 = true := top_set v
          have cn : (0x8000000000000000#64 ||| v) &&& 63#64 = v := by rw [top_num, vn]
          have cc : cau (0x8000000000000000#64 ||| v) = (0x8000000000000000#64 ||| v) := cau_top16 hv16
          have hd : dlg h 0 (0x8000000000000000#64 ||| v) = true := by unfold dlg; rw [ct, cn]; exact hb
          have y1 : u (entH h 0 (0x8000000000000000#64 ||| v) t 49) = u (0x8000000000000000#64 ||| v) := by rw [ent_S h 0 (0x8000000000000000#64 ||| v) t hd, cc]; rfl
          have y3 : u (entH h 0 (0x8000000000000000#64 ||| v) t 50) = u t := by rw [ent_S h 0 (0x8000000000000000#64 ||| v) t hd]; rfl
          have y0 : u (entH h 0 (0x8000000000000000#64 ||| v) t 0) = u (h 45 &&& ~~~3#64) := by rw [ent_S h 0 (0x8000000000000000#64 ||| v) t hd, show upd (entS h 0 (cau (0x8000000000000000#64 ||| v)) t) 65 0#64 0 = hdl (h 45) (cau (0x8000000000000000#64 ||| v)) from rfl]; unfold hdl; rw [cc, ct, cn, hq]; rfl
          have K1 : Hid (∀ w, Calls Try.prog 12 #[.agg (hV h 0 r), .int .u64 (u (0x8000000000000000#64 ||| v)), .int .u64 (u t)] w fun r' w' => r' = .returned (.agg (hV (entH h 0 (0x8000000000000000#64 ||| v) t) 1 false)) ∧ On w w') := Lib.hid (fun w => by have := enter_any h 0 r (0x8000000000000000#64 ||| v) t w; unfold entP at this; rw [hd] at this; exact this)
          have O1 : bits .or .u64 (u v) 9223372036854775808 = u (0x8000000000000000#64 ||| v) := by rw [show (9223372036854775808 : Int) = u 0x8000000000000000#64 from rfl, u_or, BitVec.or_comm]
          generalize entH h 0 (0x8000000000000000#64 ||| v) t = y at *
          generalize 0x8000000000000000#64 ||| v = c at *
          have d1 : (bits .and .u64 (u (h 36 >>> v.toNat)) 1 == 1) = true := (bit_at1 _ _).trans hb
          have d2 : bits .and .u64 (u (h 36 >>> v.toNat)) 1 = 1 := by simpa using d1
          have l1 : (bits .and .u64 (u (h 45)) 1 == 1) = false := (low_test1' _).trans hq
          have l2 : ¬ bits .and .u64 (u (h 45)) 1 = 1 := by simpa using l1
          have m1 : bits .andNot .u64 (u (h 45)) 3 = u (h 45 &&& ~~~3#64) := u_andNot _ 3#64
          clear ct cn cc hd hq v63 vn hv16 hb
          have g0 := hV_get y 1 false 0 (by omega) (by omega) (by omega)
          have g49 := hV_get y 1 false 49 (by omega) (by omega) (by omega)
          have g50 := hV_get y 1 false 50 (by omega) (by omega) (by omega)
          have s0 : ∀ wq, On (w.alloc (.cells (hV h 0 r) 28)) wq → wq.heap[w.heap.size]? = some (.cells (hV h 0 r) 28 (0, 0)) := fun _ h => h.keep (heap_alloc_new _ _)
          have hb0 := On.refl ((w.alloc (.cells (hV h 0 r) 28)))
          have hb1 : ∀ ob : Obj, On ((w.alloc (.cells (hV h 0 r) 28))) (((w.alloc (.cells (hV h 0 r) 28))).alloc ob) := fun ob => (On.refl _).alloc ob
          have c35 : ∀ wq, On (w.alloc (.cells (hV h 0 r) 28)) wq → wq.cell? ⟨w.heap.size, 35, none⟩ = some (.int .u64 (u (h 35))) := fun _ hqq => blk_cell (s0 _ hqq) 35 (hV_get h 0 r 35 (by omega) (by omega) (by omega))
          have c36 : ∀ wq, On (w.alloc (.cells (hV h 0 r) 28)) wq → wq.cell? ⟨w.heap.size, 36, none⟩ = some (.int .u64 (u (h 36))) := fun _ hqq => blk_cell (s0 _ hqq) 36 (hV_get h 0 r 36 (by omega) (by omega) (by omega))
          have c39 : ∀ wq, On (w.alloc (.cells (hV h 0 r) 28)) wq → wq.cell? ⟨w.heap.size, 39, none⟩ = some (.int .u64 (u (h 39))) := fun _ hqq => blk_cell (s0 _ hqq) 39 (hV_get h 0 r 39 (by omega) (by omega) (by omega))
          have c45 : ∀ wq, On (w.alloc (.cells (hV h 0 r) 28)) wq → wq.cell? ⟨w.heap.size, 45, none⟩ = some (.int .u64 (u (h 45))) := fun _ hqq => blk_cell (s0 _ hqq) 45 (hV_get h 0 r 45 (by omega) (by omega) (by omega))
          have cP : ∀ wq, On (w.alloc (.cells (hV h 0 r) 28)) wq → wq.cell? ⟨w.heap.size, 1, none⟩ = some (.int .i64 0) := fun _ hqq => blk_cell (s0 _ hqq) 1 (hV_priv h 0 r)
          have HB : Hid (On w ((w.alloc (.cells (hV h 0 r) 28)))) := Lib.hid ((On.refl w).alloc _)
          go_enter Try.func9, Try.ntmps9
          go_wp2_with (first | ((with_reducible apply hrt_ld); (case ho => exact rfl); (case hgd => exact rfl); (case hx => exact rfl); (case hg => (first | exact s0 _ (by first | exact hb0 | exact hb1 _) | exact heap_alloc_new _ _))) | ((with_reducible apply hrt_new_st); (case ho => exact rfl); (case hgd => exact rfl); (case hx => exact rfl); (case hy => exact rfl)))
          go_quiet (fail)
          rename_i nq
          have hb' := on_drawn ((w.alloc (.cells (hV h 0 r) 28))) nq
          generalize hwn : ((w.alloc (.cells (hV h 0 r) 28))).drewN nq = w1 at *
          clear hwn
          have hb := hb'
          replace s0 := fun wq (hqq : On w1 wq) => s0 wq (hb.trans hqq)
          replace c35 := fun wq (hqq : On w1 wq) => c35 wq (hb.trans hqq)
          replace c36 := fun wq (hqq : On w1 wq) => c36 wq (hb.trans hqq)
          replace c39 := fun wq (hqq : On w1 wq) => c39 wq (hb.trans hqq)
          replace c45 := fun wq (hqq : On w1 wq) => c45 wq (hb.trans hqq)
          replace cP := fun wq (hqq : On w1 wq) => cP wq (hb.trans hqq)
          replace hb0 := On.refl w1
          replace hb1 : ∀ ob : Obj, On w1 (w1.alloc ob) := fun ob => (On.refl w1).alloc ob
          have HB := Lib.hid (HB.out.trans hb)
          clear hb hb'
          go_wp2_with (first | ((with_reducible apply hrt_ld); (case ho => exact rfl); (case hgd => exact rfl); (case hx => exact rfl); (case hg => (first | exact s0 _ (by first | exact hb0 | exact hb1 _) | exact heap_alloc_new _ _))) | ((with_reducible apply hrt_new_st); (case ho => exact rfl); (case hgd => exact rfl); (case hx => exact rfl); (case hy => exact rfl)))
          go_quiet (fail)
          rename_i nq
          have hb' := on_drawn (w1) nq
          generalize hwn : (w1).drewN nq = w2 at *
          clear hwn
          have hb := hb'
          replace s0 := fun wq (hqq : On w2 wq) => s0 wq (hb.trans hqq)
          replace c35 := fun wq (hqq : On w2 wq) => c35 wq (hb.trans hqq)
          replace c36 := fun wq (hqq : On w2 wq) => c36 wq (hb.trans hqq)
          replace c39 := fun wq (hqq : On w2 wq) => c39 wq (hb.trans hqq)
          replace c45 := fun wq (hqq : On w2 wq) => c45 wq (hb.trans hqq)
          replace cP := fun wq (hqq : On w2 wq) => cP wq (hb.trans hqq)
          replace hb0 := On.refl w2
          replace hb1 : ∀ ob : Obj, On w2 (w2.alloc ob) := fun ob => (On.refl w2).alloc ob
          have HB := Lib.hid (HB.out.trans hb)
          clear hb hb'
          go_wp2_with (first | ((with_reducible apply hrt_ld); (case ho => exact rfl); (case hgd => exact rfl); (case hx => exact rfl); (case hg => (first | exact s0 _ (by first | exact hb0 | exact hb1 _) | exact heap_alloc_new _ _))) | ((with_reducible apply hrt_new_st); (case ho => exact rfl); (case hgd => exact rfl); (case hx => exact rfl); (case hy => exact rfl)))
          go_at_call 12; refine (K1.out _).mono ?_; rintro _ w3 ⟨rfl, hb'⟩
          have hb := hb'
          replace s0 := fun wq (h : On w3 wq) => s0 wq (hb.trans h)
          replace c35 := fun wq (h : On w3 wq) => c35 wq (hb.trans h)
          replace c36 := fun wq (h : On w3 wq) => c36 wq (hb.trans h)
          replace c39 := fun wq (h : On w3 wq) => c39 wq (hb.trans h)
          replace c45 := fun wq (h : On w3 wq) => c45 wq (hb.trans h)
          replace cP := fun wq (h : On w3 wq) => cP wq (hb.trans h)
          replace hb0 := On.refl w3
          replace hb1 : ∀ ob : Obj, On w3 (w3.alloc ob) := fun ob => (On.refl w3).alloc ob
          have HB := Lib.hid (HB.out.trans hb)
          clear hb hb'
          go_wp2_with (first | ((with_reducible apply hrt_ld); (case ho => exact rfl); (case hgd => exact rfl); (case hx => exact rfl); (case hg => (first | exact s0 _ (by first | exact hb0 | exact hb1 _) | exact heap_alloc_new _ _))) | ((with_reducible apply hrt_new_st); (case ho => exact rfl); (case hgd => exact rfl); (case hx => exact rfl); (case hy => exact rfl)))
          go_quiet (fail)
          rename_i nq
          have hb' := on_drawn (w3.alloc (.cells (hV y 1 false) 28)) nq
          generalize hwn : (w3.alloc (.cells (hV y 1 false) 28)).drewN nq = w4 at *
          clear hwn
          have s1 := fun wq (hqq : On w4 wq) => (hb'.trans hqq).keep (heap_alloc_new _ _)
          have hb := (hb1 _).trans hb'
          replace s0 := fun wq (hqq : On w4 wq) => s0 wq (hb.trans hqq)
          replace c35 := fun wq (hqq : On w4 wq) => c35 wq (hb.trans hqq)
          replace c36 := fun wq (hqq : On w4 wq) => c36 wq (hb.trans hqq)
          replace c39 := fun wq (hqq : On w4 wq) => c39 wq (hb.trans hqq)
          replace c45 := fun wq (hqq : On w4 wq) => c45 wq (hb.trans hqq)
          replace cP := fun wq (hqq : On w4 wq) => cP wq (hb.trans hqq)
          replace hb0 := On.refl w4
          replace hb1 : ∀ ob : Obj, On w4 (w4.alloc ob) := fun ob => (On.refl w4).alloc ob
          have HB := Lib.hid (HB.out.trans hb)
          clear hb hb'
          have y0c := fun wq (hqq : On w4 wq) => blk_cell (s1 wq hqq) 0 g0
          have y1c := fun wq (hqq : On w4 wq) => blk_cell (s1 wq hqq) 49 g49
          have y3c := fun wq (hqq : On w4 wq) => blk_cell (s1 wq hqq) 50 g50
          have yPc := fun wq (hqq : On w4 wq) => blk_cell (s1 wq hqq) 1 (hV_priv y 1 false)
          go_wp2_with (first | ((with_reducible apply hrt_ld); (case ho => exact rfl); (case hgd => exact rfl); (case hx => exact rfl); (case hg => (first | exact s0 _ (by first | exact hb0 | exact hb1 _) | exact s1 _ (by first | exact hb0 | exact hb1 _) | exact heap_alloc_new _ _))) | ((with_reducible apply hrt_new_st); (case ho => exact rfl); (case hgd => exact rfl); (case hx => exact rfl); (case hy => exact rfl)))
          go_quiet (fail)
          rename_i nq
          have hb' := on_drawn (w4) nq
          generalize hwn : (w4).drewN nq = w5 at *
          clear hwn
          have hb := hb'
          replace s0 := fun wq (hqq : On w5 wq) => s0 wq (hb.trans hqq)
          replace s1 := fun wq (hqq : On w5 wq) => s1 wq (hb.trans hqq)
          replace c35 := fun wq (hqq : On w5 wq) => c35 wq (hb.trans hqq)
          replace c36 := fun wq (hqq : On w5 wq) => c36 wq (hb.trans hqq)
          replace c39 := fun wq (hqq : On w5 wq) => c39 wq (hb.trans hqq)
          replace c45 := fun wq (hqq : On w5 wq) => c45 wq (hb.trans hqq)
          replace cP := fun wq (hqq : On w5 wq) => cP wq (hb.trans hqq)
          replace y0c := fun wq (hqq : On w5 wq) => y0c wq (hb.trans hqq)
          replace y1c := fun wq (hqq : On w5 wq) => y1c wq (hb.trans hqq)
          replace y3c := fun wq (hqq : On w5 wq) => y3c wq (hb.trans hqq)
          replace yPc := fun wq (hqq : On w5 wq) => yPc wq (hb.trans hqq)
          replace hb0 := On.refl w5
          replace hb1 : ∀ ob : Obj, On w5 (w5.alloc ob) := fun ob => (On.refl w5).alloc ob
          have HB := Lib.hid (HB.out.trans hb)
          clear hb hb'
          go_wp2_with (first | ((with_reducible apply hrt_ld); (case ho => exact rfl); (case hgd => exact rfl); (case hx => exact rfl); (case hg => (first | exact s0 _ (by first | exact hb0 | exact hb1 _) | exact s1 _ (by first | exact hb0 | exact hb1 _) | exact heap_alloc_new _ _))) | ((with_reducible apply hrt_new_st); (case ho => exact rfl); (case hgd => exact rfl); (case hx => exact rfl); (case hy => exact rfl)))
          go_at_call 11; refine (awake8_yes _).mono ?_; rintro _ w6 ⟨rfl, hb'⟩
          have hb := hb'
          replace s0 := fun wq (h : On w6 wq) => s0 wq (hb.trans h)
          replace s1 := fun wq (h : On w6 wq) => s1 wq (hb.trans h)
          replace c35 := fun wq (h : On w6 wq) => c35 wq (hb.trans h)
          replace c36 := fun wq (h : On w6 wq) => c36 wq (hb.trans h)
          replace c39 := fun wq (h : On w6 wq) => c39 wq (hb.trans h)
          replace c45 := fun wq (h : On w6 wq) => c45 wq (hb.trans h)
          replace cP := fun wq (h : On w6 wq) => cP wq (hb.trans h)
          replace y0c := fun wq (h : On w6 wq) => y0c wq (hb.trans h)
          replace y1c := fun wq (h : On w6 wq) => y1c wq (hb.trans h)
          replace y3c := fun wq (h : On w6 wq) => y3c wq (hb.trans h)
          replace yPc := fun wq (h : On w6 wq) => yPc wq (hb.trans h)
          replace hb0 := On.refl w6
          replace hb1 : ∀ ob : Obj, On w6 (w6.alloc ob) := fun ob => (On.refl w6).alloc ob
          have HB := Lib.hid (HB.out.trans hb)
          clear hb hb'
          go_wp2
          go_ret
          exact ⟨rfl, HB.out⟩
        · have ct : (0x8000000000000000#64 ||| v).getLsbD 63 = true := top_set v
          have cn : (0x8000000000000000#64 ||| v) &&& 63#64 = v := by rw [top_num, vn]
          have cc : cau (0x8000000000000000#64 ||| v) = (0x8000000000000000#64 ||| v) := cau_top16 hv16
          have hd : dlg h 0 (0x8000000000000000#64 ||| v) = true := by unfold dlg; rw [ct, cn]; exact hb
          have y1 : u (entH h 0 (0x8000000000000000#64 ||| v) t 49) = u (0x8000000000000000#64 ||| v) := by rw [ent_S h 0 (0x8000000000000000#64 ||| v) t hd, cc]; rfl
          have y3 : u (entH h 0 (0x8000000000000000#64 ||| v) t 50) = u t := by rw [ent_S h 0 (0x8000000000000000#64 ||| v) t hd]; rfl
          have y0 : u (entH h 0 (0x8000000000000000#64 ||| v) t 0) = u ((h 45 &&& ~~~3#64) + 4#64 * v) := by rw [ent_S h 0 (0x8000000000000000#64 ||| v) t hd, show upd (entS h 0 (cau (0x8000000000000000#64 ||| v)) t) 65 0#64 0 = hdl (h 45) (cau (0x8000000000000000#64 ||| v)) from rfl]; unfold hdl; rw [cc, ct, cn, hq]; rfl
          have K1 : Hid (∀ w, Calls Try.prog 12 #[.agg (hV h 0 r), .int .u64 (u (0x8000000000000000#64 ||| v)), .int .u64 (u t)] w fun r' w' => r' = .returned (.agg (hV (entH h 0 (0x8000000000000000#64 ||| v) t) 1 false)) ∧ On w w') := Lib.hid (fun w => by have := enter_any h 0 r (0x8000000000000000#64 ||| v) t w; unfold entP at this; rw [hd] at this; exact this)
          have O1 : bits .or .u64 (u v) 9223372036854775808 = u (0x8000000000000000#64 ||| v) := by rw [show (9223372036854775808 : Int) = u 0x8000000000000000#64 from rfl, u_or, BitVec.or_comm]
          generalize entH h 0 (0x8000000000000000#64 ||| v) t = y at *
          generalize 0x8000000000000000#64 ||| v = c at *
          have d1 : (bits .and .u64 (u (h 36 >>> v.toNat)) 1 == 1) = true := (bit_at1 _ _).trans hb
          have d2 : bits .and .u64 (u (h 36 >>> v.toNat)) 1 = 1 := by simpa using d1
          have l1 : (bits .and .u64 (u (h 45)) 1 == 1) = true := (low_test1' _).trans hq
          have l2 : bits .and .u64 (u (h 45)) 1 = 1 := by simpa using l1
          have m1 : bits .andNot .u64 (u (h 45)) 3 = u (h 45 &&& ~~~3#64) := u_andNot _ 3#64
          have m2 : IntKind.u64.wrap (u (h 45 &&& ~~~3#64) + u (4#64 * v)) = u ((h 45 &&& ~~~3#64) + 4#64 * v) := u_add _ _
          clear ct cn cc hd hq v63 vn hv16 hb
          have g0 := hV_get y 1 false 0 (by omega) (by omega) (by omega)
          have g49 := hV_get y 1 false 49 (by omega) (by omega) (by omega)
          have g50 := hV_get y 1 false 50 (by omega) (by omega) (by omega)
          have s0 : ∀ wq, On (w.alloc (.cells (hV h 0 r) 28)) wq → wq.heap[w.heap.size]? = some (.cells (hV h 0 r) 28 (0, 0)) := fun _ h => h.keep (heap_alloc_new _ _)
          have hb0 := On.refl ((w.alloc (.cells (hV h 0 r) 28)))
          have hb1 : ∀ ob : Obj, On ((w.alloc (.cells (hV h 0 r) 28))) (((w.alloc (.cells (hV h 0 r) 28))).alloc ob) := fun ob => (On.refl _).alloc ob
          have c35 : ∀ wq, On (w.alloc (.cells (hV h 0 r) 28)) wq → wq.cell? ⟨w.heap.size, 35, none⟩ = some (.int .u64 (u (h 35))) := fun _ hqq => blk_cell (s0 _ hqq) 35 (hV_get h 0 r 35 (by omega) (by omega) (by omega))
          have c36 : ∀ wq, On (w.alloc (.cells (hV h 0 r) 28)) wq → wq.cell? ⟨w.heap.size, 36, none⟩ = some (.int .u64 (u (h 36))) := fun _ hqq => blk_cell (s0 _ hqq) 36 (hV_get h 0 r 36 (by omega) (by omega) (by omega))
          have c39 : ∀ wq, On (w.alloc (.cells (hV h 0 r) 28)) wq → wq.cell? ⟨w.heap.size, 39, none⟩ = some (.int .u64 (u (h 39))) := fun _ hqq => blk_cell (s0 _ hqq) 39 (hV_get h 0 r 39 (by omega) (by omega) (by omega))
          have c45 : ∀ wq, On (w.alloc (.cells (hV h 0 r) 28)) wq → wq.cell? ⟨w.heap.size, 45, none⟩ = some (.int .u64 (u (h 45))) := fun _ hqq => blk_cell (s0 _ hqq) 45 (hV_get h 0 r 45 (by omega) (by omega) (by omega))
          have cP : ∀ wq, On (w.alloc (.cells (hV h 0 r) 28)) wq → wq.cell? ⟨w.heap.size, 1, none⟩ = some (.int .i64 0) := fun _ hqq => blk_cell (s0 _ hqq) 1 (hV_priv h 0 r)
          have HB : Hid (On w ((w.alloc (.cells (hV h 0 r) 28)))) := Lib.hid ((On.refl w).alloc _)
          go_enter Try.func9, Try.ntmps9
          go_wp2_with (first | ((with_reducible apply hrt_ld); (case ho => exact rfl); (case hgd => exact rfl); (case hx => exact rfl); (case hg => (first | exact s0 _ (by first | exact hb0 | exact hb1 _) | exact heap_alloc_new _ _))) | ((with_reducible apply hrt_new_st); (case ho => exact rfl); (case hgd => exact rfl); (case hx => exact rfl); (case hy => exact rfl)))
          go_quiet (fail)
          rename_i nq
          have hb' := on_drawn ((w.alloc (.cells (hV h 0 r) 28))) nq
          generalize hwn : ((w.alloc (.cells (hV h 0 r) 28))).drewN nq = w1 at *
          clear hwn
          have hb := hb'
          replace s0 := fun wq (hqq : On w1 wq) => s0 wq (hb.trans hqq)
          replace c35 := fun wq (hqq : On w1 wq) => c35 wq (hb.trans hqq)
          replace c36 := fun wq (hqq : On w1 wq) => c36 wq (hb.trans hqq)
          replace c39 := fun wq (hqq : On w1 wq) => c39 wq (hb.trans hqq)
          replace c45 := fun wq (hqq : On w1 wq) => c45 wq (hb.trans hqq)
          replace cP := fun wq (hqq : On w1 wq) => cP wq (hb.trans hqq)
          replace hb0 := On.refl w1
          replace hb1 : ∀ ob : Obj, On w1 (w1.alloc ob) := fun ob => (On.refl w1).alloc ob
          have HB := Lib.hid (HB.out.trans hb)
          clear hb hb'
          go_wp2_with (first | ((with_reducible apply hrt_ld); (case ho => exact rfl); (case hgd => exact rfl); (case hx => exact rfl); (case hg => (first | exact s0 _ (by first | exact hb0 | exact hb1 _) | exact heap_alloc_new _ _))) | ((with_reducible apply hrt_new_st); (case ho => exact rfl); (case hgd => exact rfl); (case hx => exact rfl); (case hy => exact rfl)))
          go_quiet (fail)
          rename_i nq
          have hb' := on_drawn (w1) nq
          generalize hwn : (w1).drewN nq = w2 at *
          clear hwn
          have hb := hb'
          replace s0 := fun wq (hqq : On w2 wq) => s0 wq (hb.trans hqq)
          replace c35 := fun wq (hqq : On w2 wq) => c35 wq (hb.trans hqq)
          replace c36 := fun wq (hqq : On w2 wq) => c36 wq (hb.trans hqq)
          replace c39 := fun wq (hqq : On w2 wq) => c39 wq (hb.trans hqq)
          replace c45 := fun wq (hqq : On w2 wq) => c45 wq (hb.trans hqq)
          replace cP := fun wq (hqq : On w2 wq) => cP wq (hb.trans hqq)
          replace hb0 := On.refl w2
          replace hb1 : ∀ ob : Obj, On w2 (w2.alloc ob) := fun ob => (On.refl w2).alloc ob
          have HB := Lib.hid (HB.out.trans hb)
          clear hb hb'
          go_wp2_with (first | ((with_reducible apply hrt_ld); (case ho => exact rfl); (case hgd => exact rfl); (case hx => exact rfl); (case hg => (first | exact s0 _ (by first | exact hb0 | exact hb1 _) | exact heap_alloc_new _ _))) | ((with_reducible apply hrt_new_st); (case ho => exact rfl); (case hgd => exact rfl); (case hx => exact rfl); (case hy => exact rfl)))
          go_at_call 12; refine (K1.out _).mono ?_; rintro _ w3 ⟨rfl, hb'⟩
          have hb := hb'
          replace s0 := fun wq (h : On w3 wq) => s0 wq (hb.trans h)
          replace c35 := fun wq (h : On w3 wq) => c35 wq (hb.trans h)
          replace c36 := fun wq (h : On w3 wq) => c36 wq (hb.trans h)
          replace c39 := fun wq (h : On w3 wq) => c39 wq (hb.trans h)
          replace c45 := fun wq (h : On w3 wq) => c45 wq (hb.trans h)
          replace cP := fun wq (h : On w3 wq) => cP wq (hb.trans h)
          replace hb0 := On.refl w3
          replace hb1 : ∀ ob : Obj, On w3 (w3.alloc ob) := fun ob => (On.refl w3).alloc ob
          have HB := Lib.hid (HB.out.trans hb)
          clear hb hb'
          go_wp2_with (first | ((with_reducible apply hrt_ld); (case ho => exact rfl); (case hgd => exact rfl); (case hx => exact rfl); (case hg => (first | exact s0 _ (by first | exact hb0 | exact hb1 _) | exact heap_alloc_new _ _))) | ((with_reducible apply hrt_new_st); (case ho => exact rfl); (case hgd => exact rfl); (case hx => exact rfl); (case hy => exact rfl)))
          go_quiet (fail)
          rename_i nq
          have hb' := on_drawn (w3.alloc (.cells (hV y 1 false) 28)) nq
          generalize hwn : (w3.alloc (.cells (hV y 1 false) 28)).drewN nq = w4 at *
          clear hwn
          have s1 := fun wq (hqq : On w4 wq) => (hb'.trans hqq).keep (heap_alloc_new _ _)
          have hb := (hb1 _).trans hb'
          replace s0 := fun wq (hqq : On w4 wq) => s0 wq (hb.trans hqq)
          replace c35 := fun wq (hqq : On w4 wq) => c35 wq (hb.trans hqq)
          replace c36 := fun wq (hqq : On w4 wq) => c36 wq (hb.trans hqq)
          replace c39 := fun wq (hqq : On w4 wq) => c39 wq (hb.trans hqq)
          replace c45 := fun wq (hqq : On w4 wq) => c45 wq (hb.trans hqq)
          replace cP := fun wq (hqq : On w4 wq) => cP wq (hb.trans hqq)
          replace hb0 := On.refl w4
          replace hb1 : ∀ ob : Obj, On w4 (w4.alloc ob) := fun ob => (On.refl w4).alloc ob
          have HB := Lib.hid (HB.out.trans hb)
          clear hb hb'
          have y0c := fun wq (hqq : On w4 wq) => blk_cell (s1 wq hqq) 0 g0
          have y1c := fun wq (hqq : On w4 wq) => blk_cell (s1 wq hqq) 49 g49
          have y3c := fun wq (hqq : On w4 wq) => blk_cell (s1 wq hqq) 50 g50
          have yPc := fun wq (hqq : On w4 wq) => blk_cell (s1 wq hqq) 1 (hV_priv y 1 false)
          go_wp2_with (first | ((with_reducible apply hrt_ld); (case ho => exact rfl); (case hgd => exact rfl); (case hx => exact rfl); (case hg => (first | exact s0 _ (by first | exact hb0 | exact hb1 _) | exact s1 _ (by first | exact hb0 | exact hb1 _) | exact heap_alloc_new _ _))) | ((with_reducible apply hrt_new_st); (case ho => exact rfl); (case hgd => exact rfl); (case hx => exact rfl); (case hy => exact rfl)))
          go_quiet (fail)
          rename_i nq
          have hb' := on_drawn (w4) nq
          generalize hwn : (w4).drewN nq = w5 at *
          clear hwn
          have hb := hb'
          replace s0 := fun wq (hqq : On w5 wq) => s0 wq (hb.trans hqq)
          replace s1 := fun wq (hqq : On w5 wq) => s1 wq (hb.trans hqq)
          replace c35 := fun wq (hqq : On w5 wq) => c35 wq (hb.trans hqq)
          replace c36 := fun wq (hqq : On w5 wq) => c36 wq (hb.trans hqq)
          replace c39 := fun wq (hqq : On w5 wq) => c39 wq (hb.trans hqq)
          replace c45 := fun wq (hqq : On w5 wq) => c45 wq (hb.trans hqq)
          replace cP := fun wq (hqq : On w5 wq) => cP wq (hb.trans hqq)
          replace y0c := fun wq (hqq : On w5 wq) => y0c wq (hb.trans hqq)
          replace y1c := fun wq (hqq : On w5 wq) => y1c wq (hb.trans hqq)
          replace y3c := fun wq (hqq : On w5 wq) => y3c wq (hb.trans hqq)
          replace yPc := fun wq (hqq : On w5 wq) => yPc wq (hb.trans hqq)
          replace hb0 := On.refl w5
          replace hb1 : ∀ ob : Obj, On w5 (w5.alloc ob) := fun ob => (On.refl w5).alloc ob
          have HB := Lib.hid (HB.out.trans hb)
          clear hb hb'
          go_wp2_with (first | ((with_reducible apply hrt_ld); (case ho => exact rfl); (case hgd => exact rfl); (case hx => exact rfl); (case hg => (first | exact s0 _ (by first | exact hb0 | exact hb1 _) | exact s1 _ (by first | exact hb0 | exact hb1 _) | exact heap_alloc_new _ _))) | ((with_reducible apply hrt_new_st); (case ho => exact rfl); (case hgd => exact rfl); (case hx => exact rfl); (case hy => exact rfl)))
          go_at_call 11; refine (awake8_yes _).mono ?_; rintro _ w6 ⟨rfl, hb'⟩
          have hb := hb'
          replace s0 := fun wq (h : On w6 wq) => s0 wq (hb.trans h)
          replace s1 := fun wq (h : On w6 wq) => s1 wq (hb.trans h)
          replace c35 := fun wq (h : On w6 wq) => c35 wq (hb.trans h)
          replace c36 := fun wq (h : On w6 wq) => c36 wq (hb.trans h)
          replace c39 := fun wq (h : On w6 wq) => c39 wq (hb.trans h)
          replace c45 := fun wq (h : On w6 wq) => c45 wq (hb.trans h)
          replace cP := fun wq (h : On w6 wq) => cP wq (hb.trans h)
          replace y0c := fun wq (h : On w6 wq) => y0c wq (hb.trans h)
          replace y1c := fun wq (h : On w6 wq) => y1c wq (hb.trans h)
          replace y3c := fun wq (h : On w6 wq) => y3c wq (hb.trans h)
          replace yPc := fun wq (h : On w6 wq) => yPc wq (hb.trans h)
          replace hb0 := On.refl w6
          replace hb1 : ∀ ob : Obj, On w6 (w6.alloc ob) := fun ob => (On.refl w6).alloc ob
          have HB := Lib.hid (HB.out.trans hb)
          clear hb hb'
          go_wp2
          go_ret
          exact ⟨rfl, HB.out⟩
    · by_cases h1 : p = 1
      · subst h1
        cases hb : (h 36).getLsbD v.toNat
        · cases hq : (h 39).getLsbD 0
          · have ct : (0x8000000000000000#64 ||| v).getLsbD 63 = true := top_set v
            have cn : (0x8000000000000000#64 ||| v) &&& 63#64 = v := by rw [top_num, vn]
            have cc : cau (0x8000000000000000#64 ||| v) = (0x8000000000000000#64 ||| v) := cau_top16 hv16
            have hd : dlg h 1 (0x8000000000000000#64 ||| v) = false := by unfold dlg; rw [ct, cn]; exact hb
            have y1 : u (entH h 1 (0x8000000000000000#64 ||| v) t 43) = u (0x8000000000000000#64 ||| v) := by rw [ent_M h 1 (0x8000000000000000#64 ||| v) t hd, cc]; rfl
            have y3 : u (entH h 1 (0x8000000000000000#64 ||| v) t 44) = u t := by rw [ent_M h 1 (0x8000000000000000#64 ||| v) t hd]; rfl
            have y0 : u (entH h 1 (0x8000000000000000#64 ||| v) t 0) = u (h 39 &&& ~~~3#64) := by rw [ent_M h 1 (0x8000000000000000#64 ||| v) t hd, show upd (entM h 1 (cau (0x8000000000000000#64 ||| v)) t) 65 0#64 0 = hdl (h 39) (cau (0x8000000000000000#64 ||| v)) from rfl]; unfold hdl; rw [cc, ct, cn, hq]; rfl
            have K1 : Hid (∀ w, Calls Try.prog 12 #[.agg (hV h 1 r), .int .u64 (u (0x8000000000000000#64 ||| v)), .int .u64 (u t)] w fun r' w' => r' = .returned (.agg (hV (entH h 1 (0x8000000000000000#64 ||| v) t) 3 false)) ∧ On w w') := Lib.hid (fun w => by have := enter_any h 1 r (0x8000000000000000#64 ||| v) t w; unfold entP at this; rw [hd] at this; exact this)
            have O1 : bits .or .u64 (u v) 9223372036854775808 = u (0x8000000000000000#64 ||| v) := by rw [show (9223372036854775808 : Int) = u 0x8000000000000000#64 from rfl, u_or, BitVec.or_comm]
            generalize entH h 1 (0x8000000000000000#64 ||| v) t = y at *
            generalize 0x8000000000000000#64 ||| v = c at *
            have d1 : (bits .and .u64 (u (h 36 >>> v.toNat)) 1 == 1) = false := (bit_at1 _ _).trans hb
            have d2 : ¬ bits .and .u64 (u (h 36 >>> v.toNat)) 1 = 1 := by simpa using d1
            have l1 : (bits .and .u64 (u (h 39)) 1 == 1) = false := (low_test1' _).trans hq
            have l2 : ¬ bits .and .u64 (u (h 39)) 1 = 1 := by simpa using l1
            have m1 : bits .andNot .u64 (u (h 39)) 3 = u (h 39 &&& ~~~3#64) := u_andNot _ 3#64
            clear ct cn cc hd hq v63 vn hv16 hb
            have g0 := hV_get y 3 false 0 (by omega) (by omega) (by omega)
            have g43 := hV_get y 3 false 43 (by omega) (by omega) (by omega)
            have g44 := hV_get y 3 false 44 (by omega) (by omega) (by omega)
            have s0 : ∀ wq, On (w.alloc (.cells (hV h 1 r) 28)) wq → wq.heap[w.heap.size]? = some (.cells (hV h 1 r) 28 (0, 0)) := fun _ h => h.keep (heap_alloc_new _ _)
            have hb0 := On.refl ((w.alloc (.cells (hV h 1 r) 28)))
            have hb1 : ∀ ob : Obj, On ((w.alloc (.cells (hV h 1 r) 28))) (((w.alloc (.cells (hV h 1 r) 28))).alloc ob) := fun ob => (On.refl _).alloc ob
            have c35 : ∀ wq, On (w.alloc (.cells (hV h 1 r) 28)) wq → wq.cell? ⟨w.heap.size, 35, none⟩ = some (.int .u64 (u (h 35))) := fun _ hqq => blk_cell (s0 _ hqq) 35 (hV_get h 1 r 35 (by omega) (by omega) (by omega))
            have c36 : ∀ wq, On (w.alloc (.cells (hV h 1 r) 28)) wq → wq.cell? ⟨w.heap.size, 36, none⟩ = some (.int .u64 (u (h 36))) := fun _ hqq => blk_cell (s0 _ hqq) 36 (hV_get h 1 r 36 (by omega) (by omega) (by omega))
            have c39 : ∀ wq, On (w.alloc (.cells (hV h 1 r) 28)) wq → wq.cell? ⟨w.heap.size, 39, none⟩ = some (.int .u64 (u (h 39))) := fun _ hqq => blk_cell (s0 _ hqq) 39 (hV_get h 1 r 39 (by omega) (by omega) (by omega))
            have c45 : ∀ wq, On (w.alloc (.cells (hV h 1 r) 28)) wq → wq.cell? ⟨w.heap.size, 45, none⟩ = some (.int .u64 (u (h 45))) := fun _ hqq => blk_cell (s0 _ hqq) 45 (hV_get h 1 r 45 (by omega) (by omega) (by omega))
            have cP : ∀ wq, On (w.alloc (.cells (hV h 1 r) 28)) wq → wq.cell? ⟨w.heap.size, 1, none⟩ = some (.int .i64 1) := fun _ hqq => blk_cell (s0 _ hqq) 1 (hV_priv h 1 r)
            have HB : Hid (On w ((w.alloc (.cells (hV h 1 r) 28)))) := Lib.hid ((On.refl w).alloc _)
            go_enter Try.func9, Try.ntmps9
            go_wp2_with (first | ((with_reducible apply hrt_ld); (case ho => exact rfl); (case hgd => exact rfl); (case hx => exact rfl); (case hg => (first | exact s0 _ (by first | exact hb0 | exact hb1 _) | exact heap_alloc_new _ _))) | ((with_reducible apply hrt_new_st); (case ho => exact rfl); (case hgd => exact rfl); (case hx => exact rfl); (case hy => exact rfl)))
            go_quiet (fail)
            rename_i nq
            have hb' := on_drawn ((w.alloc (.cells (hV h 1 r) 28))) nq
            generalize hwn : ((w.alloc (.cells (hV h 1 r) 28))).drewN nq = w1 at *
            clear hwn
            have hb := hb'
            replace s0 := fun wq (hqq : On w1 wq) => s0 wq (hb.trans hqq)
            replace c35 := fun wq (hqq : On w1 wq) => c35 wq (hb.trans hqq)
            replace c36 := fun wq (hqq : On w1 wq) => c36 wq (hb.trans hqq)
            replace c39 := fun wq (hqq : On w1 wq) => c39 wq (hb.trans hqq)
            replace c45 := fun wq (hqq : On w1 wq) => c45 wq (hb.trans hqq)
            replace cP := fun wq (hqq : On w1 wq) => cP wq (hb.trans hqq)
            replace hb0 := On.refl w1
            replace hb1 : ∀ ob : Obj, On w1 (w1.alloc ob) := fun ob => (On.refl w1).alloc ob
            have HB := Lib.hid (HB.out.trans hb)
            clear hb hb'
            go_wp2_with (first | ((with_reducible apply hrt_ld); (case ho => exact rfl); (case hgd => exact rfl); (case hx => exact rfl); (case hg => (first | exact s0 _ (by first | exact hb0 | exact hb1 _) | exact heap_alloc_new _ _))) | ((with_reducible apply hrt_new_st); (case ho => exact rfl); (case hgd => exact rfl); (case hx => exact rfl); (case hy => exact rfl)))
            go_quiet (fail)
            rename_i nq
            have hb' := on_drawn (w1) nq
            generalize hwn : (w1).drewN nq = w2 at *
            clear hwn
            have hb := hb'
            replace s0 := fun wq (hqq : On w2 wq) => s0 wq (hb.trans hqq)
            replace c35 := fun wq (hqq : On w2 wq) => c35 wq (hb.trans hqq)
            replace c36 := fun wq (hqq : On w2 wq) => c36 wq (hb.trans hqq)
            replace c39 := fun wq (hqq : On w2 wq) => c39 wq (hb.trans hqq)
            replace c45 := fun wq (hqq : On w2 wq) => c45 wq (hb.trans hqq)
            replace cP := fun wq (hqq : On w2 wq) => cP wq (hb.trans hqq)
            replace hb0 := On.refl w2
            replace hb1 : ∀ ob : Obj, On w2 (w2.alloc ob) := fun ob => (On.refl w2).alloc ob
            have HB := Lib.hid (HB.out.trans hb)
            clear hb hb'
            go_wp2_with (first | ((with_reducible apply hrt_ld); (case ho => exact rfl); (case hgd => exact rfl); (case hx => exact rfl); (case hg => (first | exact s0 _ (by first | exact hb0 | exact hb1 _) | exact heap_alloc_new _ _))) | ((with_reducible apply hrt_new_st); (case ho => exact rfl); (case hgd => exact rfl); (case hx => exact rfl); (case hy => exact rfl)))
            go_at_call 12; refine (K1.out _).mono ?_; rintro _ w3 ⟨rfl, hb'⟩
            have hb := hb'
            replace s0 := fun wq (h : On w3 wq) => s0 wq (hb.trans h)
            replace c35 := fun wq (h : On w3 wq) => c35 wq (hb.trans h)
            replace c36 := fun wq (h : On w3 wq) => c36 wq (hb.trans h)
            replace c39 := fun wq (h : On w3 wq) => c39 wq (hb.trans h)
            replace c45 := fun wq (h : On w3 wq) => c45 wq (hb.trans h)
            replace cP := fun wq (h : On w3 wq) => cP wq (hb.trans h)
            replace hb0 := On.refl w3
            replace hb1 : ∀ ob : Obj, On w3 (w3.alloc ob) := fun ob => (On.refl w3).alloc ob
            have HB := Lib.hid (HB.out.trans hb)
            clear hb hb'
            go_wp2_with (first | ((with_reducible apply hrt_ld); (case ho => exact rfl); (case hgd => exact rfl); (case hx => exact rfl); (case hg => (first | exact s0 _ (by first | exact hb0 | exact hb1 _) | exact heap_alloc_new _ _))) | ((with_reducible apply hrt_new_st); (case ho => exact rfl); (case hgd => exact rfl); (case hx => exact rfl); (case hy => exact rfl)))
            go_quiet (fail)
            rename_i nq
            have hb' := on_drawn (w3.alloc (.cells (hV y 3 false) 28)) nq
            generalize hwn : (w3.alloc (.cells (hV y 3 false) 28)).drewN nq = w4 at *
            clear hwn
            have s1 := fun wq (hqq : On w4 wq) => (hb'.trans hqq).keep (heap_alloc_new _ _)
            have hb := (hb1 _).trans hb'
            replace s0 := fun wq (hqq : On w4 wq) => s0 wq (hb.trans hqq)
            replace c35 := fun wq (hqq : On w4 wq) => c35 wq (hb.trans hqq)
            replace c36 := fun wq (hqq : On w4 wq) => c36 wq (hb.trans hqq)
            replace c39 := fun wq (hqq : On w4 wq) => c39 wq (hb.trans hqq)
            replace c45 := fun wq (hqq : On w4 wq) => c45 wq (hb.trans hqq)
            replace cP := fun wq (hqq : On w4 wq) => cP wq (hb.trans hqq)
            replace hb0 := On.refl w4
            replace hb1 : ∀ ob : Obj, On w4 (w4.alloc ob) := fun ob => (On.refl w4).alloc ob
            have HB := Lib.hid (HB.out.trans hb)
            clear hb hb'
            have y0c := fun wq (hqq : On w4 wq) => blk_cell (s1 wq hqq) 0 g0
            have y1c := fun wq (hqq : On w4 wq) => blk_cell (s1 wq hqq) 43 g43
            have y3c := fun wq (hqq : On w4 wq) => blk_cell (s1 wq hqq) 44 g44
            have yPc := fun wq (hqq : On w4 wq) => blk_cell (s1 wq hqq) 1 (hV_priv y 3 false)
            go_wp2_with (first | ((with_reducible apply hrt_ld); (case ho => exact rfl); (case hgd => exact rfl); (case hx => exact rfl); (case hg => (first | exact s0 _ (by first | exact hb0 | exact hb1 _) | exact s1 _ (by first | exact hb0 | exact hb1 _) | exact heap_alloc_new _ _))) | ((with_reducible apply hrt_new_st); (case ho => exact rfl); (case hgd => exact rfl); (case hx => exact rfl); (case hy => exact rfl)))
            go_at_call 11; refine (awake8_yes _).mono ?_; rintro _ w5 ⟨rfl, hb'⟩
            have hb := hb'
            replace s0 := fun wq (h : On w5 wq) => s0 wq (hb.trans h)
            replace s1 := fun wq (h : On w5 wq) => s1 wq (hb.trans h)
            replace c35 := fun wq (h : On w5 wq) => c35 wq (hb.trans h)
            replace c36 := fun wq (h : On w5 wq) => c36 wq (hb.trans h)
            replace c39 := fun wq (h : On w5 wq) => c39 wq (hb.trans h)
            replace c45 := fun wq (h : On w5 wq) => c45 wq (hb.trans h)
            replace cP := fun wq (h : On w5 wq) => cP wq (hb.trans h)
            replace y0c := fun wq (h : On w5 wq) => y0c wq (hb.trans h)
            replace y1c := fun wq (h : On w5 wq) => y1c wq (hb.trans h)
            replace y3c := fun wq (h : On w5 wq) => y3c wq (hb.trans h)
            replace yPc := fun wq (h : On w5 wq) => yPc wq (hb.trans h)
            replace hb0 := On.refl w5
            replace hb1 : ∀ ob : Obj, On w5 (w5.alloc ob) := fun ob => (On.refl w5).alloc ob
            have HB := Lib.hid (HB.out.trans hb)
            clear hb hb'
            go_wp2
            go_ret
            exact ⟨rfl, HB.out⟩
          · have ct : (0x8000000000000000#64 ||| v).getLsbD 63 = true := top_set v
            have cn : (0x8000000000000000#64 ||| v) &&& 63#64 = v := by rw [top_num, vn]
            have cc : cau (0x8000000000000000#64 ||| v) = (0x8000000000000000#64 ||| v) := cau_top16 hv16
            have hd : dlg h 1 (0x8000000000000000#64 ||| v) = false := by unfold dlg; rw [ct, cn]; exact hb
            have y1 : u (entH h 1 (0x8000000000000000#64 ||| v) t 43) = u (0x8000000000000000#64 ||| v) := by rw [ent_M h 1 (0x8000000000000000#64 ||| v) t hd, cc]; rfl
            have y3 : u (entH h 1 (0x8000000000000000#64 ||| v) t 44) = u t := by rw [ent_M h 1 (0x8000000000000000#64 ||| v) t hd]; rfl
            have y0 : u (entH h 1 (0x8000000000000000#64 ||| v) t 0) = u ((h 39 &&& ~~~3#64) + 4#64 * v) := by rw [ent_M h 1 (0x8000000000000000#64 ||| v) t hd, show upd (entM h 1 (cau (0x8000000000000000#64 ||| v)) t) 65 0#64 0 = hdl (h 39) (cau (0x8000000000000000#64 ||| v)) from rfl]; unfold hdl; rw [cc, ct, cn, hq]; rfl
            have K1 : Hid (∀ w, Calls Try.prog 12 #[.agg (hV h 1 r), .int .u64 (u (0x8000000000000000#64 ||| v)), .int .u64 (u t)] w fun r' w' => r' = .returned (.agg (hV (entH h 1 (0x8000000000000000#64 ||| v) t) 3 false)) ∧ On w w') := Lib.hid (fun w => by have := enter_any h 1 r (0x8000000000000000#64 ||| v) t w; unfold entP at this; rw [hd] at this; exact this)
            have O1 : bits .or .u64 (u v) 9223372036854775808 = u (0x8000000000000000#64 ||| v) := by rw [show (9223372036854775808 : Int) = u 0x8000000000000000#64 from rfl, u_or, BitVec.or_comm]
            generalize entH h 1 (0x8000000000000000#64 ||| v) t = y at *
            generalize 0x8000000000000000#64 ||| v = c at *
            have d1 : (bits .and .u64 (u (h 36 >>> v.toNat)) 1 == 1) = false := (bit_at1 _ _).trans hb
            have d2 : ¬ bits .and .u64 (u (h 36 >>> v.toNat)) 1 = 1 := by simpa using d1
            have l1 : (bits .and .u64 (u (h 39)) 1 == 1) = true := (low_test1' _).trans hq
            have l2 : bits .and .u64 (u (h 39)) 1 = 1 := by simpa using l1
            have m1 : bits .andNot .u64 (u (h 39)) 3 = u (h 39 &&& ~~~3#64) := u_andNot _ 3#64
            have m2 : IntKind.u64.wrap (u (h 39 &&& ~~~3#64) + u (4#64 * v)) = u ((h 39 &&& ~~~3#64) + 4#64 * v) := u_add _ _
            clear ct cn cc hd hq v63 vn hv16 hb
            have g0 := hV_get y 3 false 0 (by omega) (by omega) (by omega)
            have g43 := hV_get y 3 false 43 (by omega) (by omega) (by omega)
            have g44 := hV_get y 3 false 44 (by omega) (by omega) (by omega)
            have s0 : ∀ wq, On (w.alloc (.cells (hV h 1 r) 28)) wq → wq.heap[w.heap.size]? = some (.cells (hV h 1 r) 28 (0, 0)) := fun _ h => h.keep (heap_alloc_new _ _)
            have hb0 := On.refl ((w.alloc (.cells (hV h 1 r) 28)))
            have hb1 : ∀ ob : Obj, On ((w.alloc (.cells (hV h 1 r) 28))) (((w.alloc (.cells (hV h 1 r) 28))).alloc ob) := fun ob => (On.refl _).alloc ob
            have c35 : ∀ wq, On (w.alloc (.cells (hV h 1 r) 28)) wq → wq.cell? ⟨w.heap.size, 35, none⟩ = some (.int .u64 (u (h 35))) := fun _ hqq => blk_cell (s0 _ hqq) 35 (hV_get h 1 r 35 (by omega) (by omega) (by omega))
            have c36 : ∀ wq, On (w.alloc (.cells (hV h 1 r) 28)) wq → wq.cell? ⟨w.heap.size, 36, none⟩ = some (.int .u64 (u (h 36))) := fun _ hqq => blk_cell (s0 _ hqq) 36 (hV_get h 1 r 36 (by omega) (by omega) (by omega))
            have c39 : ∀ wq, On (w.alloc (.cells (hV h 1 r) 28)) wq → wq.cell? ⟨w.heap.size, 39, none⟩ = some (.int .u64 (u (h 39))) := fun _ hqq => blk_cell (s0 _ hqq) 39 (hV_get h 1 r 39 (by omega) (by omega) (by omega))
            have c45 : ∀ wq, On (w.alloc (.cells (hV h 1 r) 28)) wq → wq.cell? ⟨w.heap.size, 45, none⟩ = some (.int .u64 (u (h 45))) := fun _ hqq => blk_cell (s0 _ hqq) 45 (hV_get h 1 r 45 (by omega) (by omega) (by omega))
            have cP : ∀ wq, On (w.alloc (.cells (hV h 1 r) 28)) wq → wq.cell? ⟨w.heap.size, 1, none⟩ = some (.int .i64 1) := fun _ hqq => blk_cell (s0 _ hqq) 1 (hV_priv h 1 r)
            have HB : Hid (On w ((w.alloc (.cells (hV h 1 r) 28)))) := Lib.hid ((On.refl w).alloc _)
            go_enter Try.func9, Try.ntmps9
            go_wp2_with (first | ((with_reducible apply hrt_ld); (case ho => exact rfl); (case hgd => exact rfl); (case hx => exact rfl); (case hg => (first | exact s0 _ (by first | exact hb0 | exact hb1 _) | exact heap_alloc_new _ _))) | ((with_reducible apply hrt_new_st); (case ho => exact rfl); (case hgd => exact rfl); (case hx => exact rfl); (case hy => exact rfl)))
            go_quiet (fail)
            rename_i nq
            have hb' := on_drawn ((w.alloc (.cells (hV h 1 r) 28))) nq
            generalize hwn : ((w.alloc (.cells (hV h 1 r) 28))).drewN nq = w1 at *
            clear hwn
            have hb := hb'
            replace s0 := fun wq (hqq : On w1 wq) => s0 wq (hb.trans hqq)
            replace c35 := fun wq (hqq : On w1 wq) => c35 wq (hb.trans hqq)
            replace c36 := fun wq (hqq : On w1 wq) => c36 wq (hb.trans hqq)
            replace c39 := fun wq (hqq : On w1 wq) => c39 wq (hb.trans hqq)
            replace c45 := fun wq (hqq : On w1 wq) => c45 wq (hb.trans hqq)
            replace cP := fun wq (hqq : On w1 wq) => cP wq (hb.trans hqq)
            replace hb0 := On.refl w1
            replace hb1 : ∀ ob : Obj, On w1 (w1.alloc ob) := fun ob => (On.refl w1).alloc ob
            have HB := Lib.hid (HB.out.trans hb)
            clear hb hb'
            go_wp2_with (first | ((with_reducible apply hrt_ld); (case ho => exact rfl); (case hgd => exact rfl); (case hx => exact rfl); (case hg => (first | exact s0 _ (by first | exact hb0 | exact hb1 _) | exact heap_alloc_new _ _))) | ((with_reducible apply hrt_new_st); (case ho => exact rfl); (case hgd => exact rfl); (case hx => exact rfl); (case hy => exact rfl)))
            go_quiet (fail)
            rename_i nq
            have hb' := on_drawn (w1) nq
            generalize hwn : (w1).drewN nq = w2 at *
            clear hwn
            have hb := hb'
            replace s0 := fun wq (hqq : On w2 wq) => s0 wq (hb.trans hqq)
            replace c35 := fun wq (hqq : On w2 wq) => c35 wq (hb.trans hqq)
            replace c36 := fun wq (hqq : On w2 wq) => c36 wq (hb.trans hqq)
            replace c39 := fun wq (hqq : On w2 wq) => c39 wq (hb.trans hqq)
            replace c45 := fun wq (hqq : On w2 wq) => c45 wq (hb.trans hqq)
            replace cP := fun wq (hqq : On w2 wq) => cP wq (hb.trans hqq)
            replace hb0 := On.refl w2
            replace hb1 : ∀ ob : Obj, On w2 (w2.alloc ob) := fun ob => (On.refl w2).alloc ob
            have HB := Lib.hid (HB.out.trans hb)
            clear hb hb'
            go_wp2_with (first | ((with_reducible apply hrt_ld); (case ho => exact rfl); (case hgd => exact rfl); (case hx => exact rfl); (case hg => (first | exact s0 _ (by first | exact hb0 | exact hb1 _) | exact heap_alloc_new _ _))) | ((with_reducible apply hrt_new_st); (case ho => exact rfl); (case hgd => exact rfl); (case hx => exact rfl); (case hy => exact rfl)))
            go_at_call 12; refine (K1.out _).mono ?_; rintro _ w3 ⟨rfl, hb'⟩
            have hb := hb'
            replace s0 := fun wq (h : On w3 wq) => s0 wq (hb.trans h)
            replace c35 := fun wq (h : On w3 wq) => c35 wq (hb.trans h)
            replace c36 := fun wq (h : On w3 wq) => c36 wq (hb.trans h)
            replace c39 := fun wq (h : On w3 wq) => c39 wq (hb.trans h)
            replace c45 := fun wq (h : On w3 wq) => c45 wq (hb.trans h)
            replace cP := fun wq (h : On w3 wq) => cP wq (hb.trans h)
            replace hb0 := On.refl w3
            replace hb1 : ∀ ob : Obj, On w3 (w3.alloc ob) := fun ob => (On.refl w3).alloc ob
            have HB := Lib.hid (HB.out.trans hb)
            clear hb hb'
            go_wp2_with (first | ((with_reducible apply hrt_ld); (case ho => exact rfl); (case hgd => exact rfl); (case hx => exact rfl); (case hg => (first | exact s0 _ (by first | exact hb0 | exact hb1 _) | exact heap_alloc_new _ _))) | ((with_reducible apply hrt_new_st); (case ho => exact rfl); (case hgd => exact rfl); (case hx => exact rfl); (case hy => exact rfl)))
            go_quiet (fail)
            rename_i nq
            have hb' := on_drawn (w3.alloc (.cells (hV y 3 false) 28)) nq
            generalize hwn : (w3.alloc (.cells (hV y 3 false) 28)).drewN nq = w4 at *
            clear hwn
            have s1 := fun wq (hqq : On w4 wq) => (hb'.trans hqq).keep (heap_alloc_new _ _)
            have hb := (hb1 _).trans hb'
            replace s0 := fun wq (hqq : On w4 wq) => s0 wq (hb.trans hqq)
            replace c35 := fun wq (hqq : On w4 wq) => c35 wq (hb.trans hqq)
            replace c36 := fun wq (hqq : On w4 wq) => c36 wq (hb.trans hqq)
            replace c39 := fun wq (hqq : On w4 wq) => c39 wq (hb.trans hqq)
            replace c45 := fun wq (hqq : On w4 wq) => c45 wq (hb.trans hqq)
            replace cP := fun wq (hqq : On w4 wq) => cP wq (hb.trans hqq)
            replace hb0 := On.refl w4
            replace hb1 : ∀ ob : Obj, On w4 (w4.alloc ob) := fun ob => (On.refl w4).alloc ob
            have HB := Lib.hid (HB.out.trans hb)
            clear hb hb'
            have y0c := fun wq (hqq : On w4 wq) => blk_cell (s1 wq hqq) 0 g0
            have y1c := fun wq (hqq : On w4 wq) => blk_cell (s1 wq hqq) 43 g43
            have y3c := fun wq (hqq : On w4 wq) => blk_cell (s1 wq hqq) 44 g44
            have yPc := fun wq (hqq : On w4 wq) => blk_cell (s1 wq hqq) 1 (hV_priv y 3 false)
            go_wp2_with (first | ((with_reducible apply hrt_ld); (case ho => exact rfl); (case hgd => exact rfl); (case hx => exact rfl); (case hg => (first | exact s0 _ (by first | exact hb0 | exact hb1 _) | exact s1 _ (by first | exact hb0 | exact hb1 _) | exact heap_alloc_new _ _))) | ((with_reducible apply hrt_new_st); (case ho => exact rfl); (case hgd => exact rfl); (case hx => exact rfl); (case hy => exact rfl)))
            go_at_call 11; refine (awake8_yes _).mono ?_; rintro _ w5 ⟨rfl, hb'⟩
            have hb := hb'
            replace s0 := fun wq (h : On w5 wq) => s0 wq (hb.trans h)
            replace s1 := fun wq (h : On w5 wq) => s1 wq (hb.trans h)
            replace c35 := fun wq (h : On w5 wq) => c35 wq (hb.trans h)
            replace c36 := fun wq (h : On w5 wq) => c36 wq (hb.trans h)
            replace c39 := fun wq (h : On w5 wq) => c39 wq (hb.trans h)
            replace c45 := fun wq (h : On w5 wq) => c45 wq (hb.trans h)
            replace cP := fun wq (h : On w5 wq) => cP wq (hb.trans h)
            replace y0c := fun wq (h : On w5 wq) => y0c wq (hb.trans h)
            replace y1c := fun wq (h : On w5 wq) => y1c wq (hb.trans h)
            replace y3c := fun wq (h : On w5 wq) => y3c wq (hb.trans h)
            replace yPc := fun wq (h : On w5 wq) => yPc wq (hb.trans h)
            replace hb0 := On.refl w5
            replace hb1 : ∀ ob : Obj, On w5 (w5.alloc ob) := fun ob => (On.refl w5).alloc ob
            have HB := Lib.hid (HB.out.trans hb)
            clear hb hb'
            go_wp2
            go_ret
            exact ⟨rfl, HB.out⟩
        · cases hq : (h 45).getLsbD 0
          · have ct : (0x8000000000000000#64 ||| v).getLsbD 63 = true := top_set v
            have cn : (0x8000000000000000#64 ||| v) &&& 63#64 = v := by rw [top_num, vn]
            have cc : cau (0x8000000000000000#64 ||| v) = (0x8000000000000000#64 ||| v) := cau_top16 hv16
            have hd : dlg h 1 (0x8000000000000000#64 ||| v) = true := by unfold dlg; rw [ct, cn]; exact hb
            have y1 : u (entH h 1 (0x8000000000000000#64 ||| v) t 49) = u (0x8000000000000000#64 ||| v) := by rw [ent_S h 1 (0x8000000000000000#64 ||| v) t hd, cc]; rfl
            have y3 : u (entH h 1 (0x8000000000000000#64 ||| v) t 50) = u t := by rw [ent_S h 1 (0x8000000000000000#64 ||| v) t hd]; rfl
            have y0 : u (entH h 1 (0x8000000000000000#64 ||| v) t 0) = u (h 45 &&& ~~~3#64) := by rw [ent_S h 1 (0x8000000000000000#64 ||| v) t hd, show upd (entS h 1 (cau (0x8000000000000000#64 ||| v)) t) 65 0#64 0 = hdl (h 45) (cau (0x8000000000000000#64 ||| v)) from rfl]; unfold hdl; rw [cc, ct, cn, hq]; rfl
            have K1 : Hid (∀ w, Calls Try.prog 12 #[.agg (hV h 1 r), .int .u64 (u (0x8000000000000000#64 ||| v)), .int .u64 (u t)] w fun r' w' => r' = .returned (.agg (hV (entH h 1 (0x8000000000000000#64 ||| v) t) 1 false)) ∧ On w w') := Lib.hid (fun w => by have := enter_any h 1 r (0x8000000000000000#64 ||| v) t w; unfold entP at this; rw [hd] at this; exact this)
            have O1 : bits .or .u64 (u v) 9223372036854775808 = u (0x8000000000000000#64 ||| v) := by rw [show (9223372036854775808 : Int) = u 0x8000000000000000#64 from rfl, u_or, BitVec.or_comm]
            generalize entH h 1 (0x8000000000000000#64 ||| v) t = y at *
            generalize 0x8000000000000000#64 ||| v = c at *
            have d1 : (bits .and .u64 (u (h 36 >>> v.toNat)) 1 == 1) = true := (bit_at1 _ _).trans hb
            have d2 : bits .and .u64 (u (h 36 >>> v.toNat)) 1 = 1 := by simpa using d1
            have l1 : (bits .and .u64 (u (h 45)) 1 == 1) = false := (low_test1' _).trans hq
            have l2 : ¬ bits .and .u64 (u (h 45)) 1 = 1 := by simpa using l1
            have m1 : bits .andNot .u64 (u (h 45)) 3 = u (h 45 &&& ~~~3#64) := u_andNot _ 3#64
            clear ct cn cc hd hq v63 vn hv16 hb
            have g0 := hV_get y 1 false 0 (by omega) (by omega) (by omega)
            have g49 := hV_get y 1 false 49 (by omega) (by omega) (by omega)
            have g50 := hV_get y 1 false 50 (by omega) (by omega) (by omega)
            have s0 : ∀ wq, On (w.alloc (.cells (hV h 1 r) 28)) wq → wq.heap[w.heap.size]? = some (.cells (hV h 1 r) 28 (0, 0)) := fun _ h => h.keep (heap_alloc_new _ _)
            have hb0 := On.refl ((w.alloc (.cells (hV h 1 r) 28)))
            have hb1 : ∀ ob : Obj, On ((w.alloc (.cells (hV h 1 r) 28))) (((w.alloc (.cells (hV h 1 r) 28))).alloc ob) := fun ob => (On.refl _).alloc ob
            have c35 : ∀ wq, On (w.alloc (.cells (hV h 1 r) 28)) wq → wq.cell? ⟨w.heap.size, 35, none⟩ = some (.int .u64 (u (h 35))) := fun _ hqq => blk_cell (s0 _ hqq) 35 (hV_get h 1 r 35 (by omega) (by omega) (by omega))
            have c36 : ∀ wq, On (w.alloc (.cells (hV h 1 r) 28)) wq → wq.cell? ⟨w.heap.size, 36, none⟩ = some (.int .u64 (u (h 36))) := fun _ hqq => blk_cell (s0 _ hqq) 36 (hV_get h 1 r 36 (by omega) (by omega) (by omega))
            have c39 : ∀ wq, On (w.alloc (.cells (hV h 1 r) 28)) wq → wq.cell? ⟨w.heap.size, 39, none⟩ = some (.int .u64 (u (h 39))) := fun _ hqq => blk_cell (s0 _ hqq) 39 (hV_get h 1 r 39 (by omega) (by omega) (by omega))
            have c45 : ∀ wq, On (w.alloc (.cells (hV h 1 r) 28)) wq → wq.cell? ⟨w.heap.size, 45, none⟩ = some (.int .u64 (u (h 45))) := fun _ hqq => blk_cell (s0 _ hqq) 45 (hV_get h 1 r 45 (by omega) (by omega) (by omega))
            have cP : ∀ wq, On (w.alloc (.cells (hV h 1 r) 28)) wq → wq.cell? ⟨w.heap.size, 1, none⟩ = some (.int .i64 1) := fun _ hqq => blk_cell (s0 _ hqq) 1 (hV_priv h 1 r)
            have HB : Hid (On w ((w.alloc (.cells (hV h 1 r) 28)))) := Lib.hid ((On.refl w).alloc _)
            go_enter Try.func9, Try.ntmps9
            go_wp2_with (first | ((with_reducible apply hrt_ld); (case ho => exact rfl); (case hgd => exact rfl); (case hx => exact rfl); (case hg => (first | exact s0 _ (by first | exact hb0 | exact hb1 _) | exact heap_alloc_new _ _))) | ((with_reducible apply hrt_new_st); (case ho => exact rfl); (case hgd => exact rfl); (case hx => exact rfl); (case hy => exact rfl)))
            go_quiet (fail)
            rename_i nq
            have hb' := on_drawn ((w.alloc (.cells (hV h 1 r) 28))) nq
            generalize hwn : ((w.alloc (.cells (hV h 1 r) 28))).drewN nq = w1 at *
            clear hwn
            have hb := hb'
            replace s0 := fun wq (hqq : On w1 wq) => s0 wq (hb.trans hqq)
            replace c35 := fun wq (hqq : On w1 wq) => c35 wq (hb.trans hqq)
            replace c36 := fun wq (hqq : On w1 wq) => c36 wq (hb.trans hqq)
            replace c39 := fun wq (hqq : On w1 wq) => c39 wq (hb.trans hqq)
            replace c45 := fun wq (hqq : On w1 wq) => c45 wq (hb.trans hqq)
            replace cP := fun wq (hqq : On w1 wq) => cP wq (hb.trans hqq)
            replace hb0 := On.refl w1
            replace hb1 : ∀ ob : Obj, On w1 (w1.alloc ob) := fun ob => (On.refl w1).alloc ob
            have HB := Lib.hid (HB.out.trans hb)
            clear hb hb'
            go_wp2_with (first | ((with_reducible apply hrt_ld); (case ho => exact rfl); (case hgd => exact rfl); (case hx => exact rfl); (case hg => (first | exact s0 _ (by first | exact hb0 | exact hb1 _) | exact heap_alloc_new _ _))) | ((with_reducible apply hrt_new_st); (case ho => exact rfl); (case hgd => exact rfl); (case hx => exact rfl); (case hy => exact rfl)))
            go_quiet (fail)
            rename_i nq
            have hb' := on_drawn (w1) nq
            generalize hwn : (w1).drewN nq = w2 at *
            clear hwn
            have hb := hb'
            replace s0 := fun wq (hqq : On w2 wq) => s0 wq (hb.trans hqq)
            replace c35 := fun wq (hqq : On w2 wq) => c35 wq (hb.trans hqq)
            replace c36 := fun wq (hqq : On w2 wq) => c36 wq (hb.trans hqq)
            replace c39 := fun wq (hqq : On w2 wq) => c39 wq (hb.trans hqq)
            replace c45 := fun wq (hqq : On w2 wq) => c45 wq (hb.trans hqq)
            replace cP := fun wq (hqq : On w2 wq) => cP wq (hb.trans hqq)
            replace hb0 := On.refl w2
            replace hb1 : ∀ ob : Obj, On w2 (w2.alloc ob) := fun ob => (On.refl w2).alloc ob
            have HB := Lib.hid (HB.out.trans hb)
            clear hb hb'
            go_wp2_with (first | ((with_reducible apply hrt_ld); (case ho => exact rfl); (case hgd => exact rfl); (case hx => exact rfl); (case hg => (first | exact s0 _ (by first | exact hb0 | exact hb1 _) | exact heap_alloc_new _ _))) | ((with_reducible apply hrt_new_st); (case ho => exact rfl); (case hgd => exact rfl); (case hx => exact rfl); (case hy => exact rfl)))
            go_at_call 12; refine (K1.out _).mono ?_; rintro _ w3 ⟨rfl, hb'⟩
            have hb := hb'
            replace s0 := fun wq (h : On w3 wq) => s0 wq (hb.trans h)
            replace c35 := fun wq (h : On w3 wq) => c35 wq (hb.trans h)
            replace c36 := fun wq (h : On w3 wq) => c36 wq (hb.trans h)
            replace c39 := fun wq (h : On w3 wq) => c39 wq (hb.trans h)
            replace c45 := fun wq (h : On w3 wq) => c45 wq (hb.trans h)
            replace cP := fun wq (h : On w3 wq) => cP wq (hb.trans h)
            replace hb0 := On.refl w3
            replace hb1 : ∀ ob : Obj, On w3 (w3.alloc ob) := fun ob => (On.refl w3).alloc ob
            have HB := Lib.hid (HB.out.trans hb)
            clear hb hb'
            go_wp2_with (first | ((with_reducible apply hrt_ld); (case ho => exact rfl); (case hgd => exact rfl); (case hx => exact rfl); (case hg => (first | exact s0 _ (by first | exact hb0 | exact hb1 _) | exact heap_alloc_new _ _))) | ((with_reducible apply hrt_new_st); (case ho => exact rfl); (case hgd => exact rfl); (case hx => exact rfl); (case hy => exact rfl)))
            go_quiet (fail)
            rename_i nq
            have hb' := on_drawn (w3.alloc (.cells (hV y 1 false) 28)) nq
            generalize hwn : (w3.alloc (.cells (hV y 1 false) 28)).drewN nq = w4 at *
            clear hwn
            have s1 := fun wq (hqq : On w4 wq) => (hb'.trans hqq).keep (heap_alloc_new _ _)
            have hb := (hb1 _).trans hb'
            replace s0 := fun wq (hqq : On w4 wq) => s0 wq (hb.trans hqq)
            replace c35 := fun wq (hqq : On w4 wq) => c35 wq (hb.trans hqq)
            replace c36 := fun wq (hqq : On w4 wq) => c36 wq (hb.trans hqq)
            replace c39 := fun wq (hqq : On w4 wq) => c39 wq (hb.trans hqq)
            replace c45 := fun wq (hqq : On w4 wq) => c45 wq (hb.trans hqq)
            replace cP := fun wq (hqq : On w4 wq) => cP wq (hb.trans hqq)
            replace hb0 := On.refl w4
            replace hb1 : ∀ ob : Obj, On w4 (w4.alloc ob) := fun ob => (On.refl w4).alloc ob
            have HB := Lib.hid (HB.out.trans hb)
            clear hb hb'
            have y0c := fun wq (hqq : On w4 wq) => blk_cell (s1 wq hqq) 0 g0
            have y1c := fun wq (hqq : On w4 wq) => blk_cell (s1 wq hqq) 49 g49
            have y3c := fun wq (hqq : On w4 wq) => blk_cell (s1 wq hqq) 50 g50
            have yPc := fun wq (hqq : On w4 wq) => blk_cell (s1 wq hqq) 1 (hV_priv y 1 false)
            go_wp2_with (first | ((with_reducible apply hrt_ld); (case ho => exact rfl); (case hgd => exact rfl); (case hx => exact rfl); (case hg => (first | exact s0 _ (by first | exact hb0 | exact hb1 _) | exact s1 _ (by first | exact hb0 | exact hb1 _) | exact heap_alloc_new _ _))) | ((with_reducible apply hrt_new_st); (case ho => exact rfl); (case hgd => exact rfl); (case hx => exact rfl); (case hy => exact rfl)))
            go_quiet (fail)
            rename_i nq
            have hb' := on_drawn (w4) nq
            generalize hwn : (w4).drewN nq = w5 at *
            clear hwn
            have hb := hb'
            replace s0 := fun wq (hqq : On w5 wq) => s0 wq (hb.trans hqq)
            replace s1 := fun wq (hqq : On w5 wq) => s1 wq (hb.trans hqq)
            replace c35 := fun wq (hqq : On w5 wq) => c35 wq (hb.trans hqq)
            replace c36 := fun wq (hqq : On w5 wq) => c36 wq (hb.trans hqq)
            replace c39 := fun wq (hqq : On w5 wq) => c39 wq (hb.trans hqq)
            replace c45 := fun wq (hqq : On w5 wq) => c45 wq (hb.trans hqq)
            replace cP := fun wq (hqq : On w5 wq) => cP wq (hb.trans hqq)
            replace y0c := fun wq (hqq : On w5 wq) => y0c wq (hb.trans hqq)
            replace y1c := fun wq (hqq : On w5 wq) => y1c wq (hb.trans hqq)
            replace y3c := fun wq (hqq : On w5 wq) => y3c wq (hb.trans hqq)
            replace yPc := fun wq (hqq : On w5 wq) => yPc wq (hb.trans hqq)
            replace hb0 := On.refl w5
            replace hb1 : ∀ ob : Obj, On w5 (w5.alloc ob) := fun ob => (On.refl w5).alloc ob
            have HB := Lib.hid (HB.out.trans hb)
            clear hb hb'
            go_wp2_with (first | ((with_reducible apply hrt_ld); (case ho => exact rfl); (case hgd => exact rfl); (case hx => exact rfl); (case hg => (first | exact s0 _ (by first | exact hb0 | exact hb1 _) | exact s1 _ (by first | exact hb0 | exact hb1 _) | exact heap_alloc_new _ _))) | ((with_reducible apply hrt_new_st); (case ho => exact rfl); (case hgd => exact rfl); (case hx => exact rfl); (case hy => exact rfl)))
            go_at_call 11; refine (awake8_yes _).mono ?_; rintro _ w6 ⟨rfl, hb'⟩
            have hb := hb'
            replace s0 := fun wq (h : On w6 wq) => s0 wq (hb.trans h)
            replace s1 := fun wq (h : On w6 wq) => s1 wq (hb.trans h)
            replace c35 := fun wq (h : On w6 wq) => c35 wq (hb.trans h)
            replace c36 := fun wq (h : On w6 wq) => c36 wq (hb.trans h)
            replace c39 := fun wq (h : On w6 wq) => c39 wq (hb.trans h)
            replace c45 := fun wq (h : On w6 wq) => c45 wq (hb.trans h)
            replace cP := fun wq (h : On w6 wq) => cP wq (hb.trans h)
            replace y0c := fun wq (h : On w6 wq) => y0c wq (hb.trans h)
            replace y1c := fun wq (h : On w6 wq) => y1c wq (hb.trans h)
            replace y3c := fun wq (h : On w6 wq) => y3c wq (hb.trans h)
            replace yPc := fun wq (h : On w6 wq) => yPc wq (hb.trans h)
            replace hb0 := On.refl w6
            replace hb1 : ∀ ob : Obj, On w6 (w6.alloc ob) := fun ob => (On.refl w6).alloc ob
            have HB := Lib.hid (HB.out.trans hb)
            clear hb hb'
            go_wp2
            go_ret
            exact ⟨rfl, HB.out⟩
          · have ct : (0x8000000000000000#64 ||| v).getLsbD 63 = true := top_set v
            have cn : (0x8000000000000000#64 ||| v) &&& 63#64 = v := by rw [top_num, vn]
            have cc : cau (0x8000000000000000#64 ||| v) = (0x8000000000000000#64 ||| v) := cau_top16 hv16
            have hd : dlg h 1 (0x8000000000000000#64 ||| v) = true := by unfold dlg; rw [ct, cn]; exact hb
            have y1 : u (entH h 1 (0x8000000000000000#64 ||| v) t 49) = u (0x8000000000000000#64 ||| v) := by rw [ent_S h 1 (0x8000000000000000#64 ||| v) t hd, cc]; rfl
            have y3 : u (entH h 1 (0x8000000000000000#64 ||| v) t 50) = u t := by rw [ent_S h 1 (0x8000000000000000#64 ||| v) t hd]; rfl
            have y0 : u (entH h 1 (0x8000000000000000#64 ||| v) t 0) = u ((h 45 &&& ~~~3#64) + 4#64 * v) := by rw [ent_S h 1 (0x8000000000000000#64 ||| v) t hd, show upd (entS h 1 (cau (0x8000000000000000#64 ||| v)) t) 65 0#64 0 = hdl (h 45) (cau (0x8000000000000000#64 ||| v)) from rfl]; unfold hdl; rw [cc, ct, cn, hq]; rfl
            have K1 : Hid (∀ w, Calls Try.prog 12 #[.agg (hV h 1 r), .int .u64 (u (0x8000000000000000#64 ||| v)), .int .u64 (u t)] w fun r' w' => r' = .returned (.agg (hV (entH h 1 (0x8000000000000000#64 ||| v) t) 1 false)) ∧ On w w') := Lib.hid (fun w => by have := enter_any h 1 r (0x8000000000000000#64 ||| v) t w; unfold entP at this; rw [hd] at this; exact this)
            have O1 : bits .or .u64 (u v) 9223372036854775808 = u (0x8000000000000000#64 ||| v) := by rw [show (9223372036854775808 : Int) = u 0x8000000000000000#64 from rfl, u_or, BitVec.or_comm]
            generalize entH h 1 (0x8000000000000000#64 ||| v) t = y at *
            generalize 0x8000000000000000#64 ||| v = c at *
            have d1 : (bits .and .u64 (u (h 36 >>> v.toNat)) 1 == 1) = true := (bit_at1 _ _).trans hb
            have d2 : bits .and .u64 (u (h 36 >>> v.toNat)) 1 = 1 := by simpa using d1
            have l1 : (bits .and .u64 (u (h 45)) 1 == 1) = true := (low_test1' _).trans hq
            have l2 : bits .and .u64 (u (h 45)) 1 = 1 := by simpa using l1
            have m1 : bits .andNot .u64 (u (h 45)) 3 = u (h 45 &&& ~~~3#64) := u_andNot _ 3#64
            have m2 : IntKind.u64.wrap (u (h 45 &&& ~~~3#64) + u (4#64 * v)) = u ((h 45 &&& ~~~3#64) + 4#64 * v) := u_add _ _
            clear ct cn cc hd hq v63 vn hv16 hb
            have g0 := hV_get y 1 false 0 (by omega) (by omega) (by omega)
            have g49 := hV_get y 1 false 49 (by omega) (by omega) (by omega)
            have g50 := hV_get y 1 false 50 (by omega) (by omega) (by omega)
            have s0 : ∀ wq, On (w.alloc (.cells (hV h 1 r) 28)) wq → wq.heap[w.heap.size]? = some (.cells (hV h 1 r) 28 (0, 0)) := fun _ h => h.keep (heap_alloc_new _ _)
            have hb0 := On.refl ((w.alloc (.cells (hV h 1 r) 28)))
            have hb1 : ∀ ob : Obj, On ((w.alloc (.cells (hV h 1 r) 28))) (((w.alloc (.cells (hV h 1 r) 28))).alloc ob) := fun ob => (On.refl _).alloc ob
            have c35 : ∀ wq, On (w.alloc (.cells (hV h 1 r) 28)) wq → wq.cell? ⟨w.heap.size, 35, none⟩ = some (.int .u64 (u (h 35))) := fun _ hqq => blk_cell (s0 _ hqq) 35 (hV_get h 1 r 35 (by omega) (by omega) (by omega))
            have c36 : ∀ wq, On (w.alloc (.cells (hV h 1 r) 28)) wq → wq.cell? ⟨w.heap.size, 36, none⟩ = some (.int .u64 (u (h 36))) := fun _ hqq => blk_cell (s0 _ hqq) 36 (hV_get h 1 r 36 (by omega) (by omega) (by omega))
            have c39 : ∀ wq, On (w.alloc (.cells (hV h 1 r) 28)) wq → wq.cell? ⟨w.heap.size, 39, none⟩ = some (.int .u64 (u (h 39))) := fun _ hqq => blk_cell (s0 _ hqq) 39 (hV_get h 1 r 39 (by omega) (by omega) (by omega))
            have c45 : ∀ wq, On (w.alloc (.cells (hV h 1 r) 28)) wq → wq.cell? ⟨w.heap.size, 45, none⟩ = some (.int .u64 (u (h 45))) := fun _ hqq => blk_cell (s0 _ hqq) 45 (hV_get h 1 r 45 (by omega) (by omega) (by omega))
            have cP : ∀ wq, On (w.alloc (.cells (hV h 1 r) 28)) wq → wq.cell? ⟨w.heap.size, 1, none⟩ = some (.int .i64 1) := fun _ hqq => blk_cell (s0 _ hqq) 1 (hV_priv h 1 r)
            have HB : Hid (On w ((w.alloc (.cells (hV h 1 r) 28)))) := Lib.hid ((On.refl w).alloc _)
            go_enter Try.func9, Try.ntmps9
            go_wp2_with (first | ((with_reducible apply hrt_ld); (case ho => exact rfl); (case hgd => exact rfl); (case hx => exact rfl); (case hg => (first | exact s0 _ (by first | exact hb0 | exact hb1 _) | exact heap_alloc_new _ _))) | ((with_reducible apply hrt_new_st); (case ho => exact rfl); (case hgd => exact rfl); (case hx => exact rfl); (case hy => exact rfl)))
            go_quiet (fail)
            rename_i nq
            have hb' := on_drawn ((w.alloc (.cells (hV h 1 r) 28))) nq
            generalize hwn : ((w.alloc (.cells (hV h 1 r) 28))).drewN nq = w1 at *
            clear hwn
            have hb := hb'
            replace s0 := fun wq (hqq : On w1 wq) => s0 wq (hb.trans hqq)
            replace c35 := fun wq (hqq : On w1 wq) => c35 wq (hb.trans hqq)
            replace c36 := fun wq (hqq : On w1 wq) => c36 wq (hb.trans hqq)
            replace c39 := fun wq (hqq : On w1 wq) => c39 wq (hb.trans hqq)
            replace c45 := fun wq (hqq : On w1 wq) => c45 wq (hb.trans hqq)
            replace cP := fun wq (hqq : On w1 wq) => cP wq (hb.trans hqq)
            replace hb0 := On.refl w1
            replace hb1 : ∀ ob : Obj, On w1 (w1.alloc ob) := fun ob => (On.refl w1).alloc ob
            have HB := Lib.hid (HB.out.trans hb)
            clear hb hb'
            go_wp2_with (first | ((with_reducible apply hrt_ld); (case ho => exact rfl); (case hgd => exact rfl); (case hx => exact rfl); (case hg => (first | exact s0 _ (by first | exact hb0 | exact hb1 _) | exact heap_alloc_new _ _))) | ((with_reducible apply hrt_new_st); (case ho => exact rfl); (case hgd => exact rfl); (case hx => exact rfl); (case hy => exact rfl)))
            go_quiet (fail)
            rename_i nq
            have hb' := on_drawn (w1) nq
            generalize hwn : (w1).drewN nq = w2 at *
            clear hwn
            have hb := hb'
            replace s0 := fun wq (hqq : On w2 wq) => s0 wq (hb.trans hqq)
            replace c35 := fun wq (hqq : On w2 wq) => c35 wq (hb.trans hqq)
            replace c36 := fun wq (hqq : On w2 wq) => c36 wq (hb.trans hqq)
            replace c39 := fun wq (hqq : On w2 wq) => c39 wq (hb.trans hqq)
            replace c45 := fun wq (hqq : On w2 wq) => c45 wq (hb.trans hqq)
            replace cP := fun wq (hqq : On w2 wq) => cP wq (hb.trans hqq)
            replace hb0 := On.refl w2
            replace hb1 : ∀ ob : Obj, On w2 (w2.alloc ob) := fun ob => (On.refl w2).alloc ob
            have HB := Lib.hid (HB.out.trans hb)
            clear hb hb'
            go_wp2_with (first | ((with_reducible apply hrt_ld); (case ho => exact rfl); (case hgd => exact rfl); (case hx => exact rfl); (case hg => (first | exact s0 _ (by first | exact hb0 | exact hb1 _) | exact heap_alloc_new _ _))) | ((with_reducible apply hrt_new_st); (case ho => exact rfl); (case hgd => exact rfl); (case hx => exact rfl); (case hy => exact rfl)))
            go_at_call 12; refine (K1.out _).mono ?_; rintro _ w3 ⟨rfl, hb'⟩
            have hb := hb'
            replace s0 := fun wq (h : On w3 wq) => s0 wq (hb.trans h)
            replace c35 := fun wq (h : On w3 wq) => c35 wq (hb.trans h)
            replace c36 := fun wq (h : On w3 wq) => c36 wq (hb.trans h)
            replace c39 := fun wq (h : On w3 wq) => c39 wq (hb.trans h)
            replace c45 := fun wq (h : On w3 wq) => c45 wq (hb.trans h)
            replace cP := fun wq (h : On w3 wq) => cP wq (hb.trans h)
            replace hb0 := On.refl w3
            replace hb1 : ∀ ob : Obj, On w3 (w3.alloc ob) := fun ob => (On.refl w3).alloc ob
            have HB := Lib.hid (HB.out.trans hb)
            clear hb hb'
            go_wp2_with (first | ((with_reducible apply hrt_ld); (case ho => exact rfl); (case hgd => exact rfl); (case hx => exact rfl); (case hg => (first | exact s0 _ (by first | exact hb0 | exact hb1 _) | exact heap_alloc_new _ _))) | ((with_reducible apply hrt_new_st); (case ho => exact rfl); (case hgd => exact rfl); (case hx => exact rfl); (case hy => exact rfl)))
            go_quiet (fail)
            rename_i nq
            have hb' := on_drawn (w3.alloc (.cells (hV y 1 false) 28)) nq
            generalize hwn : (w3.alloc (.cells (hV y 1 false) 28)).drewN nq = w4 at *
            clear hwn
            have s1 := fun wq (hqq : On w4 wq) => (hb'.trans hqq).keep (heap_alloc_new _ _)
            have hb := (hb1 _).trans hb'
            replace s0 := fun wq (hqq : On w4 wq) => s0 wq (hb.trans hqq)
            replace c35 := fun wq (hqq : On w4 wq) => c35 wq (hb.trans hqq)
            replace c36 := fun wq (hqq : On w4 wq) => c36 wq (hb.trans hqq)
            replace c39 := fun wq (hqq : On w4 wq) => c39 wq (hb.trans hqq)
            replace c45 := fun wq (hqq : On w4 wq) => c45 wq (hb.trans hqq)
            replace cP := fun wq (hqq : On w4 wq) => cP wq (hb.trans hqq)
            replace hb0 := On.refl w4
            replace hb1 : ∀ ob : Obj, On w4 (w4.alloc ob) := fun ob => (On.refl w4).alloc ob
            have HB := Lib.hid (HB.out.trans hb)
            clear hb hb'
            have y0c := fun wq (hqq : On w4 wq) => blk_cell (s1 wq hqq) 0 g0
            have y1c := fun wq (hqq : On w4 wq) => blk_cell (s1 wq hqq) 49 g49
            have y3c := fun wq (hqq : On w4 wq) => blk_cell (s1 wq hqq) 50 g50
            have yPc := fun wq (hqq : On w4 wq) => blk_cell (s1 wq hqq) 1 (hV_priv y 1 false)
            go_wp2_with (first | ((with_reducible apply hrt_ld); (case ho => exact rfl); (case hgd => exact rfl); (case hx => exact rfl); (case hg => (first | exact s0 _ (by first | exact hb0 | exact hb1 _) | exact s1 _ (by first | exact hb0 | exact hb1 _) | exact heap_alloc_new _ _))) | ((with_reducible apply hrt_new_st); (case ho => exact rfl); (case hgd => exact rfl); (case hx => exact rfl); (case hy => exact rfl)))
            go_quiet (fail)
            rename_i nq
            have hb' := on_drawn (w4) nq
            generalize hwn : (w4).drewN nq = w5 at *
            clear hwn
            have hb := hb'
            replace s0 := fun wq (hqq : On w5 wq) => s0 wq (hb.trans hqq)
            replace s1 := fun wq (hqq : On w5 wq) => s1 wq (hb.trans hqq)
            replace c35 := fun wq (hqq : On w5 wq) => c35 wq (hb.trans hqq)
            replace c36 := fun wq (hqq : On w5 wq) => c36 wq (hb.trans hqq)
            replace c39 := fun wq (hqq : On w5 wq) => c39 wq (hb.trans hqq)
            replace c45 := fun wq (hqq : On w5 wq) => c45 wq (hb.trans hqq)
            replace cP := fun wq (hqq : On w5 wq) => cP wq (hb.trans hqq)
            replace y0c := fun wq (hqq : On w5 wq) => y0c wq (hb.trans hqq)
            replace y1c := fun wq (hqq : On w5 wq) => y1c wq (hb.trans hqq)
            replace y3c := fun wq (hqq : On w5 wq) => y3c wq (hb.trans hqq)
            replace yPc := fun wq (hqq : On w5 wq) => yPc wq (hb.trans hqq)
            replace hb0 := On.refl w5
            replace hb1 : ∀ ob : Obj, On w5 (w5.alloc ob) := fun ob => (On.refl w5).alloc ob
            have HB := Lib.hid (HB.out.trans hb)
            clear hb hb'
            go_wp2_with (first | ((with_reducible apply hrt_ld); (case ho => exact rfl); (case hgd => exact rfl); (case hx => exact rfl); (case hg => (first | exact s0 _ (by first | exact hb0 | exact hb1 _) | exact s1 _ (by first | exact hb0 | exact hb1 _) | exact heap_alloc_new _ _))) | ((with_reducible apply hrt_new_st); (case ho => exact rfl); (case hgd => exact rfl); (case hx => exact rfl); (case hy => exact rfl)))
            go_at_call 11; refine (awake8_yes _).mono ?_; rintro _ w6 ⟨rfl, hb'⟩
            have hb := hb'
            replace s0 := fun wq (h : On w6 wq) => s0 wq (hb.trans h)
            replace s1 := fun wq (h : On w6 wq) => s1 wq (hb.trans h)
            replace c35 := fun wq (h : On w6 wq) => c35 wq (hb.trans h)
            replace c36 := fun wq (h : On w6 wq) => c36 wq (hb.trans h)
            replace c39 := fun wq (h : On w6 wq) => c39 wq (hb.trans h)
            replace c45 := fun wq (h : On w6 wq) => c45 wq (hb.trans h)
            replace cP := fun wq (h : On w6 wq) => cP wq (hb.trans h)
            replace y0c := fun wq (h : On w6 wq) => y0c wq (hb.trans h)
            replace y1c := fun wq (h : On w6 wq) => y1c wq (hb.trans h)
            replace y3c := fun wq (h : On w6 wq) => y3c wq (hb.trans h)
            replace yPc := fun wq (h : On w6 wq) => yPc wq (hb.trans h)
            replace hb0 := On.refl w6
            replace hb1 : ∀ ob : Obj, On w6 (w6.alloc ob) := fun ob => (On.refl w6).alloc ob
            have HB := Lib.hid (HB.out.trans hb)
            clear hb hb'
            go_wp2
            go_ret
            exact ⟨rfl, HB.out⟩
      · cases hq : (h 39).getLsbD 0
        · have ct : (0x8000000000000000#64 ||| v).getLsbD 63 = true := top_set v
          have cn : (0x8000000000000000#64 ||| v) &&& 63#64 = v := by rw [top_num, vn]
          have cc : cau (0x8000000000000000#64 ||| v) = (0x8000000000000000#64 ||| v) := cau_top16 hv16
          have p0 : (p == 0) = false := by simpa using h0
          have p1 : (p == 1) = false := by simpa using h1
          have hd : dlg h p (0x8000000000000000#64 ||| v) = false := by unfold dlg; rw [p0, p1]; rfl
          have y1 : u (entH h p (0x8000000000000000#64 ||| v) t 43) = u (0x8000000000000000#64 ||| v) := by rw [ent_M h p (0x8000000000000000#64 ||| v) t hd, cc]; rfl
          have y3 : u (entH h p (0x8000000000000000#64 ||| v) t 44) = u t := by rw [ent_M h p (0x8000000000000000#64 ||| v) t hd]; rfl
          have y0 : u (entH h p (0x8000000000000000#64 ||| v) t 0) = u (h 39 &&& ~~~3#64) := by rw [ent_M h p (0x8000000000000000#64 ||| v) t hd, show upd (entM h p (cau (0x8000000000000000#64 ||| v)) t) 65 0#64 0 = hdl (h 39) (cau (0x8000000000000000#64 ||| v)) from rfl]; unfold hdl; rw [cc, ct, cn, hq]; rfl
          have K1 : Hid (∀ w, Calls Try.prog 12 #[.agg (hV h p r), .int .u64 (u (0x8000000000000000#64 ||| v)), .int .u64 (u t)] w fun r' w' => r' = .returned (.agg (hV (entH h p (0x8000000000000000#64 ||| v) t) 3 false)) ∧ On w w') := Lib.hid (fun w => by have := enter_any h p r (0x8000000000000000#64 ||| v) t w; unfold entP at this; rw [hd] at this; exact this)
          have O1 : bits .or .u64 (u v) 9223372036854775808 = u (0x8000000000000000#64 ||| v) := by rw [show (9223372036854775808 : Int) = u 0x8000000000000000#64 from rfl, u_or, BitVec.or_comm]
          generalize entH h p (0x8000000000000000#64 ||| v) t = y at *
          generalize 0x8000000000000000#64 ||| v = c at *
          have l1 : (bits .and .u64 (u (h 39)) 1 == 1) = false := (low_test1' _).trans hq
          have l2 : ¬ bits .and .u64 (u (h 39)) 1 = 1 := by simpa using l1
          have m1 : bits .andNot .u64 (u (h 39)) 3 = u (h 39 &&& ~~~3#64) := u_andNot _ 3#64
          clear ct cn cc hd hq v63 vn hv16 h0 h1
          have g0 := hV_get y 3 false 0 (by omega) (by omega) (by omega)
          have g43 := hV_get y 3 false 43 (by omega) (by omega) (by omega)
          have g44 := hV_get y 3 false 44 (by omega) (by omega) (by omega)
          have s0 : ∀ wq, On (w.alloc (.cells (hV h p r) 28)) wq → wq.heap[w.heap.size]? = some (.cells (hV h p r) 28 (0, 0)) := fun _ h => h.keep (heap_alloc_new _ _)
          have hb0 := On.refl ((w.alloc (.cells (hV h p r) 28)))
          have hb1 : ∀ ob : Obj, On ((w.alloc (.cells (hV h p r) 28))) (((w.alloc (.cells (hV h p r) 28))).alloc ob) := fun ob => (On.refl _).alloc ob
          have c35 : ∀ wq, On (w.alloc (.cells (hV h p r) 28)) wq → wq.cell? ⟨w.heap.size, 35, none⟩ = some (.int .u64 (u (h 35))) := fun _ hqq => blk_cell (s0 _ hqq) 35 (hV_get h p r 35 (by omega) (by omega) (by omega))
          have c36 : ∀ wq, On (w.alloc (.cells (hV h p r) 28)) wq → wq.cell? ⟨w.heap.size, 36, none⟩ = some (.int .u64 (u (h 36))) := fun _ hqq => blk_cell (s0 _ hqq) 36 (hV_get h p r 36 (by omega) (by omega) (by omega))
          have c39 : ∀ wq, On (w.alloc (.cells (hV h p r) 28)) wq → wq.cell? ⟨w.heap.size, 39, none⟩ = some (.int .u64 (u (h 39))) := fun _ hqq => blk_cell (s0 _ hqq) 39 (hV_get h p r 39 (by omega) (by omega) (by omega))
          have c45 : ∀ wq, On (w.alloc (.cells (hV h p r) 28)) wq → wq.cell? ⟨w.heap.size, 45, none⟩ = some (.int .u64 (u (h 45))) := fun _ hqq => blk_cell (s0 _ hqq) 45 (hV_get h p r 45 (by omega) (by omega) (by omega))
          have cP : ∀ wq, On (w.alloc (.cells (hV h p r) 28)) wq → wq.cell? ⟨w.heap.size, 1, none⟩ = some (.int .i64 p) := fun _ hqq => blk_cell (s0 _ hqq) 1 (hV_priv h p r)
          have HB : Hid (On w ((w.alloc (.cells (hV h p r) 28)))) := Lib.hid ((On.refl w).alloc _)
          go_enter Try.func9, Try.ntmps9
          go_wp2_with (first | ((with_reducible apply hrt_ld); (case ho => exact rfl); (case hgd => exact rfl); (case hx => exact rfl); (case hg => (first | exact s0 _ (by first | exact hb0 | exact hb1 _) | exact heap_alloc_new _ _))) | ((with_reducible apply hrt_new_st); (case ho => exact rfl); (case hgd => exact rfl); (case hx => exact rfl); (case hy => exact rfl)))
          go_quiet (fail)
          rename_i nq
          have hb' := on_drawn ((w.alloc (.cells (hV h p r) 28))) nq
          generalize hwn : ((w.alloc (.cells (hV h p r) 28))).drewN nq = w1 at *
          clear hwn
          have hb := hb'
          replace s0 := fun wq (hqq : On w1 wq) => s0 wq (hb.trans hqq)
          replace c35 := fun wq (hqq : On w1 wq) => c35 wq (hb.trans hqq)
          replace c36 := fun wq (hqq : On w1 wq) => c36 wq (hb.trans hqq)
          replace c39 := fun wq (hqq : On w1 wq) => c39 wq (hb.trans hqq)
          replace c45 := fun wq (hqq : On w1 wq) => c45 wq (hb.trans hqq)
          replace cP := fun wq (hqq : On w1 wq) => cP wq (hb.trans hqq)
          replace hb0 := On.refl w1
          replace hb1 : ∀ ob : Obj, On w1 (w1.alloc ob) := fun ob => (On.refl w1).alloc ob
          have HB := Lib.hid (HB.out.trans hb)
          clear hb hb'
          go_wp2_with (first | ((with_reducible apply hrt_ld); (case ho => exact rfl); (case hgd => exact rfl); (case hx => exact rfl); (case hg => (first | exact s0 _ (by first | exact hb0 | exact hb1 _) | exact heap_alloc_new _ _))) | ((with_reducible apply hrt_new_st); (case ho => exact rfl); (case hgd => exact rfl); (case hx => exact rfl); (case hy => exact rfl)))
          go_quiet (fail)
          rename_i nq
          have hb' := on_drawn (w1) nq
          generalize hwn : (w1).drewN nq = w2 at *
          clear hwn
          have hb := hb'
          replace s0 := fun wq (hqq : On w2 wq) => s0 wq (hb.trans hqq)
          replace c35 := fun wq (hqq : On w2 wq) => c35 wq (hb.trans hqq)
          replace c36 := fun wq (hqq : On w2 wq) => c36 wq (hb.trans hqq)
          replace c39 := fun wq (hqq : On w2 wq) => c39 wq (hb.trans hqq)
          replace c45 := fun wq (hqq : On w2 wq) => c45 wq (hb.trans hqq)
          replace cP := fun wq (hqq : On w2 wq) => cP wq (hb.trans hqq)
          replace hb0 := On.refl w2
          replace hb1 : ∀ ob : Obj, On w2 (w2.alloc ob) := fun ob => (On.refl w2).alloc ob
          have HB := Lib.hid (HB.out.trans hb)
          clear hb hb'
          go_wp2_with (first | ((with_reducible apply hrt_ld); (case ho => exact rfl); (case hgd => exact rfl); (case hx => exact rfl); (case hg => (first | exact s0 _ (by first | exact hb0 | exact hb1 _) | exact heap_alloc_new _ _))) | ((with_reducible apply hrt_new_st); (case ho => exact rfl); (case hgd => exact rfl); (case hx => exact rfl); (case hy => exact rfl)))
          go_at_call 12; refine (K1.out _).mono ?_; rintro _ w3 ⟨rfl, hb'⟩
          have hb := hb'
          replace s0 := fun wq (h : On w3 wq) => s0 wq (hb.trans h)
          replace c35 := fun wq (h : On w3 wq) => c35 wq (hb.trans h)
          replace c36 := fun wq (h : On w3 wq) => c36 wq (hb.trans h)
          replace c39 := fun wq (h : On w3 wq) => c39 wq (hb.trans h)
          replace c45 := fun wq (h : On w3 wq) => c45 wq (hb.trans h)
          replace cP := fun wq (h : On w3 wq) => cP wq (hb.trans h)
          replace hb0 := On.refl w3
          replace hb1 : ∀ ob : Obj, On w3 (w3.alloc ob) := fun ob => (On.refl w3).alloc ob
          have HB := Lib.hid (HB.out.trans hb)
          clear hb hb'
          go_wp2_with (first | ((with_reducible apply hrt_ld); (case ho => exact rfl); (case hgd => exact rfl); (case hx => exact rfl); (case hg => (first | exact s0 _ (by first | exact hb0 | exact hb1 _) | exact heap_alloc_new _ _))) | ((with_reducible apply hrt_new_st); (case ho => exact rfl); (case hgd => exact rfl); (case hx => exact rfl); (case hy => exact rfl)))
          go_quiet (fail)
          rename_i nq
          have hb' := on_drawn (w3.alloc (.cells (hV y 3 false) 28)) nq
          generalize hwn : (w3.alloc (.cells (hV y 3 false) 28)).drewN nq = w4 at *
          clear hwn
          have s1 := fun wq (hqq : On w4 wq) => (hb'.trans hqq).keep (heap_alloc_new _ _)
          have hb := (hb1 _).trans hb'
          replace s0 := fun wq (hqq : On w4 wq) => s0 wq (hb.trans hqq)
          replace c35 := fun wq (hqq : On w4 wq) => c35 wq (hb.trans hqq)
          replace c36 := fun wq (hqq : On w4 wq) => c36 wq (hb.trans hqq)
          replace c39 := fun wq (hqq : On w4 wq) => c39 wq (hb.trans hqq)
          replace c45 := fun wq (hqq : On w4 wq) => c45 wq (hb.trans hqq)
          replace cP := fun wq (hqq : On w4 wq) => cP wq (hb.trans hqq)
          replace hb0 := On.refl w4
          replace hb1 : ∀ ob : Obj, On w4 (w4.alloc ob) := fun ob => (On.refl w4).alloc ob
          have HB := Lib.hid (HB.out.trans hb)
          clear hb hb'
          have y0c := fun wq (hqq : On w4 wq) => blk_cell (s1 wq hqq) 0 g0
          have y1c := fun wq (hqq : On w4 wq) => blk_cell (s1 wq hqq) 43 g43
          have y3c := fun wq (hqq : On w4 wq) => blk_cell (s1 wq hqq) 44 g44
          have yPc := fun wq (hqq : On w4 wq) => blk_cell (s1 wq hqq) 1 (hV_priv y 3 false)
          go_wp2_with (first | ((with_reducible apply hrt_ld); (case ho => exact rfl); (case hgd => exact rfl); (case hx => exact rfl); (case hg => (first | exact s0 _ (by first | exact hb0 | exact hb1 _) | exact s1 _ (by first | exact hb0 | exact hb1 _) | exact heap_alloc_new _ _))) | ((with_reducible apply hrt_new_st); (case ho => exact rfl); (case hgd => exact rfl); (case hx => exact rfl); (case hy => exact rfl)))
          go_at_call 11; refine (awake8_yes _).mono ?_; rintro _ w5 ⟨rfl, hb'⟩
          have hb := hb'
          replace s0 := fun wq (h : On w5 wq) => s0 wq (hb.trans h)
          replace s1 := fun wq (h : On w5 wq) => s1 wq (hb.trans h)
          replace c35 := fun wq (h : On w5 wq) => c35 wq (hb.trans h)
          replace c36 := fun wq (h : On w5 wq) => c36 wq (hb.trans h)
          replace c39 := fun wq (h : On w5 wq) => c39 wq (hb.trans h)
          replace c45 := fun wq (h : On w5 wq) => c45 wq (hb.trans h)
          replace cP := fun wq (h : On w5 wq) => cP wq (hb.trans h)
          replace y0c := fun wq (h : On w5 wq) => y0c wq (hb.trans h)
          replace y1c := fun wq (h : On w5 wq) => y1c wq (hb.trans h)
          replace y3c := fun wq (h : On w5 wq) => y3c wq (hb.trans h)
          replace yPc := fun wq (h : On w5 wq) => yPc wq (hb.trans h)
          replace hb0 := On.refl w5
          replace hb1 : ∀ ob : Obj, On w5 (w5.alloc ob) := fun ob => (On.refl w5).alloc ob
          have HB := Lib.hid (HB.out.trans hb)
          clear hb hb'
          go_wp2
          go_ret
          exact ⟨rfl, HB.out⟩
        · have ct : (0x8000000000000000#64 ||| v).getLsbD 63 = true := top_set v
          have cn : (0x8000000000000000#64 ||| v) &&& 63#64 = v := by rw [top_num, vn]
          have cc : cau (0x8000000000000000#64 ||| v) = (0x8000000000000000#64 ||| v) := cau_top16 hv16
          have p0 : (p == 0) = false := by simpa using h0
          have p1 : (p == 1) = false := by simpa using h1
          have hd : dlg h p (0x8000000000000000#64 ||| v) = false := by unfold dlg; rw [p0, p1]; rfl
          have y1 : u (entH h p (0x8000000000000000#64 ||| v) t 43) = u (0x8000000000000000#64 ||| v) := by rw [ent_M h p (0x8000000000000000#64 ||| v) t hd, cc]; rfl
          have y3 : u (entH h p (0x8000000000000000#64 ||| v) t 44) = u t := by rw [ent_M h p (0x8000000000000000#64 ||| v) t hd]; rfl
          have y0 : u (entH h p (0x8000000000000000#64 ||| v) t 0) = u ((h 39 &&& ~~~3#64) + 4#64 * v) := by rw [ent_M h p (0x8000000000000000#64 ||| v) t hd, show upd (entM h p (cau (0x8000000000000000#64 ||| v)) t) 65 0#64 0 = hdl (h 39) (cau (0x8000000000000000#64 ||| v)) from rfl]; unfold hdl; rw [cc, ct, cn, hq]; rfl
          have K1 : Hid (∀ w, Calls Try.prog 12 #[.agg (hV h p r), .int .u64 (u (0x8000000000000000#64 ||| v)), .int .u64 (u t)] w fun r' w' => r' = .returned (.agg (hV (entH h p (0x8000000000000000#64 ||| v) t) 3 false)) ∧ On w w') := Lib.hid (fun w => by have := enter_any h p r (0x8000000000000000#64 ||| v) t w; unfold entP at this; rw [hd] at this; exact this)
          have O1 : bits .or .u64 (u v) 9223372036854775808 = u (0x8000000000000000#64 ||| v) := by rw [show (9223372036854775808 : Int) = u 0x8000000000000000#64 from rfl, u_or, BitVec.or_comm]
          generalize entH h p (0x8000000000000000#64 ||| v) t = y at *
          generalize 0x8000000000000000#64 ||| v = c at *
          have l1 : (bits .and .u64 (u (h 39)) 1 == 1) = true := (low_test1' _).trans hq
          have l2 : bits .and .u64 (u (h 39)) 1 = 1 := by simpa using l1
          have m1 : bits .andNot .u64 (u (h 39)) 3 = u (h 39 &&& ~~~3#64) := u_andNot _ 3#64
          have m2 : IntKind.u64.wrap (u (h 39 &&& ~~~3#64) + u (4#64 * v)) = u ((h 39 &&& ~~~3#64) + 4#64 * v) := u_add _ _
          clear ct cn cc hd hq v63 vn hv16 h0 h1
          have g0 := hV_get y 3 false 0 (by omega) (by omega) (by omega)
          have g43 := hV_get y 3 false 43 (by omega) (by omega) (by omega)
          have g44 := hV_get y 3 false 44 (by omega) (by omega) (by omega)
          have s0 : ∀ wq, On (w.alloc (.cells (hV h p r) 28)) wq → wq.heap[w.heap.size]? = some (.cells (hV h p r) 28 (0, 0)) := fun _ h => h.keep (heap_alloc_new _ _)
          have hb0 := On.refl ((w.alloc (.cells (hV h p r) 28)))
          have hb1 : ∀ ob : Obj, On ((w.alloc (.cells (hV h p r) 28))) (((w.alloc (.cells (hV h p r) 28))).alloc ob) := fun ob => (On.refl _).alloc ob
          have c35 : ∀ wq, On (w.alloc (.cells (hV h p r) 28)) wq → wq.cell? ⟨w.heap.size, 35, none⟩ = some (.int .u64 (u (h 35))) := fun _ hqq => blk_cell (s0 _ hqq) 35 (hV_get h p r 35 (by omega) (by omega) (by omega))
          have c36 : ∀ wq, On (w.alloc (.cells (hV h p r) 28)) wq → wq.cell? ⟨w.heap.size, 36, none⟩ = some (.int .u64 (u (h 36))) := fun _ hqq => blk_cell (s0 _ hqq) 36 (hV_get h p r 36 (by omega) (by omega) (by omega))
          have c39 : ∀ wq, On (w.alloc (.cells (hV h p r) 28)) wq → wq.cell? ⟨w.heap.size, 39, none⟩ = some (.int .u64 (u (h 39))) := fun _ hqq => blk_cell (s0 _ hqq) 39 (hV_get h p r 39 (by omega) (by omega) (by omega))
          have c45 : ∀ wq, On (w.alloc (.cells (hV h p r) 28)) wq → wq.cell? ⟨w.heap.size, 45, none⟩ = some (.int .u64 (u (h 45))) := fun _ hqq => blk_cell (s0 _ hqq) 45 (hV_get h p r 45 (by omega) (by omega) (by omega))
          have cP : ∀ wq, On (w.alloc (.cells (hV h p r) 28)) wq → wq.cell? ⟨w.heap.size, 1, none⟩ = some (.int .i64 p) := fun _ hqq => blk_cell (s0 _ hqq) 1 (hV_priv h p r)
          have HB : Hid (On w ((w.alloc (.cells (hV h p r) 28)))) := Lib.hid ((On.refl w).alloc _)
          go_enter Try.func9, Try.ntmps9
          go_wp2_with (first | ((with_reducible apply hrt_ld); (case ho => exact rfl); (case hgd => exact rfl); (case hx => exact rfl); (case hg => (first | exact s0 _ (by first | exact hb0 | exact hb1 _) | exact heap_alloc_new _ _))) | ((with_reducible apply hrt_new_st); (case ho => exact rfl); (case hgd => exact rfl); (case hx => exact rfl); (case hy => exact rfl)))
          go_quiet (fail)
          rename_i nq
          have hb' := on_drawn ((w.alloc (.cells (hV h p r) 28))) nq
          generalize hwn : ((w.alloc (.cells (hV h p r) 28))).drewN nq = w1 at *
          clear hwn
          have hb := hb'
          replace s0 := fun wq (hqq : On w1 wq) => s0 wq (hb.trans hqq)
          replace c35 := fun wq (hqq : On w1 wq) => c35 wq (hb.trans hqq)
          replace c36 := fun wq (hqq : On w1 wq) => c36 wq (hb.trans hqq)
          replace c39 := fun wq (hqq : On w1 wq) => c39 wq (hb.trans hqq)
          replace c45 := fun wq (hqq : On w1 wq) => c45 wq (hb.trans hqq)
          replace cP := fun wq (hqq : On w1 wq) => cP wq (hb.trans hqq)
          replace hb0 := On.refl w1
          replace hb1 : ∀ ob : Obj, On w1 (w1.alloc ob) := fun ob => (On.refl w1).alloc ob
          have HB := Lib.hid (HB.out.trans hb)
          clear hb hb'
          go_wp2_with (first | ((with_reducible apply hrt_ld); (case ho => exact rfl); (case hgd => exact rfl); (case hx => exact rfl); (case hg => (first | exact s0 _ (by first | exact hb0 | exact hb1 _) | exact heap_alloc_new _ _))) | ((with_reducible apply hrt_new_st); (case ho => exact rfl); (case hgd => exact rfl); (case hx => exact rfl); (case hy => exact rfl)))
          go_quiet (fail)
          rename_i nq
          have hb' := on_drawn (w1) nq
          generalize hwn : (w1).drewN nq = w2 at *
          clear hwn
          have hb := hb'
          replace s0 := fun wq (hqq : On w2 wq) => s0 wq (hb.trans hqq)
          replace c35 := fun wq (hqq : On w2 wq) => c35 wq (hb.trans hqq)
          replace c36 := fun wq (hqq : On w2 wq) => c36 wq (hb.trans hqq)
          replace c39 := fun wq (hqq : On w2 wq) => c39 wq (hb.trans hqq)
          replace c45 := fun wq (hqq : On w2 wq) => c45 wq (hb.trans hqq)
          replace cP := fun wq (hqq : On w2 wq) => cP wq (hb.trans hqq)
          replace hb0 := On.refl w2
          replace hb1 : ∀ ob : Obj, On w2 (w2.alloc ob) := fun ob => (On.refl w2).alloc ob
          have HB := Lib.hid (HB.out.trans hb)
          clear hb hb'
          go_wp2_with (first | ((with_reducible apply hrt_ld); (case ho => exact rfl); (case hgd => exact rfl); (case hx => exact rfl); (case hg => (first | exact s0 _ (by first | exact hb0 | exact hb1 _) | exact heap_alloc_new _ _))) | ((with_reducible apply hrt_new_st); (case ho => exact rfl); (case hgd => exact rfl); (case hx => exact rfl); (case hy => exact rfl)))
          go_at_call 12; refine (K1.out _).mono ?_; rintro _ w3 ⟨rfl, hb'⟩
          have hb := hb'
          replace s0 := fun wq (h : On w3 wq) => s0 wq (hb.trans h)
          replace c35 := fun wq (h : On w3 wq) => c35 wq (hb.trans h)
          replace c36 := fun wq (h : On w3 wq) => c36 wq (hb.trans h)
          replace c39 := fun wq (h : On w3 wq) => c39 wq (hb.trans h)
          replace c45 := fun wq (h : On w3 wq) => c45 wq (hb.trans h)
          replace cP := fun wq (h : On w3 wq) => cP wq (hb.trans h)
          replace hb0 := On.refl w3
          replace hb1 : ∀ ob : Obj, On w3 (w3.alloc ob) := fun ob => (On.refl w3).alloc ob
          have HB := Lib.hid (HB.out.trans hb)
          clear hb hb'
          go_wp2_with (first | ((with_reducible apply hrt_ld); (case ho => exact rfl); (case hgd => exact rfl); (case hx => exact rfl); (case hg => (first | exact s0 _ (by first | exact hb0 | exact hb1 _) | exact heap_alloc_new _ _))) | ((with_reducible apply hrt_new_st); (case ho => exact rfl); (case hgd => exact rfl); (case hx => exact rfl); (case hy => exact rfl)))
          go_quiet (fail)
          rename_i nq
          have hb' := on_drawn (w3.alloc (.cells (hV y 3 false) 28)) nq
          generalize hwn : (w3.alloc (.cells (hV y 3 false) 28)).drewN nq = w4 at *
          clear hwn
          have s1 := fun wq (hqq : On w4 wq) => (hb'.trans hqq).keep (heap_alloc_new _ _)
          have hb := (hb1 _).trans hb'
          replace s0 := fun wq (hqq : On w4 wq) => s0 wq (hb.trans hqq)
          replace c35 := fun wq (hqq : On w4 wq) => c35 wq (hb.trans hqq)
          replace c36 := fun wq (hqq : On w4 wq) => c36 wq (hb.trans hqq)
          replace c39 := fun wq (hqq : On w4 wq) => c39 wq (hb.trans hqq)
          replace c45 := fun wq (hqq : On w4 wq) => c45 wq (hb.trans hqq)
          replace cP := fun wq (hqq : On w4 wq) => cP wq (hb.trans hqq)
          replace hb0 := On.refl w4
          replace hb1 : ∀ ob : Obj, On w4 (w4.alloc ob) := fun ob => (On.refl w4).alloc ob
          have HB := Lib.hid (HB.out.trans hb)
          clear hb hb'
          have y0c := fun wq (hqq : On w4 wq) => blk_cell (s1 wq hqq) 0 g0
          have y1c := fun wq (hqq : On w4 wq) => blk_cell (s1 wq hqq) 43 g43
          have y3c := fun wq (hqq : On w4 wq) => blk_cell (s1 wq hqq) 44 g44
          have yPc := fun wq (hqq : On w4 wq) => blk_cell (s1 wq hqq) 1 (hV_priv y 3 false)
          go_wp2_with (first | ((with_reducible apply hrt_ld); (case ho => exact rfl); (case hgd => exact rfl); (case hx => exact rfl); (case hg => (first | exact s0 _ (by first | exact hb0 | exact hb1 _) | exact s1 _ (by first | exact hb0 | exact hb1 _) | exact heap_alloc_new _ _))) | ((with_reducible apply hrt_new_st); (case ho => exact rfl); (case hgd => exact rfl); (case hx => exact rfl); (case hy => exact rfl)))
          go_at_call 11; refine (awake8_yes _).mono ?_; rintro _ w5 ⟨rfl, hb'⟩
          have hb := hb'
          replace s0 := fun wq (h : On w5 wq) => s0 wq (hb.trans h)
          replace s1 := fun wq (h : On w5 wq) => s1 wq (hb.trans h)
          replace c35 := fun wq (h : On w5 wq) => c35 wq (hb.trans h)
          replace c36 := fun wq (h : On w5 wq) => c36 wq (hb.trans h)
          replace c39 := fun wq (h : On w5 wq) => c39 wq (hb.trans h)
          replace c45 := fun wq (h : On w5 wq) => c45 wq (hb.trans h)
          replace cP := fun wq (h : On w5 wq) => cP wq (hb.trans h)
          replace y0c := fun wq (h : On w5 wq) => y0c wq (hb.trans h)
          replace y1c := fun wq (h : On w5 wq) => y1c wq (hb.trans h)
          replace y3c := fun wq (h : On w5 wq) => y3c wq (hb.trans h)
          replace yPc := fun wq (h : On w5 wq) => yPc wq (hb.trans h)
          replace hb0 := On.refl w5
          replace hb1 : ∀ ob : Obj, On w5 (w5.alloc ob) := fun ob => (On.refl w5).alloc ob
          have HB := Lib.hid (HB.out.trans hb)
          clear hb hb'
          go_wp2
          go_ret
          exact ⟨rfl, HB.out⟩

set_option maxRecDepth 100000 in
theorem lifted (os : Os) (started : os.Started) (H : Type) (enc : TypeId × Value → H) :
    ReturnsInHanded {} Try.checked os 9 .any (Rows.trapWhereSpec.pre6 enc Try.prog Try.f9 Rows.trapWhereRow.domain false) (Rows.trapWhereSpec.post enc Try.prog Try.f9 false true false false) := by
  refine returnsInHanded_of_change (C := Try.checked) own started (by kernel_rfl) Try.func9
    (ChangeSpec.witness6 (enc := enc) (C := Try.checked) false ⟨#[], #[.agg #[.int .u64 0, .int .i64 0, .int .u64 0, .int .u64 0, .int .u64 0, .int .u64 0, .int .u64 0, .int .u64 0, .int .u64 0, .int .u64 0, .int .u64 0, .int .u64 0, .int .u64 0, .int .u64 0, .int .u64 0, .int .u64 0, .int .u64 0, .int .u64 0, .int .u64 0, .int .u64 0, .int .u64 0, .int .u64 0, .int .u64 0, .int .u64 0, .int .u64 0, .int .u64 0, .int .u64 0, .int .u64 0, .int .u64 0, .int .u64 0, .int .u64 0, .int .u64 0, .int .u64 0, .int .u64 0, .int .u64 0, .int .u64 0, .int .u64 0, .int .u64 0, .int .u64 0, .int .u64 0, .int .u64 0, .int .u64 0, .int .u64 0, .int .u64 0, .int .u64 0, .int .u64 0, .int .u64 0, .int .u64 0, .int .u64 0, .int .u64 0, .int .u64 0, .int .u64 0, .int .u64 0, .int .u64 0, .int .u64 0, .int .u64 0, .int .u64 0, .int .u64 0, .int .u64 0, .int .u64 0, .int .u64 0, .int .u64 0, .int .u64 0, .int .u64 0, .bool false, .int .u64 0], .int .i64 0, .bool false, .int .u64 0], []⟩ 12 (by kernel_rfl) (by kernel_rfl) (by kernel_rfl) (by kernel_rfl)) ?_
  intro W base args ds gs before hval0 hW hcnd _
  have hval : ∀ (j : Nat) t v, Try.f9.params[j]? = some t → args[j]? = some v → Value.okWide Try.prog W .any base t v := hval0
  have hW' := hW
  obtain ⟨p, q, hA0, hV, rfl, hfz, hnd⟩ := hW
  have hA : DataW.TrodAll enc Try.prog W 0 (fun _ => true) true Try.f9.params.toList args.toList ds p := hA0
  rw [Try.params9] at hA hval
  obtain ⟨v0, vs0, d0, ds0, p0, q0, hargs, rfl, rfl, h0, r0⟩ := trodAll_cons hA
  obtain ⟨v1, vs1, d1, ds1, p1, q1, rfl, rfl, rfl, h1, r1⟩ := trodAll_cons r0
  obtain ⟨v2, vs2, d2, ds2, p2, q2, rfl, rfl, rfl, h2, r2⟩ := trodAll_cons r1
  obtain ⟨v3, vs3, d3, ds3, p3, q3, rfl, rfl, rfl, h3, r3⟩ := trodAll_cons r2
  obtain ⟨rfl, rfl, rfl⟩ := trodAll_nil r3
  obtain rfl : args = #[v0, v1, v2, v3] := by cases args; simp_all
  obtain ⟨rfl, rfl⟩ := trodVars_none hV
  have k0 := h0
  have l0 : ∀ x ∈ p0, x.block < W.heap.size := fun x hx => by have := hW'.lt x (by simp [hx]); simpa using this
  obtain ⟨c0, rfl, f0⟩ := open_flat 12 [.int .u64, .int .i64, .int .u64, .int .u64, .int .u64, .int .u64, .int .u64, .int .u64, .int .u64, .int .u64, .int .u64, .int .u64, .int .u64, .int .u64, .int .u64, .int .u64, .int .u64, .int .u64, .int .u64, .int .u64, .int .u64, .int .u64, .int .u64, .int .u64, .int .u64, .int .u64, .int .u64, .int .u64, .int .u64, .int .u64, .int .u64, .int .u64, .int .u64, .int .u64, .int .u64, .int .u64, .int .u64, .int .u64, .int .u64, .int .u64, .int .u64, .int .u64, .int .u64, .int .u64, .int .u64, .int .u64, .int .u64, .int .u64, .int .u64, .int .u64, .int .u64, .int .u64, .int .u64, .int .u64, .int .u64, .int .u64, .int .u64, .int .u64, .int .u64, .int .u64, .int .u64, .int .u64, .int .u64, .int .u64, .bool, .int .u64] (by kernel_rfl) (by kernel_rfl) (.inl ⟨_, Try.underlying28⟩) (hval 0 28 v0 rfl rfl) h0
  clear h0
  obtain ⟨a1, rfl, rfl, rfl, w1⟩ := open_int Try.underlying3 (hval 1 3 v1 rfl rfl) h1
  obtain ⟨a2, rfl, rfl, rfl⟩ := open_bool Try.underlying4 (hval 2 4 v2 rfl rfl) h2
  obtain ⟨a3, rfl, rfl, rfl, w3⟩ := open_int Try.underlying22 (hval 3 22 v3 rfl rfl) h3
  clear hA0 hval0
  refine (walk c0 f0 a1 w1 a2 a3 w3 W).mono fun e W' ⟨he, bel⟩ => ?_
  subst he
  exact ⟨_, rfl, _, _, _, [], _, [], hW', trodAll_mk1 (shut_bool Try.underlying4 _), (trodAll_cons_mk (Below.trod (by kernel_rfl) (by kernel_rfl) (of_decide_eq_true (by kernel_rfl)) k0 bel l0) (trodAll_cons_mk (shut_int Try.underlying3 w1) (trodAll_cons_mk (shut_bool Try.underlying4 _) (trodAll_cons_mk (shut_int Try.underlying22 w3) trodAll_mk0)))), rfl, bel.frame _, fun h => by cases h⟩

theorem over : Rows.trapWhereRow.holds Try.pinned (OpenSpec.ofChange Rows.trapWhereSpec) :=
  OpenClaim.holds_of_wide 9 Try.f9 rfl rfl rfl rfl rfl rfl rfl ⟨rfl, rfl, rfl, rfl, rfl⟩ rfl rfl rfl rfl rfl (by kernel_rfl) Try.func9 (by kernel_rfl)
    (of_decide_eq_true (by kernel_rfl)) (by unfold Func.isWrapper; first | (rw [if_pos (by decide +kernel)]; kernel_rfl) | (rw [if_neg (by decide +kernel)]; exact ⟨rfl, rfl⟩))
    (fun os started H enc _ => lifted os started H enc)

theorem proved : Rows.TrapWhereSaid :=
  over
#print axioms proved
end Go.Proofs.Ytleolldgpoeabaa.trapWhere
