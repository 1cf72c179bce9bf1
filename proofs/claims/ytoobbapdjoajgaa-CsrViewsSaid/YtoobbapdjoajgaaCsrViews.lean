/- Proves that of the interrupts sie and sip show what is delegated of mie and mip, sstatus shows of mstatus Super's part, and a counter's view shows the counter at a privilege at which it is granted and is refused at any other, for any state of the CSRs, any outer world and any counter, and that the first test of the law holds. Conditions: none. -/
import Derived.Test.YtoobbapdjoajgaaRows
import Derived.Test.YtoobbapdjoajgaaCsrL
import Derived.Test.YtoobbapdjoajgaaFlat
import Derived.WalkKit
import Derived.ProofKit
import Derived.OpenShut
import Derived.Below
import Derived.Carry
import Derived.ShutString
namespace Go.Proofs.Ytoobbapdjoajgaa.csrViews
open Go.ChangeShapes Go.WideShapes Go.ChangeAt Go.RowKit
set_option linter.unusedVariables false

theorem own : ownKnob Try.prog.godebug = none := by kernel_rfl

set_option maxRecDepth 100000 in
set_option maxHeartbeats 20000000 in
theorem walk (c0 : List Value) (f0 : Fits [.int .u64, .int .u64, .int .u64, .int .u64, .int .u64, .int .u64, .int .u64, .int .u64, .int .u64, .int .u64, .int .u64, .int .u64, .int .u64, .int .u64, .int .u64, .int .u64, .int .u64, .int .u64, .int .u64, .int .u64, .int .u64, .int .u64, .int .u64, .int .u64, .int .u64, .int .u64, .int .u64, .int .u64, .int .u64, .int .u64] c0) (c1 : List Value) (f1 : Fits [.int .u64, .int .u64, .int .u64, .int .u64, .int .u64, .int .u64, .int .u64, .bool, .int .u64, .bool] c1) (a2 : Int) (w2 : (Lit.int .i64 a2).wf = true) (w : World) :
    Calls Try.prog 9 #[.agg c0.toArray, .agg c1.toArray, .int .i64 a2] w fun e w' => e = .returned (.bool true) ∧ Below w.heap.size w w' := by
  have f0 : Fits csrLeaves c0 := f0
  obtain ⟨c, hc⟩ := cV_of f0
  rw [hc]
  have f1 : Fits (List.replicate 7 (.int .u64) ++ [.bool, .int .u64, .bool]) c1 := f1
  obtain ⟨e, p, q, he⟩ := eV_of f1
  rw [he]
  clear hc f0 he f1
  have hZ := fun w => csr_zero w
  have d772 : rdb c 772 3 = true := by unfold rdb; rw [opn_far (by omega) c 3]; rfl
  have d260 : rdb c 260 1 = true := by unfold rdb; rw [opn_far (by omega) c 1]; rfl
  have d836 : rdb c 836 3 = true := by unfold rdb; rw [opn_far (by omega) c 3]; rfl
  have d324 : rdb c 324 1 = true := by unfold rdb; rw [opn_far (by omega) c 1]; rfl
  have d768 : rdb c 768 3 = true := by unfold rdb; rw [opn_far (by omega) c 3]; rfl
  have d256 : rdb c 256 1 = true := by unfold rdb; rw [opn_far (by omega) c 1]; rfl
  have K772 : Hid (∀ w, Calls Try.prog 14 #[.agg (cV c), .int .i64 772, .int .i64 3, .agg (eV e p q)] w fun r w' => r = .returned (.tuple #[.int .u64 (u (c 3)), .int .i64 0]) ∧ On w w') := Lib.hid (fun w => read_yes c e p q 772 3 d772 w)
  have K260 : Hid (∀ w, Calls Try.prog 14 #[.agg (cV c), .int .i64 260, .int .i64 1, .agg (eV e p q)] w fun r w' => r = .returned (.tuple #[.int .u64 (u (c 3 &&& c 2)), .int .i64 0]) ∧ On w w') := Lib.hid (fun w => read_yes c e p q 260 1 d260 w)
  have K836 : Hid (∀ w, Calls Try.prog 14 #[.agg (cV c), .int .i64 836, .int .i64 3, .agg (eV e p q)] w fun r w' => r = .returned (.tuple #[.int .u64 (u (pend c e)), .int .i64 0]) ∧ On w w') := Lib.hid (fun w => read_yes c e p q 836 3 d836 w)
  have K324 : Hid (∀ w, Calls Try.prog 14 #[.agg (cV c), .int .i64 324, .int .i64 1, .agg (eV e p q)] w fun r w' => r = .returned (.tuple #[.int .u64 (u (pend c e &&& c 2)), .int .i64 0]) ∧ On w w') := Lib.hid (fun w => read_yes c e p q 324 1 d324 w)
  have K768 : Hid (∀ w, Calls Try.prog 14 #[.agg (cV c), .int .i64 768, .int .i64 3, .agg (eV e p q)] w fun r w' => r = .returned (.tuple #[.int .u64 (u (c 0 ||| 0xa00000000#64)), .int .i64 0]) ∧ On w w') := Lib.hid (fun w => read_yes c e p q 768 3 d768 w)
  have K256 : Hid (∀ w, Calls Try.prog 14 #[.agg (cV c), .int .i64 256, .int .i64 1, .agg (eV e p q)] w fun r w' => r = .returned (.tuple #[.int .u64 (u ((c 0 &&& 0xc0122#64) ||| 0x200000000#64)), .int .i64 0]) ∧ On w w') := Lib.hid (fun w => read_yes c e p q 256 1 d256 w)
  have hA : bits .and .u64 (u (c 3)) (u (c 2)) = u (c 3 &&& c 2) := u_and _ _
  have hP : bits .and .u64 (u (pend c e)) (u (c 2)) = u (pend c e &&& c 2) := u_and _ _
  have hS : bits .andNot .u64 (u ((c 0 &&& 0xc0122#64) ||| 0x200000000#64)) 8589934592 = u (c 0 &&& 0xc0122#64) := by rw [show (8589934592 : Int) = u 0x200000000#64 from rfl, u_andNot, views_1]
  have hT : bits .and .u64 (u (c 0 ||| 0xa00000000#64)) 786722 = u (c 0 &&& 0xc0122#64) := by rw [show (786722 : Int) = u 0xc0122#64 from rfl, u_and, views_2]
  obtain ⟨k, hkk, hk⟩ := views_k a2
  clear w2 d772 d260 d836 d324 d768 d256
  have s0 : ∀ wr, On ((w.alloc (.cells (cV c) 25)).alloc (.cells (eV e p q) 27)) wr → wr.heap[w.heap.size]? = some (.cells (cV c) 25 (0, 0)) := fun _ h => h.keep (box1 _ _ _)
  have t0 : ∀ wr, On ((w.alloc (.cells (cV c) 25)).alloc (.cells (eV e p q) 27)) wr → wr.heap[w.heap.size + 1]? = some (.cells (eV e p q) 27 (0, 0)) := fun _ h => h.keep (box2 _ _ _)
  have hb0 := On.refl (((w.alloc (.cells (cV c) 25)).alloc (.cells (eV e p q) 27)))
  have hb1 : ∀ ob : Obj, On (((w.alloc (.cells (cV c) 25)).alloc (.cells (eV e p q) 27))) ((((w.alloc (.cells (cV c) 25)).alloc (.cells (eV e p q) 27))).alloc ob) := fun ob => (On.refl _).alloc ob
  have k2 : ∀ wr, On ((w.alloc (.cells (cV c) 25)).alloc (.cells (eV e p q) 27)) wr → wr.cell? ⟨w.heap.size, 2, none⟩ = some (.int .u64 (u (c 2))) := fun _ h => blk_cell (s0 _ h) 2 (cV_get c 2 (by omega))
  have k6 : ∀ wr, On ((w.alloc (.cells (cV c) 25)).alloc (.cells (eV e p q) 27)) wr → wr.cell? ⟨w.heap.size, 6, none⟩ = some (.int .u64 (u (c 6))) := fun _ h => blk_cell (s0 _ h) 6 (cV_get c 6 (by omega))
  have k12 : ∀ wr, On ((w.alloc (.cells (cV c) 25)).alloc (.cells (eV e p q) 27)) wr → wr.cell? ⟨w.heap.size, 12, none⟩ = some (.int .u64 (u (c 12))) := fun _ h => blk_cell (s0 _ h) 12 (cV_get c 12 (by omega))
  have HB : Hid (On w (((w.alloc (.cells (cV c) 25)).alloc (.cells (eV e p q) 27)))) := Lib.hid (((On.refl w).alloc _).alloc _)
  go_enter Try.func9, Try.ntmps9
  go_wp2_with (first | ((with_reducible apply csr_ld); (case ho => exact rfl); (case hgd => exact rfl); (case hx => exact rfl); (case hg => (first | exact s0 _ (by first | exact hb0 | exact hb1 _) | exact t0 _ (by first | exact hb0 | exact hb1 _) | exact heap_alloc_new _ _))) | ((with_reducible apply env_ld); (case ho => exact rfl); (case hgd => exact rfl); (case hx => exact rfl); (case hg => (first | exact s0 _ (by first | exact hb0 | exact hb1 _) | exact t0 _ (by first | exact hb0 | exact hb1 _) | exact heap_alloc_new _ _))) | ((with_reducible apply csr_new_st); (case ho => exact rfl); (case hgd => exact rfl); (case hx => exact rfl); (case hy => exact rfl)))
  go_at_call 14; refine (K772.out _).mono ?_; rintro _ w1 ⟨rfl, hb'⟩
  have hb := hb'
  replace s0 := fun wr (h : On w1 wr) => s0 wr (hb.trans h)
  replace t0 := fun wr (h : On w1 wr) => t0 wr (hb.trans h)
  replace k2 := fun wr (h : On w1 wr) => k2 wr (hb.trans h)
  replace k6 := fun wr (h : On w1 wr) => k6 wr (hb.trans h)
  replace k12 := fun wr (h : On w1 wr) => k12 wr (hb.trans h)
  replace hb0 := On.refl w1
  replace hb1 : ∀ ob : Obj, On w1 (w1.alloc ob) := fun ob => (On.refl w1).alloc ob
  have HB := Lib.hid (HB.out.trans hb)
  clear hb hb'
  go_wp2_with (first | ((with_reducible apply csr_ld); (case ho => exact rfl); (case hgd => exact rfl); (case hx => exact rfl); (case hg => (first | exact s0 _ (by first | exact hb0 | exact hb1 _) | exact t0 _ (by first | exact hb0 | exact hb1 _) | exact heap_alloc_new _ _))) | ((with_reducible apply env_ld); (case ho => exact rfl); (case hgd => exact rfl); (case hx => exact rfl); (case hg => (first | exact s0 _ (by first | exact hb0 | exact hb1 _) | exact t0 _ (by first | exact hb0 | exact hb1 _) | exact heap_alloc_new _ _))) | ((with_reducible apply csr_new_st); (case ho => exact rfl); (case hgd => exact rfl); (case hx => exact rfl); (case hy => exact rfl)))
  go_at_call 14; refine (K260.out _).mono ?_; rintro _ w2 ⟨rfl, hb'⟩
  have hb := hb'
  replace s0 := fun wr (h : On w2 wr) => s0 wr (hb.trans h)
  replace t0 := fun wr (h : On w2 wr) => t0 wr (hb.trans h)
  replace k2 := fun wr (h : On w2 wr) => k2 wr (hb.trans h)
  replace k6 := fun wr (h : On w2 wr) => k6 wr (hb.trans h)
  replace k12 := fun wr (h : On w2 wr) => k12 wr (hb.trans h)
  replace hb0 := On.refl w2
  replace hb1 : ∀ ob : Obj, On w2 (w2.alloc ob) := fun ob => (On.refl w2).alloc ob
  have HB := Lib.hid (HB.out.trans hb)
  clear hb hb'
  go_wp2_with (first | ((with_reducible apply csr_ld); (case ho => exact rfl); (case hgd => exact rfl); (case hx => exact rfl); (case hg => (first | exact s0 _ (by first | exact hb0 | exact hb1 _) | exact t0 _ (by first | exact hb0 | exact hb1 _) | exact heap_alloc_new _ _))) | ((with_reducible apply env_ld); (case ho => exact rfl); (case hgd => exact rfl); (case hx => exact rfl); (case hg => (first | exact s0 _ (by first | exact hb0 | exact hb1 _) | exact t0 _ (by first | exact hb0 | exact hb1 _) | exact heap_alloc_new _ _))) | ((with_reducible apply csr_new_st); (case ho => exact rfl); (case hgd => exact rfl); (case hx => exact rfl); (case hy => exact rfl)))
  go_at_call 14; refine (K836.out _).mono ?_; rintro _ w3 ⟨rfl, hb'⟩
  have hb := hb'
  replace s0 := fun wr (h : On w3 wr) => s0 wr (hb.trans h)
  replace t0 := fun wr (h : On w3 wr) => t0 wr (hb.trans h)
  replace k2 := fun wr (h : On w3 wr) => k2 wr (hb.trans h)
  replace k6 := fun wr (h : On w3 wr) => k6 wr (hb.trans h)
  replace k12 := fun wr (h : On w3 wr) => k12 wr (hb.trans h)
  replace hb0 := On.refl w3
  replace hb1 : ∀ ob : Obj, On w3 (w3.alloc ob) := fun ob => (On.refl w3).alloc ob
  have HB := Lib.hid (HB.out.trans hb)
  clear hb hb'
  go_wp2_with (first | ((with_reducible apply csr_ld); (case ho => exact rfl); (case hgd => exact rfl); (case hx => exact rfl); (case hg => (first | exact s0 _ (by first | exact hb0 | exact hb1 _) | exact t0 _ (by first | exact hb0 | exact hb1 _) | exact heap_alloc_new _ _))) | ((with_reducible apply env_ld); (case ho => exact rfl); (case hgd => exact rfl); (case hx => exact rfl); (case hg => (first | exact s0 _ (by first | exact hb0 | exact hb1 _) | exact t0 _ (by first | exact hb0 | exact hb1 _) | exact heap_alloc_new _ _))) | ((with_reducible apply csr_new_st); (case ho => exact rfl); (case hgd => exact rfl); (case hx => exact rfl); (case hy => exact rfl)))
  go_at_call 14; refine (K324.out _).mono ?_; rintro _ w4 ⟨rfl, hb'⟩
  have hb := hb'
  replace s0 := fun wr (h : On w4 wr) => s0 wr (hb.trans h)
  replace t0 := fun wr (h : On w4 wr) => t0 wr (hb.trans h)
  replace k2 := fun wr (h : On w4 wr) => k2 wr (hb.trans h)
  replace k6 := fun wr (h : On w4 wr) => k6 wr (hb.trans h)
  replace k12 := fun wr (h : On w4 wr) => k12 wr (hb.trans h)
  replace hb0 := On.refl w4
  replace hb1 : ∀ ob : Obj, On w4 (w4.alloc ob) := fun ob => (On.refl w4).alloc ob
  have HB := Lib.hid (HB.out.trans hb)
  clear hb hb'
  go_wp2_with (first | ((with_reducible apply csr_ld); (case ho => exact rfl); (case hgd => exact rfl); (case hx => exact rfl); (case hg => (first | exact s0 _ (by first | exact hb0 | exact hb1 _) | exact t0 _ (by first | exact hb0 | exact hb1 _) | exact heap_alloc_new _ _))) | ((with_reducible apply env_ld); (case ho => exact rfl); (case hgd => exact rfl); (case hx => exact rfl); (case hg => (first | exact s0 _ (by first | exact hb0 | exact hb1 _) | exact t0 _ (by first | exact hb0 | exact hb1 _) | exact heap_alloc_new _ _))) | ((with_reducible apply csr_new_st); (case ho => exact rfl); (case hgd => exact rfl); (case hx => exact rfl); (case hy => exact rfl)))
  go_at_call 14; refine (K768.out _).mono ?_; rintro _ w5 ⟨rfl, hb'⟩
  have hb := hb'
  replace s0 := fun wr (h : On w5 wr) => s0 wr (hb.trans h)
  replace t0 := fun wr (h : On w5 wr) => t0 wr (hb.trans h)
  replace k2 := fun wr (h : On w5 wr) => k2 wr (hb.trans h)
  replace k6 := fun wr (h : On w5 wr) => k6 wr (hb.trans h)
  replace k12 := fun wr (h : On w5 wr) => k12 wr (hb.trans h)
  replace hb0 := On.refl w5
  replace hb1 : ∀ ob : Obj, On w5 (w5.alloc ob) := fun ob => (On.refl w5).alloc ob
  have HB := Lib.hid (HB.out.trans hb)
  clear hb hb'
  go_wp2_with (first | ((with_reducible apply csr_ld); (case ho => exact rfl); (case hgd => exact rfl); (case hx => exact rfl); (case hg => (first | exact s0 _ (by first | exact hb0 | exact hb1 _) | exact t0 _ (by first | exact hb0 | exact hb1 _) | exact heap_alloc_new _ _))) | ((with_reducible apply env_ld); (case ho => exact rfl); (case hgd => exact rfl); (case hx => exact rfl); (case hg => (first | exact s0 _ (by first | exact hb0 | exact hb1 _) | exact t0 _ (by first | exact hb0 | exact hb1 _) | exact heap_alloc_new _ _))) | ((with_reducible apply csr_new_st); (case ho => exact rfl); (case hgd => exact rfl); (case hx => exact rfl); (case hy => exact rfl)))
  go_at_call 14; refine (K256.out _).mono ?_; rintro _ w6 ⟨rfl, hb'⟩
  have hb := hb'
  replace s0 := fun wr (h : On w6 wr) => s0 wr (hb.trans h)
  replace t0 := fun wr (h : On w6 wr) => t0 wr (hb.trans h)
  replace k2 := fun wr (h : On w6 wr) => k2 wr (hb.trans h)
  replace k6 := fun wr (h : On w6 wr) => k6 wr (hb.trans h)
  replace k12 := fun wr (h : On w6 wr) => k12 wr (hb.trans h)
  replace hb0 := On.refl w6
  replace hb1 : ∀ ob : Obj, On w6 (w6.alloc ob) := fun ob => (On.refl w6).alloc ob
  have HB := Lib.hid (HB.out.trans hb)
  clear hb hb'
  go_wp2_with (first | ((with_reducible apply csr_ld); (case ho => exact rfl); (case hgd => exact rfl); (case hx => exact rfl); (case hg => (first | exact s0 _ (by first | exact hb0 | exact hb1 _) | exact t0 _ (by first | exact hb0 | exact hb1 _) | exact heap_alloc_new _ _))) | ((with_reducible apply env_ld); (case ho => exact rfl); (case hgd => exact rfl); (case hx => exact rfl); (case hg => (first | exact s0 _ (by first | exact hb0 | exact hb1 _) | exact t0 _ (by first | exact hb0 | exact hb1 _) | exact heap_alloc_new _ _))) | ((with_reducible apply csr_new_st); (case ho => exact rfl); (case hgd => exact rfl); (case hx => exact rfl); (case hy => exact rfl)))
  go_at_call 16; refine (awake7_yes _).mono ?_; rintro _ w7 ⟨rfl, hb'⟩
  have hb := hb'
  replace s0 := fun wr (h : On w7 wr) => s0 wr (hb.trans h)
  replace t0 := fun wr (h : On w7 wr) => t0 wr (hb.trans h)
  replace k2 := fun wr (h : On w7 wr) => k2 wr (hb.trans h)
  replace k6 := fun wr (h : On w7 wr) => k6 wr (hb.trans h)
  replace k12 := fun wr (h : On w7 wr) => k12 wr (hb.trans h)
  replace hb0 := On.refl w7
  replace hb1 : ∀ ob : Obj, On w7 (w7.alloc ob) := fun ob => (On.refl w7).alloc ob
  have HB := Lib.hid (HB.out.trans hb)
  clear hb hb'
  go_wp2_with (first | ((with_reducible apply csr_ld); (case ho => exact rfl); (case hgd => exact rfl); (case hx => exact rfl); (case hg => (first | exact s0 _ (by first | exact hb0 | exact hb1 _) | exact t0 _ (by first | exact hb0 | exact hb1 _) | exact heap_alloc_new _ _))) | ((with_reducible apply env_ld); (case ho => exact rfl); (case hgd => exact rfl); (case hx => exact rfl); (case hg => (first | exact s0 _ (by first | exact hb0 | exact hb1 _) | exact t0 _ (by first | exact hb0 | exact hb1 _) | exact heap_alloc_new _ _))) | ((with_reducible apply csr_new_st); (case ho => exact rfl); (case hgd => exact rfl); (case hx => exact rfl); (case hy => exact rfl)))
  clear hA hP hS hT hk K772 K260 K836 K324 K768 K256
  rcases hkk with rfl | rfl | rfl | rfl | rfl | rfl | rfl
  · cases h6 : (c 6).getLsbD 0
    · have t6 : (bits .and .u64 (u (c 6)) 1 == 1) = false := by
        have hs : u (c 6) = u (c 6 >>> 0) := by rw [BitVec.ushiftRight_zero]
        rw [hs]; exact (views_b (c 6) 0).trans h6
      have d0 : rdb c 3072 0 = false := by have this : rdb c 3072 0 = ((c 6).getLsbD 0 && (c 12).getLsbD 0) := (by unfold rdb opn; rfl); rw [this, h6]; rfl
      have J0 : Hid (∀ w, Calls Try.prog 14 #[.agg (cV c), .int .i64 3072, .int .i64 0, .agg (eV e p q)] w fun r w' => r = .returned (.tuple #[.int .u64 0, .int .i64 7]) ∧ On w w') := Lib.hid (fun w => read_no c e p q 3072 0 d0 w)
      have d1 : rdb c 3072 1 = false := by have this : rdb c 3072 1 = ((c 6).getLsbD 0 && true) := (by unfold rdb opn; rfl); rw [this, h6]; rfl
      have J1 : Hid (∀ w, Calls Try.prog 14 #[.agg (cV c), .int .i64 3072, .int .i64 1, .agg (eV e p q)] w fun r w' => r = .returned (.tuple #[.int .u64 0, .int .i64 7]) ∧ On w w') := Lib.hid (fun w => read_no c e p q 3072 1 d1 w)
      have d3 : rdb c 3072 3 = true := by unfold rdb opn; rfl
      have J3 : Hid (∀ w, Calls Try.prog 14 #[.agg (cV c), .int .i64 3072, .int .i64 3, .agg (eV e p q)] w fun r w' => r = .returned (.tuple #[.int .u64 (u (rv c e 3072)), .int .i64 0]) ∧ On w w') := Lib.hid (fun w => read_yes c e p q 3072 3 d3 w)
      generalize rv c e 3072 = y at *
      clear h6 d0 d1 d3
      go_wp2_with (first | ((with_reducible apply csr_ld); (case ho => exact rfl); (case hgd => exact rfl); (case hx => exact rfl); (case hg => (first | exact s0 _ (by first | exact hb0 | exact hb1 _) | exact t0 _ (by first | exact hb0 | exact hb1 _) | exact heap_alloc_new _ _))) | ((with_reducible apply env_ld); (case ho => exact rfl); (case hgd => exact rfl); (case hx => exact rfl); (case hg => (first | exact s0 _ (by first | exact hb0 | exact hb1 _) | exact t0 _ (by first | exact hb0 | exact hb1 _) | exact heap_alloc_new _ _))) | ((with_reducible apply csr_new_st); (case ho => exact rfl); (case hgd => exact rfl); (case hx => exact rfl); (case hy => exact rfl)))
      go_at_call 14; refine (J0.out _).mono ?_; rintro _ w8 ⟨rfl, hb'⟩
      have hb := hb'
      replace s0 := fun wr (h : On w8 wr) => s0 wr (hb.trans h)
      replace t0 := fun wr (h : On w8 wr) => t0 wr (hb.trans h)
      replace k2 := fun wr (h : On w8 wr) => k2 wr (hb.trans h)
      replace k6 := fun wr (h : On w8 wr) => k6 wr (hb.trans h)
      replace k12 := fun wr (h : On w8 wr) => k12 wr (hb.trans h)
      replace hb0 := On.refl w8
      replace hb1 : ∀ ob : Obj, On w8 (w8.alloc ob) := fun ob => (On.refl w8).alloc ob
      have HB := Lib.hid (HB.out.trans hb)
      clear hb hb'
      go_wp2_with (first | ((with_reducible apply csr_ld); (case ho => exact rfl); (case hgd => exact rfl); (case hx => exact rfl); (case hg => (first | exact s0 _ (by first | exact hb0 | exact hb1 _) | exact t0 _ (by first | exact hb0 | exact hb1 _) | exact heap_alloc_new _ _))) | ((with_reducible apply env_ld); (case ho => exact rfl); (case hgd => exact rfl); (case hx => exact rfl); (case hg => (first | exact s0 _ (by first | exact hb0 | exact hb1 _) | exact t0 _ (by first | exact hb0 | exact hb1 _) | exact heap_alloc_new _ _))) | ((with_reducible apply csr_new_st); (case ho => exact rfl); (case hgd => exact rfl); (case hx => exact rfl); (case hy => exact rfl)))
      go_at_call 14; refine (J1.out _).mono ?_; rintro _ w9 ⟨rfl, hb'⟩
      have hb := hb'
      replace s0 := fun wr (h : On w9 wr) => s0 wr (hb.trans h)
      replace t0 := fun wr (h : On w9 wr) => t0 wr (hb.trans h)
      replace k2 := fun wr (h : On w9 wr) => k2 wr (hb.trans h)
      replace k6 := fun wr (h : On w9 wr) => k6 wr (hb.trans h)
      replace k12 := fun wr (h : On w9 wr) => k12 wr (hb.trans h)
      replace hb0 := On.refl w9
      replace hb1 : ∀ ob : Obj, On w9 (w9.alloc ob) := fun ob => (On.refl w9).alloc ob
      have HB := Lib.hid (HB.out.trans hb)
      clear hb hb'
      go_wp2_with (first | ((with_reducible apply csr_ld); (case ho => exact rfl); (case hgd => exact rfl); (case hx => exact rfl); (case hg => (first | exact s0 _ (by first | exact hb0 | exact hb1 _) | exact t0 _ (by first | exact hb0 | exact hb1 _) | exact heap_alloc_new _ _))) | ((with_reducible apply env_ld); (case ho => exact rfl); (case hgd => exact rfl); (case hx => exact rfl); (case hg => (first | exact s0 _ (by first | exact hb0 | exact hb1 _) | exact t0 _ (by first | exact hb0 | exact hb1 _) | exact heap_alloc_new _ _))) | ((with_reducible apply csr_new_st); (case ho => exact rfl); (case hgd => exact rfl); (case hx => exact rfl); (case hy => exact rfl)))
      go_at_call 14; refine (J3.out _).mono ?_; rintro _ w10 ⟨rfl, hb'⟩
      have hb := hb'
      replace s0 := fun wr (h : On w10 wr) => s0 wr (hb.trans h)
      replace t0 := fun wr (h : On w10 wr) => t0 wr (hb.trans h)
      replace k2 := fun wr (h : On w10 wr) => k2 wr (hb.trans h)
      replace k6 := fun wr (h : On w10 wr) => k6 wr (hb.trans h)
      replace k12 := fun wr (h : On w10 wr) => k12 wr (hb.trans h)
      replace hb0 := On.refl w10
      replace hb1 : ∀ ob : Obj, On w10 (w10.alloc ob) := fun ob => (On.refl w10).alloc ob
      have HB := Lib.hid (HB.out.trans hb)
      clear hb hb'
      go_wp2
      go_ret
      exact ⟨rfl, HB.out⟩
    · cases h12 : (c 12).getLsbD 0
      · have t6 : (bits .and .u64 (u (c 6)) 1 == 1) = true := by
          have hs : u (c 6) = u (c 6 >>> 0) := by rw [BitVec.ushiftRight_zero]
          rw [hs]; exact (views_b (c 6) 0).trans h6
        have t12 : (bits .and .u64 (u (c 12)) 1 == 1) = false := by
          have hs : u (c 12) = u (c 12 >>> 0) := by rw [BitVec.ushiftRight_zero]
          rw [hs]; exact (views_b (c 12) 0).trans h12
        have d0 : rdb c 3072 0 = false := by have this : rdb c 3072 0 = ((c 6).getLsbD 0 && (c 12).getLsbD 0) := (by unfold rdb opn; rfl); rw [this, h6, h12]; rfl
        have J0 : Hid (∀ w, Calls Try.prog 14 #[.agg (cV c), .int .i64 3072, .int .i64 0, .agg (eV e p q)] w fun r w' => r = .returned (.tuple #[.int .u64 0, .int .i64 7]) ∧ On w w') := Lib.hid (fun w => read_no c e p q 3072 0 d0 w)
        have d1 : rdb c 3072 1 = true := by have this : rdb c 3072 1 = ((c 6).getLsbD 0 && true) := (by unfold rdb opn; rfl); rw [this, h6]; rfl
        have J1 : Hid (∀ w, Calls Try.prog 14 #[.agg (cV c), .int .i64 3072, .int .i64 1, .agg (eV e p q)] w fun r w' => r = .returned (.tuple #[.int .u64 (u (rv c e 3072)), .int .i64 0]) ∧ On w w') := Lib.hid (fun w => read_yes c e p q 3072 1 d1 w)
        have d3 : rdb c 3072 3 = true := by unfold rdb opn; rfl
        have J3 : Hid (∀ w, Calls Try.prog 14 #[.agg (cV c), .int .i64 3072, .int .i64 3, .agg (eV e p q)] w fun r w' => r = .returned (.tuple #[.int .u64 (u (rv c e 3072)), .int .i64 0]) ∧ On w w') := Lib.hid (fun w => read_yes c e p q 3072 3 d3 w)
        generalize rv c e 3072 = y at *
        clear h6 d0 d1 d3 h12
        go_wp2_with (first | ((with_reducible apply csr_ld); (case ho => exact rfl); (case hgd => exact rfl); (case hx => exact rfl); (case hg => (first | exact s0 _ (by first | exact hb0 | exact hb1 _) | exact t0 _ (by first | exact hb0 | exact hb1 _) | exact heap_alloc_new _ _))) | ((with_reducible apply env_ld); (case ho => exact rfl); (case hgd => exact rfl); (case hx => exact rfl); (case hg => (first | exact s0 _ (by first | exact hb0 | exact hb1 _) | exact t0 _ (by first | exact hb0 | exact hb1 _) | exact heap_alloc_new _ _))) | ((with_reducible apply csr_new_st); (case ho => exact rfl); (case hgd => exact rfl); (case hx => exact rfl); (case hy => exact rfl)))
        go_at_call 14; refine (J0.out _).mono ?_; rintro _ w8 ⟨rfl, hb'⟩
        have hb := hb'
        replace s0 := fun wr (h : On w8 wr) => s0 wr (hb.trans h)
        replace t0 := fun wr (h : On w8 wr) => t0 wr (hb.trans h)
        replace k2 := fun wr (h : On w8 wr) => k2 wr (hb.trans h)
        replace k6 := fun wr (h : On w8 wr) => k6 wr (hb.trans h)
        replace k12 := fun wr (h : On w8 wr) => k12 wr (hb.trans h)
        replace hb0 := On.refl w8
        replace hb1 : ∀ ob : Obj, On w8 (w8.alloc ob) := fun ob => (On.refl w8).alloc ob
        have HB := Lib.hid (HB.out.trans hb)
        clear hb hb'
        go_wp2_with (first | ((with_reducible apply csr_ld); (case ho => exact rfl); (case hgd => exact rfl); (case hx => exact rfl); (case hg => (first | exact s0 _ (by first | exact hb0 | exact hb1 _) | exact t0 _ (by first | exact hb0 | exact hb1 _) | exact heap_alloc_new _ _))) | ((with_reducible apply env_ld); (case ho => exact rfl); (case hgd => exact rfl); (case hx => exact rfl); (case hg => (first | exact s0 _ (by first | exact hb0 | exact hb1 _) | exact t0 _ (by first | exact hb0 | exact hb1 _) | exact heap_alloc_new _ _))) | ((with_reducible apply csr_new_st); (case ho => exact rfl); (case hgd => exact rfl); (case hx => exact rfl); (case hy => exact rfl)))
        go_at_call 14; refine (J1.out _).mono ?_; rintro _ w9 ⟨rfl, hb'⟩
        have hb := hb'
        replace s0 := fun wr (h : On w9 wr) => s0 wr (hb.trans h)
        replace t0 := fun wr (h : On w9 wr) => t0 wr (hb.trans h)
        replace k2 := fun wr (h : On w9 wr) => k2 wr (hb.trans h)
        replace k6 := fun wr (h : On w9 wr) => k6 wr (hb.trans h)
        replace k12 := fun wr (h : On w9 wr) => k12 wr (hb.trans h)
        replace hb0 := On.refl w9
        replace hb1 : ∀ ob : Obj, On w9 (w9.alloc ob) := fun ob => (On.refl w9).alloc ob
        have HB := Lib.hid (HB.out.trans hb)
        clear hb hb'
        go_wp2_with (first | ((with_reducible apply csr_ld); (case ho => exact rfl); (case hgd => exact rfl); (case hx => exact rfl); (case hg => (first | exact s0 _ (by first | exact hb0 | exact hb1 _) | exact t0 _ (by first | exact hb0 | exact hb1 _) | exact heap_alloc_new _ _))) | ((with_reducible apply env_ld); (case ho => exact rfl); (case hgd => exact rfl); (case hx => exact rfl); (case hg => (first | exact s0 _ (by first | exact hb0 | exact hb1 _) | exact t0 _ (by first | exact hb0 | exact hb1 _) | exact heap_alloc_new _ _))) | ((with_reducible apply csr_new_st); (case ho => exact rfl); (case hgd => exact rfl); (case hx => exact rfl); (case hy => exact rfl)))
        go_at_call 14; refine (J3.out _).mono ?_; rintro _ w10 ⟨rfl, hb'⟩
        have hb := hb'
        replace s0 := fun wr (h : On w10 wr) => s0 wr (hb.trans h)
        replace t0 := fun wr (h : On w10 wr) => t0 wr (hb.trans h)
        replace k2 := fun wr (h : On w10 wr) => k2 wr (hb.trans h)
        replace k6 := fun wr (h : On w10 wr) => k6 wr (hb.trans h)
        replace k12 := fun wr (h : On w10 wr) => k12 wr (hb.trans h)
        replace hb0 := On.refl w10
        replace hb1 : ∀ ob : Obj, On w10 (w10.alloc ob) := fun ob => (On.refl w10).alloc ob
        have HB := Lib.hid (HB.out.trans hb)
        clear hb hb'
        go_wp2
        go_ret
        exact ⟨rfl, HB.out⟩
      · have t6 : (bits .and .u64 (u (c 6)) 1 == 1) = true := by
          have hs : u (c 6) = u (c 6 >>> 0) := by rw [BitVec.ushiftRight_zero]
          rw [hs]; exact (views_b (c 6) 0).trans h6
        have t12 : (bits .and .u64 (u (c 12)) 1 == 1) = true := by
          have hs : u (c 12) = u (c 12 >>> 0) := by rw [BitVec.ushiftRight_zero]
          rw [hs]; exact (views_b (c 12) 0).trans h12
        have d0 : rdb c 3072 0 = true := by have this : rdb c 3072 0 = ((c 6).getLsbD 0 && (c 12).getLsbD 0) := (by unfold rdb opn; rfl); rw [this, h6, h12]; rfl
        have J0 : Hid (∀ w, Calls Try.prog 14 #[.agg (cV c), .int .i64 3072, .int .i64 0, .agg (eV e p q)] w fun r w' => r = .returned (.tuple #[.int .u64 (u (rv c e 3072)), .int .i64 0]) ∧ On w w') := Lib.hid (fun w => read_yes c e p q 3072 0 d0 w)
        have d1 : rdb c 3072 1 = true := by have this : rdb c 3072 1 = ((c 6).getLsbD 0 && true) := (by unfold rdb opn; rfl); rw [this, h6]; rfl
        have J1 : Hid (∀ w, Calls Try.prog 14 #[.agg (cV c), .int .i64 3072, .int .i64 1, .agg (eV e p q)] w fun r w' => r = .returned (.tuple #[.int .u64 (u (rv c e 3072)), .int .i64 0]) ∧ On w w') := Lib.hid (fun w => read_yes c e p q 3072 1 d1 w)
        have d3 : rdb c 3072 3 = true := by unfold rdb opn; rfl
        have J3 : Hid (∀ w, Calls Try.prog 14 #[.agg (cV c), .int .i64 3072, .int .i64 3, .agg (eV e p q)] w fun r w' => r = .returned (.tuple #[.int .u64 (u (rv c e 3072)), .int .i64 0]) ∧ On w w') := Lib.hid (fun w => read_yes c e p q 3072 3 d3 w)
        generalize rv c e 3072 = y at *
        clear h6 d0 d1 d3 h12
        go_wp2_with (first | ((with_reducible apply csr_ld); (case ho => exact rfl); (case hgd => exact rfl); (case hx => exact rfl); (case hg => (first | exact s0 _ (by first | exact hb0 | exact hb1 _) | exact t0 _ (by first | exact hb0 | exact hb1 _) | exact heap_alloc_new _ _))) | ((with_reducible apply env_ld); (case ho => exact rfl); (case hgd => exact rfl); (case hx => exact rfl); (case hg => (first | exact s0 _ (by first | exact hb0 | exact hb1 _) | exact t0 _ (by first | exact hb0 | exact hb1 _) | exact heap_alloc_new _ _))) | ((with_reducible apply csr_new_st); (case ho => exact rfl); (case hgd => exact rfl); (case hx => exact rfl); (case hy => exact rfl)))
        go_at_call 14; refine (J0.out _).mono ?_; rintro _ w8 ⟨rfl, hb'⟩
        have hb := hb'
        replace s0 := fun wr (h : On w8 wr) => s0 wr (hb.trans h)
        replace t0 := fun wr (h : On w8 wr) => t0 wr (hb.trans h)
        replace k2 := fun wr (h : On w8 wr) => k2 wr (hb.trans h)
        replace k6 := fun wr (h : On w8 wr) => k6 wr (hb.trans h)
        replace k12 := fun wr (h : On w8 wr) => k12 wr (hb.trans h)
        replace hb0 := On.refl w8
        replace hb1 : ∀ ob : Obj, On w8 (w8.alloc ob) := fun ob => (On.refl w8).alloc ob
        have HB := Lib.hid (HB.out.trans hb)
        clear hb hb'
        go_wp2_with (first | ((with_reducible apply csr_ld); (case ho => exact rfl); (case hgd => exact rfl); (case hx => exact rfl); (case hg => (first | exact s0 _ (by first | exact hb0 | exact hb1 _) | exact t0 _ (by first | exact hb0 | exact hb1 _) | exact heap_alloc_new _ _))) | ((with_reducible apply env_ld); (case ho => exact rfl); (case hgd => exact rfl); (case hx => exact rfl); (case hg => (first | exact s0 _ (by first | exact hb0 | exact hb1 _) | exact t0 _ (by first | exact hb0 | exact hb1 _) | exact heap_alloc_new _ _))) | ((with_reducible apply csr_new_st); (case ho => exact rfl); (case hgd => exact rfl); (case hx => exact rfl); (case hy => exact rfl)))
        go_at_call 14; refine (J1.out _).mono ?_; rintro _ w9 ⟨rfl, hb'⟩
        have hb := hb'
        replace s0 := fun wr (h : On w9 wr) => s0 wr (hb.trans h)
        replace t0 := fun wr (h : On w9 wr) => t0 wr (hb.trans h)
        replace k2 := fun wr (h : On w9 wr) => k2 wr (hb.trans h)
        replace k6 := fun wr (h : On w9 wr) => k6 wr (hb.trans h)
        replace k12 := fun wr (h : On w9 wr) => k12 wr (hb.trans h)
        replace hb0 := On.refl w9
        replace hb1 : ∀ ob : Obj, On w9 (w9.alloc ob) := fun ob => (On.refl w9).alloc ob
        have HB := Lib.hid (HB.out.trans hb)
        clear hb hb'
        go_wp2_with (first | ((with_reducible apply csr_ld); (case ho => exact rfl); (case hgd => exact rfl); (case hx => exact rfl); (case hg => (first | exact s0 _ (by first | exact hb0 | exact hb1 _) | exact t0 _ (by first | exact hb0 | exact hb1 _) | exact heap_alloc_new _ _))) | ((with_reducible apply env_ld); (case ho => exact rfl); (case hgd => exact rfl); (case hx => exact rfl); (case hg => (first | exact s0 _ (by first | exact hb0 | exact hb1 _) | exact t0 _ (by first | exact hb0 | exact hb1 _) | exact heap_alloc_new _ _))) | ((with_reducible apply csr_new_st); (case ho => exact rfl); (case hgd => exact rfl); (case hx => exact rfl); (case hy => exact rfl)))
        go_at_call 14; refine (J3.out _).mono ?_; rintro _ w10 ⟨rfl, hb'⟩
        have hb := hb'
        replace s0 := fun wr (h : On w10 wr) => s0 wr (hb.trans h)
        replace t0 := fun wr (h : On w10 wr) => t0 wr (hb.trans h)
        replace k2 := fun wr (h : On w10 wr) => k2 wr (hb.trans h)
        replace k6 := fun wr (h : On w10 wr) => k6 wr (hb.trans h)
        replace k12 := fun wr (h : On w10 wr) => k12 wr (hb.trans h)
        replace hb0 := On.refl w10
        replace hb1 : ∀ ob : Obj, On w10 (w10.alloc ob) := fun ob => (On.refl w10).alloc ob
        have HB := Lib.hid (HB.out.trans hb)
        clear hb hb'
        go_wp2
        go_ret
        exact ⟨rfl, HB.out⟩
  · cases h6 : (c 6).getLsbD 1
    · have t6 : (bits .and .u64 (u (c 6) / 2) 1 == 1) = false := by
        have hs : u (c 6) / (2 : Int) = u (c 6 >>> 1) := by rw [← u_shr (c 6) 1]; rfl
        rw [hs]; exact (views_b (c 6) 1).trans h6
      have d0 : rdb c 3073 0 = false := by have this : rdb c 3073 0 = ((c 6).getLsbD 1 && (c 12).getLsbD 1) := (by unfold rdb opn; rfl); rw [this, h6]; rfl
      have J0 : Hid (∀ w, Calls Try.prog 14 #[.agg (cV c), .int .i64 3073, .int .i64 0, .agg (eV e p q)] w fun r w' => r = .returned (.tuple #[.int .u64 0, .int .i64 7]) ∧ On w w') := Lib.hid (fun w => read_no c e p q 3073 0 d0 w)
      have d1 : rdb c 3073 1 = false := by have this : rdb c 3073 1 = ((c 6).getLsbD 1 && true) := (by unfold rdb opn; rfl); rw [this, h6]; rfl
      have J1 : Hid (∀ w, Calls Try.prog 14 #[.agg (cV c), .int .i64 3073, .int .i64 1, .agg (eV e p q)] w fun r w' => r = .returned (.tuple #[.int .u64 0, .int .i64 7]) ∧ On w w') := Lib.hid (fun w => read_no c e p q 3073 1 d1 w)
      have d3 : rdb c 3073 3 = true := by unfold rdb opn; rfl
      have J3 : Hid (∀ w, Calls Try.prog 14 #[.agg (cV c), .int .i64 3073, .int .i64 3, .agg (eV e p q)] w fun r w' => r = .returned (.tuple #[.int .u64 (u (rv c e 3073)), .int .i64 0]) ∧ On w w') := Lib.hid (fun w => read_yes c e p q 3073 3 d3 w)
      generalize rv c e 3073 = y at *
      clear h6 d0 d1 d3
      go_wp2_with (first | ((with_reducible apply csr_ld); (case ho => exact rfl); (case hgd => exact rfl); (case hx => exact rfl); (case hg => (first | exact s0 _ (by first | exact hb0 | exact hb1 _) | exact t0 _ (by first | exact hb0 | exact hb1 _) | exact heap_alloc_new _ _))) | ((with_reducible apply env_ld); (case ho => exact rfl); (case hgd => exact rfl); (case hx => exact rfl); (case hg => (first | exact s0 _ (by first | exact hb0 | exact hb1 _) | exact t0 _ (by first | exact hb0 | exact hb1 _) | exact heap_alloc_new _ _))) | ((with_reducible apply csr_new_st); (case ho => exact rfl); (case hgd => exact rfl); (case hx => exact rfl); (case hy => exact rfl)))
      go_at_call 14; refine (J0.out _).mono ?_; rintro _ w8 ⟨rfl, hb'⟩
      have hb := hb'
      replace s0 := fun wr (h : On w8 wr) => s0 wr (hb.trans h)
      replace t0 := fun wr (h : On w8 wr) => t0 wr (hb.trans h)
      replace k2 := fun wr (h : On w8 wr) => k2 wr (hb.trans h)
      replace k6 := fun wr (h : On w8 wr) => k6 wr (hb.trans h)
      replace k12 := fun wr (h : On w8 wr) => k12 wr (hb.trans h)
      replace hb0 := On.refl w8
      replace hb1 : ∀ ob : Obj, On w8 (w8.alloc ob) := fun ob => (On.refl w8).alloc ob
      have HB := Lib.hid (HB.out.trans hb)
      clear hb hb'
      go_wp2_with (first | ((with_reducible apply csr_ld); (case ho => exact rfl); (case hgd => exact rfl); (case hx => exact rfl); (case hg => (first | exact s0 _ (by first | exact hb0 | exact hb1 _) | exact t0 _ (by first | exact hb0 | exact hb1 _) | exact heap_alloc_new _ _))) | ((with_reducible apply env_ld); (case ho => exact rfl); (case hgd => exact rfl); (case hx => exact rfl); (case hg => (first | exact s0 _ (by first | exact hb0 | exact hb1 _) | exact t0 _ (by first | exact hb0 | exact hb1 _) | exact heap_alloc_new _ _))) | ((with_reducible apply csr_new_st); (case ho => exact rfl); (case hgd => exact rfl); (case hx => exact rfl); (case hy => exact rfl)))
      go_at_call 14; refine (J1.out _).mono ?_; rintro _ w9 ⟨rfl, hb'⟩
      have hb := hb'
      replace s0 := fun wr (h : On w9 wr) => s0 wr (hb.trans h)
      replace t0 := fun wr (h : On w9 wr) => t0 wr (hb.trans h)
      replace k2 := fun wr (h : On w9 wr) => k2 wr (hb.trans h)
      replace k6 := fun wr (h : On w9 wr) => k6 wr (hb.trans h)
      replace k12 := fun wr (h : On w9 wr) => k12 wr (hb.trans h)
      replace hb0 := On.refl w9
      replace hb1 : ∀ ob : Obj, On w9 (w9.alloc ob) := fun ob => (On.refl w9).alloc ob
      have HB := Lib.hid (HB.out.trans hb)
      clear hb hb'
      go_wp2_with (first | ((with_reducible apply csr_ld); (case ho => exact rfl); (case hgd => exact rfl); (case hx => exact rfl); (case hg => (first | exact s0 _ (by first | exact hb0 | exact hb1 _) | exact t0 _ (by first | exact hb0 | exact hb1 _) | exact heap_alloc_new _ _))) | ((with_reducible apply env_ld); (case ho => exact rfl); (case hgd => exact rfl); (case hx => exact rfl); (case hg => (first | exact s0 _ (by first | exact hb0 | exact hb1 _) | exact t0 _ (by first | exact hb0 | exact hb1 _) | exact heap_alloc_new _ _))) | ((with_reducible apply csr_new_st); (case ho => exact rfl); (case hgd => exact rfl); (case hx => exact rfl); (case hy => exact rfl)))
      go_at_call 14; refine (J3.out _).mono ?_; rintro _ w10 ⟨rfl, hb'⟩
      have hb := hb'
      replace s0 := fun wr (h : On w10 wr) => s0 wr (hb.trans h)
      replace t0 := fun wr (h : On w10 wr) => t0 wr (hb.trans h)
      replace k2 := fun wr (h : On w10 wr) => k2 wr (hb.trans h)
      replace k6 := fun wr (h : On w10 wr) => k6 wr (hb.trans h)
      replace k12 := fun wr (h : On w10 wr) => k12 wr (hb.trans h)
      replace hb0 := On.refl w10
      replace hb1 : ∀ ob : Obj, On w10 (w10.alloc ob) := fun ob => (On.refl w10).alloc ob
      have HB := Lib.hid (HB.out.trans hb)
      clear hb hb'
      go_wp2
      go_ret
      exact ⟨rfl, HB.out⟩
    · cases h12 : (c 12).getLsbD 1
      · have t6 : (bits .and .u64 (u (c 6) / 2) 1 == 1) = true := by
          have hs : u (c 6) / (2 : Int) = u (c 6 >>> 1) := by rw [← u_shr (c 6) 1]; rfl
          rw [hs]; exact (views_b (c 6) 1).trans h6
        have t12 : (bits .and .u64 (u (c 12) / 2) 1 == 1) = false := by
          have hs : u (c 12) / (2 : Int) = u (c 12 >>> 1) := by rw [← u_shr (c 12) 1]; rfl
          rw [hs]; exact (views_b (c 12) 1).trans h12
        have d0 : rdb c 3073 0 = false := by have this : rdb c 3073 0 = ((c 6).getLsbD 1 && (c 12).getLsbD 1) := (by unfold rdb opn; rfl); rw [this, h6, h12]; rfl
        have J0 : Hid (∀ w, Calls Try.prog 14 #[.agg (cV c), .int .i64 3073, .int .i64 0, .agg (eV e p q)] w fun r w' => r = .returned (.tuple #[.int .u64 0, .int .i64 7]) ∧ On w w') := Lib.hid (fun w => read_no c e p q 3073 0 d0 w)
        have d1 : rdb c 3073 1 = true := by have this : rdb c 3073 1 = ((c 6).getLsbD 1 && true) := (by unfold rdb opn; rfl); rw [this, h6]; rfl
        have J1 : Hid (∀ w, Calls Try.prog 14 #[.agg (cV c), .int .i64 3073, .int .i64 1, .agg (eV e p q)] w fun r w' => r = .returned (.tuple #[.int .u64 (u (rv c e 3073)), .int .i64 0]) ∧ On w w') := Lib.hid (fun w => read_yes c e p q 3073 1 d1 w)
        have d3 : rdb c 3073 3 = true := by unfold rdb opn; rfl
        have J3 : Hid (∀ w, Calls Try.prog 14 #[.agg (cV c), .int .i64 3073, .int .i64 3, .agg (eV e p q)] w fun r w' => r = .returned (.tuple #[.int .u64 (u (rv c e 3073)), .int .i64 0]) ∧ On w w') := Lib.hid (fun w => read_yes c e p q 3073 3 d3 w)
        generalize rv c e 3073 = y at *
        clear h6 d0 d1 d3 h12
        go_wp2_with (first | ((with_reducible apply csr_ld); (case ho => exact rfl); (case hgd => exact rfl); (case hx => exact rfl); (case hg => (first | exact s0 _ (by first | exact hb0 | exact hb1 _) | exact t0 _ (by first | exact hb0 | exact hb1 _) | exact heap_alloc_new _ _))) | ((with_reducible apply env_ld); (case ho => exact rfl); (case hgd => exact rfl); (case hx => exact rfl); (case hg => (first | exact s0 _ (by first | exact hb0 | exact hb1 _) | exact t0 _ (by first | exact hb0 | exact hb1 _) | exact heap_alloc_new _ _))) | ((with_reducible apply csr_new_st); (case ho => exact rfl); (case hgd => exact rfl); (case hx => exact rfl); (case hy => exact rfl)))
        go_at_call 14; refine (J0.out _).mono ?_; rintro _ w8 ⟨rfl, hb'⟩
        have hb := hb'
        replace s0 := fun wr (h : On w8 wr) => s0 wr (hb.trans h)
        replace t0 := fun wr (h : On w8 wr) => t0 wr (hb.trans h)
        replace k2 := fun wr (h : On w8 wr) => k2 wr (hb.trans h)
        replace k6 := fun wr (h : On w8 wr) => k6 wr (hb.trans h)
        replace k12 := fun wr (h : On w8 wr) => k12 wr (hb.trans h)
        replace hb0 := On.refl w8
        replace hb1 : ∀ ob : Obj, On w8 (w8.alloc ob) := fun ob => (On.refl w8).alloc ob
        have HB := Lib.hid (HB.out.trans hb)
        clear hb hb'
        go_wp2_with (first | ((with_reducible apply csr_ld); (case ho => exact rfl); (case hgd => exact rfl); (case hx => exact rfl); (case hg => (first | exact s0 _ (by first | exact hb0 | exact hb1 _) | exact t0 _ (by first | exact hb0 | exact hb1 _) | exact heap_alloc_new _ _))) | ((with_reducible apply env_ld); (case ho => exact rfl); (case hgd => exact rfl); (case hx => exact rfl); (case hg => (first | exact s0 _ (by first | exact hb0 | exact hb1 _) | exact t0 _ (by first | exact hb0 | exact hb1 _) | exact heap_alloc_new _ _))) | ((with_reducible apply csr_new_st); (case ho => exact rfl); (case hgd => exact rfl); (case hx => exact rfl); (case hy => exact rfl)))
        go_at_call 14; refine (J1.out _).mono ?_; rintro _ w9 ⟨rfl, hb'⟩
        have hb := hb'
        replace s0 := fun wr (h : On w9 wr) => s0 wr (hb.trans h)
        replace t0 := fun wr (h : On w9 wr) => t0 wr (hb.trans h)
        replace k2 := fun wr (h : On w9 wr) => k2 wr (hb.trans h)
        replace k6 := fun wr (h : On w9 wr) => k6 wr (hb.trans h)
        replace k12 := fun wr (h : On w9 wr) => k12 wr (hb.trans h)
        replace hb0 := On.refl w9
        replace hb1 : ∀ ob : Obj, On w9 (w9.alloc ob) := fun ob => (On.refl w9).alloc ob
        have HB := Lib.hid (HB.out.trans hb)
        clear hb hb'
        go_wp2_with (first | ((with_reducible apply csr_ld); (case ho => exact rfl); (case hgd => exact rfl); (case hx => exact rfl); (case hg => (first | exact s0 _ (by first | exact hb0 | exact hb1 _) | exact t0 _ (by first | exact hb0 | exact hb1 _) | exact heap_alloc_new _ _))) | ((with_reducible apply env_ld); (case ho => exact rfl); (case hgd => exact rfl); (case hx => exact rfl); (case hg => (first | exact s0 _ (by first | exact hb0 | exact hb1 _) | exact t0 _ (by first | exact hb0 | exact hb1 _) | exact heap_alloc_new _ _))) | ((with_reducible apply csr_new_st); (case ho => exact rfl); (case hgd => exact rfl); (case hx => exact rfl); (case hy => exact rfl)))
        go_at_call 14; refine (J3.out _).mono ?_; rintro _ w10 ⟨rfl, hb'⟩
        have hb := hb'
        replace s0 := fun wr (h : On w10 wr) => s0 wr (hb.trans h)
        replace t0 := fun wr (h : On w10 wr) => t0 wr (hb.trans h)
        replace k2 := fun wr (h : On w10 wr) => k2 wr (hb.trans h)
        replace k6 := fun wr (h : On w10 wr) => k6 wr (hb.trans h)
        replace k12 := fun wr (h : On w10 wr) => k12 wr (hb.trans h)
        replace hb0 := On.refl w10
        replace hb1 : ∀ ob : Obj, On w10 (w10.alloc ob) := fun ob => (On.refl w10).alloc ob
        have HB := Lib.hid (HB.out.trans hb)
        clear hb hb'
        go_wp2
        go_ret
        exact ⟨rfl, HB.out⟩
      · have t6 : (bits .and .u64 (u (c 6) / 2) 1 == 1) = true := by
          have hs : u (c 6) / (2 : Int) = u (c 6 >>> 1) := by rw [← u_shr (c 6) 1]; rfl
          rw [hs]; exact (views_b (c 6) 1).trans h6
        have t12 : (bits .and .u64 (u (c 12) / 2) 1 == 1) = true := by
          have hs : u (c 12) / (2 : Int) = u (c 12 >>> 1) := by rw [← u_shr (c 12) 1]; rfl
          rw [hs]; exact (views_b (c 12) 1).trans h12
        have d0 : rdb c 3073 0 = true := by have this : rdb c 3073 0 = ((c 6).getLsbD 1 && (c 12).getLsbD 1) := (by unfold rdb opn; rfl); rw [this, h6, h12]; rfl
        have J0 : Hid (∀ w, Calls Try.prog 14 #[.agg (cV c), .int .i64 3073, .int .i64 0, .agg (eV e p q)] w fun r w' => r = .returned (.tuple #[.int .u64 (u (rv c e 3073)), .int .i64 0]) ∧ On w w') := Lib.hid (fun w => read_yes c e p q 3073 0 d0 w)
        have d1 : rdb c 3073 1 = true := by have this : rdb c 3073 1 = ((c 6).getLsbD 1 && true) := (by unfold rdb opn; rfl); rw [this, h6]; rfl
        have J1 : Hid (∀ w, Calls Try.prog 14 #[.agg (cV c), .int .i64 3073, .int .i64 1, .agg (eV e p q)] w fun r w' => r = .returned (.tuple #[.int .u64 (u (rv c e 3073)), .int .i64 0]) ∧ On w w') := Lib.hid (fun w => read_yes c e p q 3073 1 d1 w)
        have d3 : rdb c 3073 3 = true := by unfold rdb opn; rfl
        have J3 : Hid (∀ w, Calls Try.prog 14 #[.agg (cV c), .int .i64 3073, .int .i64 3, .agg (eV e p q)] w fun r w' => r = .returned (.tuple #[.int .u64 (u (rv c e 3073)), .int .i64 0]) ∧ On w w') := Lib.hid (fun w => read_yes c e p q 3073 3 d3 w)
        generalize rv c e 3073 = y at *
        clear h6 d0 d1 d3 h12
        go_wp2_with (first | ((with_reducible apply csr_ld); (case ho => exact rfl); (case hgd => exact rfl); (case hx => exact rfl); (case hg => (first | exact s0 _ (by first | exact hb0 | exact hb1 _) | exact t0 _ (by first | exact hb0 | exact hb1 _) | exact heap_alloc_new _ _))) | ((with_reducible apply env_ld); (case ho => exact rfl); (case hgd => exact rfl); (case hx => exact rfl); (case hg => (first | exact s0 _ (by first | exact hb0 | exact hb1 _) | exact t0 _ (by first | exact hb0 | exact hb1 _) | exact heap_alloc_new _ _))) | ((with_reducible apply csr_new_st); (case ho => exact rfl); (case hgd => exact rfl); (case hx => exact rfl); (case hy => exact rfl)))
        go_at_call 14; refine (J0.out _).mono ?_; rintro _ w8 ⟨rfl, hb'⟩
        have hb := hb'
        replace s0 := fun wr (h : On w8 wr) => s0 wr (hb.trans h)
        replace t0 := fun wr (h : On w8 wr) => t0 wr (hb.trans h)
        replace k2 := fun wr (h : On w8 wr) => k2 wr (hb.trans h)
        replace k6 := fun wr (h : On w8 wr) => k6 wr (hb.trans h)
        replace k12 := fun wr (h : On w8 wr) => k12 wr (hb.trans h)
        replace hb0 := On.refl w8
        replace hb1 : ∀ ob : Obj, On w8 (w8.alloc ob) := fun ob => (On.refl w8).alloc ob
        have HB := Lib.hid (HB.out.trans hb)
        clear hb hb'
        go_wp2_with (first | ((with_reducible apply csr_ld); (case ho => exact rfl); (case hgd => exact rfl); (case hx => exact rfl); (case hg => (first | exact s0 _ (by first | exact hb0 | exact hb1 _) | exact t0 _ (by first | exact hb0 | exact hb1 _) | exact heap_alloc_new _ _))) | ((with_reducible apply env_ld); (case ho => exact rfl); (case hgd => exact rfl); (case hx => exact rfl); (case hg => (first | exact s0 _ (by first | exact hb0 | exact hb1 _) | exact t0 _ (by first | exact hb0 | exact hb1 _) | exact heap_alloc_new _ _))) | ((with_reducible apply csr_new_st); (case ho => exact rfl); (case hgd => exact rfl); (case hx => exact rfl); (case hy => exact rfl)))
        go_at_call 14; refine (J1.out _).mono ?_; rintro _ w9 ⟨rfl, hb'⟩
        have hb := hb'
        replace s0 := fun wr (h : On w9 wr) => s0 wr (hb.trans h)
        replace t0 := fun wr (h : On w9 wr) => t0 wr (hb.trans h)
        replace k2 := fun wr (h : On w9 wr) => k2 wr (hb.trans h)
        replace k6 := fun wr (h : On w9 wr) => k6 wr (hb.trans h)
        replace k12 := fun wr (h : On w9 wr) => k12 wr (hb.trans h)
        replace hb0 := On.refl w9
        replace hb1 : ∀ ob : Obj, On w9 (w9.alloc ob) := fun ob => (On.refl w9).alloc ob
        have HB := Lib.hid (HB.out.trans hb)
        clear hb hb'
        go_wp2_with (first | ((with_reducible apply csr_ld); (case ho => exact rfl); (case hgd => exact rfl); (case hx => exact rfl); (case hg => (first | exact s0 _ (by first | exact hb0 | exact hb1 _) | exact t0 _ (by first | exact hb0 | exact hb1 _) | exact heap_alloc_new _ _))) | ((with_reducible apply env_ld); (case ho => exact rfl); (case hgd => exact rfl); (case hx => exact rfl); (case hg => (first | exact s0 _ (by first | exact hb0 | exact hb1 _) | exact t0 _ (by first | exact hb0 | exact hb1 _) | exact heap_alloc_new _ _))) | ((with_reducible apply csr_new_st); (case ho => exact rfl); (case hgd => exact rfl); (case hx => exact rfl); (case hy => exact rfl)))
        go_at_call 14; refine (J3.out _).mono ?_; rintro _ w10 ⟨rfl, hb'⟩
        have hb := hb'
        replace s0 := fun wr (h : On w10 wr) => s0 wr (hb.trans h)
        replace t0 := fun wr (h : On w10 wr) => t0 wr (hb.trans h)
        replace k2 := fun wr (h : On w10 wr) => k2 wr (hb.trans h)
        replace k6 := fun wr (h : On w10 wr) => k6 wr (hb.trans h)
        replace k12 := fun wr (h : On w10 wr) => k12 wr (hb.trans h)
        replace hb0 := On.refl w10
        replace hb1 : ∀ ob : Obj, On w10 (w10.alloc ob) := fun ob => (On.refl w10).alloc ob
        have HB := Lib.hid (HB.out.trans hb)
        clear hb hb'
        go_wp2
        go_ret
        exact ⟨rfl, HB.out⟩
  · cases h6 : (c 6).getLsbD 2
    · have t6 : (bits .and .u64 (u (c 6) / 4) 1 == 1) = false := by
        have hs : u (c 6) / (4 : Int) = u (c 6 >>> 2) := by rw [← u_shr (c 6) 2]; rfl
        rw [hs]; exact (views_b (c 6) 2).trans h6
      have d0 : rdb c 3074 0 = false := by have this : rdb c 3074 0 = ((c 6).getLsbD 2 && (c 12).getLsbD 2) := (by unfold rdb opn; rfl); rw [this, h6]; rfl
      have J0 : Hid (∀ w, Calls Try.prog 14 #[.agg (cV c), .int .i64 3074, .int .i64 0, .agg (eV e p q)] w fun r w' => r = .returned (.tuple #[.int .u64 0, .int .i64 7]) ∧ On w w') := Lib.hid (fun w => read_no c e p q 3074 0 d0 w)
      have d1 : rdb c 3074 1 = false := by have this : rdb c 3074 1 = ((c 6).getLsbD 2 && true) := (by unfold rdb opn; rfl); rw [this, h6]; rfl
      have J1 : Hid (∀ w, Calls Try.prog 14 #[.agg (cV c), .int .i64 3074, .int .i64 1, .agg (eV e p q)] w fun r w' => r = .returned (.tuple #[.int .u64 0, .int .i64 7]) ∧ On w w') := Lib.hid (fun w => read_no c e p q 3074 1 d1 w)
      have d3 : rdb c 3074 3 = true := by unfold rdb opn; rfl
      have J3 : Hid (∀ w, Calls Try.prog 14 #[.agg (cV c), .int .i64 3074, .int .i64 3, .agg (eV e p q)] w fun r w' => r = .returned (.tuple #[.int .u64 (u (rv c e 3074)), .int .i64 0]) ∧ On w w') := Lib.hid (fun w => read_yes c e p q 3074 3 d3 w)
      generalize rv c e 3074 = y at *
      clear h6 d0 d1 d3
      go_wp2_with (first | ((with_reducible apply csr_ld); (case ho => exact rfl); (case hgd => exact rfl); (case hx => exact rfl); (case hg => (first | exact s0 _ (by first | exact hb0 | exact hb1 _) | exact t0 _ (by first | exact hb0 | exact hb1 _) | exact heap_alloc_new _ _))) | ((with_reducible apply env_ld); (case ho => exact rfl); (case hgd => exact rfl); (case hx => exact rfl); (case hg => (first | exact s0 _ (by first | exact hb0 | exact hb1 _) | exact t0 _ (by first | exact hb0 | exact hb1 _) | exact heap_alloc_new _ _))) | ((with_reducible apply csr_new_st); (case ho => exact rfl); (case hgd => exact rfl); (case hx => exact rfl); (case hy => exact rfl)))
      go_at_call 14; refine (J0.out _).mono ?_; rintro _ w8 ⟨rfl, hb'⟩
      have hb := hb'
      replace s0 := fun wr (h : On w8 wr) => s0 wr (hb.trans h)
      replace t0 := fun wr (h : On w8 wr) => t0 wr (hb.trans h)
      replace k2 := fun wr (h : On w8 wr) => k2 wr (hb.trans h)
      replace k6 := fun wr (h : On w8 wr) => k6 wr (hb.trans h)
      replace k12 := fun wr (h : On w8 wr) => k12 wr (hb.trans h)
      replace hb0 := On.refl w8
      replace hb1 : ∀ ob : Obj, On w8 (w8.alloc ob) := fun ob => (On.refl w8).alloc ob
      have HB := Lib.hid (HB.out.trans hb)
      clear hb hb'
      go_wp2_with (first | ((with_reducible apply csr_ld); (case ho => exact rfl); (case hgd => exact rfl); (case hx => exact rfl); (case hg => (first | exact s0 _ (by first | exact hb0 | exact hb1 _) | exact t0 _ (by first | exact hb0 | exact hb1 _) | exact heap_alloc_new _ _))) | ((with_reducible apply env_ld); (case ho => exact rfl); (case hgd => exact rfl); (case hx => exact rfl); (case hg => (first | exact s0 _ (by first | exact hb0 | exact hb1 _) | exact t0 _ (by first | exact hb0 | exact hb1 _) | exact heap_alloc_new _ _))) | ((with_reducible apply csr_new_st); (case ho => exact rfl); (case hgd => exact rfl); (case hx => exact rfl); (case hy => exact rfl)))
      go_at_call 14; refine (J1.out _).mono ?_; rintro _ w9 ⟨rfl, hb'⟩
      have hb := hb'
      replace s0 := fun wr (h : On w9 wr) => s0 wr (hb.trans h)
      replace t0 := fun wr (h : On w9 wr) => t0 wr (hb.trans h)
      replace k2 := fun wr (h : On w9 wr) => k2 wr (hb.trans h)
      replace k6 := fun wr (h : On w9 wr) => k6 wr (hb.trans h)
      replace k12 := fun wr (h : On w9 wr) => k12 wr (hb.trans h)
      replace hb0 := On.refl w9
      replace hb1 : ∀ ob : Obj, On w9 (w9.alloc ob) := fun ob => (On.refl w9).alloc ob
      have HB := Lib.hid (HB.out.trans hb)
      clear hb hb'
      go_wp2_with (first | ((with_reducible apply csr_ld); (case ho => exact rfl); (case hgd => exact rfl); (case hx => exact rfl); (case hg => (first | exact s0 _ (by first | exact hb0 | exact hb1 _) | exact t0 _ (by first | exact hb0 | exact hb1 _) | exact heap_alloc_new _ _))) | ((with_reducible apply env_ld); (case ho => exact rfl); (case hgd => exact rfl); (case hx => exact rfl); (case hg => (first | exact s0 _ (by first | exact hb0 | exact hb1 _) | exact t0 _ (by first | exact hb0 | exact hb1 _) | exact heap_alloc_new _ _))) | ((with_reducible apply csr_new_st); (case ho => exact rfl); (case hgd => exact rfl); (case hx => exact rfl); (case hy => exact rfl)))
      go_at_call 14; refine (J3.out _).mono ?_; rintro _ w10 ⟨rfl, hb'⟩
      have hb := hb'
      replace s0 := fun wr (h : On w10 wr) => s0 wr (hb.trans h)
      replace t0 := fun wr (h : On w10 wr) => t0 wr (hb.trans h)
      replace k2 := fun wr (h : On w10 wr) => k2 wr (hb.trans h)
      replace k6 := fun wr (h : On w10 wr) => k6 wr (hb.trans h)
      replace k12 := fun wr (h : On w10 wr) => k12 wr (hb.trans h)
      replace hb0 := On.refl w10
      replace hb1 : ∀ ob : Obj, On w10 (w10.alloc ob) := fun ob => (On.refl w10).alloc ob
      have HB := Lib.hid (HB.out.trans hb)
      clear hb hb'
      go_wp2
      go_ret
      exact ⟨rfl, HB.out⟩
    · cases h12 : (c 12).getLsbD 2
      · have t6 : (bits .and .u64 (u (c 6) / 4) 1 == 1) = true := by
          have hs : u (c 6) / (4 : Int) = u (c 6 >>> 2) := by rw [← u_shr (c 6) 2]; rfl
          rw [hs]; exact (views_b (c 6) 2).trans h6
        have t12 : (bits .and .u64 (u (c 12) / 4) 1 == 1) = false := by
          have hs : u (c 12) / (4 : Int) = u (c 12 >>> 2) := by rw [← u_shr (c 12) 2]; rfl
          rw [hs]; exact (views_b (c 12) 2).trans h12
        have d0 : rdb c 3074 0 = false := by have this : rdb c 3074 0 = ((c 6).getLsbD 2 && (c 12).getLsbD 2) := (by unfold rdb opn; rfl); rw [this, h6, h12]; rfl
        have J0 : Hid (∀ w, Calls Try.prog 14 #[.agg (cV c), .int .i64 3074, .int .i64 0, .agg (eV e p q)] w fun r w' => r = .returned (.tuple #[.int .u64 0, .int .i64 7]) ∧ On w w') := Lib.hid (fun w => read_no c e p q 3074 0 d0 w)
        have d1 : rdb c 3074 1 = true := by have this : rdb c 3074 1 = ((c 6).getLsbD 2 && true) := (by unfold rdb opn; rfl); rw [this, h6]; rfl
        have J1 : Hid (∀ w, Calls Try.prog 14 #[.agg (cV c), .int .i64 3074, .int .i64 1, .agg (eV e p q)] w fun r w' => r = .returned (.tuple #[.int .u64 (u (rv c e 3074)), .int .i64 0]) ∧ On w w') := Lib.hid (fun w => read_yes c e p q 3074 1 d1 w)
        have d3 : rdb c 3074 3 = true := by unfold rdb opn; rfl
        have J3 : Hid (∀ w, Calls Try.prog 14 #[.agg (cV c), .int .i64 3074, .int .i64 3, .agg (eV e p q)] w fun r w' => r = .returned (.tuple #[.int .u64 (u (rv c e 3074)), .int .i64 0]) ∧ On w w') := Lib.hid (fun w => read_yes c e p q 3074 3 d3 w)
        generalize rv c e 3074 = y at *
        clear h6 d0 d1 d3 h12
        go_wp2_with (first | ((with_reducible apply csr_ld); (case ho => exact rfl); (case hgd => exact rfl); (case hx => exact rfl); (case hg => (first | exact s0 _ (by first | exact hb0 | exact hb1 _) | exact t0 _ (by first | exact hb0 | exact hb1 _) | exact heap_alloc_new _ _))) | ((with_reducible apply env_ld); (case ho => exact rfl); (case hgd => exact rfl); (case hx => exact rfl); (case hg => (first | exact s0 _ (by first | exact hb0 | exact hb1 _) | exact t0 _ (by first | exact hb0 | exact hb1 _) | exact heap_alloc_new _ _))) | ((with_reducible apply csr_new_st); (case ho => exact rfl); (case hgd => exact rfl); (case hx => exact rfl); (case hy => exact rfl)))
        go_at_call 14; refine (J0.out _).mono ?_; rintro _ w8 ⟨rfl, hb'⟩
        have hb := hb'
        replace s0 := fun wr (h : On w8 wr) => s0 wr (hb.trans h)
        replace t0 := fun wr (h : On w8 wr) => t0 wr (hb.trans h)
        replace k2 := fun wr (h : On w8 wr) => k2 wr (hb.trans h)
        replace k6 := fun wr (h : On w8 wr) => k6 wr (hb.trans h)
        replace k12 := fun wr (h : On w8 wr) => k12 wr (hb.trans h)
        replace hb0 := On.refl w8
        replace hb1 : ∀ ob : Obj, On w8 (w8.alloc ob) := fun ob => (On.refl w8).alloc ob
        have HB := Lib.hid (HB.out.trans hb)
        clear hb hb'
        go_wp2_with (first | ((with_reducible apply csr_ld); (case ho => exact rfl); (case hgd => exact rfl); (case hx => exact rfl); (case hg => (first | exact s0 _ (by first | exact hb0 | exact hb1 _) | exact t0 _ (by first | exact hb0 | exact hb1 _) | exact heap_alloc_new _ _))) | ((with_reducible apply env_ld); (case ho => exact rfl); (case hgd => exact rfl); (case hx => exact rfl); (case hg => (first | exact s0 _ (by first | exact hb0 | exact hb1 _) | exact t0 _ (by first | exact hb0 | exact hb1 _) | exact heap_alloc_new _ _))) | ((with_reducible apply csr_new_st); (case ho => exact rfl); (case hgd => exact rfl); (case hx => exact rfl); (case hy => exact rfl)))
        go_at_call 14; refine (J1.out _).mono ?_; rintro _ w9 ⟨rfl, hb'⟩
        have hb := hb'
        replace s0 := fun wr (h : On w9 wr) => s0 wr (hb.trans h)
        replace t0 := fun wr (h : On w9 wr) => t0 wr (hb.trans h)
        replace k2 := fun wr (h : On w9 wr) => k2 wr (hb.trans h)
        replace k6 := fun wr (h : On w9 wr) => k6 wr (hb.trans h)
        replace k12 := fun wr (h : On w9 wr) => k12 wr (hb.trans h)
        replace hb0 := On.refl w9
        replace hb1 : ∀ ob : Obj, On w9 (w9.alloc ob) := fun ob => (On.refl w9).alloc ob
        have HB := Lib.hid (HB.out.trans hb)
        clear hb hb'
        go_wp2_with (first | ((with_reducible apply csr_ld); (case ho => exact rfl); (case hgd => exact rfl); (case hx => exact rfl); (case hg => (first | exact s0 _ (by first | exact hb0 | exact hb1 _) | exact t0 _ (by first | exact hb0 | exact hb1 _) | exact heap_alloc_new _ _))) | ((with_reducible apply env_ld); (case ho => exact rfl); (case hgd => exact rfl); (case hx => exact rfl); (case hg => (first | exact s0 _ (by first | exact hb0 | exact hb1 _) | exact t0 _ (by first | exact hb0 | exact hb1 _) | exact heap_alloc_new _ _))) | ((with_reducible apply csr_new_st); (case ho => exact rfl); (case hgd => exact rfl); (case hx => exact rfl); (case hy => exact rfl)))
        go_at_call 14; refine (J3.out _).mono ?_; rintro _ w10 ⟨rfl, hb'⟩
        have hb := hb'
        replace s0 := fun wr (h : On w10 wr) => s0 wr (hb.trans h)
        replace t0 := fun wr (h : On w10 wr) => t0 wr (hb.trans h)
        replace k2 := fun wr (h : On w10 wr) => k2 wr (hb.trans h)
        replace k6 := fun wr (h : On w10 wr) => k6 wr (hb.trans h)
        replace k12 := fun wr (h : On w10 wr) => k12 wr (hb.trans h)
        replace hb0 := On.refl w10
        replace hb1 : ∀ ob : Obj, On w10 (w10.alloc ob) := fun ob => (On.refl w10).alloc ob
        have HB := Lib.hid (HB.out.trans hb)
        clear hb hb'
        go_wp2
        go_ret
        exact ⟨rfl, HB.out⟩
      · have t6 : (bits .and .u64 (u (c 6) / 4) 1 == 1) = true := by
          have hs : u (c 6) / (4 : Int) = u (c 6 >>> 2) := by rw [← u_shr (c 6) 2]; rfl
          rw [hs]; exact (views_b (c 6) 2).trans h6
        have t12 : (bits .and .u64 (u (c 12) / 4) 1 == 1) = true := by
          have hs : u (c 12) / (4 : Int) = u (c 12 >>> 2) := by rw [← u_shr (c 12) 2]; rfl
          rw [hs]; exact (views_b (c 12) 2).trans h12
        have d0 : rdb c 3074 0 = true := by have this : rdb c 3074 0 = ((c 6).getLsbD 2 && (c 12).getLsbD 2) := (by unfold rdb opn; rfl); rw [this, h6, h12]; rfl
        have J0 : Hid (∀ w, Calls Try.prog 14 #[.agg (cV c), .int .i64 3074, .int .i64 0, .agg (eV e p q)] w fun r w' => r = .returned (.tuple #[.int .u64 (u (rv c e 3074)), .int .i64 0]) ∧ On w w') := Lib.hid (fun w => read_yes c e p q 3074 0 d0 w)
        have d1 : rdb c 3074 1 = true := by have this : rdb c 3074 1 = ((c 6).getLsbD 2 && true) := (by unfold rdb opn; rfl); rw [this, h6]; rfl
        have J1 : Hid (∀ w, Calls Try.prog 14 #[.agg (cV c), .int .i64 3074, .int .i64 1, .agg (eV e p q)] w fun r w' => r = .returned (.tuple #[.int .u64 (u (rv c e 3074)), .int .i64 0]) ∧ On w w') := Lib.hid (fun w => read_yes c e p q 3074 1 d1 w)
        have d3 : rdb c 3074 3 = true := by unfold rdb opn; rfl
        have J3 : Hid (∀ w, Calls Try.prog 14 #[.agg (cV c), .int .i64 3074, .int .i64 3, .agg (eV e p q)] w fun r w' => r = .returned (.tuple #[.int .u64 (u (rv c e 3074)), .int .i64 0]) ∧ On w w') := Lib.hid (fun w => read_yes c e p q 3074 3 d3 w)
        generalize rv c e 3074 = y at *
        clear h6 d0 d1 d3 h12
        go_wp2_with (first | ((with_reducible apply csr_ld); (case ho => exact rfl); (case hgd => exact rfl); (case hx => exact rfl); (case hg => (first | exact s0 _ (by first | exact hb0 | exact hb1 _) | exact t0 _ (by first | exact hb0 | exact hb1 _) | exact heap_alloc_new _ _))) | ((with_reducible apply env_ld); (case ho => exact rfl); (case hgd => exact rfl); (case hx => exact rfl); (case hg => (first | exact s0 _ (by first | exact hb0 | exact hb1 _) | exact t0 _ (by first | exact hb0 | exact hb1 _) | exact heap_alloc_new _ _))) | ((with_reducible apply csr_new_st); (case ho => exact rfl); (case hgd => exact rfl); (case hx => exact rfl); (case hy => exact rfl)))
        go_at_call 14; refine (J0.out _).mono ?_; rintro _ w8 ⟨rfl, hb'⟩
        have hb := hb'
        replace s0 := fun wr (h : On w8 wr) => s0 wr (hb.trans h)
        replace t0 := fun wr (h : On w8 wr) => t0 wr (hb.trans h)
        replace k2 := fun wr (h : On w8 wr) => k2 wr (hb.trans h)
        replace k6 := fun wr (h : On w8 wr) => k6 wr (hb.trans h)
        replace k12 := fun wr (h : On w8 wr) => k12 wr (hb.trans h)
        replace hb0 := On.refl w8
        replace hb1 : ∀ ob : Obj, On w8 (w8.alloc ob) := fun ob => (On.refl w8).alloc ob
        have HB := Lib.hid (HB.out.trans hb)
        clear hb hb'
        go_wp2_with (first | ((with_reducible apply csr_ld); (case ho => exact rfl); (case hgd => exact rfl); (case hx => exact rfl); (case hg => (first | exact s0 _ (by first | exact hb0 | exact hb1 _) | exact t0 _ (by first | exact hb0 | exact hb1 _) | exact heap_alloc_new _ _))) | ((with_reducible apply env_ld); (case ho => exact rfl); (case hgd => exact rfl); (case hx => exact rfl); (case hg => (first | exact s0 _ (by first | exact hb0 | exact hb1 _) | exact t0 _ (by first | exact hb0 | exact hb1 _) | exact heap_alloc_new _ _))) | ((with_reducible apply csr_new_st); (case ho => exact rfl); (case hgd => exact rfl); (case hx => exact rfl); (case hy => exact rfl)))
        go_at_call 14; refine (J1.out _).mono ?_; rintro _ w9 ⟨rfl, hb'⟩
        have hb := hb'
        replace s0 := fun wr (h : On w9 wr) => s0 wr (hb.trans h)
        replace t0 := fun wr (h : On w9 wr) => t0 wr (hb.trans h)
        replace k2 := fun wr (h : On w9 wr) => k2 wr (hb.trans h)
        replace k6 := fun wr (h : On w9 wr) => k6 wr (hb.trans h)
        replace k12 := fun wr (h : On w9 wr) => k12 wr (hb.trans h)
        replace hb0 := On.refl w9
        replace hb1 : ∀ ob : Obj, On w9 (w9.alloc ob) := fun ob => (On.refl w9).alloc ob
        have HB := Lib.hid (HB.out.trans hb)
        clear hb hb'
        go_wp2_with (first | ((with_reducible apply csr_ld); (case ho => exact rfl); (case hgd => exact rfl); (case hx => exact rfl); (case hg => (first | exact s0 _ (by first | exact hb0 | exact hb1 _) | exact t0 _ (by first | exact hb0 | exact hb1 _) | exact heap_alloc_new _ _))) | ((with_reducible apply env_ld); (case ho => exact rfl); (case hgd => exact rfl); (case hx => exact rfl); (case hg => (first | exact s0 _ (by first | exact hb0 | exact hb1 _) | exact t0 _ (by first | exact hb0 | exact hb1 _) | exact heap_alloc_new _ _))) | ((with_reducible apply csr_new_st); (case ho => exact rfl); (case hgd => exact rfl); (case hx => exact rfl); (case hy => exact rfl)))
        go_at_call 14; refine (J3.out _).mono ?_; rintro _ w10 ⟨rfl, hb'⟩
        have hb := hb'
        replace s0 := fun wr (h : On w10 wr) => s0 wr (hb.trans h)
        replace t0 := fun wr (h : On w10 wr) => t0 wr (hb.trans h)
        replace k2 := fun wr (h : On w10 wr) => k2 wr (hb.trans h)
        replace k6 := fun wr (h : On w10 wr) => k6 wr (hb.trans h)
        replace k12 := fun wr (h : On w10 wr) => k12 wr (hb.trans h)
        replace hb0 := On.refl w10
        replace hb1 : ∀ ob : Obj, On w10 (w10.alloc ob) := fun ob => (On.refl w10).alloc ob
        have HB := Lib.hid (HB.out.trans hb)
        clear hb hb'
        go_wp2
        go_ret
        exact ⟨rfl, HB.out⟩
  · cases h6 : (c 6).getLsbD 3
    · have t6 : (bits .and .u64 (u (c 6) / 8) 1 == 1) = false := by
        have hs : u (c 6) / (8 : Int) = u (c 6 >>> 3) := by rw [← u_shr (c 6) 3]; rfl
        rw [hs]; exact (views_b (c 6) 3).trans h6
      have d0 : rdb c 3075 0 = false := by have this : rdb c 3075 0 = ((c 6).getLsbD 3 && (c 12).getLsbD 3) := (by unfold rdb opn; rfl); rw [this, h6]; rfl
      have J0 : Hid (∀ w, Calls Try.prog 14 #[.agg (cV c), .int .i64 3075, .int .i64 0, .agg (eV e p q)] w fun r w' => r = .returned (.tuple #[.int .u64 0, .int .i64 7]) ∧ On w w') := Lib.hid (fun w => read_no c e p q 3075 0 d0 w)
      have d1 : rdb c 3075 1 = false := by have this : rdb c 3075 1 = ((c 6).getLsbD 3 && true) := (by unfold rdb opn; rfl); rw [this, h6]; rfl
      have J1 : Hid (∀ w, Calls Try.prog 14 #[.agg (cV c), .int .i64 3075, .int .i64 1, .agg (eV e p q)] w fun r w' => r = .returned (.tuple #[.int .u64 0, .int .i64 7]) ∧ On w w') := Lib.hid (fun w => read_no c e p q 3075 1 d1 w)
      have d3 : rdb c 3075 3 = true := by unfold rdb opn; rfl
      have J3 : Hid (∀ w, Calls Try.prog 14 #[.agg (cV c), .int .i64 3075, .int .i64 3, .agg (eV e p q)] w fun r w' => r = .returned (.tuple #[.int .u64 (u (rv c e 3075)), .int .i64 0]) ∧ On w w') := Lib.hid (fun w => read_yes c e p q 3075 3 d3 w)
      generalize rv c e 3075 = y at *
      clear h6 d0 d1 d3
      go_wp2_with (first | ((with_reducible apply csr_ld); (case ho => exact rfl); (case hgd => exact rfl); (case hx => exact rfl); (case hg => (first | exact s0 _ (by first | exact hb0 | exact hb1 _) | exact t0 _ (by first | exact hb0 | exact hb1 _) | exact heap_alloc_new _ _))) | ((with_reducible apply env_ld); (case ho => exact rfl); (case hgd => exact rfl); (case hx => exact rfl); (case hg => (first | exact s0 _ (by first | exact hb0 | exact hb1 _) | exact t0 _ (by first | exact hb0 | exact hb1 _) | exact heap_alloc_new _ _))) | ((with_reducible apply csr_new_st); (case ho => exact rfl); (case hgd => exact rfl); (case hx => exact rfl); (case hy => exact rfl)))
      go_at_call 14; refine (J0.out _).mono ?_; rintro _ w8 ⟨rfl, hb'⟩
      have hb := hb'
      replace s0 := fun wr (h : On w8 wr) => s0 wr (hb.trans h)
      replace t0 := fun wr (h : On w8 wr) => t0 wr (hb.trans h)
      replace k2 := fun wr (h : On w8 wr) => k2 wr (hb.trans h)
      replace k6 := fun wr (h : On w8 wr) => k6 wr (hb.trans h)
      replace k12 := fun wr (h : On w8 wr) => k12 wr (hb.trans h)
      replace hb0 := On.refl w8
      replace hb1 : ∀ ob : Obj, On w8 (w8.alloc ob) := fun ob => (On.refl w8).alloc ob
      have HB := Lib.hid (HB.out.trans hb)
      clear hb hb'
      go_wp2_with (first | ((with_reducible apply csr_ld); (case ho => exact rfl); (case hgd => exact rfl); (case hx => exact rfl); (case hg => (first | exact s0 _ (by first | exact hb0 | exact hb1 _) | exact t0 _ (by first | exact hb0 | exact hb1 _) | exact heap_alloc_new _ _))) | ((with_reducible apply env_ld); (case ho => exact rfl); (case hgd => exact rfl); (case hx => exact rfl); (case hg => (first | exact s0 _ (by first | exact hb0 | exact hb1 _) | exact t0 _ (by first | exact hb0 | exact hb1 _) | exact heap_alloc_new _ _))) | ((with_reducible apply csr_new_st); (case ho => exact rfl); (case hgd => exact rfl); (case hx => exact rfl); (case hy => exact rfl)))
      go_at_call 14; refine (J1.out _).mono ?_; rintro _ w9 ⟨rfl, hb'⟩
      have hb := hb'
      replace s0 := fun wr (h : On w9 wr) => s0 wr (hb.trans h)
      replace t0 := fun wr (h : On w9 wr) => t0 wr (hb.trans h)
      replace k2 := fun wr (h : On w9 wr) => k2 wr (hb.trans h)
      replace k6 := fun wr (h : On w9 wr) => k6 wr (hb.trans h)
      replace k12 := fun wr (h : On w9 wr) => k12 wr (hb.trans h)
      replace hb0 := On.refl w9
      replace hb1 : ∀ ob : Obj, On w9 (w9.alloc ob) := fun ob => (On.refl w9).alloc ob
      have HB := Lib.hid (HB.out.trans hb)
      clear hb hb'
      go_wp2_with (first | ((with_reducible apply csr_ld); (case ho => exact rfl); (case hgd => exact rfl); (case hx => exact rfl); (case hg => (first | exact s0 _ (by first | exact hb0 | exact hb1 _) | exact t0 _ (by first | exact hb0 | exact hb1 _) | exact heap_alloc_new _ _))) | ((with_reducible apply env_ld); (case ho => exact rfl); (case hgd => exact rfl); (case hx => exact rfl); (case hg => (first | exact s0 _ (by first | exact hb0 | exact hb1 _) | exact t0 _ (by first | exact hb0 | exact hb1 _) | exact heap_alloc_new _ _))) | ((with_reducible apply csr_new_st); (case ho => exact rfl); (case hgd => exact rfl); (case hx => exact rfl); (case hy => exact rfl)))
      go_at_call 14; refine (J3.out _).mono ?_; rintro _ w10 ⟨rfl, hb'⟩
      have hb := hb'
      replace s0 := fun wr (h : On w10 wr) => s0 wr (hb.trans h)
      replace t0 := fun wr (h : On w10 wr) => t0 wr (hb.trans h)
      replace k2 := fun wr (h : On w10 wr) => k2 wr (hb.trans h)
      replace k6 := fun wr (h : On w10 wr) => k6 wr (hb.trans h)
      replace k12 := fun wr (h : On w10 wr) => k12 wr (hb.trans h)
      replace hb0 := On.refl w10
      replace hb1 : ∀ ob : Obj, On w10 (w10.alloc ob) := fun ob => (On.refl w10).alloc ob
      have HB := Lib.hid (HB.out.trans hb)
      clear hb hb'
      go_wp2
      go_ret
      exact ⟨rfl, HB.out⟩
    · cases h12 : (c 12).getLsbD 3
      · have t6 : (bits .and .u64 (u (c 6) / 8) 1 == 1) = true := by
          have hs : u (c 6) / (8 : Int) = u (c 6 >>> 3) := by rw [← u_shr (c 6) 3]; rfl
          rw [hs]; exact (views_b (c 6) 3).trans h6
        have t12 : (bits .and .u64 (u (c 12) / 8) 1 == 1) = false := by
          have hs : u (c 12) / (8 : Int) = u (c 12 >>> 3) := by rw [← u_shr (c 12) 3]; rfl
          rw [hs]; exact (views_b (c 12) 3).trans h12
        have d0 : rdb c 3075 0 = false := by have this : rdb c 3075 0 = ((c 6).getLsbD 3 && (c 12).getLsbD 3) := (by unfold rdb opn; rfl); rw [this, h6, h12]; rfl
        have J0 : Hid (∀ w, Calls Try.prog 14 #[.agg (cV c), .int .i64 3075, .int .i64 0, .agg (eV e p q)] w fun r w' => r = .returned (.tuple #[.int .u64 0, .int .i64 7]) ∧ On w w') := Lib.hid (fun w => read_no c e p q 3075 0 d0 w)
        have d1 : rdb c 3075 1 = true := by have this : rdb c 3075 1 = ((c 6).getLsbD 3 && true) := (by unfold rdb opn; rfl); rw [this, h6]; rfl
        have J1 : Hid (∀ w, Calls Try.prog 14 #[.agg (cV c), .int .i64 3075, .int .i64 1, .agg (eV e p q)] w fun r w' => r = .returned (.tuple #[.int .u64 (u (rv c e 3075)), .int .i64 0]) ∧ On w w') := Lib.hid (fun w => read_yes c e p q 3075 1 d1 w)
        have d3 : rdb c 3075 3 = true := by unfold rdb opn; rfl
        have J3 : Hid (∀ w, Calls Try.prog 14 #[.agg (cV c), .int .i64 3075, .int .i64 3, .agg (eV e p q)] w fun r w' => r = .returned (.tuple #[.int .u64 (u (rv c e 3075)), .int .i64 0]) ∧ On w w') := Lib.hid (fun w => read_yes c e p q 3075 3 d3 w)
        generalize rv c e 3075 = y at *
        clear h6 d0 d1 d3 h12
        go_wp2_with (first | ((with_reducible apply csr_ld); (case ho => exact rfl); (case hgd => exact rfl); (case hx => exact rfl); (case hg => (first | exact s0 _ (by first | exact hb0 | exact hb1 _) | exact t0 _ (by first | exact hb0 | exact hb1 _) | exact heap_alloc_new _ _))) | ((with_reducible apply env_ld); (case ho => exact rfl); (case hgd => exact rfl); (case hx => exact rfl); (case hg => (first | exact s0 _ (by first | exact hb0 | exact hb1 _) | exact t0 _ (by first | exact hb0 | exact hb1 _) | exact heap_alloc_new _ _))) | ((with_reducible apply csr_new_st); (case ho => exact rfl); (case hgd => exact rfl); (case hx => exact rfl); (case hy => exact rfl)))
        go_at_call 14; refine (J0.out _).mono ?_; rintro _ w8 ⟨rfl, hb'⟩
        have hb := hb'
        replace s0 := fun wr (h : On w8 wr) => s0 wr (hb.trans h)
        replace t0 := fun wr (h : On w8 wr) => t0 wr (hb.trans h)
        replace k2 := fun wr (h : On w8 wr) => k2 wr (hb.trans h)
        replace k6 := fun wr (h : On w8 wr) => k6 wr (hb.trans h)
        replace k12 := fun wr (h : On w8 wr) => k12 wr (hb.trans h)
        replace hb0 := On.refl w8
        replace hb1 : ∀ ob : Obj, On w8 (w8.alloc ob) := fun ob => (On.refl w8).alloc ob
        have HB := Lib.hid (HB.out.trans hb)
        clear hb hb'
        go_wp2_with (first | ((with_reducible apply csr_ld); (case ho => exact rfl); (case hgd => exact rfl); (case hx => exact rfl); (case hg => (first | exact s0 _ (by first | exact hb0 | exact hb1 _) | exact t0 _ (by first | exact hb0 | exact hb1 _) | exact heap_alloc_new _ _))) | ((with_reducible apply env_ld); (case ho => exact rfl); (case hgd => exact rfl); (case hx => exact rfl); (case hg => (first | exact s0 _ (by first | exact hb0 | exact hb1 _) | exact t0 _ (by first | exact hb0 | exact hb1 _) | exact heap_alloc_new _ _))) | ((with_reducible apply csr_new_st); (case ho => exact rfl); (case hgd => exact rfl); (case hx => exact rfl); (case hy => exact rfl)))
        go_at_call 14; refine (J1.out _).mono ?_; rintro _ w9 ⟨rfl, hb'⟩
        have hb := hb'
        replace s0 := fun wr (h : On w9 wr) => s0 wr (hb.trans h)
        replace t0 := fun wr (h : On w9 wr) => t0 wr (hb.trans h)
        replace k2 := fun wr (h : On w9 wr) => k2 wr (hb.trans h)
        replace k6 := fun wr (h : On w9 wr) => k6 wr (hb.trans h)
        replace k12 := fun wr (h : On w9 wr) => k12 wr (hb.trans h)
        replace hb0 := On.refl w9
        replace hb1 : ∀ ob : Obj, On w9 (w9.alloc ob) := fun ob => (On.refl w9).alloc ob
        have HB := Lib.hid (HB.out.trans hb)
        clear hb hb'
        go_wp2_with (first | ((with_reducible apply csr_ld); (case ho => exact rfl); (case hgd => exact rfl); (case hx => exact rfl); (case hg => (first | exact s0 _ (by first | exact hb0 | exact hb1 _) | exact t0 _ (by first | exact hb0 | exact hb1 _) | exact heap_alloc_new _ _))) | ((with_reducible apply env_ld); (case ho => exact rfl); (case hgd => exact rfl); (case hx => exact rfl); (case hg => (first | exact s0 _ (by first | exact hb0 | exact hb1 _) | exact t0 _ (by first | exact hb0 | exact hb1 _) | exact heap_alloc_new _ _))) | ((with_reducible apply csr_new_st); (case ho => exact rfl); (case hgd => exact rfl); (case hx => exact rfl); (case hy => exact rfl)))
        go_at_call 14; refine (J3.out _).mono ?_; rintro _ w10 ⟨rfl, hb'⟩
        have hb := hb'
        replace s0 := fun wr (h : On w10 wr) => s0 wr (hb.trans h)
        replace t0 := fun wr (h : On w10 wr) => t0 wr (hb.trans h)
        replace k2 := fun wr (h : On w10 wr) => k2 wr (hb.trans h)
        replace k6 := fun wr (h : On w10 wr) => k6 wr (hb.trans h)
        replace k12 := fun wr (h : On w10 wr) => k12 wr (hb.trans h)
        replace hb0 := On.refl w10
        replace hb1 : ∀ ob : Obj, On w10 (w10.alloc ob) := fun ob => (On.refl w10).alloc ob
        have HB := Lib.hid (HB.out.trans hb)
        clear hb hb'
        go_wp2
        go_ret
        exact ⟨rfl, HB.out⟩
      · have t6 : (bits .and .u64 (u (c 6) / 8) 1 == 1) = true := by
          have hs : u (c 6) / (8 : Int) = u (c 6 >>> 3) := by rw [← u_shr (c 6) 3]; rfl
          rw [hs]; exact (views_b (c 6) 3).trans h6
        have t12 : (bits .and .u64 (u (c 12) / 8) 1 == 1) = true := by
          have hs : u (c 12) / (8 : Int) = u (c 12 >>> 3) := by rw [← u_shr (c 12) 3]; rfl
          rw [hs]; exact (views_b (c 12) 3).trans h12
        have d0 : rdb c 3075 0 = true := by have this : rdb c 3075 0 = ((c 6).getLsbD 3 && (c 12).getLsbD 3) := (by unfold rdb opn; rfl); rw [this, h6, h12]; rfl
        have J0 : Hid (∀ w, Calls Try.prog 14 #[.agg (cV c), .int .i64 3075, .int .i64 0, .agg (eV e p q)] w fun r w' => r = .returned (.tuple #[.int .u64 (u (rv c e 3075)), .int .i64 0]) ∧ On w w') := Lib.hid (fun w => read_yes c e p q 3075 0 d0 w)
        have d1 : rdb c 3075 1 = true := by have this : rdb c 3075 1 = ((c 6).getLsbD 3 && true) := (by unfold rdb opn; rfl); rw [this, h6]; rfl
        have J1 : Hid (∀ w, Calls Try.prog 14 #[.agg (cV c), .int .i64 3075, .int .i64 1, .agg (eV e p q)] w fun r w' => r = .returned (.tuple #[.int .u64 (u (rv c e 3075)), .int .i64 0]) ∧ On w w') := Lib.hid (fun w => read_yes c e p q 3075 1 d1 w)
        have d3 : rdb c 3075 3 = true := by unfold rdb opn; rfl
        have J3 : Hid (∀ w, Calls Try.prog 14 #[.agg (cV c), .int .i64 3075, .int .i64 3, .agg (eV e p q)] w fun r w' => r = .returned (.tuple #[.int .u64 (u (rv c e 3075)), .int .i64 0]) ∧ On w w') := Lib.hid (fun w => read_yes c e p q 3075 3 d3 w)
        generalize rv c e 3075 = y at *
        clear h6 d0 d1 d3 h12
        go_wp2_with (first | ((with_reducible apply csr_ld); (case ho => exact rfl); (case hgd => exact rfl); (case hx => exact rfl); (case hg => (first | exact s0 _ (by first | exact hb0 | exact hb1 _) | exact t0 _ (by first | exact hb0 | exact hb1 _) | exact heap_alloc_new _ _))) | ((with_reducible apply env_ld); (case ho => exact rfl); (case hgd => exact rfl); (case hx => exact rfl); (case hg => (first | exact s0 _ (by first | exact hb0 | exact hb1 _) | exact t0 _ (by first | exact hb0 | exact hb1 _) | exact heap_alloc_new _ _))) | ((with_reducible apply csr_new_st); (case ho => exact rfl); (case hgd => exact rfl); (case hx => exact rfl); (case hy => exact rfl)))
        go_at_call 14; refine (J0.out _).mono ?_; rintro _ w8 ⟨rfl, hb'⟩
        have hb := hb'
        replace s0 := fun wr (h : On w8 wr) => s0 wr (hb.trans h)
        replace t0 := fun wr (h : On w8 wr) => t0 wr (hb.trans h)
        replace k2 := fun wr (h : On w8 wr) => k2 wr (hb.trans h)
        replace k6 := fun wr (h : On w8 wr) => k6 wr (hb.trans h)
        replace k12 := fun wr (h : On w8 wr) => k12 wr (hb.trans h)
        replace hb0 := On.refl w8
        replace hb1 : ∀ ob : Obj, On w8 (w8.alloc ob) := fun ob => (On.refl w8).alloc ob
        have HB := Lib.hid (HB.out.trans hb)
        clear hb hb'
        go_wp2_with (first | ((with_reducible apply csr_ld); (case ho => exact rfl); (case hgd => exact rfl); (case hx => exact rfl); (case hg => (first | exact s0 _ (by first | exact hb0 | exact hb1 _) | exact t0 _ (by first | exact hb0 | exact hb1 _) | exact heap_alloc_new _ _))) | ((with_reducible apply env_ld); (case ho => exact rfl); (case hgd => exact rfl); (case hx => exact rfl); (case hg => (first | exact s0 _ (by first | exact hb0 | exact hb1 _) | exact t0 _ (by first | exact hb0 | exact hb1 _) | exact heap_alloc_new _ _))) | ((with_reducible apply csr_new_st); (case ho => exact rfl); (case hgd => exact rfl); (case hx => exact rfl); (case hy => exact rfl)))
        go_at_call 14; refine (J1.out _).mono ?_; rintro _ w9 ⟨rfl, hb'⟩
        have hb := hb'
        replace s0 := fun wr (h : On w9 wr) => s0 wr (hb.trans h)
        replace t0 := fun wr (h : On w9 wr) => t0 wr (hb.trans h)
        replace k2 := fun wr (h : On w9 wr) => k2 wr (hb.trans h)
        replace k6 := fun wr (h : On w9 wr) => k6 wr (hb.trans h)
        replace k12 := fun wr (h : On w9 wr) => k12 wr (hb.trans h)
        replace hb0 := On.refl w9
        replace hb1 : ∀ ob : Obj, On w9 (w9.alloc ob) := fun ob => (On.refl w9).alloc ob
        have HB := Lib.hid (HB.out.trans hb)
        clear hb hb'
        go_wp2_with (first | ((with_reducible apply csr_ld); (case ho => exact rfl); (case hgd => exact rfl); (case hx => exact rfl); (case hg => (first | exact s0 _ (by first | exact hb0 | exact hb1 _) | exact t0 _ (by first | exact hb0 | exact hb1 _) | exact heap_alloc_new _ _))) | ((with_reducible apply env_ld); (case ho => exact rfl); (case hgd => exact rfl); (case hx => exact rfl); (case hg => (first | exact s0 _ (by first | exact hb0 | exact hb1 _) | exact t0 _ (by first | exact hb0 | exact hb1 _) | exact heap_alloc_new _ _))) | ((with_reducible apply csr_new_st); (case ho => exact rfl); (case hgd => exact rfl); (case hx => exact rfl); (case hy => exact rfl)))
        go_at_call 14; refine (J3.out _).mono ?_; rintro _ w10 ⟨rfl, hb'⟩
        have hb := hb'
        replace s0 := fun wr (h : On w10 wr) => s0 wr (hb.trans h)
        replace t0 := fun wr (h : On w10 wr) => t0 wr (hb.trans h)
        replace k2 := fun wr (h : On w10 wr) => k2 wr (hb.trans h)
        replace k6 := fun wr (h : On w10 wr) => k6 wr (hb.trans h)
        replace k12 := fun wr (h : On w10 wr) => k12 wr (hb.trans h)
        replace hb0 := On.refl w10
        replace hb1 : ∀ ob : Obj, On w10 (w10.alloc ob) := fun ob => (On.refl w10).alloc ob
        have HB := Lib.hid (HB.out.trans hb)
        clear hb hb'
        go_wp2
        go_ret
        exact ⟨rfl, HB.out⟩
  · cases h6 : (c 6).getLsbD 4
    · have t6 : (bits .and .u64 (u (c 6) / 16) 1 == 1) = false := by
        have hs : u (c 6) / (16 : Int) = u (c 6 >>> 4) := by rw [← u_shr (c 6) 4]; rfl
        rw [hs]; exact (views_b (c 6) 4).trans h6
      have d0 : rdb c 3076 0 = false := by have this : rdb c 3076 0 = ((c 6).getLsbD 4 && (c 12).getLsbD 4) := (by unfold rdb opn; rfl); rw [this, h6]; rfl
      have J0 : Hid (∀ w, Calls Try.prog 14 #[.agg (cV c), .int .i64 3076, .int .i64 0, .agg (eV e p q)] w fun r w' => r = .returned (.tuple #[.int .u64 0, .int .i64 7]) ∧ On w w') := Lib.hid (fun w => read_no c e p q 3076 0 d0 w)
      have d1 : rdb c 3076 1 = false := by have this : rdb c 3076 1 = ((c 6).getLsbD 4 && true) := (by unfold rdb opn; rfl); rw [this, h6]; rfl
      have J1 : Hid (∀ w, Calls Try.prog 14 #[.agg (cV c), .int .i64 3076, .int .i64 1, .agg (eV e p q)] w fun r w' => r = .returned (.tuple #[.int .u64 0, .int .i64 7]) ∧ On w w') := Lib.hid (fun w => read_no c e p q 3076 1 d1 w)
      have d3 : rdb c 3076 3 = true := by unfold rdb opn; rfl
      have J3 : Hid (∀ w, Calls Try.prog 14 #[.agg (cV c), .int .i64 3076, .int .i64 3, .agg (eV e p q)] w fun r w' => r = .returned (.tuple #[.int .u64 (u (rv c e 3076)), .int .i64 0]) ∧ On w w') := Lib.hid (fun w => read_yes c e p q 3076 3 d3 w)
      generalize rv c e 3076 = y at *
      clear h6 d0 d1 d3
      go_wp2_with (first | ((with_reducible apply csr_ld); (case ho => exact rfl); (case hgd => exact rfl); (case hx => exact rfl); (case hg => (first | exact s0 _ (by first | exact hb0 | exact hb1 _) | exact t0 _ (by first | exact hb0 | exact hb1 _) | exact heap_alloc_new _ _))) | ((with_reducible apply env_ld); (case ho => exact rfl); (case hgd => exact rfl); (case hx => exact rfl); (case hg => (first | exact s0 _ (by first | exact hb0 | exact hb1 _) | exact t0 _ (by first | exact hb0 | exact hb1 _) | exact heap_alloc_new _ _))) | ((with_reducible apply csr_new_st); (case ho => exact rfl); (case hgd => exact rfl); (case hx => exact rfl); (case hy => exact rfl)))
      go_at_call 14; refine (J0.out _).mono ?_; rintro _ w8 ⟨rfl, hb'⟩
      have hb := hb'
      replace s0 := fun wr (h : On w8 wr) => s0 wr (hb.trans h)
      replace t0 := fun wr (h : On w8 wr) => t0 wr (hb.trans h)
      replace k2 := fun wr (h : On w8 wr) => k2 wr (hb.trans h)
      replace k6 := fun wr (h : On w8 wr) => k6 wr (hb.trans h)
      replace k12 := fun wr (h : On w8 wr) => k12 wr (hb.trans h)
      replace hb0 := On.refl w8
      replace hb1 : ∀ ob : Obj, On w8 (w8.alloc ob) := fun ob => (On.refl w8).alloc ob
      have HB := Lib.hid (HB.out.trans hb)
      clear hb hb'
      go_wp2_with (first | ((with_reducible apply csr_ld); (case ho => exact rfl); (case hgd => exact rfl); (case hx => exact rfl); (case hg => (first | exact s0 _ (by first | exact hb0 | exact hb1 _) | exact t0 _ (by first | exact hb0 | exact hb1 _) | exact heap_alloc_new _ _))) | ((with_reducible apply env_ld); (case ho => exact rfl); (case hgd => exact rfl); (case hx => exact rfl); (case hg => (first | exact s0 _ (by first | exact hb0 | exact hb1 _) | exact t0 _ (by first | exact hb0 | exact hb1 _) | exact heap_alloc_new _ _))) | ((with_reducible apply csr_new_st); (case ho => exact rfl); (case hgd => exact rfl); (case hx => exact rfl); (case hy => exact rfl)))
      go_at_call 14; refine (J1.out _).mono ?_; rintro _ w9 ⟨rfl, hb'⟩
      have hb := hb'
      replace s0 := fun wr (h : On w9 wr) => s0 wr (hb.trans h)
      replace t0 := fun wr (h : On w9 wr) => t0 wr (hb.trans h)
      replace k2 := fun wr (h : On w9 wr) => k2 wr (hb.trans h)
      replace k6 := fun wr (h : On w9 wr) => k6 wr (hb.trans h)
      replace k12 := fun wr (h : On w9 wr) => k12 wr (hb.trans h)
      replace hb0 := On.refl w9
      replace hb1 : ∀ ob : Obj, On w9 (w9.alloc ob) := fun ob => (On.refl w9).alloc ob
      have HB := Lib.hid (HB.out.trans hb)
      clear hb hb'
      go_wp2_with (first | ((with_reducible apply csr_ld); (case ho => exact rfl); (case hgd => exact rfl); (case hx => exact rfl); (case hg => (first | exact s0 _ (by first | exact hb0 | exact hb1 _) | exact t0 _ (by first | exact hb0 | exact hb1 _) | exact heap_alloc_new _ _))) | ((with_reducible apply env_ld); (case ho => exact rfl); (case hgd => exact rfl); (case hx => exact rfl); (case hg => (first | exact s0 _ (by first | exact hb0 | exact hb1 _) | exact t0 _ (by first | exact hb0 | exact hb1 _) | exact heap_alloc_new _ _))) | ((with_reducible apply csr_new_st); (case ho => exact rfl); (case hgd => exact rfl); (case hx => exact rfl); (case hy => exact rfl)))
      go_at_call 14; refine (J3.out _).mono ?_; rintro _ w10 ⟨rfl, hb'⟩
      have hb := hb'
      replace s0 := fun wr (h : On w10 wr) => s0 wr (hb.trans h)
      replace t0 := fun wr (h : On w10 wr) => t0 wr (hb.trans h)
      replace k2 := fun wr (h : On w10 wr) => k2 wr (hb.trans h)
      replace k6 := fun wr (h : On w10 wr) => k6 wr (hb.trans h)
      replace k12 := fun wr (h : On w10 wr) => k12 wr (hb.trans h)
      replace hb0 := On.refl w10
      replace hb1 : ∀ ob : Obj, On w10 (w10.alloc ob) := fun ob => (On.refl w10).alloc ob
      have HB := Lib.hid (HB.out.trans hb)
      clear hb hb'
      go_wp2
      go_ret
      exact ⟨rfl, HB.out⟩
    · cases h12 : (c 12).getLsbD 4
      · have t6 : (bits .and .u64 (u (c 6) / 16) 1 == 1) = true := by
          have hs : u (c 6) / (16 : Int) = u (c 6 >>> 4) := by rw [← u_shr (c 6) 4]; rfl
          rw [hs]; exact (views_b (c 6) 4).trans h6
        have t12 : (bits .and .u64 (u (c 12) / 16) 1 == 1) = false := by
          have hs : u (c 12) / (16 : Int) = u (c 12 >>> 4) := by rw [← u_shr (c 12) 4]; rfl
          rw [hs]; exact (views_b (c 12) 4).trans h12
        have d0 : rdb c 3076 0 = false := by have this : rdb c 3076 0 = ((c 6).getLsbD 4 && (c 12).getLsbD 4) := (by unfold rdb opn; rfl); rw [this, h6, h12]; rfl
        have J0 : Hid (∀ w, Calls Try.prog 14 #[.agg (cV c), .int .i64 3076, .int .i64 0, .agg (eV e p q)] w fun r w' => r = .returned (.tuple #[.int .u64 0, .int .i64 7]) ∧ On w w') := Lib.hid (fun w => read_no c e p q 3076 0 d0 w)
        have d1 : rdb c 3076 1 = true := by have this : rdb c 3076 1 = ((c 6).getLsbD 4 && true) := (by unfold rdb opn; rfl); rw [this, h6]; rfl
        have J1 : Hid (∀ w, Calls Try.prog 14 #[.agg (cV c), .int .i64 3076, .int .i64 1, .agg (eV e p q)] w fun r w' => r = .returned (.tuple #[.int .u64 (u (rv c e 3076)), .int .i64 0]) ∧ On w w') := Lib.hid (fun w => read_yes c e p q 3076 1 d1 w)
        have d3 : rdb c 3076 3 = true := by unfold rdb opn; rfl
        have J3 : Hid (∀ w, Calls Try.prog 14 #[.agg (cV c), .int .i64 3076, .int .i64 3, .agg (eV e p q)] w fun r w' => r = .returned (.tuple #[.int .u64 (u (rv c e 3076)), .int .i64 0]) ∧ On w w') := Lib.hid (fun w => read_yes c e p q 3076 3 d3 w)
        generalize rv c e 3076 = y at *
        clear h6 d0 d1 d3 h12
        go_wp2_with (first | ((with_reducible apply csr_ld); (case ho => exact rfl); (case hgd => exact rfl); (case hx => exact rfl); (case hg => (first | exact s0 _ (by first | exact hb0 | exact hb1 _) | exact t0 _ (by first | exact hb0 | exact hb1 _) | exact heap_alloc_new _ _))) | ((with_reducible apply env_ld); (case ho => exact rfl); (case hgd => exact rfl); (case hx => exact rfl); (case hg => (first | exact s0 _ (by first | exact hb0 | exact hb1 _) | exact t0 _ (by first | exact hb0 | exact hb1 _) | exact heap_alloc_new _ _))) | ((with_reducible apply csr_new_st); (case ho => exact rfl); (case hgd => exact rfl); (case hx => exact rfl); (case hy => exact rfl)))
        go_at_call 14; refine (J0.out _).mono ?_; rintro _ w8 ⟨rfl, hb'⟩
        have hb := hb'
        replace s0 := fun wr (h : On w8 wr) => s0 wr (hb.trans h)
        replace t0 := fun wr (h : On w8 wr) => t0 wr (hb.trans h)
        replace k2 := fun wr (h : On w8 wr) => k2 wr (hb.trans h)
        replace k6 := fun wr (h : On w8 wr) => k6 wr (hb.trans h)
        replace k12 := fun wr (h : On w8 wr) => k12 wr (hb.trans h)
        replace hb0 := On.refl w8
        replace hb1 : ∀ ob : Obj, On w8 (w8.alloc ob) := fun ob => (On.refl w8).alloc ob
        have HB := Lib.hid (HB.out.trans hb)
        clear hb hb'
        go_wp2_with (first | ((with_reducible apply csr_ld); (case ho => exact rfl); (case hgd => exact rfl); (case hx => exact rfl); (case hg => (first | exact s0 _ (by first | exact hb0 | exact hb1 _) | exact t0 _ (by first | exact hb0 | exact hb1 _) | exact heap_alloc_new _ _))) | ((with_reducible apply env_ld); (case ho => exact rfl); (case hgd => exact rfl); (case hx => exact rfl); (case hg => (first | exact s0 _ (by first | exact hb0 | exact hb1 _) | exact t0 _ (by first | exact hb0 | exact hb1 _) | exact heap_alloc_new _ _))) | ((with_reducible apply csr_new_st); (case ho => exact rfl); (case hgd => exact rfl); (case hx => exact rfl); (case hy => exact rfl)))
        go_at_call 14; refine (J1.out _).mono ?_; rintro _ w9 ⟨rfl, hb'⟩
        have hb := hb'
        replace s0 := fun wr (h : On w9 wr) => s0 wr (hb.trans h)
        replace t0 := fun wr (h : On w9 wr) => t0 wr (hb.trans h)
        replace k2 := fun wr (h : On w9 wr) => k2 wr (hb.trans h)
        replace k6 := fun wr (h : On w9 wr) => k6 wr (hb.trans h)
        replace k12 := fun wr (h : On w9 wr) => k12 wr (hb.trans h)
        replace hb0 := On.refl w9
        replace hb1 : ∀ ob : Obj, On w9 (w9.alloc ob) := fun ob => (On.refl w9).alloc ob
        have HB := Lib.hid (HB.out.trans hb)
        clear hb hb'
        go_wp2_with (first | ((with_reducible apply csr_ld); (case ho => exact rfl); (case hgd => exact rfl); (case hx => exact rfl); (case hg => (first | exact s0 _ (by first | exact hb0 | exact hb1 _) | exact t0 _ (by first | exact hb0 | exact hb1 _) | exact heap_alloc_new _ _))) | ((with_reducible apply env_ld); (case ho => exact rfl); (case hgd => exact rfl); (case hx => exact rfl); (case hg => (first | exact s0 _ (by first | exact hb0 | exact hb1 _) | exact t0 _ (by first | exact hb0 | exact hb1 _) | exact heap_alloc_new _ _))) | ((with_reducible apply csr_new_st); (case ho => exact rfl); (case hgd => exact rfl); (case hx => exact rfl); (case hy => exact rfl)))
        go_at_call 14; refine (J3.out _).mono ?_; rintro _ w10 ⟨rfl, hb'⟩
        have hb := hb'
        replace s0 := fun wr (h : On w10 wr) => s0 wr (hb.trans h)
        replace t0 := fun wr (h : On w10 wr) => t0 wr (hb.trans h)
        replace k2 := fun wr (h : On w10 wr) => k2 wr (hb.trans h)
        replace k6 := fun wr (h : On w10 wr) => k6 wr (hb.trans h)
        replace k12 := fun wr (h : On w10 wr) => k12 wr (hb.trans h)
        replace hb0 := On.refl w10
        replace hb1 : ∀ ob : Obj, On w10 (w10.alloc ob) := fun ob => (On.refl w10).alloc ob
        have HB := Lib.hid (HB.out.trans hb)
        clear hb hb'
        go_wp2
        go_ret
        exact ⟨rfl, HB.out⟩
      · have t6 : (bits .and .u64 (u (c 6) / 16) 1 == 1) = true := by
          have hs : u (c 6) / (16 : Int) = u (c 6 >>> 4) := by rw [← u_shr (c 6) 4]; rfl
          rw [hs]; exact (views_b (c 6) 4).trans h6
        have t12 : (bits .and .u64 (u (c 12) / 16) 1 == 1) = true := by
          have hs : u (c 12) / (16 : Int) = u (c 12 >>> 4) := by rw [← u_shr (c 12) 4]; rfl
          rw [hs]; exact (views_b (c 12) 4).trans h12
        have d0 : rdb c 3076 0 = true := by have this : rdb c 3076 0 = ((c 6).getLsbD 4 && (c 12).getLsbD 4) := (by unfold rdb opn; rfl); rw [this, h6, h12]; rfl
        have J0 : Hid (∀ w, Calls Try.prog 14 #[.agg (cV c), .int .i64 3076, .int .i64 0, .agg (eV e p q)] w fun r w' => r = .returned (.tuple #[.int .u64 (u (rv c e 3076)), .int .i64 0]) ∧ On w w') := Lib.hid (fun w => read_yes c e p q 3076 0 d0 w)
        have d1 : rdb c 3076 1 = true := by have this : rdb c 3076 1 = ((c 6).getLsbD 4 && true) := (by unfold rdb opn; rfl); rw [this, h6]; rfl
        have J1 : Hid (∀ w, Calls Try.prog 14 #[.agg (cV c), .int .i64 3076, .int .i64 1, .agg (eV e p q)] w fun r w' => r = .returned (.tuple #[.int .u64 (u (rv c e 3076)), .int .i64 0]) ∧ On w w') := Lib.hid (fun w => read_yes c e p q 3076 1 d1 w)
        have d3 : rdb c 3076 3 = true := by unfold rdb opn; rfl
        have J3 : Hid (∀ w, Calls Try.prog 14 #[.agg (cV c), .int .i64 3076, .int .i64 3, .agg (eV e p q)] w fun r w' => r = .returned (.tuple #[.int .u64 (u (rv c e 3076)), .int .i64 0]) ∧ On w w') := Lib.hid (fun w => read_yes c e p q 3076 3 d3 w)
        generalize rv c e 3076 = y at *
        clear h6 d0 d1 d3 h12
        go_wp2_with (first | ((with_reducible apply csr_ld); (case ho => exact rfl); (case hgd => exact rfl); (case hx => exact rfl); (case hg => (first | exact s0 _ (by first | exact hb0 | exact hb1 _) | exact t0 _ (by first | exact hb0 | exact hb1 _) | exact heap_alloc_new _ _))) | ((with_reducible apply env_ld); (case ho => exact rfl); (case hgd => exact rfl); (case hx => exact rfl); (case hg => (first | exact s0 _ (by first | exact hb0 | exact hb1 _) | exact t0 _ (by first | exact hb0 | exact hb1 _) | exact heap_alloc_new _ _))) | ((with_reducible apply csr_new_st); (case ho => exact rfl); (case hgd => exact rfl); (case hx => exact rfl); (case hy => exact rfl)))
        go_at_call 14; refine (J0.out _).mono ?_; rintro _ w8 ⟨rfl, hb'⟩
        have hb := hb'
        replace s0 := fun wr (h : On w8 wr) => s0 wr (hb.trans h)
        replace t0 := fun wr (h : On w8 wr) => t0 wr (hb.trans h)
        replace k2 := fun wr (h : On w8 wr) => k2 wr (hb.trans h)
        replace k6 := fun wr (h : On w8 wr) => k6 wr (hb.trans h)
        replace k12 := fun wr (h : On w8 wr) => k12 wr (hb.trans h)
        replace hb0 := On.refl w8
        replace hb1 : ∀ ob : Obj, On w8 (w8.alloc ob) := fun ob => (On.refl w8).alloc ob
        have HB := Lib.hid (HB.out.trans hb)
        clear hb hb'
        go_wp2_with (first | ((with_reducible apply csr_ld); (case ho => exact rfl); (case hgd => exact rfl); (case hx => exact rfl); (case hg => (first | exact s0 _ (by first | exact hb0 | exact hb1 _) | exact t0 _ (by first | exact hb0 | exact hb1 _) | exact heap_alloc_new _ _))) | ((with_reducible apply env_ld); (case ho => exact rfl); (case hgd => exact rfl); (case hx => exact rfl); (case hg => (first | exact s0 _ (by first | exact hb0 | exact hb1 _) | exact t0 _ (by first | exact hb0 | exact hb1 _) | exact heap_alloc_new _ _))) | ((with_reducible apply csr_new_st); (case ho => exact rfl); (case hgd => exact rfl); (case hx => exact rfl); (case hy => exact rfl)))
        go_at_call 14; refine (J1.out _).mono ?_; rintro _ w9 ⟨rfl, hb'⟩
        have hb := hb'
        replace s0 := fun wr (h : On w9 wr) => s0 wr (hb.trans h)
        replace t0 := fun wr (h : On w9 wr) => t0 wr (hb.trans h)
        replace k2 := fun wr (h : On w9 wr) => k2 wr (hb.trans h)
        replace k6 := fun wr (h : On w9 wr) => k6 wr (hb.trans h)
        replace k12 := fun wr (h : On w9 wr) => k12 wr (hb.trans h)
        replace hb0 := On.refl w9
        replace hb1 : ∀ ob : Obj, On w9 (w9.alloc ob) := fun ob => (On.refl w9).alloc ob
        have HB := Lib.hid (HB.out.trans hb)
        clear hb hb'
        go_wp2_with (first | ((with_reducible apply csr_ld); (case ho => exact rfl); (case hgd => exact rfl); (case hx => exact rfl); (case hg => (first | exact s0 _ (by first | exact hb0 | exact hb1 _) | exact t0 _ (by first | exact hb0 | exact hb1 _) | exact heap_alloc_new _ _))) | ((with_reducible apply env_ld); (case ho => exact rfl); (case hgd => exact rfl); (case hx => exact rfl); (case hg => (first | exact s0 _ (by first | exact hb0 | exact hb1 _) | exact t0 _ (by first | exact hb0 | exact hb1 _) | exact heap_alloc_new _ _))) | ((with_reducible apply csr_new_st); (case ho => exact rfl); (case hgd => exact rfl); (case hx => exact rfl); (case hy => exact rfl)))
        go_at_call 14; refine (J3.out _).mono ?_; rintro _ w10 ⟨rfl, hb'⟩
        have hb := hb'
        replace s0 := fun wr (h : On w10 wr) => s0 wr (hb.trans h)
        replace t0 := fun wr (h : On w10 wr) => t0 wr (hb.trans h)
        replace k2 := fun wr (h : On w10 wr) => k2 wr (hb.trans h)
        replace k6 := fun wr (h : On w10 wr) => k6 wr (hb.trans h)
        replace k12 := fun wr (h : On w10 wr) => k12 wr (hb.trans h)
        replace hb0 := On.refl w10
        replace hb1 : ∀ ob : Obj, On w10 (w10.alloc ob) := fun ob => (On.refl w10).alloc ob
        have HB := Lib.hid (HB.out.trans hb)
        clear hb hb'
        go_wp2
        go_ret
        exact ⟨rfl, HB.out⟩
  · cases h6 : (c 6).getLsbD 5
    · have t6 : (bits .and .u64 (u (c 6) / 32) 1 == 1) = false := by
        have hs : u (c 6) / (32 : Int) = u (c 6 >>> 5) := by rw [← u_shr (c 6) 5]; rfl
        rw [hs]; exact (views_b (c 6) 5).trans h6
      have d0 : rdb c 3077 0 = false := by have this : rdb c 3077 0 = ((c 6).getLsbD 5 && (c 12).getLsbD 5) := (by unfold rdb opn; rfl); rw [this, h6]; rfl
      have J0 : Hid (∀ w, Calls Try.prog 14 #[.agg (cV c), .int .i64 3077, .int .i64 0, .agg (eV e p q)] w fun r w' => r = .returned (.tuple #[.int .u64 0, .int .i64 7]) ∧ On w w') := Lib.hid (fun w => read_no c e p q 3077 0 d0 w)
      have d1 : rdb c 3077 1 = false := by have this : rdb c 3077 1 = ((c 6).getLsbD 5 && true) := (by unfold rdb opn; rfl); rw [this, h6]; rfl
      have J1 : Hid (∀ w, Calls Try.prog 14 #[.agg (cV c), .int .i64 3077, .int .i64 1, .agg (eV e p q)] w fun r w' => r = .returned (.tuple #[.int .u64 0, .int .i64 7]) ∧ On w w') := Lib.hid (fun w => read_no c e p q 3077 1 d1 w)
      have d3 : rdb c 3077 3 = true := by unfold rdb opn; rfl
      have J3 : Hid (∀ w, Calls Try.prog 14 #[.agg (cV c), .int .i64 3077, .int .i64 3, .agg (eV e p q)] w fun r w' => r = .returned (.tuple #[.int .u64 (u (rv c e 3077)), .int .i64 0]) ∧ On w w') := Lib.hid (fun w => read_yes c e p q 3077 3 d3 w)
      generalize rv c e 3077 = y at *
      clear h6 d0 d1 d3
      go_wp2_with (first | ((with_reducible apply csr_ld); (case ho => exact rfl); (case hgd => exact rfl); (case hx => exact rfl); (case hg => (first | exact s0 _ (by first | exact hb0 | exact hb1 _) | exact t0 _ (by first | exact hb0 | exact hb1 _) | exact heap_alloc_new _ _))) | ((with_reducible apply env_ld); (case ho => exact rfl); (case hgd => exact rfl); (case hx => exact rfl); (case hg => (first | exact s0 _ (by first | exact hb0 | exact hb1 _) | exact t0 _ (by first | exact hb0 | exact hb1 _) | exact heap_alloc_new _ _))) | ((with_reducible apply csr_new_st); (case ho => exact rfl); (case hgd => exact rfl); (case hx => exact rfl); (case hy => exact rfl)))
      go_at_call 14; refine (J0.out _).mono ?_; rintro _ w8 ⟨rfl, hb'⟩
      have hb := hb'
      replace s0 := fun wr (h : On w8 wr) => s0 wr (hb.trans h)
      replace t0 := fun wr (h : On w8 wr) => t0 wr (hb.trans h)
      replace k2 := fun wr (h : On w8 wr) => k2 wr (hb.trans h)
      replace k6 := fun wr (h : On w8 wr) => k6 wr (hb.trans h)
      replace k12 := fun wr (h : On w8 wr) => k12 wr (hb.trans h)
      replace hb0 := On.refl w8
      replace hb1 : ∀ ob : Obj, On w8 (w8.alloc ob) := fun ob => (On.refl w8).alloc ob
      have HB := Lib.hid (HB.out.trans hb)
      clear hb hb'
      go_wp2_with (first | ((with_reducible apply csr_ld); (case ho => exact rfl); (case hgd => exact rfl); (case hx => exact rfl); (case hg => (first | exact s0 _ (by first | exact hb0 | exact hb1 _) | exact t0 _ (by first | exact hb0 | exact hb1 _) | exact heap_alloc_new _ _))) | ((with_reducible apply env_ld); (case ho => exact rfl); (case hgd => exact rfl); (case hx => exact rfl); (case hg => (first | exact s0 _ (by first | exact hb0 | exact hb1 _) | exact t0 _ (by first | exact hb0 | exact hb1 _) | exact heap_alloc_new _ _))) | ((with_reducible apply csr_new_st); (case ho => exact rfl); (case hgd => exact rfl); (case hx => exact rfl); (case hy => exact rfl)))
      go_at_call 14; refine (J1.out _).mono ?_; rintro _ w9 ⟨rfl, hb'⟩
      have hb := hb'
      replace s0 := fun wr (h : On w9 wr) => s0 wr (hb.trans h)
      replace t0 := fun wr (h : On w9 wr) => t0 wr (hb.trans h)
      replace k2 := fun wr (h : On w9 wr) => k2 wr (hb.trans h)
      replace k6 := fun wr (h : On w9 wr) => k6 wr (hb.trans h)
      replace k12 := fun wr (h : On w9 wr) => k12 wr (hb.trans h)
      replace hb0 := On.refl w9
      replace hb1 : ∀ ob : Obj, On w9 (w9.alloc ob) := fun ob => (On.refl w9).alloc ob
      have HB := Lib.hid (HB.out.trans hb)
      clear hb hb'
      go_wp2_with (first | ((with_reducible apply csr_ld); (case ho => exact rfl); (case hgd => exact rfl); (case hx => exact rfl); (case hg => (first | exact s0 _ (by first | exact hb0 | exact hb1 _) | exact t0 _ (by first | exact hb0 | exact hb1 _) | exact heap_alloc_new _ _))) | ((with_reducible apply env_ld); (case ho => exact rfl); (case hgd => exact rfl); (case hx => exact rfl); (case hg => (first | exact s0 _ (by first | exact hb0 | exact hb1 _) | exact t0 _ (by first | exact hb0 | exact hb1 _) | exact heap_alloc_new _ _))) | ((with_reducible apply csr_new_st); (case ho => exact rfl); (case hgd => exact rfl); (case hx => exact rfl); (case hy => exact rfl)))
      go_at_call 14; refine (J3.out _).mono ?_; rintro _ w10 ⟨rfl, hb'⟩
      have hb := hb'
      replace s0 := fun wr (h : On w10 wr) => s0 wr (hb.trans h)
      replace t0 := fun wr (h : On w10 wr) => t0 wr (hb.trans h)
      replace k2 := fun wr (h : On w10 wr) => k2 wr (hb.trans h)
      replace k6 := fun wr (h : On w10 wr) => k6 wr (hb.trans h)
      replace k12 := fun wr (h : On w10 wr) => k12 wr (hb.trans h)
      replace hb0 := On.refl w10
      replace hb1 : ∀ ob : Obj, On w10 (w10.alloc ob) := fun ob => (On.refl w10).alloc ob
      have HB := Lib.hid (HB.out.trans hb)
      clear hb hb'
      go_wp2
      go_ret
      exact ⟨rfl, HB.out⟩
    · cases h12 : (c 12).getLsbD 5
      · have t6 : (bits .and .u64 (u (c 6) / 32) 1 == 1) = true := by
          have hs : u (c 6) / (32 : Int) = u (c 6 >>> 5) := by rw [← u_shr (c 6) 5]; rfl
          rw [hs]; exact (views_b (c 6) 5).trans h6
        have t12 : (bits .and .u64 (u (c 12) / 32) 1 == 1) = false := by
          have hs : u (c 12) / (32 : Int) = u (c 12 >>> 5) := by rw [← u_shr (c 12) 5]; rfl
          rw [hs]; exact (views_b (c 12) 5).trans h12
        have d0 : rdb c 3077 0 = false := by have this : rdb c 3077 0 = ((c 6).getLsbD 5 && (c 12).getLsbD 5) := (by unfold rdb opn; rfl); rw [this, h6, h12]; rfl
        have J0 : Hid (∀ w, Calls Try.prog 14 #[.agg (cV c), .int .i64 3077, .int .i64 0, .agg (eV e p q)] w fun r w' => r = .returned (.tuple #[.int .u64 0, .int .i64 7]) ∧ On w w') := Lib.hid (fun w => read_no c e p q 3077 0 d0 w)
        have d1 : rdb c 3077 1 = true := by have this : rdb c 3077 1 = ((c 6).getLsbD 5 && true) := (by unfold rdb opn; rfl); rw [this, h6]; rfl
        have J1 : Hid (∀ w, Calls Try.prog 14 #[.agg (cV c), .int .i64 3077, .int .i64 1, .agg (eV e p q)] w fun r w' => r = .returned (.tuple #[.int .u64 (u (rv c e 3077)), .int .i64 0]) ∧ On w w') := Lib.hid (fun w => read_yes c e p q 3077 1 d1 w)
        have d3 : rdb c 3077 3 = true := by unfold rdb opn; rfl
        have J3 : Hid (∀ w, Calls Try.prog 14 #[.agg (cV c), .int .i64 3077, .int .i64 3, .agg (eV e p q)] w fun r w' => r = .returned (.tuple #[.int .u64 (u (rv c e 3077)), .int .i64 0]) ∧ On w w') := Lib.hid (fun w => read_yes c e p q 3077 3 d3 w)
        generalize rv c e 3077 = y at *
        clear h6 d0 d1 d3 h12
        go_wp2_with (first | ((with_reducible apply csr_ld); (case ho => exact rfl); (case hgd => exact rfl); (case hx => exact rfl); (case hg => (first | exact s0 _ (by first | exact hb0 | exact hb1 _) | exact t0 _ (by first | exact hb0 | exact hb1 _) | exact heap_alloc_new _ _))) | ((with_reducible apply env_ld); (case ho => exact rfl); (case hgd => exact rfl); (case hx => exact rfl); (case hg => (first | exact s0 _ (by first | exact hb0 | exact hb1 _) | exact t0 _ (by first | exact hb0 | exact hb1 _) | exact heap_alloc_new _ _))) | ((with_reducible apply csr_new_st); (case ho => exact rfl); (case hgd => exact rfl); (case hx => exact rfl); (case hy => exact rfl)))
        go_at_call 14; refine (J0.out _).mono ?_; rintro _ w8 ⟨rfl, hb'⟩
        have hb := hb'
        replace s0 := fun wr (h : On w8 wr) => s0 wr (hb.trans h)
        replace t0 := fun wr (h : On w8 wr) => t0 wr (hb.trans h)
        replace k2 := fun wr (h : On w8 wr) => k2 wr (hb.trans h)
        replace k6 := fun wr (h : On w8 wr) => k6 wr (hb.trans h)
        replace k12 := fun wr (h : On w8 wr) => k12 wr (hb.trans h)
        replace hb0 := On.refl w8
        replace hb1 : ∀ ob : Obj, On w8 (w8.alloc ob) := fun ob => (On.refl w8).alloc ob
        have HB := Lib.hid (HB.out.trans hb)
        clear hb hb'
        go_wp2_with (first | ((with_reducible apply csr_ld); (case ho => exact rfl); (case hgd => exact rfl); (case hx => exact rfl); (case hg => (first | exact s0 _ (by first | exact hb0 | exact hb1 _) | exact t0 _ (by first | exact hb0 | exact hb1 _) | exact heap_alloc_new _ _))) | ((with_reducible apply env_ld); (case ho => exact rfl); (case hgd => exact rfl); (case hx => exact rfl); (case hg => (first | exact s0 _ (by first | exact hb0 | exact hb1 _) | exact t0 _ (by first | exact hb0 | exact hb1 _) | exact heap_alloc_new _ _))) | ((with_reducible apply csr_new_st); (case ho => exact rfl); (case hgd => exact rfl); (case hx => exact rfl); (case hy => exact rfl)))
        go_at_call 14; refine (J1.out _).mono ?_; rintro _ w9 ⟨rfl, hb'⟩
        have hb := hb'
        replace s0 := fun wr (h : On w9 wr) => s0 wr (hb.trans h)
        replace t0 := fun wr (h : On w9 wr) => t0 wr (hb.trans h)
        replace k2 := fun wr (h : On w9 wr) => k2 wr (hb.trans h)
        replace k6 := fun wr (h : On w9 wr) => k6 wr (hb.trans h)
        replace k12 := fun wr (h : On w9 wr) => k12 wr (hb.trans h)
        replace hb0 := On.refl w9
        replace hb1 : ∀ ob : Obj, On w9 (w9.alloc ob) := fun ob => (On.refl w9).alloc ob
        have HB := Lib.hid (HB.out.trans hb)
        clear hb hb'
        go_wp2_with (first | ((with_reducible apply csr_ld); (case ho => exact rfl); (case hgd => exact rfl); (case hx => exact rfl); (case hg => (first | exact s0 _ (by first | exact hb0 | exact hb1 _) | exact t0 _ (by first | exact hb0 | exact hb1 _) | exact heap_alloc_new _ _))) | ((with_reducible apply env_ld); (case ho => exact rfl); (case hgd => exact rfl); (case hx => exact rfl); (case hg => (first | exact s0 _ (by first | exact hb0 | exact hb1 _) | exact t0 _ (by first | exact hb0 | exact hb1 _) | exact heap_alloc_new _ _))) | ((with_reducible apply csr_new_st); (case ho => exact rfl); (case hgd => exact rfl); (case hx => exact rfl); (case hy => exact rfl)))
        go_at_call 14; refine (J3.out _).mono ?_; rintro _ w10 ⟨rfl, hb'⟩
        have hb := hb'
        replace s0 := fun wr (h : On w10 wr) => s0 wr (hb.trans h)
        replace t0 := fun wr (h : On w10 wr) => t0 wr (hb.trans h)
        replace k2 := fun wr (h : On w10 wr) => k2 wr (hb.trans h)
        replace k6 := fun wr (h : On w10 wr) => k6 wr (hb.trans h)
        replace k12 := fun wr (h : On w10 wr) => k12 wr (hb.trans h)
        replace hb0 := On.refl w10
        replace hb1 : ∀ ob : Obj, On w10 (w10.alloc ob) := fun ob => (On.refl w10).alloc ob
        have HB := Lib.hid (HB.out.trans hb)
        clear hb hb'
        go_wp2
        go_ret
        exact ⟨rfl, HB.out⟩
      · have t6 : (bits .and .u64 (u (c 6) / 32) 1 == 1) = true := by
          have hs : u (c 6) / (32 : Int) = u (c 6 >>> 5) := by rw [← u_shr (c 6) 5]; rfl
          rw [hs]; exact (views_b (c 6) 5).trans h6
        have t12 : (bits .and .u64 (u (c 12) / 32) 1 == 1) = true := by
          have hs : u (c 12) / (32 : Int) = u (c 12 >>> 5) := by rw [← u_shr (c 12) 5]; rfl
          rw [hs]; exact (views_b (c 12) 5).trans h12
        have d0 : rdb c 3077 0 = true := by have this : rdb c 3077 0 = ((c 6).getLsbD 5 && (c 12).getLsbD 5) := (by unfold rdb opn; rfl); rw [this, h6, h12]; rfl
        have J0 : Hid (∀ w, Calls Try.prog 14 #[.agg (cV c), .int .i64 3077, .int .i64 0, .agg (eV e p q)] w fun r w' => r = .returned (.tuple #[.int .u64 (u (rv c e 3077)), .int .i64 0]) ∧ On w w') := Lib.hid (fun w => read_yes c e p q 3077 0 d0 w)
        have d1 : rdb c 3077 1 = true := by have this : rdb c 3077 1 = ((c 6).getLsbD 5 && true) := (by unfold rdb opn; rfl); rw [this, h6]; rfl
        have J1 : Hid (∀ w, Calls Try.prog 14 #[.agg (cV c), .int .i64 3077, .int .i64 1, .agg (eV e p q)] w fun r w' => r = .returned (.tuple #[.int .u64 (u (rv c e 3077)), .int .i64 0]) ∧ On w w') := Lib.hid (fun w => read_yes c e p q 3077 1 d1 w)
        have d3 : rdb c 3077 3 = true := by unfold rdb opn; rfl
        have J3 : Hid (∀ w, Calls Try.prog 14 #[.agg (cV c), .int .i64 3077, .int .i64 3, .agg (eV e p q)] w fun r w' => r = .returned (.tuple #[.int .u64 (u (rv c e 3077)), .int .i64 0]) ∧ On w w') := Lib.hid (fun w => read_yes c e p q 3077 3 d3 w)
        generalize rv c e 3077 = y at *
        clear h6 d0 d1 d3 h12
        go_wp2_with (first | ((with_reducible apply csr_ld); (case ho => exact rfl); (case hgd => exact rfl); (case hx => exact rfl); (case hg => (first | exact s0 _ (by first | exact hb0 | exact hb1 _) | exact t0 _ (by first | exact hb0 | exact hb1 _) | exact heap_alloc_new _ _))) | ((with_reducible apply env_ld); (case ho => exact rfl); (case hgd => exact rfl); (case hx => exact rfl); (case hg => (first | exact s0 _ (by first | exact hb0 | exact hb1 _) | exact t0 _ (by first | exact hb0 | exact hb1 _) | exact heap_alloc_new _ _))) | ((with_reducible apply csr_new_st); (case ho => exact rfl); (case hgd => exact rfl); (case hx => exact rfl); (case hy => exact rfl)))
        go_at_call 14; refine (J0.out _).mono ?_; rintro _ w8 ⟨rfl, hb'⟩
        have hb := hb'
        replace s0 := fun wr (h : On w8 wr) => s0 wr (hb.trans h)
        replace t0 := fun wr (h : On w8 wr) => t0 wr (hb.trans h)
        replace k2 := fun wr (h : On w8 wr) => k2 wr (hb.trans h)
        replace k6 := fun wr (h : On w8 wr) => k6 wr (hb.trans h)
        replace k12 := fun wr (h : On w8 wr) => k12 wr (hb.trans h)
        replace hb0 := On.refl w8
        replace hb1 : ∀ ob : Obj, On w8 (w8.alloc ob) := fun ob => (On.refl w8).alloc ob
        have HB := Lib.hid (HB.out.trans hb)
        clear hb hb'
        go_wp2_with (first | ((with_reducible apply csr_ld); (case ho => exact rfl); (case hgd => exact rfl); (case hx => exact rfl); (case hg => (first | exact s0 _ (by first | exact hb0 | exact hb1 _) | exact t0 _ (by first | exact hb0 | exact hb1 _) | exact heap_alloc_new _ _))) | ((with_reducible apply env_ld); (case ho => exact rfl); (case hgd => exact rfl); (case hx => exact rfl); (case hg => (first | exact s0 _ (by first | exact hb0 | exact hb1 _) | exact t0 _ (by first | exact hb0 | exact hb1 _) | exact heap_alloc_new _ _))) | ((with_reducible apply csr_new_st); (case ho => exact rfl); (case hgd => exact rfl); (case hx => exact rfl); (case hy => exact rfl)))
        go_at_call 14; refine (J1.out _).mono ?_; rintro _ w9 ⟨rfl, hb'⟩
        have hb := hb'
        replace s0 := fun wr (h : On w9 wr) => s0 wr (hb.trans h)
        replace t0 := fun wr (h : On w9 wr) => t0 wr (hb.trans h)
        replace k2 := fun wr (h : On w9 wr) => k2 wr (hb.trans h)
        replace k6 := fun wr (h : On w9 wr) => k6 wr (hb.trans h)
        replace k12 := fun wr (h : On w9 wr) => k12 wr (hb.trans h)
        replace hb0 := On.refl w9
        replace hb1 : ∀ ob : Obj, On w9 (w9.alloc ob) := fun ob => (On.refl w9).alloc ob
        have HB := Lib.hid (HB.out.trans hb)
        clear hb hb'
        go_wp2_with (first | ((with_reducible apply csr_ld); (case ho => exact rfl); (case hgd => exact rfl); (case hx => exact rfl); (case hg => (first | exact s0 _ (by first | exact hb0 | exact hb1 _) | exact t0 _ (by first | exact hb0 | exact hb1 _) | exact heap_alloc_new _ _))) | ((with_reducible apply env_ld); (case ho => exact rfl); (case hgd => exact rfl); (case hx => exact rfl); (case hg => (first | exact s0 _ (by first | exact hb0 | exact hb1 _) | exact t0 _ (by first | exact hb0 | exact hb1 _) | exact heap_alloc_new _ _))) | ((with_reducible apply csr_new_st); (case ho => exact rfl); (case hgd => exact rfl); (case hx => exact rfl); (case hy => exact rfl)))
        go_at_call 14; refine (J3.out _).mono ?_; rintro _ w10 ⟨rfl, hb'⟩
        have hb := hb'
        replace s0 := fun wr (h : On w10 wr) => s0 wr (hb.trans h)
        replace t0 := fun wr (h : On w10 wr) => t0 wr (hb.trans h)
        replace k2 := fun wr (h : On w10 wr) => k2 wr (hb.trans h)
        replace k6 := fun wr (h : On w10 wr) => k6 wr (hb.trans h)
        replace k12 := fun wr (h : On w10 wr) => k12 wr (hb.trans h)
        replace hb0 := On.refl w10
        replace hb1 : ∀ ob : Obj, On w10 (w10.alloc ob) := fun ob => (On.refl w10).alloc ob
        have HB := Lib.hid (HB.out.trans hb)
        clear hb hb'
        go_wp2
        go_ret
        exact ⟨rfl, HB.out⟩
  · cases h6 : (c 6).getLsbD 6
    · have t6 : (bits .and .u64 (u (c 6) / 64) 1 == 1) = false := by
        have hs : u (c 6) / (64 : Int) = u (c 6 >>> 6) := by rw [← u_shr (c 6) 6]; rfl
        rw [hs]; exact (views_b (c 6) 6).trans h6
      have d0 : rdb c 3078 0 = false := by have this : rdb c 3078 0 = ((c 6).getLsbD 6 && (c 12).getLsbD 6) := (by unfold rdb opn; rfl); rw [this, h6]; rfl
      have J0 : Hid (∀ w, Calls Try.prog 14 #[.agg (cV c), .int .i64 3078, .int .i64 0, .agg (eV e p q)] w fun r w' => r = .returned (.tuple #[.int .u64 0, .int .i64 7]) ∧ On w w') := Lib.hid (fun w => read_no c e p q 3078 0 d0 w)
      have d1 : rdb c 3078 1 = false := by have this : rdb c 3078 1 = ((c 6).getLsbD 6 && true) := (by unfold rdb opn; rfl); rw [this, h6]; rfl
      have J1 : Hid (∀ w, Calls Try.prog 14 #[.agg (cV c), .int .i64 3078, .int .i64 1, .agg (eV e p q)] w fun r w' => r = .returned (.tuple #[.int .u64 0, .int .i64 7]) ∧ On w w') := Lib.hid (fun w => read_no c e p q 3078 1 d1 w)
      have d3 : rdb c 3078 3 = true := by unfold rdb opn; rfl
      have J3 : Hid (∀ w, Calls Try.prog 14 #[.agg (cV c), .int .i64 3078, .int .i64 3, .agg (eV e p q)] w fun r w' => r = .returned (.tuple #[.int .u64 (u (rv c e 3078)), .int .i64 0]) ∧ On w w') := Lib.hid (fun w => read_yes c e p q 3078 3 d3 w)
      generalize rv c e 3078 = y at *
      clear h6 d0 d1 d3
      go_wp2_with (first | ((with_reducible apply csr_ld); (case ho => exact rfl); (case hgd => exact rfl); (case hx => exact rfl); (case hg => (first | exact s0 _ (by first | exact hb0 | exact hb1 _) | exact t0 _ (by first | exact hb0 | exact hb1 _) | exact heap_alloc_new _ _))) | ((with_reducible apply env_ld); (case ho => exact rfl); (case hgd => exact rfl); (case hx => exact rfl); (case hg => (first | exact s0 _ (by first | exact hb0 | exact hb1 _) | exact t0 _ (by first | exact hb0 | exact hb1 _) | exact heap_alloc_new _ _))) | ((with_reducible apply csr_new_st); (case ho => exact rfl); (case hgd => exact rfl); (case hx => exact rfl); (case hy => exact rfl)))
      go_at_call 14; refine (J0.out _).mono ?_; rintro _ w8 ⟨rfl, hb'⟩
      have hb := hb'
      replace s0 := fun wr (h : On w8 wr) => s0 wr (hb.trans h)
      replace t0 := fun wr (h : On w8 wr) => t0 wr (hb.trans h)
      replace k2 := fun wr (h : On w8 wr) => k2 wr (hb.trans h)
      replace k6 := fun wr (h : On w8 wr) => k6 wr (hb.trans h)
      replace k12 := fun wr (h : On w8 wr) => k12 wr (hb.trans h)
      replace hb0 := On.refl w8
      replace hb1 : ∀ ob : Obj, On w8 (w8.alloc ob) := fun ob => (On.refl w8).alloc ob
      have HB := Lib.hid (HB.out.trans hb)
      clear hb hb'
      go_wp2_with (first | ((with_reducible apply csr_ld); (case ho => exact rfl); (case hgd => exact rfl); (case hx => exact rfl); (case hg => (first | exact s0 _ (by first | exact hb0 | exact hb1 _) | exact t0 _ (by first | exact hb0 | exact hb1 _) | exact heap_alloc_new _ _))) | ((with_reducible apply env_ld); (case ho => exact rfl); (case hgd => exact rfl); (case hx => exact rfl); (case hg => (first | exact s0 _ (by first | exact hb0 | exact hb1 _) | exact t0 _ (by first | exact hb0 | exact hb1 _) | exact heap_alloc_new _ _))) | ((with_reducible apply csr_new_st); (case ho => exact rfl); (case hgd => exact rfl); (case hx => exact rfl); (case hy => exact rfl)))
      go_at_call 14; refine (J1.out _).mono ?_; rintro _ w9 ⟨rfl, hb'⟩
      have hb := hb'
      replace s0 := fun wr (h : On w9 wr) => s0 wr (hb.trans h)
      replace t0 := fun wr (h : On w9 wr) => t0 wr (hb.trans h)
      replace k2 := fun wr (h : On w9 wr) => k2 wr (hb.trans h)
      replace k6 := fun wr (h : On w9 wr) => k6 wr (hb.trans h)
      replace k12 := fun wr (h : On w9 wr) => k12 wr (hb.trans h)
      replace hb0 := On.refl w9
      replace hb1 : ∀ ob : Obj, On w9 (w9.alloc ob) := fun ob => (On.refl w9).alloc ob
      have HB := Lib.hid (HB.out.trans hb)
      clear hb hb'
      go_wp2_with (first | ((with_reducible apply csr_ld); (case ho => exact rfl); (case hgd => exact rfl); (case hx => exact rfl); (case hg => (first | exact s0 _ (by first | exact hb0 | exact hb1 _) | exact t0 _ (by first | exact hb0 | exact hb1 _) | exact heap_alloc_new _ _))) | ((with_reducible apply env_ld); (case ho => exact rfl); (case hgd => exact rfl); (case hx => exact rfl); (case hg => (first | exact s0 _ (by first | exact hb0 | exact hb1 _) | exact t0 _ (by first | exact hb0 | exact hb1 _) | exact heap_alloc_new _ _))) | ((with_reducible apply csr_new_st); (case ho => exact rfl); (case hgd => exact rfl); (case hx => exact rfl); (case hy => exact rfl)))
      go_at_call 14; refine (J3.out _).mono ?_; rintro _ w10 ⟨rfl, hb'⟩
      have hb := hb'
      replace s0 := fun wr (h : On w10 wr) => s0 wr (hb.trans h)
      replace t0 := fun wr (h : On w10 wr) => t0 wr (hb.trans h)
      replace k2 := fun wr (h : On w10 wr) => k2 wr (hb.trans h)
      replace k6 := fun wr (h : On w10 wr) => k6 wr (hb.trans h)
      replace k12 := fun wr (h : On w10 wr) => k12 wr (hb.trans h)
      replace hb0 := On.refl w10
      replace hb1 : ∀ ob : Obj, On w10 (w10.alloc ob) := fun ob => (On.refl w10).alloc ob
      have HB := Lib.hid (HB.out.trans hb)
      clear hb hb'
      go_wp2
      go_ret
      exact ⟨rfl, HB.out⟩
    · cases h12 : (c 12).getLsbD 6
      · have t6 : (bits .and .u64 (u (c 6) / 64) 1 == 1) = true := by
          have hs : u (c 6) / (64 : Int) = u (c 6 >>> 6) := by rw [← u_shr (c 6) 6]; rfl
          rw [hs]; exact (views_b (c 6) 6).trans h6
        have t12 : (bits .and .u64 (u (c 12) / 64) 1 == 1) = false := by
          have hs : u (c 12) / (64 : Int) = u (c 12 >>> 6) := by rw [← u_shr (c 12) 6]; rfl
          rw [hs]; exact (views_b (c 12) 6).trans h12
        have d0 : rdb c 3078 0 = false := by have this : rdb c 3078 0 = ((c 6).getLsbD 6 && (c 12).getLsbD 6) := (by unfold rdb opn; rfl); rw [this, h6, h12]; rfl
        have J0 : Hid (∀ w, Calls Try.prog 14 #[.agg (cV c), .int .i64 3078, .int .i64 0, .agg (eV e p q)] w fun r w' => r = .returned (.tuple #[.int .u64 0, .int .i64 7]) ∧ On w w') := Lib.hid (fun w => read_no c e p q 3078 0 d0 w)
        have d1 : rdb c 3078 1 = true := by have this : rdb c 3078 1 = ((c 6).getLsbD 6 && true) := (by unfold rdb opn; rfl); rw [this, h6]; rfl
        have J1 : Hid (∀ w, Calls Try.prog 14 #[.agg (cV c), .int .i64 3078, .int .i64 1, .agg (eV e p q)] w fun r w' => r = .returned (.tuple #[.int .u64 (u (rv c e 3078)), .int .i64 0]) ∧ On w w') := Lib.hid (fun w => read_yes c e p q 3078 1 d1 w)
        have d3 : rdb c 3078 3 = true := by unfold rdb opn; rfl
        have J3 : Hid (∀ w, Calls Try.prog 14 #[.agg (cV c), .int .i64 3078, .int .i64 3, .agg (eV e p q)] w fun r w' => r = .returned (.tuple #[.int .u64 (u (rv c e 3078)), .int .i64 0]) ∧ On w w') := Lib.hid (fun w => read_yes c e p q 3078 3 d3 w)
        generalize rv c e 3078 = y at *
        clear h6 d0 d1 d3 h12
        go_wp2_with (first | ((with_reducible apply csr_ld); (case ho => exact rfl); (case hgd => exact rfl); (case hx => exact rfl); (case hg => (first | exact s0 _ (by first | exact hb0 | exact hb1 _) | exact t0 _ (by first | exact hb0 | exact hb1 _) | exact heap_alloc_new _ _))) | ((with_reducible apply env_ld); (case ho => exact rfl); (case hgd => exact rfl); (case hx => exact rfl); (case hg => (first | exact s0 _ (by first | exact hb0 | exact hb1 _) | exact t0 _ (by first | exact hb0 | exact hb1 _) | exact heap_alloc_new _ _))) | ((with_reducible apply csr_new_st); (case ho => exact rfl); (case hgd => exact rfl); (case hx => exact rfl); (case hy => exact rfl)))
        go_at_call 14; refine (J0.out _).mono ?_; rintro _ w8 ⟨rfl, hb'⟩
        have hb := hb'
        replace s0 := fun wr (h : On w8 wr) => s0 wr (hb.trans h)
        replace t0 := fun wr (h : On w8 wr) => t0 wr (hb.trans h)
        replace k2 := fun wr (h : On w8 wr) => k2 wr (hb.trans h)
        replace k6 := fun wr (h : On w8 wr) => k6 wr (hb.trans h)
        replace k12 := fun wr (h : On w8 wr) => k12 wr (hb.trans h)
        replace hb0 := On.refl w8
        replace hb1 : ∀ ob : Obj, On w8 (w8.alloc ob) := fun ob => (On.refl w8).alloc ob
        have HB := Lib.hid (HB.out.trans hb)
        clear hb hb'
        go_wp2_with (first | ((with_reducible apply csr_ld); (case ho => exact rfl); (case hgd => exact rfl); (case hx => exact rfl); (case hg => (first | exact s0 _ (by first | exact hb0 | exact hb1 _) | exact t0 _ (by first | exact hb0 | exact hb1 _) | exact heap_alloc_new _ _))) | ((with_reducible apply env_ld); (case ho => exact rfl); (case hgd => exact rfl); (case hx => exact rfl); (case hg => (first | exact s0 _ (by first | exact hb0 | exact hb1 _) | exact t0 _ (by first | exact hb0 | exact hb1 _) | exact heap_alloc_new _ _))) | ((with_reducible apply csr_new_st); (case ho => exact rfl); (case hgd => exact rfl); (case hx => exact rfl); (case hy => exact rfl)))
        go_at_call 14; refine (J1.out _).mono ?_; rintro _ w9 ⟨rfl, hb'⟩
        have hb := hb'
        replace s0 := fun wr (h : On w9 wr) => s0 wr (hb.trans h)
        replace t0 := fun wr (h : On w9 wr) => t0 wr (hb.trans h)
        replace k2 := fun wr (h : On w9 wr) => k2 wr (hb.trans h)
        replace k6 := fun wr (h : On w9 wr) => k6 wr (hb.trans h)
        replace k12 := fun wr (h : On w9 wr) => k12 wr (hb.trans h)
        replace hb0 := On.refl w9
        replace hb1 : ∀ ob : Obj, On w9 (w9.alloc ob) := fun ob => (On.refl w9).alloc ob
        have HB := Lib.hid (HB.out.trans hb)
        clear hb hb'
        go_wp2_with (first | ((with_reducible apply csr_ld); (case ho => exact rfl); (case hgd => exact rfl); (case hx => exact rfl); (case hg => (first | exact s0 _ (by first | exact hb0 | exact hb1 _) | exact t0 _ (by first | exact hb0 | exact hb1 _) | exact heap_alloc_new _ _))) | ((with_reducible apply env_ld); (case ho => exact rfl); (case hgd => exact rfl); (case hx => exact rfl); (case hg => (first | exact s0 _ (by first | exact hb0 | exact hb1 _) | exact t0 _ (by first | exact hb0 | exact hb1 _) | exact heap_alloc_new _ _))) | ((with_reducible apply csr_new_st); (case ho => exact rfl); (case hgd => exact rfl); (case hx => exact rfl); (case hy => exact rfl)))
        go_at_call 14; refine (J3.out _).mono ?_; rintro _ w10 ⟨rfl, hb'⟩
        have hb := hb'
        replace s0 := fun wr (h : On w10 wr) => s0 wr (hb.trans h)
        replace t0 := fun wr (h : On w10 wr) => t0 wr (hb.trans h)
        replace k2 := fun wr (h : On w10 wr) => k2 wr (hb.trans h)
        replace k6 := fun wr (h : On w10 wr) => k6 wr (hb.trans h)
        replace k12 := fun wr (h : On w10 wr) => k12 wr (hb.trans h)
        replace hb0 := On.refl w10
        replace hb1 : ∀ ob : Obj, On w10 (w10.alloc ob) := fun ob => (On.refl w10).alloc ob
        have HB := Lib.hid (HB.out.trans hb)
        clear hb hb'
        go_wp2
        go_ret
        exact ⟨rfl, HB.out⟩
      · have t6 : (bits .and .u64 (u (c 6) / 64) 1 == 1) = true := by
          have hs : u (c 6) / (64 : Int) = u (c 6 >>> 6) := by rw [← u_shr (c 6) 6]; rfl
          rw [hs]; exact (views_b (c 6) 6).trans h6
        have t12 : (bits .and .u64 (u (c 12) / 64) 1 == 1) = true := by
          have hs : u (c 12) / (64 : Int) = u (c 12 >>> 6) := by rw [← u_shr (c 12) 6]; rfl
          rw [hs]; exact (views_b (c 12) 6).trans h12
        have d0 : rdb c 3078 0 = true := by have this : rdb c 3078 0 = ((c 6).getLsbD 6 && (c 12).getLsbD 6) := (by unfold rdb opn; rfl); rw [this, h6, h12]; rfl
        have J0 : Hid (∀ w, Calls Try.prog 14 #[.agg (cV c), .int .i64 3078, .int .i64 0, .agg (eV e p q)] w fun r w' => r = .returned (.tuple #[.int .u64 (u (rv c e 3078)), .int .i64 0]) ∧ On w w') := Lib.hid (fun w => read_yes c e p q 3078 0 d0 w)
        have d1 : rdb c 3078 1 = true := by have this : rdb c 3078 1 = ((c 6).getLsbD 6 && true) := (by unfold rdb opn; rfl); rw [this, h6]; rfl
        have J1 : Hid (∀ w, Calls Try.prog 14 #[.agg (cV c), .int .i64 3078, .int .i64 1, .agg (eV e p q)] w fun r w' => r = .returned (.tuple #[.int .u64 (u (rv c e 3078)), .int .i64 0]) ∧ On w w') := Lib.hid (fun w => read_yes c e p q 3078 1 d1 w)
        have d3 : rdb c 3078 3 = true := by unfold rdb opn; rfl
        have J3 : Hid (∀ w, Calls Try.prog 14 #[.agg (cV c), .int .i64 3078, .int .i64 3, .agg (eV e p q)] w fun r w' => r = .returned (.tuple #[.int .u64 (u (rv c e 3078)), .int .i64 0]) ∧ On w w') := Lib.hid (fun w => read_yes c e p q 3078 3 d3 w)
        generalize rv c e 3078 = y at *
        clear h6 d0 d1 d3 h12
        go_wp2_with (first | ((with_reducible apply csr_ld); (case ho => exact rfl); (case hgd => exact rfl); (case hx => exact rfl); (case hg => (first | exact s0 _ (by first | exact hb0 | exact hb1 _) | exact t0 _ (by first | exact hb0 | exact hb1 _) | exact heap_alloc_new _ _))) | ((with_reducible apply env_ld); (case ho => exact rfl); (case hgd => exact rfl); (case hx => exact rfl); (case hg => (first | exact s0 _ (by first | exact hb0 | exact hb1 _) | exact t0 _ (by first | exact hb0 | exact hb1 _) | exact heap_alloc_new _ _))) | ((with_reducible apply csr_new_st); (case ho => exact rfl); (case hgd => exact rfl); (case hx => exact rfl); (case hy => exact rfl)))
        go_at_call 14; refine (J0.out _).mono ?_; rintro _ w8 ⟨rfl, hb'⟩
        have hb := hb'
        replace s0 := fun wr (h : On w8 wr) => s0 wr (hb.trans h)
        replace t0 := fun wr (h : On w8 wr) => t0 wr (hb.trans h)
        replace k2 := fun wr (h : On w8 wr) => k2 wr (hb.trans h)
        replace k6 := fun wr (h : On w8 wr) => k6 wr (hb.trans h)
        replace k12 := fun wr (h : On w8 wr) => k12 wr (hb.trans h)
        replace hb0 := On.refl w8
        replace hb1 : ∀ ob : Obj, On w8 (w8.alloc ob) := fun ob => (On.refl w8).alloc ob
        have HB := Lib.hid (HB.out.trans hb)
        clear hb hb'
        go_wp2_with (first | ((with_reducible apply csr_ld); (case ho => exact rfl); (case hgd => exact rfl); (case hx => exact rfl); (case hg => (first | exact s0 _ (by first | exact hb0 | exact hb1 _) | exact t0 _ (by first | exact hb0 | exact hb1 _) | exact heap_alloc_new _ _))) | ((with_reducible apply env_ld); (case ho => exact rfl); (case hgd => exact rfl); (case hx => exact rfl); (case hg => (first | exact s0 _ (by first | exact hb0 | exact hb1 _) | exact t0 _ (by first | exact hb0 | exact hb1 _) | exact heap_alloc_new _ _))) | ((with_reducible apply csr_new_st); (case ho => exact rfl); (case hgd => exact rfl); (case hx => exact rfl); (case hy => exact rfl)))
        go_at_call 14; refine (J1.out _).mono ?_; rintro _ w9 ⟨rfl, hb'⟩
        have hb := hb'
        replace s0 := fun wr (h : On w9 wr) => s0 wr (hb.trans h)
        replace t0 := fun wr (h : On w9 wr) => t0 wr (hb.trans h)
        replace k2 := fun wr (h : On w9 wr) => k2 wr (hb.trans h)
        replace k6 := fun wr (h : On w9 wr) => k6 wr (hb.trans h)
        replace k12 := fun wr (h : On w9 wr) => k12 wr (hb.trans h)
        replace hb0 := On.refl w9
        replace hb1 : ∀ ob : Obj, On w9 (w9.alloc ob) := fun ob => (On.refl w9).alloc ob
        have HB := Lib.hid (HB.out.trans hb)
        clear hb hb'
        go_wp2_with (first | ((with_reducible apply csr_ld); (case ho => exact rfl); (case hgd => exact rfl); (case hx => exact rfl); (case hg => (first | exact s0 _ (by first | exact hb0 | exact hb1 _) | exact t0 _ (by first | exact hb0 | exact hb1 _) | exact heap_alloc_new _ _))) | ((with_reducible apply env_ld); (case ho => exact rfl); (case hgd => exact rfl); (case hx => exact rfl); (case hg => (first | exact s0 _ (by first | exact hb0 | exact hb1 _) | exact t0 _ (by first | exact hb0 | exact hb1 _) | exact heap_alloc_new _ _))) | ((with_reducible apply csr_new_st); (case ho => exact rfl); (case hgd => exact rfl); (case hx => exact rfl); (case hy => exact rfl)))
        go_at_call 14; refine (J3.out _).mono ?_; rintro _ w10 ⟨rfl, hb'⟩
        have hb := hb'
        replace s0 := fun wr (h : On w10 wr) => s0 wr (hb.trans h)
        replace t0 := fun wr (h : On w10 wr) => t0 wr (hb.trans h)
        replace k2 := fun wr (h : On w10 wr) => k2 wr (hb.trans h)
        replace k6 := fun wr (h : On w10 wr) => k6 wr (hb.trans h)
        replace k12 := fun wr (h : On w10 wr) => k12 wr (hb.trans h)
        replace hb0 := On.refl w10
        replace hb1 : ∀ ob : Obj, On w10 (w10.alloc ob) := fun ob => (On.refl w10).alloc ob
        have HB := Lib.hid (HB.out.trans hb)
        clear hb hb'
        go_wp2
        go_ret
        exact ⟨rfl, HB.out⟩

set_option maxRecDepth 100000 in
theorem lifted (os : Os) (started : os.Started) (H : Type) (enc : TypeId × Value → H) :
    ReturnsInHanded {} Try.checked os 9 .any (Rows.csrViewsSpec.pre6 enc Try.prog Try.f9 Rows.csrViewsRow.domain false) (Rows.csrViewsSpec.post enc Try.prog Try.f9 false true false false) := by
  refine returnsInHanded_of_change (C := Try.checked) own started (by kernel_rfl) Try.func9
    (ChangeSpec.witness6 (enc := enc) (C := Try.checked) false ⟨#[], #[.agg #[.int .u64 0, .int .u64 0, .int .u64 0, .int .u64 0, .int .u64 0, .int .u64 0, .int .u64 0, .int .u64 0, .int .u64 0, .int .u64 0, .int .u64 0, .int .u64 0, .int .u64 0, .int .u64 0, .int .u64 0, .int .u64 0, .int .u64 0, .int .u64 0, .int .u64 0, .int .u64 0, .int .u64 0, .int .u64 0, .int .u64 0, .int .u64 0, .int .u64 0, .int .u64 0, .int .u64 0, .int .u64 0, .int .u64 0, .int .u64 0], .agg #[.int .u64 0, .int .u64 0, .int .u64 0, .int .u64 0, .int .u64 0, .int .u64 0, .int .u64 0, .bool false, .int .u64 0, .bool false], .int .i64 0], []⟩ 12 (by kernel_rfl) (by kernel_rfl) (by kernel_rfl) (by kernel_rfl)) ?_
  intro W base args ds gs before hval0 hW hcnd _
  have hval : ∀ (j : Nat) t v, Try.f9.params[j]? = some t → args[j]? = some v → Value.okWide Try.prog W .any base t v := hval0
  have hW' := hW
  obtain ⟨p, q, hA0, hV, rfl, hfz, hnd⟩ := hW
  have hA : DataW.TrodAll enc Try.prog W 0 (fun _ => true) true Try.f9.params.toList args.toList ds p := hA0
  rw [Try.params9] at hA hval
  obtain ⟨v0, vs0, d0, ds0, p0, q0, hargs, rfl, rfl, h0, r0⟩ := trodAll_cons hA
  obtain ⟨v1, vs1, d1, ds1, p1, q1, rfl, rfl, rfl, h1, r1⟩ := trodAll_cons r0
  obtain ⟨v2, vs2, d2, ds2, p2, q2, rfl, rfl, rfl, h2, r2⟩ := trodAll_cons r1
  obtain ⟨rfl, rfl, rfl⟩ := trodAll_nil r2
  obtain rfl : args = #[v0, v1, v2] := by cases args; simp_all
  obtain ⟨rfl, rfl⟩ := trodVars_none hV
  have k0 := h0
  have l0 : ∀ x ∈ p0, x.block < W.heap.size := fun x hx => by have := hW'.lt x (by simp [hx]); simpa using this
  obtain ⟨c0, rfl, f0⟩ := open_flat 12 [.int .u64, .int .u64, .int .u64, .int .u64, .int .u64, .int .u64, .int .u64, .int .u64, .int .u64, .int .u64, .int .u64, .int .u64, .int .u64, .int .u64, .int .u64, .int .u64, .int .u64, .int .u64, .int .u64, .int .u64, .int .u64, .int .u64, .int .u64, .int .u64, .int .u64, .int .u64, .int .u64, .int .u64, .int .u64, .int .u64] (by kernel_rfl) (by kernel_rfl) (.inl ⟨_, Try.underlying25⟩) (hval 0 25 v0 rfl rfl) h0
  clear h0
  have k1 := h1
  have l1 : ∀ x ∈ p1, x.block < W.heap.size := fun x hx => by have := hW'.lt x (by simp [hx]); simpa using this
  obtain ⟨c1, rfl, f1⟩ := open_flat 12 [.int .u64, .int .u64, .int .u64, .int .u64, .int .u64, .int .u64, .int .u64, .bool, .int .u64, .bool] (by kernel_rfl) (by kernel_rfl) (.inl ⟨_, Try.underlying27⟩) (hval 1 27 v1 rfl rfl) h1
  clear h1
  obtain ⟨a2, rfl, rfl, rfl, w2⟩ := open_int Try.underlying3 (hval 2 3 v2 rfl rfl) h2
  clear hA0 hval0
  refine (walk c0 f0 c1 f1 a2 w2 W).mono fun e W' ⟨he, bel⟩ => ?_
  subst he
  exact ⟨_, rfl, _, _, _, [], _, [], hW', trodAll_mk1 (shut_bool Try.underlying4 _), (trodAll_cons_mk (Below.trod (by kernel_rfl) (by kernel_rfl) (of_decide_eq_true (by kernel_rfl)) k0 bel l0) (trodAll_cons_mk (Below.trod (by kernel_rfl) (by kernel_rfl) (of_decide_eq_true (by kernel_rfl)) k1 bel l1) (trodAll_cons_mk (shut_int Try.underlying3 w2) trodAll_mk0))), rfl, bel.frame _, fun h => by cases h⟩

theorem over : Rows.csrViewsRow.holds Try.pinned (OpenSpec.ofChange Rows.csrViewsSpec) :=
  OpenClaim.holds_of_wide 9 Try.f9 rfl rfl rfl rfl rfl rfl rfl ⟨rfl, rfl, rfl, rfl, rfl⟩ rfl rfl rfl rfl rfl (by kernel_rfl) Try.func9 (by kernel_rfl)
    (of_decide_eq_true (by kernel_rfl)) (by unfold Func.isWrapper; first | (rw [if_pos (by decide +kernel)]; kernel_rfl) | (rw [if_neg (by decide +kernel)]; exact ⟨rfl, rfl⟩))
    (fun os started H enc _ => lifted os started H enc)

theorem proved : Rows.CsrViewsSaid :=
  over
#print axioms proved
end Go.Proofs.Ytoobbapdjoajgaa.csrViews
