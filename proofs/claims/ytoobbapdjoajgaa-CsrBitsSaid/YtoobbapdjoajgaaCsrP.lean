/- What the small calls of package csr, and of its reference, come to. Conditions: named at each. -/
import Derived.Test.YtoobbapdjoajgaaCsr
namespace Go.Proofs.Ytoobbapdjoajgaa
open Go.RowKit
theorem box2 (w : World) (a b : Obj) : ((w.alloc a).alloc b).heap[w.heap.size + 1]? = some b := by
  have := heap_alloc_new (w.alloc a) b
  rw [alloc_size] at this
  exact this
theorem box1 (w : World) (a b : Obj) : ((w.alloc a).alloc b).heap[w.heap.size]? = some a := ((On.refl _).alloc _).keep (heap_alloc_new _ _)
theorem lsb0 (v : BitVec 64) : (bits .and .u64 (u v) 1 == 0) = !v.getLsbD 0 := by
  rw [show (1 : Int) = u ((1 : BitVec 64) <<< 0) from rfl, u_and, and_one_shl v 0 (by omega)]
theorem lsb0' (v : BitVec 64) : (bits .and .u64 (u v) 1 == 1) = v.getLsbD 0 := by
  have h := and1_test v 0
  rw [BitVec.ushiftRight_zero] at h
  rw [show (1 : Int) = u (1 : BitVec 64) from rfl, u_and]
  exact h
theorem lsb2 (v : BitVec 64) : (bits .and .u64 (u v) 4 == 0) = !v.getLsbD 2 := by
  rw [show (4 : Int) = u ((1 : BitVec 64) <<< 2) from rfl, u_and, and_one_shl v 2 (by omega)]
theorem lsb20 (v : BitVec 64) : (bits .and .u64 (u v) 1048576 == 0) = !v.getLsbD 20 := by
  rw [show (1048576 : Int) = u ((1 : BitVec 64) <<< 20) from rfl, u_and, and_one_shl v 20 (by omega)]

theorem pend_any (c e : Nat → BitVec 64) (p q : Bool) (w : World) :
    Calls Try.prog 22 #[.agg (cV c), .agg (eV e p q)] w fun r w' => r = .returned (.int .u64 (u (pend c e))) ∧ On w w' := by
  have H : Hid (bits .or .u64 (u (c 4)) (bits .and .u64 (u (e 2)) 2696) = u (pend c e)) := Lib.hid (by rw [show (2696 : Int) = u 0xa88#64 from rfl, u_and, u_or]; rfl)
  have HC : ∀ wr, On ((w.alloc (.cells (cV c) 25)).alloc (.cells (eV e p q) 27)) wr → wr.heap[w.heap.size]? = some (.cells (cV c) 25 (0, 0)) := fun _ h => h.keep (((On.refl _).alloc _).keep (heap_alloc_new _ _))
  have HE : ∀ wr, On ((w.alloc (.cells (cV c) 25)).alloc (.cells (eV e p q) 27)) wr → wr.heap[w.heap.size + 1]? = some (.cells (eV e p q) 27 (0, 0)) := fun _ h => h.keep (box2 _ _ _)
  have c4 : ∀ wr, On ((w.alloc (.cells (cV c) 25)).alloc (.cells (eV e p q) 27)) wr → wr.cell? ⟨w.heap.size, 4, none⟩ = some (.int .u64 (u (c 4))) := fun _ h => blk_cell (HC _ h) 4 (cV_get c 4 (by omega))
  have e2 : ∀ wr, On ((w.alloc (.cells (cV c) 25)).alloc (.cells (eV e p q) 27)) wr → wr.cell? ⟨w.heap.size + 1, 2, none⟩ = some (.int .u64 (u (e 2))) := fun _ h => blk_cell (HE _ h) 2 (eV_get e p q 2 (by omega))
  have hb := On.refl ((w.alloc (.cells (cV c) 25)).alloc (.cells (eV e p q) 27))
  go_enter Try.func22, Try.ntmps22
  go_wp2
  go_ret
  exact ⟨by rw [← H.out]; rfl, (((On.refl w).alloc _).alloc _).trans hb⟩
theorem rpend_any (c e : Nat → BitVec 64) (p q : Bool) (w : World) :
    Calls Try.prog 23 #[.agg (cV c), .agg (eV e p q)] w fun r w' => r = .returned (.int .u64 (u (pend c e))) ∧ On w w' := by
  have H : Hid (bits .or .u64 (u (c 4)) (bits .and .u64 (u (e 2)) 2696) = u (pend c e)) := Lib.hid (by rw [show (2696 : Int) = u 0xa88#64 from rfl, u_and, u_or]; rfl)
  have HC : ∀ wr, On ((w.alloc (.cells (cV c) 25)).alloc (.cells (eV e p q) 27)) wr → wr.heap[w.heap.size]? = some (.cells (cV c) 25 (0, 0)) := fun _ h => h.keep (((On.refl _).alloc _).keep (heap_alloc_new _ _))
  have HE : ∀ wr, On ((w.alloc (.cells (cV c) 25)).alloc (.cells (eV e p q) 27)) wr → wr.heap[w.heap.size + 1]? = some (.cells (eV e p q) 27 (0, 0)) := fun _ h => h.keep (box2 _ _ _)
  have c4 : ∀ wr, On ((w.alloc (.cells (cV c) 25)).alloc (.cells (eV e p q) 27)) wr → wr.cell? ⟨w.heap.size, 4, none⟩ = some (.int .u64 (u (c 4))) := fun _ h => blk_cell (HC _ h) 4 (cV_get c 4 (by omega))
  have e2 : ∀ wr, On ((w.alloc (.cells (cV c) 25)).alloc (.cells (eV e p q) 27)) wr → wr.cell? ⟨w.heap.size + 1, 2, none⟩ = some (.int .u64 (u (e 2))) := fun _ h => blk_cell (HE _ h) 2 (eV_get e p q 2 (by omega))
  have hb := On.refl ((w.alloc (.cells (cV c) 25)).alloc (.cells (eV e p q) 27))
  go_enter Try.func23, Try.ntmps23
  go_wp2
  go_ret
  exact ⟨by rw [← H.out]; rfl, (((On.refl w).alloc _).alloc _).trans hb⟩
theorem cyc_any (c e : Nat → BitVec 64) (p q : Bool) (w : World) :
    Calls Try.prog 24 #[.agg (cV c), .agg (eV e p q)] w fun r w' => r = .returned (.int .u64 (u (cyc c e))) ∧ On w w' := by
  have HC : ∀ wr, On ((w.alloc (.cells (cV c) 25)).alloc (.cells (eV e p q) 27)) wr → wr.heap[w.heap.size]? = some (.cells (cV c) 25 (0, 0)) := fun _ h => h.keep (((On.refl _).alloc _).keep (heap_alloc_new _ _))
  have HE : ∀ wr, On ((w.alloc (.cells (cV c) 25)).alloc (.cells (eV e p q) 27)) wr → wr.heap[w.heap.size + 1]? = some (.cells (eV e p q) 27 (0, 0)) := fun _ h => h.keep (box2 _ _ _)
  have c18 : ∀ wr, On ((w.alloc (.cells (cV c) 25)).alloc (.cells (eV e p q) 27)) wr → wr.cell? ⟨w.heap.size, 18, none⟩ = some (.int .u64 (u (c 18))) := fun _ h => blk_cell (HC _ h) 18 (cV_get c 18 (by omega))
  have c20 : ∀ wr, On ((w.alloc (.cells (cV c) 25)).alloc (.cells (eV e p q) 27)) wr → wr.cell? ⟨w.heap.size, 20, none⟩ = some (.int .u64 (u (c 20))) := fun _ h => blk_cell (HC _ h) 20 (cV_get c 20 (by omega))
  have c21 : ∀ wr, On ((w.alloc (.cells (cV c) 25)).alloc (.cells (eV e p q) 27)) wr → wr.cell? ⟨w.heap.size, 21, none⟩ = some (.int .u64 (u (c 21))) := fun _ h => blk_cell (HC _ h) 21 (cV_get c 21 (by omega))
  have e0 : ∀ wr, On ((w.alloc (.cells (cV c) 25)).alloc (.cells (eV e p q) 27)) wr → wr.cell? ⟨w.heap.size + 1, 0, none⟩ = some (.int .u64 (u (e 0))) := fun _ h => blk_cell (HE _ h) 0 (eV_get e p q 0 (by omega))
  have hb := On.refl ((w.alloc (.cells (cV c) 25)).alloc (.cells (eV e p q) 27))
  cases h : (c 18).getLsbD 0
  · have t0 : (bits .and .u64 (u (c 18)) 1 == 0) = true := by rw [lsb0, h]; rfl
    have t1 : (bits .and .u64 (u (c 18)) 1 == 1) = false := by rw [lsb0', h]
    have H : Hid (IntKind.u64.wrap (u (c 20) + IntKind.u64.wrap (u (e 0) - u (c 21))) = u (cyc c e)) := Lib.hid (by rw [u_sub, u_add]; unfold cyc; rw [if_neg (by rw [h]; simp)])
    clear h
    go_enter Try.func24, Try.ntmps24
    go_wp2
    go_ret
    exact ⟨by rw [← H.out]; rfl, (((On.refl w).alloc _).alloc _).trans hb⟩
  · have t0 : (bits .and .u64 (u (c 18)) 1 == 0) = false := by rw [lsb0, h]; rfl
    have t1 : (bits .and .u64 (u (c 18)) 1 == 1) = true := by rw [lsb0', h]
    have H : Hid (u (c 20) = u (cyc c e)) := Lib.hid (by unfold cyc; rw [if_pos h])
    clear h
    go_enter Try.func24, Try.ntmps24
    go_wp2
    go_ret
    exact ⟨by rw [← H.out]; rfl, (((On.refl w).alloc _).alloc _).trans hb⟩
theorem rcyc_any (c e : Nat → BitVec 64) (p q : Bool) (w : World) :
    Calls Try.prog 25 #[.agg (cV c), .agg (eV e p q)] w fun r w' => r = .returned (.int .u64 (u (cyc c e))) ∧ On w w' := by
  have HC : ∀ wr, On ((w.alloc (.cells (cV c) 25)).alloc (.cells (eV e p q) 27)) wr → wr.heap[w.heap.size]? = some (.cells (cV c) 25 (0, 0)) := fun _ h => h.keep (((On.refl _).alloc _).keep (heap_alloc_new _ _))
  have HE : ∀ wr, On ((w.alloc (.cells (cV c) 25)).alloc (.cells (eV e p q) 27)) wr → wr.heap[w.heap.size + 1]? = some (.cells (eV e p q) 27 (0, 0)) := fun _ h => h.keep (box2 _ _ _)
  have c18 : ∀ wr, On ((w.alloc (.cells (cV c) 25)).alloc (.cells (eV e p q) 27)) wr → wr.cell? ⟨w.heap.size, 18, none⟩ = some (.int .u64 (u (c 18))) := fun _ h => blk_cell (HC _ h) 18 (cV_get c 18 (by omega))
  have c20 : ∀ wr, On ((w.alloc (.cells (cV c) 25)).alloc (.cells (eV e p q) 27)) wr → wr.cell? ⟨w.heap.size, 20, none⟩ = some (.int .u64 (u (c 20))) := fun _ h => blk_cell (HC _ h) 20 (cV_get c 20 (by omega))
  have c21 : ∀ wr, On ((w.alloc (.cells (cV c) 25)).alloc (.cells (eV e p q) 27)) wr → wr.cell? ⟨w.heap.size, 21, none⟩ = some (.int .u64 (u (c 21))) := fun _ h => blk_cell (HC _ h) 21 (cV_get c 21 (by omega))
  have e0 : ∀ wr, On ((w.alloc (.cells (cV c) 25)).alloc (.cells (eV e p q) 27)) wr → wr.cell? ⟨w.heap.size + 1, 0, none⟩ = some (.int .u64 (u (e 0))) := fun _ h => blk_cell (HE _ h) 0 (eV_get e p q 0 (by omega))
  have hb := On.refl ((w.alloc (.cells (cV c) 25)).alloc (.cells (eV e p q) 27))
  cases h : (c 18).getLsbD 0
  · have t0 : (bits .and .u64 (u (c 18)) 1 == 0) = true := by rw [lsb0, h]; rfl
    have t1 : (bits .and .u64 (u (c 18)) 1 == 1) = false := by rw [lsb0', h]
    have H : Hid (IntKind.u64.wrap (u (c 20) + IntKind.u64.wrap (u (e 0) - u (c 21))) = u (cyc c e)) := Lib.hid (by rw [u_sub, u_add]; unfold cyc; rw [if_neg (by rw [h]; simp)])
    clear h
    go_enter Try.func25, Try.ntmps25
    go_wp2
    go_ret
    exact ⟨by rw [← H.out]; rfl, (((On.refl w).alloc _).alloc _).trans hb⟩
  · have t0 : (bits .and .u64 (u (c 18)) 1 == 0) = false := by rw [lsb0, h]; rfl
    have t1 : (bits .and .u64 (u (c 18)) 1 == 1) = true := by rw [lsb0', h]
    have H : Hid (u (c 20) = u (cyc c e)) := Lib.hid (by unfold cyc; rw [if_pos h])
    clear h
    go_enter Try.func25, Try.ntmps25
    go_wp2
    go_ret
    exact ⟨by rw [← H.out]; rfl, (((On.refl w).alloc _).alloc _).trans hb⟩
theorem cyc_at (c e : Nat → BitVec 64) (p q : Bool) (w : World) :
    Calls Try.prog 24 #[.agg (cV c), .agg (eV e p q)] w fun r w' => r = .returned (.int .u64 (u (cyc c e))) ∧ w' = ((w.alloc (.cells (cV c) 25)).alloc (.cells (eV e p q) 27)) := by
  have HC : ∀ wr, On ((w.alloc (.cells (cV c) 25)).alloc (.cells (eV e p q) 27)) wr → wr.heap[w.heap.size]? = some (.cells (cV c) 25 (0, 0)) := fun _ h => h.keep (((On.refl _).alloc _).keep (heap_alloc_new _ _))
  have HE : ∀ wr, On ((w.alloc (.cells (cV c) 25)).alloc (.cells (eV e p q) 27)) wr → wr.heap[w.heap.size + 1]? = some (.cells (eV e p q) 27 (0, 0)) := fun _ h => h.keep (box2 _ _ _)
  have c18 : ∀ wr, On ((w.alloc (.cells (cV c) 25)).alloc (.cells (eV e p q) 27)) wr → wr.cell? ⟨w.heap.size, 18, none⟩ = some (.int .u64 (u (c 18))) := fun _ h => blk_cell (HC _ h) 18 (cV_get c 18 (by omega))
  have c20 : ∀ wr, On ((w.alloc (.cells (cV c) 25)).alloc (.cells (eV e p q) 27)) wr → wr.cell? ⟨w.heap.size, 20, none⟩ = some (.int .u64 (u (c 20))) := fun _ h => blk_cell (HC _ h) 20 (cV_get c 20 (by omega))
  have c21 : ∀ wr, On ((w.alloc (.cells (cV c) 25)).alloc (.cells (eV e p q) 27)) wr → wr.cell? ⟨w.heap.size, 21, none⟩ = some (.int .u64 (u (c 21))) := fun _ h => blk_cell (HC _ h) 21 (cV_get c 21 (by omega))
  have e0 : ∀ wr, On ((w.alloc (.cells (cV c) 25)).alloc (.cells (eV e p q) 27)) wr → wr.cell? ⟨w.heap.size + 1, 0, none⟩ = some (.int .u64 (u (e 0))) := fun _ h => blk_cell (HE _ h) 0 (eV_get e p q 0 (by omega))
  have hb := On.refl ((w.alloc (.cells (cV c) 25)).alloc (.cells (eV e p q) 27))
  cases h : (c 18).getLsbD 0
  · have t0 : (bits .and .u64 (u (c 18)) 1 == 0) = true := by rw [lsb0, h]; rfl
    have t1 : (bits .and .u64 (u (c 18)) 1 == 1) = false := by rw [lsb0', h]
    have H : Hid (IntKind.u64.wrap (u (c 20) + IntKind.u64.wrap (u (e 0) - u (c 21))) = u (cyc c e)) := Lib.hid (by rw [u_sub, u_add]; unfold cyc; rw [if_neg (by rw [h]; simp)])
    clear h
    go_enter Try.func24, Try.ntmps24
    go_wp2
    go_ret
    exact ⟨by rw [← H.out]; rfl, rfl⟩
  · have t0 : (bits .and .u64 (u (c 18)) 1 == 0) = false := by rw [lsb0, h]; rfl
    have t1 : (bits .and .u64 (u (c 18)) 1 == 1) = true := by rw [lsb0', h]
    have H : Hid (u (c 20) = u (cyc c e)) := Lib.hid (by unfold cyc; rw [if_pos h])
    clear h
    go_enter Try.func24, Try.ntmps24
    go_wp2
    go_ret
    exact ⟨by rw [← H.out]; rfl, rfl⟩
theorem rcyc_at (c e : Nat → BitVec 64) (p q : Bool) (w : World) :
    Calls Try.prog 25 #[.agg (cV c), .agg (eV e p q)] w fun r w' => r = .returned (.int .u64 (u (cyc c e))) ∧ w' = ((w.alloc (.cells (cV c) 25)).alloc (.cells (eV e p q) 27)) := by
  have HC : ∀ wr, On ((w.alloc (.cells (cV c) 25)).alloc (.cells (eV e p q) 27)) wr → wr.heap[w.heap.size]? = some (.cells (cV c) 25 (0, 0)) := fun _ h => h.keep (((On.refl _).alloc _).keep (heap_alloc_new _ _))
  have HE : ∀ wr, On ((w.alloc (.cells (cV c) 25)).alloc (.cells (eV e p q) 27)) wr → wr.heap[w.heap.size + 1]? = some (.cells (eV e p q) 27 (0, 0)) := fun _ h => h.keep (box2 _ _ _)
  have c18 : ∀ wr, On ((w.alloc (.cells (cV c) 25)).alloc (.cells (eV e p q) 27)) wr → wr.cell? ⟨w.heap.size, 18, none⟩ = some (.int .u64 (u (c 18))) := fun _ h => blk_cell (HC _ h) 18 (cV_get c 18 (by omega))
  have c20 : ∀ wr, On ((w.alloc (.cells (cV c) 25)).alloc (.cells (eV e p q) 27)) wr → wr.cell? ⟨w.heap.size, 20, none⟩ = some (.int .u64 (u (c 20))) := fun _ h => blk_cell (HC _ h) 20 (cV_get c 20 (by omega))
  have c21 : ∀ wr, On ((w.alloc (.cells (cV c) 25)).alloc (.cells (eV e p q) 27)) wr → wr.cell? ⟨w.heap.size, 21, none⟩ = some (.int .u64 (u (c 21))) := fun _ h => blk_cell (HC _ h) 21 (cV_get c 21 (by omega))
  have e0 : ∀ wr, On ((w.alloc (.cells (cV c) 25)).alloc (.cells (eV e p q) 27)) wr → wr.cell? ⟨w.heap.size + 1, 0, none⟩ = some (.int .u64 (u (e 0))) := fun _ h => blk_cell (HE _ h) 0 (eV_get e p q 0 (by omega))
  have hb := On.refl ((w.alloc (.cells (cV c) 25)).alloc (.cells (eV e p q) 27))
  cases h : (c 18).getLsbD 0
  · have t0 : (bits .and .u64 (u (c 18)) 1 == 0) = true := by rw [lsb0, h]; rfl
    have t1 : (bits .and .u64 (u (c 18)) 1 == 1) = false := by rw [lsb0', h]
    have H : Hid (IntKind.u64.wrap (u (c 20) + IntKind.u64.wrap (u (e 0) - u (c 21))) = u (cyc c e)) := Lib.hid (by rw [u_sub, u_add]; unfold cyc; rw [if_neg (by rw [h]; simp)])
    clear h
    go_enter Try.func25, Try.ntmps25
    go_wp2
    go_ret
    exact ⟨by rw [← H.out]; rfl, rfl⟩
  · have t0 : (bits .and .u64 (u (c 18)) 1 == 0) = false := by rw [lsb0, h]; rfl
    have t1 : (bits .and .u64 (u (c 18)) 1 == 1) = true := by rw [lsb0', h]
    have H : Hid (u (c 20) = u (cyc c e)) := Lib.hid (by unfold cyc; rw [if_pos h])
    clear h
    go_enter Try.func25, Try.ntmps25
    go_wp2
    go_ret
    exact ⟨by rw [← H.out]; rfl, rfl⟩
set_option maxHeartbeats 800000 in
theorem cntd_any (c : Nat → BitVec 64) (r o : Bool) (w : World) :
    Calls Try.prog 26 #[.agg (cV c), .bool r, .bool o] w fun e w' => e = .returned (.agg (cV (cntd c r o))) ∧ On w w' := by
  have hZ := fun w => csr_zero w
  have H1 : IntKind.u64.wrap (u (c 19) + 1) = u (c 19 + 1#64) := u_add (c 19) 1#64
  have S := fun v => cV_set c 19 v
  have HO : Hid (∀ c' c'', On w ((w.alloc (.cells (cV c') 25)).alloc (.cells (cV c'') 25))) := Lib.hid (fun _ _ => ((On.refl w).alloc _).alloc _)
  have c18 := blk_cell (box1 w (.cells (cV c) 25) (.cells (cV zC) 25)) 18 (cV_get c 18 (by omega))
  have c19 := blk_cell (box1 w (.cells (cV c) 25) (.cells (cV zC) 25)) 19 (cV_get c 19 (by omega))
  have f19 := blk_free (box1 w (.cells (cV c) 25) (.cells (cV zC) 25)) 19
  have L0 := lsb2 (c 18)
  cases h : (c 18).getLsbD 2 <;> cases r <;> cases o
  · have L : _ = true := L0.trans (by rw [h]; rfl)
    have HD : Hid (c = cntd c false false) := Lib.hid (by unfold cntd; rfl)
    clear h L0
    go_enter Try.func26, Try.ntmps26
    go_wp2_with (first | (apply csr_ld; (case hgd => exact rfl); (case ho => exact rfl); (case hx => exact rfl); (case hg => exact box1 _ _ _)) | (apply csr_st; (case hgd => exact rfl); (case ho => exact rfl); (case hx => exact rfl); (case hy => exact rfl); (case hg => exact box2 _ _ _)))
    refine row_back csrT rfl rfl rfl (set_row (box2 _ _ _)) (cV_size _) ⟨by rw [← HD.out], (HO.out _ _).row _ _ (by omega)⟩
  · have L : _ = true := L0.trans (by rw [h]; rfl)
    have HD : Hid (c = cntd c false true) := Lib.hid (by unfold cntd; rfl)
    clear h L0
    go_enter Try.func26, Try.ntmps26
    go_wp2_with (first | (apply csr_ld; (case hgd => exact rfl); (case ho => exact rfl); (case hx => exact rfl); (case hg => exact box1 _ _ _)) | (apply csr_st; (case hgd => exact rfl); (case ho => exact rfl); (case hx => exact rfl); (case hy => exact rfl); (case hg => exact box2 _ _ _)))
    refine row_back csrT rfl rfl rfl (set_row (box2 _ _ _)) (cV_size _) ⟨by rw [← HD.out], (HO.out _ _).row _ _ (by omega)⟩
  · have L : _ = true := L0.trans (by rw [h]; rfl)
    have HD : Hid (upd c 19 (c 19 + 1#64) = cntd c true false) := Lib.hid (by unfold cntd; rw [h]; rfl)
    clear h L0
    go_enter Try.func26, Try.ntmps26
    go_wp2_with (first | (apply csr_ld; (case hgd => exact rfl); (case ho => exact rfl); (case hx => exact rfl); (case hg => exact box1 _ _ _)) | (apply csr_st; (case hgd => exact rfl); (case ho => exact rfl); (case hx => exact rfl); (case hy => exact rfl); (case hg => exact box2 _ _ _)))
    refine row_back csrT rfl rfl rfl (set_row (box2 _ _ _)) (cV_size _) ⟨by rw [← HD.out], (HO.out _ _).row _ _ (by omega)⟩
  · have L : _ = true := L0.trans (by rw [h]; rfl)
    have HD : Hid (c = cntd c true true) := Lib.hid (by unfold cntd; rfl)
    clear h L0
    go_enter Try.func26, Try.ntmps26
    go_wp2_with (first | (apply csr_ld; (case hgd => exact rfl); (case ho => exact rfl); (case hx => exact rfl); (case hg => exact box1 _ _ _)) | (apply csr_st; (case hgd => exact rfl); (case ho => exact rfl); (case hx => exact rfl); (case hy => exact rfl); (case hg => exact box2 _ _ _)))
    refine row_back csrT rfl rfl rfl (set_row (box2 _ _ _)) (cV_size _) ⟨by rw [← HD.out], (HO.out _ _).row _ _ (by omega)⟩
  · have L : _ = false := L0.trans (by rw [h]; rfl)
    have HD : Hid (c = cntd c false false) := Lib.hid (by unfold cntd; rfl)
    clear h L0
    go_enter Try.func26, Try.ntmps26
    go_wp2_with (first | (apply csr_ld; (case hgd => exact rfl); (case ho => exact rfl); (case hx => exact rfl); (case hg => exact box1 _ _ _)) | (apply csr_st; (case hgd => exact rfl); (case ho => exact rfl); (case hx => exact rfl); (case hy => exact rfl); (case hg => exact box2 _ _ _)))
    refine row_back csrT rfl rfl rfl (set_row (box2 _ _ _)) (cV_size _) ⟨by rw [← HD.out], (HO.out _ _).row _ _ (by omega)⟩
  · have L : _ = false := L0.trans (by rw [h]; rfl)
    have HD : Hid (c = cntd c false true) := Lib.hid (by unfold cntd; rfl)
    clear h L0
    go_enter Try.func26, Try.ntmps26
    go_wp2_with (first | (apply csr_ld; (case hgd => exact rfl); (case ho => exact rfl); (case hx => exact rfl); (case hg => exact box1 _ _ _)) | (apply csr_st; (case hgd => exact rfl); (case ho => exact rfl); (case hx => exact rfl); (case hy => exact rfl); (case hg => exact box2 _ _ _)))
    refine row_back csrT rfl rfl rfl (set_row (box2 _ _ _)) (cV_size _) ⟨by rw [← HD.out], (HO.out _ _).row _ _ (by omega)⟩
  · have L : _ = false := L0.trans (by rw [h]; rfl)
    have HD : Hid (c = cntd c true false) := Lib.hid (by unfold cntd; rw [h]; rfl)
    clear h L0
    go_enter Try.func26, Try.ntmps26
    go_wp2_with (first | (apply csr_ld; (case hgd => exact rfl); (case ho => exact rfl); (case hx => exact rfl); (case hg => exact box1 _ _ _)) | (apply csr_st; (case hgd => exact rfl); (case ho => exact rfl); (case hx => exact rfl); (case hy => exact rfl); (case hg => exact box2 _ _ _)))
    refine row_back csrT rfl rfl rfl (set_row (box2 _ _ _)) (cV_size _) ⟨by rw [← HD.out], (HO.out _ _).row _ _ (by omega)⟩
  · have L : _ = false := L0.trans (by rw [h]; rfl)
    have HD : Hid (c = cntd c true true) := Lib.hid (by unfold cntd; rfl)
    clear h L0
    go_enter Try.func26, Try.ntmps26
    go_wp2_with (first | (apply csr_ld; (case hgd => exact rfl); (case ho => exact rfl); (case hx => exact rfl); (case hg => exact box1 _ _ _)) | (apply csr_st; (case hgd => exact rfl); (case ho => exact rfl); (case hx => exact rfl); (case hy => exact rfl); (case hg => exact box2 _ _ _)))
    refine row_back csrT rfl rfl rfl (set_row (box2 _ _ _)) (cV_size _) ⟨by rw [← HD.out], (HO.out _ _).row _ _ (by omega)⟩
set_option maxHeartbeats 800000 in
theorem rcntd_any (c : Nat → BitVec 64) (r o : Bool) (w : World) :
    Calls Try.prog 27 #[.agg (cV c), .bool r, .bool o] w fun e w' => e = .returned (.agg (cV (cntd c r o))) ∧ On w w' := by
  have hZ := fun w => csr_zero w
  have H1 : IntKind.u64.wrap (u (c 19) + 1) = u (c 19 + 1#64) := u_add (c 19) 1#64
  have S := fun v => cV_set c 19 v
  have HO : Hid (∀ c' c'', On w ((w.alloc (.cells (cV c') 25)).alloc (.cells (cV c'') 25))) := Lib.hid (fun _ _ => ((On.refl w).alloc _).alloc _)
  have c18 := blk_cell (box1 w (.cells (cV c) 25) (.cells (cV zC) 25)) 18 (cV_get c 18 (by omega))
  have c19 := blk_cell (box1 w (.cells (cV c) 25) (.cells (cV zC) 25)) 19 (cV_get c 19 (by omega))
  have f19 := blk_free (box1 w (.cells (cV c) 25) (.cells (cV zC) 25)) 19
  have L0 := lsb2 (c 18)
  cases h : (c 18).getLsbD 2 <;> cases r <;> cases o
  · have L : _ = true := L0.trans (by rw [h]; rfl)
    have HD : Hid (c = cntd c false false) := Lib.hid (by unfold cntd; rfl)
    clear h L0
    go_enter Try.func27, Try.ntmps27
    go_wp2_with (first | (apply csr_ld; (case hgd => exact rfl); (case ho => exact rfl); (case hx => exact rfl); (case hg => exact box1 _ _ _)) | (apply csr_st; (case hgd => exact rfl); (case ho => exact rfl); (case hx => exact rfl); (case hy => exact rfl); (case hg => exact box2 _ _ _)))
    refine row_back csrT rfl rfl rfl (set_row (box2 _ _ _)) (cV_size _) ⟨by rw [← HD.out], (HO.out _ _).row _ _ (by omega)⟩
  · have L : _ = true := L0.trans (by rw [h]; rfl)
    have HD : Hid (c = cntd c false true) := Lib.hid (by unfold cntd; rfl)
    clear h L0
    go_enter Try.func27, Try.ntmps27
    go_wp2_with (first | (apply csr_ld; (case hgd => exact rfl); (case ho => exact rfl); (case hx => exact rfl); (case hg => exact box1 _ _ _)) | (apply csr_st; (case hgd => exact rfl); (case ho => exact rfl); (case hx => exact rfl); (case hy => exact rfl); (case hg => exact box2 _ _ _)))
    refine row_back csrT rfl rfl rfl (set_row (box2 _ _ _)) (cV_size _) ⟨by rw [← HD.out], (HO.out _ _).row _ _ (by omega)⟩
  · have L : _ = true := L0.trans (by rw [h]; rfl)
    have HD : Hid (upd c 19 (c 19 + 1#64) = cntd c true false) := Lib.hid (by unfold cntd; rw [h]; rfl)
    clear h L0
    go_enter Try.func27, Try.ntmps27
    go_wp2_with (first | (apply csr_ld; (case hgd => exact rfl); (case ho => exact rfl); (case hx => exact rfl); (case hg => exact box1 _ _ _)) | (apply csr_st; (case hgd => exact rfl); (case ho => exact rfl); (case hx => exact rfl); (case hy => exact rfl); (case hg => exact box2 _ _ _)))
    refine row_back csrT rfl rfl rfl (set_row (box2 _ _ _)) (cV_size _) ⟨by rw [← HD.out], (HO.out _ _).row _ _ (by omega)⟩
  · have L : _ = true := L0.trans (by rw [h]; rfl)
    have HD : Hid (c = cntd c true true) := Lib.hid (by unfold cntd; rfl)
    clear h L0
    go_enter Try.func27, Try.ntmps27
    go_wp2_with (first | (apply csr_ld; (case hgd => exact rfl); (case ho => exact rfl); (case hx => exact rfl); (case hg => exact box1 _ _ _)) | (apply csr_st; (case hgd => exact rfl); (case ho => exact rfl); (case hx => exact rfl); (case hy => exact rfl); (case hg => exact box2 _ _ _)))
    refine row_back csrT rfl rfl rfl (set_row (box2 _ _ _)) (cV_size _) ⟨by rw [← HD.out], (HO.out _ _).row _ _ (by omega)⟩
  · have L : _ = false := L0.trans (by rw [h]; rfl)
    have HD : Hid (c = cntd c false false) := Lib.hid (by unfold cntd; rfl)
    clear h L0
    go_enter Try.func27, Try.ntmps27
    go_wp2_with (first | (apply csr_ld; (case hgd => exact rfl); (case ho => exact rfl); (case hx => exact rfl); (case hg => exact box1 _ _ _)) | (apply csr_st; (case hgd => exact rfl); (case ho => exact rfl); (case hx => exact rfl); (case hy => exact rfl); (case hg => exact box2 _ _ _)))
    refine row_back csrT rfl rfl rfl (set_row (box2 _ _ _)) (cV_size _) ⟨by rw [← HD.out], (HO.out _ _).row _ _ (by omega)⟩
  · have L : _ = false := L0.trans (by rw [h]; rfl)
    have HD : Hid (c = cntd c false true) := Lib.hid (by unfold cntd; rfl)
    clear h L0
    go_enter Try.func27, Try.ntmps27
    go_wp2_with (first | (apply csr_ld; (case hgd => exact rfl); (case ho => exact rfl); (case hx => exact rfl); (case hg => exact box1 _ _ _)) | (apply csr_st; (case hgd => exact rfl); (case ho => exact rfl); (case hx => exact rfl); (case hy => exact rfl); (case hg => exact box2 _ _ _)))
    refine row_back csrT rfl rfl rfl (set_row (box2 _ _ _)) (cV_size _) ⟨by rw [← HD.out], (HO.out _ _).row _ _ (by omega)⟩
  · have L : _ = false := L0.trans (by rw [h]; rfl)
    have HD : Hid (c = cntd c true false) := Lib.hid (by unfold cntd; rw [h]; rfl)
    clear h L0
    go_enter Try.func27, Try.ntmps27
    go_wp2_with (first | (apply csr_ld; (case hgd => exact rfl); (case ho => exact rfl); (case hx => exact rfl); (case hg => exact box1 _ _ _)) | (apply csr_st; (case hgd => exact rfl); (case ho => exact rfl); (case hx => exact rfl); (case hy => exact rfl); (case hg => exact box2 _ _ _)))
    refine row_back csrT rfl rfl rfl (set_row (box2 _ _ _)) (cV_size _) ⟨by rw [← HD.out], (HO.out _ _).row _ _ (by omega)⟩
  · have L : _ = false := L0.trans (by rw [h]; rfl)
    have HD : Hid (c = cntd c true true) := Lib.hid (by unfold cntd; rfl)
    clear h L0
    go_enter Try.func27, Try.ntmps27
    go_wp2_with (first | (apply csr_ld; (case hgd => exact rfl); (case ho => exact rfl); (case hx => exact rfl); (case hg => exact box1 _ _ _)) | (apply csr_st; (case hgd => exact rfl); (case ho => exact rfl); (case hx => exact rfl); (case hy => exact rfl); (case hg => exact box2 _ _ _)))
    refine row_back csrT rfl rfl rfl (set_row (box2 _ _ _)) (cV_size _) ⟨by rw [← HD.out], (HO.out _ _).row _ _ (by omega)⟩
end Go.Proofs.Ytoobbapdjoajgaa
