/- What the small calls of package csr, and of its reference, come to. Conditions: named at each. -/
import Derived.Test.YtleolldgpoeabaaCsr
namespace Go.Proofs.Ytleolldgpoeabaa
open Go.RowKit
theorem box2 (w : World) (a b : Obj) : ((w.alloc a).alloc b).heap[w.heap.size + 1]? = some b := by
  have := heap_alloc_new (w.alloc a) b
  rw [alloc_size] at this
  exact this
theorem box1 (w : World) (a b : Obj) : ((w.alloc a).alloc b).heap[w.heap.size]? = some a := ((On.refl _).alloc _).keep (heap_alloc_new _ _)
theorem lsb0 (v : BitVec 64) : (bits .and .u64 (u v) 1 == 0) = !v.getLsbD 0 := by
  rw [show (1 : Int) = u ((1 : BitVec 64) <<< 0) from rfl, u_and, and_one_shl v 0 (by omega)]
theorem lsb0' (v : BitVec 64) : (bits .and .u64 (u v) 1 == 1) = v.getLsbD 0 := by
  have h := and1_test v 0
  rw [BitVec.ushiftRight_zero] at h
  rw [show (1 : Int) = u (1 : BitVec 64) from rfl, u_and]
  exact h
theorem lsb2 (v : BitVec 64) : (bits .and .u64 (u v) 4 == 0) = !v.getLsbD 2 := by
  rw [show (4 : Int) = u ((1 : BitVec 64) <<< 2) from rfl, u_and, and_one_shl v 2 (by omega)]
theorem lsb20 (v : BitVec 64) : (bits .and .u64 (u v) 1048576 == 0) = !v.getLsbD 20 := by
  rw [show (1048576 : Int) = u ((1 : BitVec 64) <<< 20) from rfl, u_and, and_one_shl v 20 (by omega)]

theorem pend_any (c e : Nat → BitVec 64) (p q : Bool) (w : World) :
    Calls Try.prog 44 #[.agg (cV c), .agg (eV e p q)] w fun r w' => r = .returned (.int .u64 (u (pend c e))) ∧ On w w' := by
  have H : Hid (bits .or .u64 (u (c 4)) (bits .and .u64 (u (e 2)) 2696) = u (pend c e)) := Lib.hid (by rw [show (2696 : Int) = u 0xa88#64 from rfl, u_and, u_or]; rfl)
  have HC : ∀ wr, On ((w.alloc (.cells (cV c) 26)).alloc (.cells (eV e p q) 35)) wr → wr.heap[w.heap.size]? = some (.cells (cV c) 26 (0, 0)) := fun _ h => h.keep (((On.refl _).alloc _).keep (heap_alloc_new _ _))
  have HE : ∀ wr, On ((w.alloc (.cells (cV c) 26)).alloc (.cells (eV e p q) 35)) wr → wr.heap[w.heap.size + 1]? = some (.cells (eV e p q) 35 (0, 0)) := fun _ h => h.keep (box2 _ _ _)
  have c4 : ∀ wr, On ((w.alloc (.cells (cV c) 26)).alloc (.cells (eV e p q) 35)) wr → wr.cell? ⟨w.heap.size, 4, none⟩ = some (.int .u64 (u (c 4))) := fun _ h => blk_cell (HC _ h) 4 (cV_get c 4 (by omega))
  have e2 : ∀ wr, On ((w.alloc (.cells (cV c) 26)).alloc (.cells (eV e p q) 35)) wr → wr.cell? ⟨w.heap.size + 1, 2, none⟩ = some (.int .u64 (u (e 2))) := fun _ h => blk_cell (HE _ h) 2 (eV_get e p q 2 (by omega))
  have hb := On.refl ((w.alloc (.cells (cV c) 26)).alloc (.cells (eV e p q) 35))
  go_enter Try.func44, Try.ntmps44
  go_wp2
  go_ret
  exact ⟨by rw [← H.out]; rfl, (((On.refl w).alloc _).alloc _).trans hb⟩
theorem rpend_any (c e : Nat → BitVec 64) (p q : Bool) (w : World) :
    Calls Try.prog 24 #[.agg (cV c), .agg (eV e p q)] w fun r w' => r = .returned (.int .u64 (u (pend c e))) ∧ On w w' := by
  have H : Hid (bits .or .u64 (u (c 4)) (bits .and .u64 (u (e 2)) 2696) = u (pend c e)) := Lib.hid (by rw [show (2696 : Int) = u 0xa88#64 from rfl, u_and, u_or]; rfl)
  have HC : ∀ wr, On ((w.alloc (.cells (cV c) 26)).alloc (.cells (eV e p q) 35)) wr → wr.heap[w.heap.size]? = some (.cells (cV c) 26 (0, 0)) := fun _ h => h.keep (((On.refl _).alloc _).keep (heap_alloc_new _ _))
  have HE : ∀ wr, On ((w.alloc (.cells (cV c) 26)).alloc (.cells (eV e p q) 35)) wr → wr.heap[w.heap.size + 1]? = some (.cells (eV e p q) 35 (0, 0)) := fun _ h => h.keep (box2 _ _ _)
  have c4 : ∀ wr, On ((w.alloc (.cells (cV c) 26)).alloc (.cells (eV e p q) 35)) wr → wr.cell? ⟨w.heap.size, 4, none⟩ = some (.int .u64 (u (c 4))) := fun _ h => blk_cell (HC _ h) 4 (cV_get c 4 (by omega))
  have e2 : ∀ wr, On ((w.alloc (.cells (cV c) 26)).alloc (.cells (eV e p q) 35)) wr → wr.cell? ⟨w.heap.size + 1, 2, none⟩ = some (.int .u64 (u (e 2))) := fun _ h => blk_cell (HE _ h) 2 (eV_get e p q 2 (by omega))
  have hb := On.refl ((w.alloc (.cells (cV c) 26)).alloc (.cells (eV e p q) 35))
  go_enter Try.func24, Try.ntmps24
  go_wp2
  go_ret
  exact ⟨by rw [← H.out]; rfl, (((On.refl w).alloc _).alloc _).trans hb⟩
end Go.Proofs.Ytleolldgpoeabaa
