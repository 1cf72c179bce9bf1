/- What csr.permitted and csr.Read come to. Conditions: named at each. -/
import Derived.Test.YtoobbapdjoajgaaCsrV
namespace Go.Proofs.Ytoobbapdjoajgaa
open Go.RowKit

theorem tst (v : BitVec 64) (k : Nat) (hk : k < 64) : (bits .and .u64 (u v) (u ((1 : BitVec 64) <<< k)) != 0) = v.getLsbD k := by
  rw [u_and, bne, and_one_shl v k hk, Bool.not_not]
theorem opn_far {n : Int} (h : n < 3072 ∨ 3078 < n) (c : Nat → BitVec 64) (p : Int) : opn c n p = true := by
  unfold opn
  rcases h with h | h
  · have : decide (3072 ≤ n) = false := by simp; omega
    rw [this]; rfl
  · have : decide (n ≤ 3078) = false := by simp; omega
    rw [this, Bool.and_false]; rfl
theorem opened_far (c : Nat → BitVec 64) (n p : Int) (h : n < 3072 ∨ 3078 < n) (w : World) : Calls Try.prog 45 #[.agg (cV c), .int .i64 n, .int .i64 p] w fun e w' => e = .returned (.bool (opn c n p)) ∧ On w w' := by
  have HC : ∀ wr, On (w.alloc (.cells (cV c) 25)) wr → wr.heap[w.heap.size]? = some (.cells (cV c) 25 (0, 0)) := fun _ h => h.keep ((heap_alloc_new _ _))
  have hb := On.refl (w.alloc (.cells (cV c) 25))
  have H := Lib.hid (opn_far h c p)
  by_cases h1 : n < 3072
  · clear h
    go_enter Try.func45, Try.ntmps45
    go_wp2
    go_ret
    exact ⟨by rw [H.out]; rfl, (((On.refl w).alloc _)).trans hb⟩
  · have h2 : 3078 < n := by omega
    clear h
    go_enter Try.func45, Try.ntmps45
    go_wp2
    go_ret
    exact ⟨by rw [H.out]; rfl, (((On.refl w).alloc _)).trans hb⟩
theorem opened_3072_1 (c : Nat → BitVec 64) (w : World) : Calls Try.prog 45 #[.agg (cV c), .int .i64 3072, .int .i64 1] w fun e w' => e = .returned (.bool (opn c 3072 1)) ∧ On w w' := by
  have HC : ∀ wr, On (w.alloc (.cells (cV c) 25)) wr → wr.heap[w.heap.size]? = some (.cells (cV c) 25 (0, 0)) := fun _ h => h.keep ((heap_alloc_new _ _))
  have c6 : ∀ wr, On (w.alloc (.cells (cV c) 25)) wr → wr.cell? ⟨w.heap.size, 6, none⟩ = some (.int .u64 (u (c 6))) := fun _ h => blk_cell (HC _ h) 6 (cV_get c 6 (by omega))
  have hb := On.refl (w.alloc (.cells (cV c) 25))
  have H : Hid ((bits .and .u64 (u (c 6)) 1 != 0) = opn c 3072 1) := Lib.hid ((tst (c 6) 0 (by omega)).trans (by simp [opn]))
  go_enter Try.func45, Try.ntmps45
  go_wp2
  go_ret
  exact ⟨by rw [← H.out]; rfl, (((On.refl w).alloc _)).trans hb⟩
theorem opened_3072_0 (c : Nat → BitVec 64) (w : World) : Calls Try.prog 45 #[.agg (cV c), .int .i64 3072, .int .i64 0] w fun e w' => e = .returned (.bool (opn c 3072 0)) ∧ On w w' := by
  have HC : ∀ wr, On (w.alloc (.cells (cV c) 25)) wr → wr.heap[w.heap.size]? = some (.cells (cV c) 25 (0, 0)) := fun _ h => h.keep ((heap_alloc_new _ _))
  have c6 : ∀ wr, On (w.alloc (.cells (cV c) 25)) wr → wr.cell? ⟨w.heap.size, 6, none⟩ = some (.int .u64 (u (c 6))) := fun _ h => blk_cell (HC _ h) 6 (cV_get c 6 (by omega))
  have c12 : ∀ wr, On (w.alloc (.cells (cV c) 25)) wr → wr.cell? ⟨w.heap.size, 12, none⟩ = some (.int .u64 (u (c 12))) := fun _ h => blk_cell (HC _ h) 12 (cV_get c 12 (by omega))
  have hb := On.refl (w.alloc (.cells (cV c) 25))
  have H : Hid ((bits .and .u64 (bits .and .u64 (u (c 6)) (u (c 12))) 1 != 0) = opn c 3072 0) := Lib.hid (by
    rw [u_and]; exact (tst (c 6 &&& c 12) 0 (by omega)).trans (by simp [opn]))
  go_enter Try.func45, Try.ntmps45
  go_wp2
  go_ret
  exact ⟨by rw [← H.out]; rfl, (((On.refl w).alloc _)).trans hb⟩
theorem opened_3072_3 (c : Nat → BitVec 64) (w : World) : Calls Try.prog 45 #[.agg (cV c), .int .i64 3072, .int .i64 3] w fun e w' => e = .returned (.bool (opn c 3072 3)) ∧ On w w' := by
  have HC : ∀ wr, On (w.alloc (.cells (cV c) 25)) wr → wr.heap[w.heap.size]? = some (.cells (cV c) 25 (0, 0)) := fun _ h => h.keep ((heap_alloc_new _ _))
  have hb := On.refl (w.alloc (.cells (cV c) 25))
  have H : Hid (true = opn c 3072 3) := Lib.hid (by simp [opn])
  go_enter Try.func45, Try.ntmps45
  go_wp2
  go_ret
  exact ⟨by rw [← H.out]; rfl, (((On.refl w).alloc _)).trans hb⟩
theorem opened_3073_1 (c : Nat → BitVec 64) (w : World) : Calls Try.prog 45 #[.agg (cV c), .int .i64 3073, .int .i64 1] w fun e w' => e = .returned (.bool (opn c 3073 1)) ∧ On w w' := by
  have HC : ∀ wr, On (w.alloc (.cells (cV c) 25)) wr → wr.heap[w.heap.size]? = some (.cells (cV c) 25 (0, 0)) := fun _ h => h.keep ((heap_alloc_new _ _))
  have c6 : ∀ wr, On (w.alloc (.cells (cV c) 25)) wr → wr.cell? ⟨w.heap.size, 6, none⟩ = some (.int .u64 (u (c 6))) := fun _ h => blk_cell (HC _ h) 6 (cV_get c 6 (by omega))
  have hb := On.refl (w.alloc (.cells (cV c) 25))
  have H : Hid ((bits .and .u64 (u (c 6)) 2 != 0) = opn c 3073 1) := Lib.hid ((tst (c 6) 1 (by omega)).trans (by simp [opn]))
  go_enter Try.func45, Try.ntmps45
  go_wp2
  go_ret
  exact ⟨by rw [← H.out]; rfl, (((On.refl w).alloc _)).trans hb⟩
theorem opened_3073_0 (c : Nat → BitVec 64) (w : World) : Calls Try.prog 45 #[.agg (cV c), .int .i64 3073, .int .i64 0] w fun e w' => e = .returned (.bool (opn c 3073 0)) ∧ On w w' := by
  have HC : ∀ wr, On (w.alloc (.cells (cV c) 25)) wr → wr.heap[w.heap.size]? = some (.cells (cV c) 25 (0, 0)) := fun _ h => h.keep ((heap_alloc_new _ _))
  have c6 : ∀ wr, On (w.alloc (.cells (cV c) 25)) wr → wr.cell? ⟨w.heap.size, 6, none⟩ = some (.int .u64 (u (c 6))) := fun _ h => blk_cell (HC _ h) 6 (cV_get c 6 (by omega))
  have c12 : ∀ wr, On (w.alloc (.cells (cV c) 25)) wr → wr.cell? ⟨w.heap.size, 12, none⟩ = some (.int .u64 (u (c 12))) := fun _ h => blk_cell (HC _ h) 12 (cV_get c 12 (by omega))
  have hb := On.refl (w.alloc (.cells (cV c) 25))
  have H : Hid ((bits .and .u64 (bits .and .u64 (u (c 6)) (u (c 12))) 2 != 0) = opn c 3073 0) := Lib.hid (by
    rw [u_and]; exact (tst (c 6 &&& c 12) 1 (by omega)).trans (by simp [opn]))
  go_enter Try.func45, Try.ntmps45
  go_wp2
  go_ret
  exact ⟨by rw [← H.out]; rfl, (((On.refl w).alloc _)).trans hb⟩
theorem opened_3073_3 (c : Nat → BitVec 64) (w : World) : Calls Try.prog 45 #[.agg (cV c), .int .i64 3073, .int .i64 3] w fun e w' => e = .returned (.bool (opn c 3073 3)) ∧ On w w' := by
  have HC : ∀ wr, On (w.alloc (.cells (cV c) 25)) wr → wr.heap[w.heap.size]? = some (.cells (cV c) 25 (0, 0)) := fun _ h => h.keep ((heap_alloc_new _ _))
  have hb := On.refl (w.alloc (.cells (cV c) 25))
  have H : Hid (true = opn c 3073 3) := Lib.hid (by simp [opn])
  go_enter Try.func45, Try.ntmps45
  go_wp2
  go_ret
  exact ⟨by rw [← H.out]; rfl, (((On.refl w).alloc _)).trans hb⟩
theorem opened_3074_1 (c : Nat → BitVec 64) (w : World) : Calls Try.prog 45 #[.agg (cV c), .int .i64 3074, .int .i64 1] w fun e w' => e = .returned (.bool (opn c 3074 1)) ∧ On w w' := by
  have HC : ∀ wr, On (w.alloc (.cells (cV c) 25)) wr → wr.heap[w.heap.size]? = some (.cells (cV c) 25 (0, 0)) := fun _ h => h.keep ((heap_alloc_new _ _))
  have c6 : ∀ wr, On (w.alloc (.cells (cV c) 25)) wr → wr.cell? ⟨w.heap.size, 6, none⟩ = some (.int .u64 (u (c 6))) := fun _ h => blk_cell (HC _ h) 6 (cV_get c 6 (by omega))
  have hb := On.refl (w.alloc (.cells (cV c) 25))
  have H : Hid ((bits .and .u64 (u (c 6)) 4 != 0) = opn c 3074 1) := Lib.hid ((tst (c 6) 2 (by omega)).trans (by simp [opn]))
  go_enter Try.func45, Try.ntmps45
  go_wp2
  go_ret
  exact ⟨by rw [← H.out]; rfl, (((On.refl w).alloc _)).trans hb⟩
theorem opened_3074_0 (c : Nat → BitVec 64) (w : World) : Calls Try.prog 45 #[.agg (cV c), .int .i64 3074, .int .i64 0] w fun e w' => e = .returned (.bool (opn c 3074 0)) ∧ On w w' := by
  have HC : ∀ wr, On (w.alloc (.cells (cV c) 25)) wr → wr.heap[w.heap.size]? = some (.cells (cV c) 25 (0, 0)) := fun _ h => h.keep ((heap_alloc_new _ _))
  have c6 : ∀ wr, On (w.alloc (.cells (cV c) 25)) wr → wr.cell? ⟨w.heap.size, 6, none⟩ = some (.int .u64 (u (c 6))) := fun _ h => blk_cell (HC _ h) 6 (cV_get c 6 (by omega))
  have c12 : ∀ wr, On (w.alloc (.cells (cV c) 25)) wr → wr.cell? ⟨w.heap.size, 12, none⟩ = some (.int .u64 (u (c 12))) := fun _ h => blk_cell (HC _ h) 12 (cV_get c 12 (by omega))
  have hb := On.refl (w.alloc (.cells (cV c) 25))
  have H : Hid ((bits .and .u64 (bits .and .u64 (u (c 6)) (u (c 12))) 4 != 0) = opn c 3074 0) := Lib.hid (by
    rw [u_and]; exact (tst (c 6 &&& c 12) 2 (by omega)).trans (by simp [opn]))
  go_enter Try.func45, Try.ntmps45
  go_wp2
  go_ret
  exact ⟨by rw [← H.out]; rfl, (((On.refl w).alloc _)).trans hb⟩
theorem opened_3074_3 (c : Nat → BitVec 64) (w : World) : Calls Try.prog 45 #[.agg (cV c), .int .i64 3074, .int .i64 3] w fun e w' => e = .returned (.bool (opn c 3074 3)) ∧ On w w' := by
  have HC : ∀ wr, On (w.alloc (.cells (cV c) 25)) wr → wr.heap[w.heap.size]? = some (.cells (cV c) 25 (0, 0)) := fun _ h => h.keep ((heap_alloc_new _ _))
  have hb := On.refl (w.alloc (.cells (cV c) 25))
  have H : Hid (true = opn c 3074 3) := Lib.hid (by simp [opn])
  go_enter Try.func45, Try.ntmps45
  go_wp2
  go_ret
  exact ⟨by rw [← H.out]; rfl, (((On.refl w).alloc _)).trans hb⟩
theorem opened_3075_1 (c : Nat → BitVec 64) (w : World) : Calls Try.prog 45 #[.agg (cV c), .int .i64 3075, .int .i64 1] w fun e w' => e = .returned (.bool (opn c 3075 1)) ∧ On w w' := by
  have HC : ∀ wr, On (w.alloc (.cells (cV c) 25)) wr → wr.heap[w.heap.size]? = some (.cells (cV c) 25 (0, 0)) := fun _ h => h.keep ((heap_alloc_new _ _))
  have c6 : ∀ wr, On (w.alloc (.cells (cV c) 25)) wr → wr.cell? ⟨w.heap.size, 6, none⟩ = some (.int .u64 (u (c 6))) := fun _ h => blk_cell (HC _ h) 6 (cV_get c 6 (by omega))
  have hb := On.refl (w.alloc (.cells (cV c) 25))
  have H : Hid ((bits .and .u64 (u (c 6)) 8 != 0) = opn c 3075 1) := Lib.hid ((tst (c 6) 3 (by omega)).trans (by simp [opn]))
  go_enter Try.func45, Try.ntmps45
  go_wp2
  go_ret
  exact ⟨by rw [← H.out]; rfl, (((On.refl w).alloc _)).trans hb⟩
theorem opened_3075_0 (c : Nat → BitVec 64) (w : World) : Calls Try.prog 45 #[.agg (cV c), .int .i64 3075, .int .i64 0] w fun e w' => e = .returned (.bool (opn c 3075 0)) ∧ On w w' := by
  have HC : ∀ wr, On (w.alloc (.cells (cV c) 25)) wr → wr.heap[w.heap.size]? = some (.cells (cV c) 25 (0, 0)) := fun _ h => h.keep ((heap_alloc_new _ _))
  have c6 : ∀ wr, On (w.alloc (.cells (cV c) 25)) wr → wr.cell? ⟨w.heap.size, 6, none⟩ = some (.int .u64 (u (c 6))) := fun _ h => blk_cell (HC _ h) 6 (cV_get c 6 (by omega))
  have c12 : ∀ wr, On (w.alloc (.cells (cV c) 25)) wr → wr.cell? ⟨w.heap.size, 12, none⟩ = some (.int .u64 (u (c 12))) := fun _ h => blk_cell (HC _ h) 12 (cV_get c 12 (by omega))
  have hb := On.refl (w.alloc (.cells (cV c) 25))
  have H : Hid ((bits .and .u64 (bits .and .u64 (u (c 6)) (u (c 12))) 8 != 0) = opn c 3075 0) := Lib.hid (by
    rw [u_and]; exact (tst (c 6 &&& c 12) 3 (by omega)).trans (by simp [opn]))
  go_enter Try.func45, Try.ntmps45
  go_wp2
  go_ret
  exact ⟨by rw [← H.out]; rfl, (((On.refl w).alloc _)).trans hb⟩
theorem opened_3075_3 (c : Nat → BitVec 64) (w : World) : Calls Try.prog 45 #[.agg (cV c), .int .i64 3075, .int .i64 3] w fun e w' => e = .returned (.bool (opn c 3075 3)) ∧ On w w' := by
  have HC : ∀ wr, On (w.alloc (.cells (cV c) 25)) wr → wr.heap[w.heap.size]? = some (.cells (cV c) 25 (0, 0)) := fun _ h => h.keep ((heap_alloc_new _ _))
  have hb := On.refl (w.alloc (.cells (cV c) 25))
  have H : Hid (true = opn c 3075 3) := Lib.hid (by simp [opn])
  go_enter Try.func45, Try.ntmps45
  go_wp2
  go_ret
  exact ⟨by rw [← H.out]; rfl, (((On.refl w).alloc _)).trans hb⟩
theorem opened_3076_1 (c : Nat → BitVec 64) (w : World) : Calls Try.prog 45 #[.agg (cV c), .int .i64 3076, .int .i64 1] w fun e w' => e = .returned (.bool (opn c 3076 1)) ∧ On w w' := by
  have HC : ∀ wr, On (w.alloc (.cells (cV c) 25)) wr → wr.heap[w.heap.size]? = some (.cells (cV c) 25 (0, 0)) := fun _ h => h.keep ((heap_alloc_new _ _))
  have c6 : ∀ wr, On (w.alloc (.cells (cV c) 25)) wr → wr.cell? ⟨w.heap.size, 6, none⟩ = some (.int .u64 (u (c 6))) := fun _ h => blk_cell (HC _ h) 6 (cV_get c 6 (by omega))
  have hb := On.refl (w.alloc (.cells (cV c) 25))
  have H : Hid ((bits .and .u64 (u (c 6)) 16 != 0) = opn c 3076 1) := Lib.hid ((tst (c 6) 4 (by omega)).trans (by simp [opn]))
  go_enter Try.func45, Try.ntmps45
  go_wp2
  go_ret
  exact ⟨by rw [← H.out]; rfl, (((On.refl w).alloc _)).trans hb⟩
theorem opened_3076_0 (c : Nat → BitVec 64) (w : World) : Calls Try.prog 45 #[.agg (cV c), .int .i64 3076, .int .i64 0] w fun e w' => e = .returned (.bool (opn c 3076 0)) ∧ On w w' := by
  have HC : ∀ wr, On (w.alloc (.cells (cV c) 25)) wr → wr.heap[w.heap.size]? = some (.cells (cV c) 25 (0, 0)) := fun _ h => h.keep ((heap_alloc_new _ _))
  have c6 : ∀ wr, On (w.alloc (.cells (cV c) 25)) wr → wr.cell? ⟨w.heap.size, 6, none⟩ = some (.int .u64 (u (c 6))) := fun _ h => blk_cell (HC _ h) 6 (cV_get c 6 (by omega))
  have c12 : ∀ wr, On (w.alloc (.cells (cV c) 25)) wr → wr.cell? ⟨w.heap.size, 12, none⟩ = some (.int .u64 (u (c 12))) := fun _ h => blk_cell (HC _ h) 12 (cV_get c 12 (by omega))
  have hb := On.refl (w.alloc (.cells (cV c) 25))
  have H : Hid ((bits .and .u64 (bits .and .u64 (u (c 6)) (u (c 12))) 16 != 0) = opn c 3076 0) := Lib.hid (by
    rw [u_and]; exact (tst (c 6 &&& c 12) 4 (by omega)).trans (by simp [opn]))
  go_enter Try.func45, Try.ntmps45
  go_wp2
  go_ret
  exact ⟨by rw [← H.out]; rfl, (((On.refl w).alloc _)).trans hb⟩
theorem opened_3076_3 (c : Nat → BitVec 64) (w : World) : Calls Try.prog 45 #[.agg (cV c), .int .i64 3076, .int .i64 3] w fun e w' => e = .returned (.bool (opn c 3076 3)) ∧ On w w' := by
  have HC : ∀ wr, On (w.alloc (.cells (cV c) 25)) wr → wr.heap[w.heap.size]? = some (.cells (cV c) 25 (0, 0)) := fun _ h => h.keep ((heap_alloc_new _ _))
  have hb := On.refl (w.alloc (.cells (cV c) 25))
  have H : Hid (true = opn c 3076 3) := Lib.hid (by simp [opn])
  go_enter Try.func45, Try.ntmps45
  go_wp2
  go_ret
  exact ⟨by rw [← H.out]; rfl, (((On.refl w).alloc _)).trans hb⟩
theorem opened_3077_1 (c : Nat → BitVec 64) (w : World) : Calls Try.prog 45 #[.agg (cV c), .int .i64 3077, .int .i64 1] w fun e w' => e = .returned (.bool (opn c 3077 1)) ∧ On w w' := by
  have HC : ∀ wr, On (w.alloc (.cells (cV c) 25)) wr → wr.heap[w.heap.size]? = some (.cells (cV c) 25 (0, 0)) := fun _ h => h.keep ((heap_alloc_new _ _))
  have c6 : ∀ wr, On (w.alloc (.cells (cV c) 25)) wr → wr.cell? ⟨w.heap.size, 6, none⟩ = some (.int .u64 (u (c 6))) := fun _ h => blk_cell (HC _ h) 6 (cV_get c 6 (by omega))
  have hb := On.refl (w.alloc (.cells (cV c) 25))
  have H : Hid ((bits .and .u64 (u (c 6)) 32 != 0) = opn c 3077 1) := Lib.hid ((tst (c 6) 5 (by omega)).trans (by simp [opn]))
  go_enter Try.func45, Try.ntmps45
  go_wp2
  go_ret
  exact ⟨by rw [← H.out]; rfl, (((On.refl w).alloc _)).trans hb⟩
theorem opened_3077_0 (c : Nat → BitVec 64) (w : World) : Calls Try.prog 45 #[.agg (cV c), .int .i64 3077, .int .i64 0] w fun e w' => e = .returned (.bool (opn c 3077 0)) ∧ On w w' := by
  have HC : ∀ wr, On (w.alloc (.cells (cV c) 25)) wr → wr.heap[w.heap.size]? = some (.cells (cV c) 25 (0, 0)) := fun _ h => h.keep ((heap_alloc_new _ _))
  have c6 : ∀ wr, On (w.alloc (.cells (cV c) 25)) wr → wr.cell? ⟨w.heap.size, 6, none⟩ = some (.int .u64 (u (c 6))) := fun _ h => blk_cell (HC _ h) 6 (cV_get c 6 (by omega))
  have c12 : ∀ wr, On (w.alloc (.cells (cV c) 25)) wr → wr.cell? ⟨w.heap.size, 12, none⟩ = some (.int .u64 (u (c 12))) := fun _ h => blk_cell (HC _ h) 12 (cV_get c 12 (by omega))
  have hb := On.refl (w.alloc (.cells (cV c) 25))
  have H : Hid ((bits .and .u64 (bits .and .u64 (u (c 6)) (u (c 12))) 32 != 0) = opn c 3077 0) := Lib.hid (by
    rw [u_and]; exact (tst (c 6 &&& c 12) 5 (by omega)).trans (by simp [opn]))
  go_enter Try.func45, Try.ntmps45
  go_wp2
  go_ret
  exact ⟨by rw [← H.out]; rfl, (((On.refl w).alloc _)).trans hb⟩
theorem opened_3077_3 (c : Nat → BitVec 64) (w : World) : Calls Try.prog 45 #[.agg (cV c), .int .i64 3077, .int .i64 3] w fun e w' => e = .returned (.bool (opn c 3077 3)) ∧ On w w' := by
  have HC : ∀ wr, On (w.alloc (.cells (cV c) 25)) wr → wr.heap[w.heap.size]? = some (.cells (cV c) 25 (0, 0)) := fun _ h => h.keep ((heap_alloc_new _ _))
  have hb := On.refl (w.alloc (.cells (cV c) 25))
  have H : Hid (true = opn c 3077 3) := Lib.hid (by simp [opn])
  go_enter Try.func45, Try.ntmps45
  go_wp2
  go_ret
  exact ⟨by rw [← H.out]; rfl, (((On.refl w).alloc _)).trans hb⟩
theorem opened_3078_1 (c : Nat → BitVec 64) (w : World) : Calls Try.prog 45 #[.agg (cV c), .int .i64 3078, .int .i64 1] w fun e w' => e = .returned (.bool (opn c 3078 1)) ∧ On w w' := by
  have HC : ∀ wr, On (w.alloc (.cells (cV c) 25)) wr → wr.heap[w.heap.size]? = some (.cells (cV c) 25 (0, 0)) := fun _ h => h.keep ((heap_alloc_new _ _))
  have c6 : ∀ wr, On (w.alloc (.cells (cV c) 25)) wr → wr.cell? ⟨w.heap.size, 6, none⟩ = some (.int .u64 (u (c 6))) := fun _ h => blk_cell (HC _ h) 6 (cV_get c 6 (by omega))
  have hb := On.refl (w.alloc (.cells (cV c) 25))
  have H : Hid ((bits .and .u64 (u (c 6)) 64 != 0) = opn c 3078 1) := Lib.hid ((tst (c 6) 6 (by omega)).trans (by simp [opn]))
  go_enter Try.func45, Try.ntmps45
  go_wp2
  go_ret
  exact ⟨by rw [← H.out]; rfl, (((On.refl w).alloc _)).trans hb⟩
theorem opened_3078_0 (c : Nat → BitVec 64) (w : World) : Calls Try.prog 45 #[.agg (cV c), .int .i64 3078, .int .i64 0] w fun e w' => e = .returned (.bool (opn c 3078 0)) ∧ On w w' := by
  have HC : ∀ wr, On (w.alloc (.cells (cV c) 25)) wr → wr.heap[w.heap.size]? = some (.cells (cV c) 25 (0, 0)) := fun _ h => h.keep ((heap_alloc_new _ _))
  have c6 : ∀ wr, On (w.alloc (.cells (cV c) 25)) wr → wr.cell? ⟨w.heap.size, 6, none⟩ = some (.int .u64 (u (c 6))) := fun _ h => blk_cell (HC _ h) 6 (cV_get c 6 (by omega))
  have c12 : ∀ wr, On (w.alloc (.cells (cV c) 25)) wr → wr.cell? ⟨w.heap.size, 12, none⟩ = some (.int .u64 (u (c 12))) := fun _ h => blk_cell (HC _ h) 12 (cV_get c 12 (by omega))
  have hb := On.refl (w.alloc (.cells (cV c) 25))
  have H : Hid ((bits .and .u64 (bits .and .u64 (u (c 6)) (u (c 12))) 64 != 0) = opn c 3078 0) := Lib.hid (by
    rw [u_and]; exact (tst (c 6 &&& c 12) 6 (by omega)).trans (by simp [opn]))
  go_enter Try.func45, Try.ntmps45
  go_wp2
  go_ret
  exact ⟨by rw [← H.out]; rfl, (((On.refl w).alloc _)).trans hb⟩
theorem opened_3078_3 (c : Nat → BitVec 64) (w : World) : Calls Try.prog 45 #[.agg (cV c), .int .i64 3078, .int .i64 3] w fun e w' => e = .returned (.bool (opn c 3078 3)) ∧ On w w' := by
  have HC : ∀ wr, On (w.alloc (.cells (cV c) 25)) wr → wr.heap[w.heap.size]? = some (.cells (cV c) 25 (0, 0)) := fun _ h => h.keep ((heap_alloc_new _ _))
  have hb := On.refl (w.alloc (.cells (cV c) 25))
  have H : Hid (true = opn c 3078 3) := Lib.hid (by simp [opn])
  go_enter Try.func45, Try.ntmps45
  go_wp2
  go_ret
  exact ⟨by rw [← H.out]; rfl, (((On.refl w).alloc _)).trans hb⟩
theorem opened_any (c : Nat → BitVec 64) (n p : Int) (hp : p = 0 ∨ p = 1 ∨ p = 3) (w : World) : Calls Try.prog 45 #[.agg (cV c), .int .i64 n, .int .i64 p] w fun e w' => e = .returned (.bool (opn c n p)) ∧ On w w' := by
  by_cases h : n < 3072 ∨ 3078 < n
  · exact opened_far c n p h w
  · obtain rfl | rfl | rfl | rfl | rfl | rfl | rfl : n = 3072 ∨ n = 3073 ∨ n = 3074 ∨ n = 3075 ∨ n = 3076 ∨ n = 3077 ∨ n = 3078 := by omega
    · rcases hp with rfl | rfl | rfl
      · exact opened_3072_0 c w
      · exact opened_3072_1 c w
      · exact opened_3072_3 c w
    · rcases hp with rfl | rfl | rfl
      · exact opened_3073_0 c w
      · exact opened_3073_1 c w
      · exact opened_3073_3 c w
    · rcases hp with rfl | rfl | rfl
      · exact opened_3074_0 c w
      · exact opened_3074_1 c w
      · exact opened_3074_3 c w
    · rcases hp with rfl | rfl | rfl
      · exact opened_3075_0 c w
      · exact opened_3075_1 c w
      · exact opened_3075_3 c w
    · rcases hp with rfl | rfl | rfl
      · exact opened_3076_0 c w
      · exact opened_3076_1 c w
      · exact opened_3076_3 c w
    · rcases hp with rfl | rfl | rfl
      · exact opened_3077_0 c w
      · exact opened_3077_1 c w
      · exact opened_3077_3 c w
    · rcases hp with rfl | rfl | rfl
      · exact opened_3078_0 c w
      · exact opened_3078_1 c w
      · exact opened_3078_3 c w
def rits (c : Nat → BitVec 64) (n p : Int) : Bool := (p == 0 || p == 1 || p == 3) && (decide (prv n ≤ p) && (untr c n p && opn c n p))
theorem rdb_eq (c : Nat → BitVec 64) (n p : Int) : rdb c n p = (ex n && rits c n p) := rfl
theorem permitted_none (c : Nat → BitVec 64) (n p : Int) (h0 : (p == 0) = false) (h1 : (p == 1) = false) (h3 : (p == 3) = false) (w : World) : Calls Try.prog 32 #[.agg (cV c), .int .i64 n, .int .i64 p] w fun e w' => e = .returned (.bool (rits c n p)) ∧ On w w' := by
  have HC : ∀ wr, On (w.alloc (.cells (cV c) 25)) wr → wr.heap[w.heap.size]? = some (.cells (cV c) 25 (0, 0)) := fun _ h => h.keep ((heap_alloc_new _ _))
  have hb := On.refl (w.alloc (.cells (cV c) 25))
  have H : Hid (false = rits c n p) := Lib.hid (by unfold rits; rw [h0, h1, h3]; rfl)
  go_enter Try.func32, Try.ntmps32
  go_wp2
  go_ret
  exact ⟨by rw [← H.out]; rfl, (((On.refl w).alloc _)).trans hb⟩
theorem permitted_0 (c : Nat → BitVec 64) (n : Int) (w : World) : Calls Try.prog 32 #[.agg (cV c), .int .i64 n, .int .i64 0] w fun e w' => e = .returned (.bool (rits c n 0)) ∧ On w w' := by
  have HC : ∀ wr, On (w.alloc (.cells (cV c) 25)) wr → wr.heap[w.heap.size]? = some (.cells (cV c) 25 (0, 0)) := fun _ h => h.keep ((heap_alloc_new _ _))
  have hb := On.refl (w.alloc (.cells (cV c) 25))
  by_cases hq : bits .and .i64 (n / 256) 3 ≤ 0
  · cases hu : untr c n 0
    · have H : Hid (false = rits c n 0) := Lib.hid (by unfold rits; rw [hu, Bool.false_and, Bool.and_false, Bool.and_false])
      have K1 : Hid (∀ w, Calls Try.prog 44 #[.agg (cV c), .int .i64 n, .int .i64 0] w fun e w' => e = .returned (.bool false) ∧ On w w') := Lib.hid (fun w => by rw [← hu]; exact untr_any c n 0 w)
      clear hu
      go_enter Try.func32, Try.ntmps32
      go_wp2_with (first | (apply csr_ld; (case hgd => exact rfl); (case ho => exact rfl); (case hx => exact rfl); (case hg => exact HC _ (by assumption))) | (go_at_call 44; refine (K1.out _).mono ?_; rintro e wn ⟨rfl, hb'⟩; have hb := hb.trans hb'; clear hb'))
      go_ret
      exact ⟨by rw [← H.out]; rfl, (((On.refl w).alloc _)).trans hb⟩
    · have H : Hid (opn c n 0 = rits c n 0) := Lib.hid (by unfold rits; rw [hu, show decide (prv n ≤ 0) = true from decide_eq_true hq]; rfl)
      have K1 : Hid (∀ w, Calls Try.prog 44 #[.agg (cV c), .int .i64 n, .int .i64 0] w fun e w' => e = .returned (.bool true) ∧ On w w') := Lib.hid (fun w => by rw [← hu]; exact untr_any c n 0 w)
      have K2 : Hid (∀ w, Calls Try.prog 45 #[.agg (cV c), .int .i64 n, .int .i64 0] w fun e w' => e = .returned (.bool (opn c n 0)) ∧ On w w') := Lib.hid (fun w => opened_any c n 0 (by decide) w)
      clear hu
      generalize opn c n 0 = x at *
      go_enter Try.func32, Try.ntmps32
      go_wp2_with (first | (apply csr_ld; (case hgd => exact rfl); (case ho => exact rfl); (case hx => exact rfl); (case hg => exact HC _ (by assumption))) | (go_at_call 44; refine (K1.out _).mono ?_; rintro e wn ⟨rfl, hb'⟩; have hb := hb.trans hb'; clear hb') | (go_at_call 45; refine (K2.out _).mono ?_; rintro e wn ⟨rfl, hb'⟩; have hb := hb.trans hb'; clear hb'))
      go_ret
      exact ⟨by rw [← H.out]; rfl, (((On.refl w).alloc _)).trans hb⟩
  · have H : Hid (false = rits c n 0) := Lib.hid (by unfold rits; rw [show decide (prv n ≤ 0) = false from decide_eq_false hq, Bool.false_and, Bool.and_false])
    go_enter Try.func32, Try.ntmps32
    go_wp2
    go_ret
    exact ⟨by rw [← H.out]; rfl, (((On.refl w).alloc _)).trans hb⟩
theorem permitted_1 (c : Nat → BitVec 64) (n : Int) (w : World) : Calls Try.prog 32 #[.agg (cV c), .int .i64 n, .int .i64 1] w fun e w' => e = .returned (.bool (rits c n 1)) ∧ On w w' := by
  have HC : ∀ wr, On (w.alloc (.cells (cV c) 25)) wr → wr.heap[w.heap.size]? = some (.cells (cV c) 25 (0, 0)) := fun _ h => h.keep ((heap_alloc_new _ _))
  have hb := On.refl (w.alloc (.cells (cV c) 25))
  by_cases hq : bits .and .i64 (n / 256) 3 ≤ 1
  · cases hu : untr c n 1
    · have H : Hid (false = rits c n 1) := Lib.hid (by unfold rits; rw [hu, Bool.false_and, Bool.and_false, Bool.and_false])
      have K1 : Hid (∀ w, Calls Try.prog 44 #[.agg (cV c), .int .i64 n, .int .i64 1] w fun e w' => e = .returned (.bool false) ∧ On w w') := Lib.hid (fun w => by rw [← hu]; exact untr_any c n 1 w)
      clear hu
      go_enter Try.func32, Try.ntmps32
      go_wp2_with (first | (apply csr_ld; (case hgd => exact rfl); (case ho => exact rfl); (case hx => exact rfl); (case hg => exact HC _ (by assumption))) | (go_at_call 44; refine (K1.out _).mono ?_; rintro e wn ⟨rfl, hb'⟩; have hb := hb.trans hb'; clear hb'))
      go_ret
      exact ⟨by rw [← H.out]; rfl, (((On.refl w).alloc _)).trans hb⟩
    · have H : Hid (opn c n 1 = rits c n 1) := Lib.hid (by unfold rits; rw [hu, show decide (prv n ≤ 1) = true from decide_eq_true hq]; rfl)
      have K1 : Hid (∀ w, Calls Try.prog 44 #[.agg (cV c), .int .i64 n, .int .i64 1] w fun e w' => e = .returned (.bool true) ∧ On w w') := Lib.hid (fun w => by rw [← hu]; exact untr_any c n 1 w)
      have K2 : Hid (∀ w, Calls Try.prog 45 #[.agg (cV c), .int .i64 n, .int .i64 1] w fun e w' => e = .returned (.bool (opn c n 1)) ∧ On w w') := Lib.hid (fun w => opened_any c n 1 (by decide) w)
      clear hu
      generalize opn c n 1 = x at *
      go_enter Try.func32, Try.ntmps32
      go_wp2_with (first | (apply csr_ld; (case hgd => exact rfl); (case ho => exact rfl); (case hx => exact rfl); (case hg => exact HC _ (by assumption))) | (go_at_call 44; refine (K1.out _).mono ?_; rintro e wn ⟨rfl, hb'⟩; have hb := hb.trans hb'; clear hb') | (go_at_call 45; refine (K2.out _).mono ?_; rintro e wn ⟨rfl, hb'⟩; have hb := hb.trans hb'; clear hb'))
      go_ret
      exact ⟨by rw [← H.out]; rfl, (((On.refl w).alloc _)).trans hb⟩
  · have H : Hid (false = rits c n 1) := Lib.hid (by unfold rits; rw [show decide (prv n ≤ 1) = false from decide_eq_false hq, Bool.false_and, Bool.and_false])
    go_enter Try.func32, Try.ntmps32
    go_wp2
    go_ret
    exact ⟨by rw [← H.out]; rfl, (((On.refl w).alloc _)).trans hb⟩
theorem permitted_3 (c : Nat → BitVec 64) (n : Int) (w : World) : Calls Try.prog 32 #[.agg (cV c), .int .i64 n, .int .i64 3] w fun e w' => e = .returned (.bool (rits c n 3)) ∧ On w w' := by
  have HC : ∀ wr, On (w.alloc (.cells (cV c) 25)) wr → wr.heap[w.heap.size]? = some (.cells (cV c) 25 (0, 0)) := fun _ h => h.keep ((heap_alloc_new _ _))
  have hb := On.refl (w.alloc (.cells (cV c) 25))
  by_cases hq : bits .and .i64 (n / 256) 3 ≤ 3
  · cases hu : untr c n 3
    · have H : Hid (false = rits c n 3) := Lib.hid (by unfold rits; rw [hu, Bool.false_and, Bool.and_false, Bool.and_false])
      have K1 : Hid (∀ w, Calls Try.prog 44 #[.agg (cV c), .int .i64 n, .int .i64 3] w fun e w' => e = .returned (.bool false) ∧ On w w') := Lib.hid (fun w => by rw [← hu]; exact untr_any c n 3 w)
      clear hu
      go_enter Try.func32, Try.ntmps32
      go_wp2_with (first | (apply csr_ld; (case hgd => exact rfl); (case ho => exact rfl); (case hx => exact rfl); (case hg => exact HC _ (by assumption))) | (go_at_call 44; refine (K1.out _).mono ?_; rintro e wn ⟨rfl, hb'⟩; have hb := hb.trans hb'; clear hb'))
      go_ret
      exact ⟨by rw [← H.out]; rfl, (((On.refl w).alloc _)).trans hb⟩
    · have H : Hid (opn c n 3 = rits c n 3) := Lib.hid (by unfold rits; rw [hu, show decide (prv n ≤ 3) = true from decide_eq_true hq]; rfl)
      have K1 : Hid (∀ w, Calls Try.prog 44 #[.agg (cV c), .int .i64 n, .int .i64 3] w fun e w' => e = .returned (.bool true) ∧ On w w') := Lib.hid (fun w => by rw [← hu]; exact untr_any c n 3 w)
      have K2 : Hid (∀ w, Calls Try.prog 45 #[.agg (cV c), .int .i64 n, .int .i64 3] w fun e w' => e = .returned (.bool (opn c n 3)) ∧ On w w') := Lib.hid (fun w => opened_any c n 3 (by decide) w)
      clear hu
      generalize opn c n 3 = x at *
      go_enter Try.func32, Try.ntmps32
      go_wp2_with (first | (apply csr_ld; (case hgd => exact rfl); (case ho => exact rfl); (case hx => exact rfl); (case hg => exact HC _ (by assumption))) | (go_at_call 44; refine (K1.out _).mono ?_; rintro e wn ⟨rfl, hb'⟩; have hb := hb.trans hb'; clear hb') | (go_at_call 45; refine (K2.out _).mono ?_; rintro e wn ⟨rfl, hb'⟩; have hb := hb.trans hb'; clear hb'))
      go_ret
      exact ⟨by rw [← H.out]; rfl, (((On.refl w).alloc _)).trans hb⟩
  · have H : Hid (false = rits c n 3) := Lib.hid (by unfold rits; rw [show decide (prv n ≤ 3) = false from decide_eq_false hq, Bool.false_and, Bool.and_false])
    go_enter Try.func32, Try.ntmps32
    go_wp2
    go_ret
    exact ⟨by rw [← H.out]; rfl, (((On.refl w).alloc _)).trans hb⟩
theorem permitted_any (c : Nat → BitVec 64) (n p : Int) (w : World) : Calls Try.prog 32 #[.agg (cV c), .int .i64 n, .int .i64 p] w fun e w' => e = .returned (.bool (rits c n p)) ∧ On w w' := by
  by_cases h0 : p = 0
  · subst h0; exact permitted_0 c n w
  · by_cases h1 : p = 1
    · subst h1; exact permitted_1 c n w
    · by_cases h3 : p = 3
      · subst h3; exact permitted_3 c n w
      · exact permitted_none c n p (by simpa using h0) (by simpa using h1) (by simpa using h3) w
theorem read_yes (c e : Nat → BitVec 64) (p q : Bool) (n m : Int) (h : rdb c n m = true) (w : World) : Calls Try.prog 14 #[.agg (cV c), .int .i64 n, .int .i64 m, .agg (eV e p q)] w fun r w' => r = .returned (.tuple #[.int .u64 (u (rv c e n)), .int .i64 0]) ∧ On w w' := by
  have hx : ex n = true := by rw [rdb_eq] at h; simpa using (Bool.and_eq_true_iff.1 h).1
  have hr : rits c n m = true := by rw [rdb_eq] at h; simpa using (Bool.and_eq_true_iff.1 h).2
  have K1 : Hid (∀ w, Calls Try.prog 31 #[.agg (cV c), .int .i64 n, .agg (eV e p q)] w fun r w' => r = .returned (.tuple #[.int .u64 (u (rv c e n)), .bool true]) ∧ On w w') := Lib.hid (fun w => by rw [← hx]; exact value_any c e p q n w)
  have K2 : Hid (∀ w, Calls Try.prog 32 #[.agg (cV c), .int .i64 n, .int .i64 m] w fun e w' => e = .returned (.bool true) ∧ On w w') := Lib.hid (fun w => by rw [← hr]; exact permitted_any c n m w)
  clear h hx hr
  have HC : ∀ wr, On ((w.alloc (.cells (cV c) 25)).alloc (.cells (eV e p q) 27)) wr → wr.heap[w.heap.size]? = some (.cells (cV c) 25 (0, 0)) := fun _ h => h.keep (((On.refl _).alloc _).keep (heap_alloc_new _ _))
  have HE : ∀ wr, On ((w.alloc (.cells (cV c) 25)).alloc (.cells (eV e p q) 27)) wr → wr.heap[w.heap.size + 1]? = some (.cells (eV e p q) 27 (0, 0)) := fun _ h => h.keep (box2 _ _ _)
  have hb := On.refl ((w.alloc (.cells (cV c) 25)).alloc (.cells (eV e p q) 27))
  generalize rv c e n = x at *
  go_enter Try.func14, Try.ntmps14
  go_wp2_with (first | (apply csr_ld; (case hgd => exact rfl); (case ho => exact rfl); (case hx => exact rfl); (case hg => exact HC _ (by assumption))) | (apply env_ld; (case hgd => exact rfl); (case ho => exact rfl); (case hx => exact rfl); (case hg => exact HE _ (by assumption))) | (go_at_call 31; refine (K1.out _).mono ?_; rintro e wn ⟨rfl, hb'⟩; have hb := hb.trans hb'; clear hb') | (go_at_call 32; refine (K2.out _).mono ?_; rintro e wn ⟨rfl, hb'⟩; have hb := hb.trans hb'; clear hb'))
  go_ret2
  exact ⟨rfl, (((On.refl w).alloc _).alloc _).trans hb⟩
theorem read_no (c e : Nat → BitVec 64) (p q : Bool) (n m : Int) (h : rdb c n m = false) (w : World) : Calls Try.prog 14 #[.agg (cV c), .int .i64 n, .int .i64 m, .agg (eV e p q)] w fun r w' => r = .returned (.tuple #[.int .u64 0, .int .i64 7]) ∧ On w w' := by
  rw [rdb_eq] at h
  cases hx : ex n
  · have K1 : Hid (∀ w, Calls Try.prog 31 #[.agg (cV c), .int .i64 n, .agg (eV e p q)] w fun r w' => r = .returned (.tuple #[.int .u64 0, .bool false]) ∧ On w w') := Lib.hid (fun w => value_none c e p q n hx w)
    clear h hx
    have HC : ∀ wr, On ((w.alloc (.cells (cV c) 25)).alloc (.cells (eV e p q) 27)) wr → wr.heap[w.heap.size]? = some (.cells (cV c) 25 (0, 0)) := fun _ h => h.keep (((On.refl _).alloc _).keep (heap_alloc_new _ _))
    have HE : ∀ wr, On ((w.alloc (.cells (cV c) 25)).alloc (.cells (eV e p q) 27)) wr → wr.heap[w.heap.size + 1]? = some (.cells (eV e p q) 27 (0, 0)) := fun _ h => h.keep (box2 _ _ _)
    have hb := On.refl ((w.alloc (.cells (cV c) 25)).alloc (.cells (eV e p q) 27))
    go_enter Try.func14, Try.ntmps14
    go_wp2_with (first | (apply csr_ld; (case hgd => exact rfl); (case ho => exact rfl); (case hx => exact rfl); (case hg => exact HC _ (by assumption))) | (apply env_ld; (case hgd => exact rfl); (case ho => exact rfl); (case hx => exact rfl); (case hg => exact HE _ (by assumption))) | (go_at_call 31; refine (K1.out _).mono ?_; rintro e wn ⟨rfl, hb'⟩; have hb := hb.trans hb'; clear hb'))
    go_ret2
    exact ⟨rfl, (((On.refl w).alloc _).alloc _).trans hb⟩
  · have hr : rits c n m = false := by rw [hx] at h; simpa using h
    have K1 : Hid (∀ w, Calls Try.prog 31 #[.agg (cV c), .int .i64 n, .agg (eV e p q)] w fun r w' => r = .returned (.tuple #[.int .u64 (u (rv c e n)), .bool true]) ∧ On w w') := Lib.hid (fun w => by rw [← hx]; exact value_any c e p q n w)
    have K2 : Hid (∀ w, Calls Try.prog 32 #[.agg (cV c), .int .i64 n, .int .i64 m] w fun e w' => e = .returned (.bool false) ∧ On w w') := Lib.hid (fun w => by rw [← hr]; exact permitted_any c n m w)
    clear h hx hr
    have HC : ∀ wr, On ((w.alloc (.cells (cV c) 25)).alloc (.cells (eV e p q) 27)) wr → wr.heap[w.heap.size]? = some (.cells (cV c) 25 (0, 0)) := fun _ h => h.keep (((On.refl _).alloc _).keep (heap_alloc_new _ _))
    have HE : ∀ wr, On ((w.alloc (.cells (cV c) 25)).alloc (.cells (eV e p q) 27)) wr → wr.heap[w.heap.size + 1]? = some (.cells (eV e p q) 27 (0, 0)) := fun _ h => h.keep (box2 _ _ _)
    have hb := On.refl ((w.alloc (.cells (cV c) 25)).alloc (.cells (eV e p q) 27))
    generalize rv c e n = x at *
    go_enter Try.func14, Try.ntmps14
    go_wp2_with (first | (apply csr_ld; (case hgd => exact rfl); (case ho => exact rfl); (case hx => exact rfl); (case hg => exact HC _ (by assumption))) | (apply env_ld; (case hgd => exact rfl); (case ho => exact rfl); (case hx => exact rfl); (case hg => exact HE _ (by assumption))) | (go_at_call 31; refine (K1.out _).mono ?_; rintro e wn ⟨rfl, hb'⟩; have hb := hb.trans hb'; clear hb') | (go_at_call 32; refine (K2.out _).mono ?_; rintro e wn ⟨rfl, hb'⟩; have hb := hb.trans hb'; clear hb'))
    go_ret2
    exact ⟨rfl, (((On.refl w).alloc _).alloc _).trans hb⟩
end Go.Proofs.Ytoobbapdjoajgaa
