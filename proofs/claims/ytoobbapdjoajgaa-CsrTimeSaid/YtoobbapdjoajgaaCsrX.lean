/- What the reference's value comes to. Conditions: named at each. -/
import Derived.Test.YtoobbapdjoajgaaCsrR
import Derived.Deep.RegionWith
namespace Go.Proofs.Ytoobbapdjoajgaa
open Go.RowKit

theorem four_no (n f : Int) (h : n < f ∨ f + 4 ≤ n) (hf : f = 803 ∨ f = 2819 ∨ f = 3075) (w : World) : Calls Try.prog 46 #[.int .i64 n, .int .i64 f] w fun e w' => e = .returned (.tuple #[.int .i64 (wrap64 (n - f)), .bool false]) ∧ w = w' := by
  rcases hf with rfl | rfl | rfl
  all_goals
    rcases h with h | h
    · go_enter Try.func46, Try.ntmps46
      go_wp2
      go_ret2
      exact ⟨rfl, rfl⟩
    · have h2 : ¬ n < _ := Int.not_lt.2 h
      simp only [Int.reduceAdd] at h2 h
      go_enter Try.func46, Try.ntmps46
      go_wp2
      go_ret2
      exact ⟨rfl, rfl⟩
theorem four_yes (n f : Int) (h : f ≤ n) (h2 : n < f + 4) (hf : f = 803 ∨ f = 2819 ∨ f = 3075) (w : World) : Calls Try.prog 46 #[.int .i64 n, .int .i64 f] w fun e w' => e = .returned (.tuple #[.int .i64 (n - f), .bool true]) ∧ w = w' := by
  rcases hf with rfl | rfl | rfl
  all_goals
    go_enter Try.func46, Try.ntmps46
    go_wp2
    go_ret2
    exact ⟨by simp; omega, rfl⟩
set_option maxRecDepth 100000 in
set_option maxHeartbeats 1000000 in
theorem rvalue_768 (c e : Nat → BitVec 64) (p q : Bool) (w : World) : Calls Try.prog 34 #[.agg (cV c), .int .i64 768, .agg (eV e p q)] w fun r w' => r = .returned (.tuple #[.int .u64 (u (rv c e 768)), .bool true]) ∧ On w w' := by
  have H : Hid (bits .or .u64 (u (c 0)) 42949672960 = u (rv c e 768)) := Lib.hid (by rw [show (42949672960 : Int) = u 0xa00000000#64 from rfl, u_or]; rfl)
  have HC : ∀ wr, On ((w.alloc (.cells (cV c) 25)).alloc (.cells (eV e p q) 27)) wr → wr.heap[w.heap.size]? = some (.cells (cV c) 25 (0, 0)) := fun _ h => h.keep (((On.refl _).alloc _).keep (heap_alloc_new _ _))
  have HE : ∀ wr, On ((w.alloc (.cells (cV c) 25)).alloc (.cells (eV e p q) 27)) wr → wr.heap[w.heap.size + 1]? = some (.cells (eV e p q) 27 (0, 0)) := fun _ h => h.keep (box2 _ _ _)
  have c0 : ∀ wr, On ((w.alloc (.cells (cV c) 25)).alloc (.cells (eV e p q) 27)) wr → wr.cell? ⟨w.heap.size, 0, none⟩ = some (.int .u64 (u (c 0))) := fun _ h => blk_cell (HC _ h) 0 (cV_get c 0 (by omega))
  have hb := On.refl ((w.alloc (.cells (cV c) 25)).alloc (.cells (eV e p q) 27))
  go_enter Try.func34, Try.ntmps34
  go_wp2
  go_ret2
  exact ⟨by rw [← H.out]; rfl, (((On.refl w).alloc _).alloc _).trans hb⟩
set_option maxRecDepth 100000 in
set_option maxHeartbeats 1000000 in
theorem rvalue_256 (c e : Nat → BitVec 64) (p q : Bool) (w : World) : Calls Try.prog 34 #[.agg (cV c), .int .i64 256, .agg (eV e p q)] w fun r w' => r = .returned (.tuple #[.int .u64 (u (rv c e 256)), .bool true]) ∧ On w w' := by
  have H : Hid (bits .or .u64 (bits .and .u64 (u (c 0)) 786722) 8589934592 = u (rv c e 256)) := Lib.hid (by rw [show (786722 : Int) = u 0xc0122#64 from rfl, show (8589934592 : Int) = u 0x200000000#64 from rfl, u_and, u_or]; rfl)
  have HC : ∀ wr, On ((w.alloc (.cells (cV c) 25)).alloc (.cells (eV e p q) 27)) wr → wr.heap[w.heap.size]? = some (.cells (cV c) 25 (0, 0)) := fun _ h => h.keep (((On.refl _).alloc _).keep (heap_alloc_new _ _))
  have HE : ∀ wr, On ((w.alloc (.cells (cV c) 25)).alloc (.cells (eV e p q) 27)) wr → wr.heap[w.heap.size + 1]? = some (.cells (eV e p q) 27 (0, 0)) := fun _ h => h.keep (box2 _ _ _)
  have c0 : ∀ wr, On ((w.alloc (.cells (cV c) 25)).alloc (.cells (eV e p q) 27)) wr → wr.cell? ⟨w.heap.size, 0, none⟩ = some (.int .u64 (u (c 0))) := fun _ h => blk_cell (HC _ h) 0 (cV_get c 0 (by omega))
  have hb := On.refl ((w.alloc (.cells (cV c) 25)).alloc (.cells (eV e p q) 27))
  go_enter Try.func34, Try.ntmps34
  go_wp2
  go_ret2
  exact ⟨by rw [← H.out]; rfl, (((On.refl w).alloc _).alloc _).trans hb⟩
set_option maxRecDepth 100000 in
set_option maxHeartbeats 1000000 in
theorem rvalue_769 (c e : Nat → BitVec 64) (p q : Bool) (w : World) : Calls Try.prog 34 #[.agg (cV c), .int .i64 769, .agg (eV e p q)] w fun r w' => r = .returned (.tuple #[.int .u64 (u (rv c e 769)), .bool true]) ∧ On w w' := by
  have H : Hid (9223372036856090881 = u (rv c e 769)) := Lib.hid (by rfl)
  have HC : ∀ wr, On ((w.alloc (.cells (cV c) 25)).alloc (.cells (eV e p q) 27)) wr → wr.heap[w.heap.size]? = some (.cells (cV c) 25 (0, 0)) := fun _ h => h.keep (((On.refl _).alloc _).keep (heap_alloc_new _ _))
  have HE : ∀ wr, On ((w.alloc (.cells (cV c) 25)).alloc (.cells (eV e p q) 27)) wr → wr.heap[w.heap.size + 1]? = some (.cells (eV e p q) 27 (0, 0)) := fun _ h => h.keep (box2 _ _ _)
  have hb := On.refl ((w.alloc (.cells (cV c) 25)).alloc (.cells (eV e p q) 27))
  go_enter Try.func34, Try.ntmps34
  go_wp2
  go_ret2
  exact ⟨by rw [← H.out]; rfl, (((On.refl w).alloc _).alloc _).trans hb⟩
set_option maxRecDepth 100000 in
set_option maxHeartbeats 1000000 in
theorem rvalue_770 (c e : Nat → BitVec 64) (p q : Bool) (w : World) : Calls Try.prog 34 #[.agg (cV c), .int .i64 770, .agg (eV e p q)] w fun r w' => r = .returned (.tuple #[.int .u64 (u (rv c e 770)), .bool true]) ∧ On w w' := by
  have H : Hid (u (c 1) = u (rv c e 770)) := Lib.hid (by rfl)
  have HC : ∀ wr, On ((w.alloc (.cells (cV c) 25)).alloc (.cells (eV e p q) 27)) wr → wr.heap[w.heap.size]? = some (.cells (cV c) 25 (0, 0)) := fun _ h => h.keep (((On.refl _).alloc _).keep (heap_alloc_new _ _))
  have HE : ∀ wr, On ((w.alloc (.cells (cV c) 25)).alloc (.cells (eV e p q) 27)) wr → wr.heap[w.heap.size + 1]? = some (.cells (eV e p q) 27 (0, 0)) := fun _ h => h.keep (box2 _ _ _)
  have c1 : ∀ wr, On ((w.alloc (.cells (cV c) 25)).alloc (.cells (eV e p q) 27)) wr → wr.cell? ⟨w.heap.size, 1, none⟩ = some (.int .u64 (u (c 1))) := fun _ h => blk_cell (HC _ h) 1 (cV_get c 1 (by omega))
  have hb := On.refl ((w.alloc (.cells (cV c) 25)).alloc (.cells (eV e p q) 27))
  go_enter Try.func34, Try.ntmps34
  go_wp2
  go_ret2
  exact ⟨by rw [← H.out]; rfl, (((On.refl w).alloc _).alloc _).trans hb⟩
set_option maxRecDepth 100000 in
set_option maxHeartbeats 1000000 in
theorem rvalue_771 (c e : Nat → BitVec 64) (p q : Bool) (w : World) : Calls Try.prog 34 #[.agg (cV c), .int .i64 771, .agg (eV e p q)] w fun r w' => r = .returned (.tuple #[.int .u64 (u (rv c e 771)), .bool true]) ∧ On w w' := by
  have H : Hid (u (c 2) = u (rv c e 771)) := Lib.hid (by rfl)
  have HC : ∀ wr, On ((w.alloc (.cells (cV c) 25)).alloc (.cells (eV e p q) 27)) wr → wr.heap[w.heap.size]? = some (.cells (cV c) 25 (0, 0)) := fun _ h => h.keep (((On.refl _).alloc _).keep (heap_alloc_new _ _))
  have HE : ∀ wr, On ((w.alloc (.cells (cV c) 25)).alloc (.cells (eV e p q) 27)) wr → wr.heap[w.heap.size + 1]? = some (.cells (eV e p q) 27 (0, 0)) := fun _ h => h.keep (box2 _ _ _)
  have c2 : ∀ wr, On ((w.alloc (.cells (cV c) 25)).alloc (.cells (eV e p q) 27)) wr → wr.cell? ⟨w.heap.size, 2, none⟩ = some (.int .u64 (u (c 2))) := fun _ h => blk_cell (HC _ h) 2 (cV_get c 2 (by omega))
  have hb := On.refl ((w.alloc (.cells (cV c) 25)).alloc (.cells (eV e p q) 27))
  go_enter Try.func34, Try.ntmps34
  go_wp2
  go_ret2
  exact ⟨by rw [← H.out]; rfl, (((On.refl w).alloc _).alloc _).trans hb⟩
set_option maxRecDepth 100000 in
set_option maxHeartbeats 1000000 in
theorem rvalue_772 (c e : Nat → BitVec 64) (p q : Bool) (w : World) : Calls Try.prog 34 #[.agg (cV c), .int .i64 772, .agg (eV e p q)] w fun r w' => r = .returned (.tuple #[.int .u64 (u (rv c e 772)), .bool true]) ∧ On w w' := by
  have H : Hid (u (c 3) = u (rv c e 772)) := Lib.hid (by rfl)
  have HC : ∀ wr, On ((w.alloc (.cells (cV c) 25)).alloc (.cells (eV e p q) 27)) wr → wr.heap[w.heap.size]? = some (.cells (cV c) 25 (0, 0)) := fun _ h => h.keep (((On.refl _).alloc _).keep (heap_alloc_new _ _))
  have HE : ∀ wr, On ((w.alloc (.cells (cV c) 25)).alloc (.cells (eV e p q) 27)) wr → wr.heap[w.heap.size + 1]? = some (.cells (eV e p q) 27 (0, 0)) := fun _ h => h.keep (box2 _ _ _)
  have c3 : ∀ wr, On ((w.alloc (.cells (cV c) 25)).alloc (.cells (eV e p q) 27)) wr → wr.cell? ⟨w.heap.size, 3, none⟩ = some (.int .u64 (u (c 3))) := fun _ h => blk_cell (HC _ h) 3 (cV_get c 3 (by omega))
  have hb := On.refl ((w.alloc (.cells (cV c) 25)).alloc (.cells (eV e p q) 27))
  go_enter Try.func34, Try.ntmps34
  go_wp2
  go_ret2
  exact ⟨by rw [← H.out]; rfl, (((On.refl w).alloc _).alloc _).trans hb⟩
set_option maxRecDepth 100000 in
set_option maxHeartbeats 1000000 in
theorem rvalue_260 (c e : Nat → BitVec 64) (p q : Bool) (w : World) : Calls Try.prog 34 #[.agg (cV c), .int .i64 260, .agg (eV e p q)] w fun r w' => r = .returned (.tuple #[.int .u64 (u (rv c e 260)), .bool true]) ∧ On w w' := by
  have H : Hid (bits .and .u64 (u (c 3)) (u (c 2)) = u (rv c e 260)) := Lib.hid (by rw [u_and]; rfl)
  have HC : ∀ wr, On ((w.alloc (.cells (cV c) 25)).alloc (.cells (eV e p q) 27)) wr → wr.heap[w.heap.size]? = some (.cells (cV c) 25 (0, 0)) := fun _ h => h.keep (((On.refl _).alloc _).keep (heap_alloc_new _ _))
  have HE : ∀ wr, On ((w.alloc (.cells (cV c) 25)).alloc (.cells (eV e p q) 27)) wr → wr.heap[w.heap.size + 1]? = some (.cells (eV e p q) 27 (0, 0)) := fun _ h => h.keep (box2 _ _ _)
  have c3 : ∀ wr, On ((w.alloc (.cells (cV c) 25)).alloc (.cells (eV e p q) 27)) wr → wr.cell? ⟨w.heap.size, 3, none⟩ = some (.int .u64 (u (c 3))) := fun _ h => blk_cell (HC _ h) 3 (cV_get c 3 (by omega))
  have c2 : ∀ wr, On ((w.alloc (.cells (cV c) 25)).alloc (.cells (eV e p q) 27)) wr → wr.cell? ⟨w.heap.size, 2, none⟩ = some (.int .u64 (u (c 2))) := fun _ h => blk_cell (HC _ h) 2 (cV_get c 2 (by omega))
  have hb := On.refl ((w.alloc (.cells (cV c) 25)).alloc (.cells (eV e p q) 27))
  go_enter Try.func34, Try.ntmps34
  go_wp2
  go_ret2
  exact ⟨by rw [← H.out]; rfl, (((On.refl w).alloc _).alloc _).trans hb⟩
set_option maxRecDepth 100000 in
set_option maxHeartbeats 1000000 in
theorem rvalue_836 (c e : Nat → BitVec 64) (p q : Bool) (w : World) : Calls Try.prog 34 #[.agg (cV c), .int .i64 836, .agg (eV e p q)] w fun r w' => r = .returned (.tuple #[.int .u64 (u (rv c e 836)), .bool true]) ∧ On w w' := by
  have H : Hid (u (pend c e) = u (rv c e 836)) := Lib.hid (by rfl)
  have HC : ∀ wr, On ((w.alloc (.cells (cV c) 25)).alloc (.cells (eV e p q) 27)) wr → wr.heap[w.heap.size]? = some (.cells (cV c) 25 (0, 0)) := fun _ h => h.keep (((On.refl _).alloc _).keep (heap_alloc_new _ _))
  have HE : ∀ wr, On ((w.alloc (.cells (cV c) 25)).alloc (.cells (eV e p q) 27)) wr → wr.heap[w.heap.size + 1]? = some (.cells (eV e p q) 27 (0, 0)) := fun _ h => h.keep (box2 _ _ _)
  have hb := On.refl ((w.alloc (.cells (cV c) 25)).alloc (.cells (eV e p q) 27))
  go_enter Try.func34, Try.ntmps34
  go_wp2_with (first | (go_at_call 46; (first | refine (four_no _ _ (by decide) (by decide) _).mono ?_ | refine (four_yes _ _ (by decide) (by decide) (by decide) _).mono ?_); rintro e w' ⟨rfl, rfl⟩) | (apply csr_ld; (case hgd => exact rfl); (case ho => exact rfl); (case hx => exact rfl); (case hg => exact HC _ (by assumption))) | (apply env_ld; (case hgd => exact rfl); (case ho => exact rfl); (case hx => exact rfl); (case hg => exact HE _ (by assumption))) | (go_at_call 23; refine (rpend_any c e p q _).mono ?_; rintro e wn ⟨rfl, hb'⟩; have hb := hb.trans hb'; clear hb'))
  go_ret2
  exact ⟨by rw [← H.out]; rfl, (((On.refl w).alloc _).alloc _).trans hb⟩
set_option maxRecDepth 100000 in
set_option maxHeartbeats 1000000 in
theorem rvalue_324 (c e : Nat → BitVec 64) (p q : Bool) (w : World) : Calls Try.prog 34 #[.agg (cV c), .int .i64 324, .agg (eV e p q)] w fun r w' => r = .returned (.tuple #[.int .u64 (u (rv c e 324)), .bool true]) ∧ On w w' := by
  have H : Hid (bits .and .u64 (u (pend c e)) (u (c 2)) = u (rv c e 324)) := Lib.hid (by rw [u_and]; rfl)
  go_enter Try.func34, Try.ntmps34
  go_wp2_with (go_at_call 46; (first | refine (four_no _ _ (by decide) (by decide) _).mono ?_ | refine (four_yes _ _ (by decide) (by decide) (by decide) _).mono ?_); rintro e w' ⟨rfl, rfl⟩)
  have HC : ((w.alloc (.cells (cV c) 25)).alloc (.cells (eV e p q) 27)).heap[w.heap.size]? = some (.cells (cV c) 25 (0, 0)) := box1 _ _ _
  have HE : ((w.alloc (.cells (cV c) 25)).alloc (.cells (eV e p q) 27)).heap[w.heap.size + 1]? = some (.cells (eV e p q) 27 (0, 0)) := box2 _ _ _
  have HB : Hid (On w ((w.alloc (.cells (cV c) 25)).alloc (.cells (eV e p q) 27))) := Lib.hid (((On.refl w).alloc _).alloc _)
  generalize ((w.alloc (.cells (cV c) 25)).alloc (.cells (eV e p q) 27)) = WR at *
  have L0 := row_lds csrT HC (cV_size c)
  have L1 := row_lds envT HE (eV_size e p q)
  have hcell : ∀ d os, (Sort.grow (redrawn WR d) os).cell? ⟨w.heap.size, 2, none⟩ = some (.int .u64 (u (c 2))) := fun d os => cell_regrown (blk_cell HC 2 (cV_get c 2 (by omega))) d os
  refine wp_region_quiet_below (by kernel_rfl) (by kernel_rfl) ?_
  repeat (first | (go_big_quiet_want; (first | refine row_quiet L0 rfl rfl ?_ | refine row_quiet L1 rfl rfl ?_); go_simp; go_big_quiet_on) | go_big_quiet_step (first | (go_at_call 23; exact Calls.on_of (rpend_any _ _ _ _ _))))
  refine wpQuiet_nil ?_
  intro _ hw'
  obtain ⟨⟨dq, osq⟩, hw''⟩ := hw'
  subst hw''
  go_wp2
  go_ret2
  exact ⟨by rw [← H.out]; rfl, HB.out.grow _ _⟩
set_option maxRecDepth 100000 in
set_option maxHeartbeats 1000000 in
theorem rvalue_773 (c e : Nat → BitVec 64) (p q : Bool) (w : World) : Calls Try.prog 34 #[.agg (cV c), .int .i64 773, .agg (eV e p q)] w fun r w' => r = .returned (.tuple #[.int .u64 (u (rv c e 773)), .bool true]) ∧ On w w' := by
  have H : Hid (u (c 5) = u (rv c e 773)) := Lib.hid (by rfl)
  have HC : ∀ wr, On ((w.alloc (.cells (cV c) 25)).alloc (.cells (eV e p q) 27)) wr → wr.heap[w.heap.size]? = some (.cells (cV c) 25 (0, 0)) := fun _ h => h.keep (((On.refl _).alloc _).keep (heap_alloc_new _ _))
  have HE : ∀ wr, On ((w.alloc (.cells (cV c) 25)).alloc (.cells (eV e p q) 27)) wr → wr.heap[w.heap.size + 1]? = some (.cells (eV e p q) 27 (0, 0)) := fun _ h => h.keep (box2 _ _ _)
  have c5 : ∀ wr, On ((w.alloc (.cells (cV c) 25)).alloc (.cells (eV e p q) 27)) wr → wr.cell? ⟨w.heap.size, 5, none⟩ = some (.int .u64 (u (c 5))) := fun _ h => blk_cell (HC _ h) 5 (cV_get c 5 (by omega))
  have hb := On.refl ((w.alloc (.cells (cV c) 25)).alloc (.cells (eV e p q) 27))
  go_enter Try.func34, Try.ntmps34
  go_wp2
  go_ret2
  exact ⟨by rw [← H.out]; rfl, (((On.refl w).alloc _).alloc _).trans hb⟩
set_option maxRecDepth 100000 in
set_option maxHeartbeats 1000000 in
theorem rvalue_261 (c e : Nat → BitVec 64) (p q : Bool) (w : World) : Calls Try.prog 34 #[.agg (cV c), .int .i64 261, .agg (eV e p q)] w fun r w' => r = .returned (.tuple #[.int .u64 (u (rv c e 261)), .bool true]) ∧ On w w' := by
  have H : Hid (u (c 11) = u (rv c e 261)) := Lib.hid (by rfl)
  have HC : ∀ wr, On ((w.alloc (.cells (cV c) 25)).alloc (.cells (eV e p q) 27)) wr → wr.heap[w.heap.size]? = some (.cells (cV c) 25 (0, 0)) := fun _ h => h.keep (((On.refl _).alloc _).keep (heap_alloc_new _ _))
  have HE : ∀ wr, On ((w.alloc (.cells (cV c) 25)).alloc (.cells (eV e p q) 27)) wr → wr.heap[w.heap.size + 1]? = some (.cells (eV e p q) 27 (0, 0)) := fun _ h => h.keep (box2 _ _ _)
  have c11 : ∀ wr, On ((w.alloc (.cells (cV c) 25)).alloc (.cells (eV e p q) 27)) wr → wr.cell? ⟨w.heap.size, 11, none⟩ = some (.int .u64 (u (c 11))) := fun _ h => blk_cell (HC _ h) 11 (cV_get c 11 (by omega))
  have hb := On.refl ((w.alloc (.cells (cV c) 25)).alloc (.cells (eV e p q) 27))
  go_enter Try.func34, Try.ntmps34
  go_wp2
  go_ret2
  exact ⟨by rw [← H.out]; rfl, (((On.refl w).alloc _).alloc _).trans hb⟩
set_option maxRecDepth 100000 in
set_option maxHeartbeats 1000000 in
theorem rvalue_774 (c e : Nat → BitVec 64) (p q : Bool) (w : World) : Calls Try.prog 34 #[.agg (cV c), .int .i64 774, .agg (eV e p q)] w fun r w' => r = .returned (.tuple #[.int .u64 (u (rv c e 774)), .bool true]) ∧ On w w' := by
  have H : Hid (u (c 6) = u (rv c e 774)) := Lib.hid (by rfl)
  have HC : ∀ wr, On ((w.alloc (.cells (cV c) 25)).alloc (.cells (eV e p q) 27)) wr → wr.heap[w.heap.size]? = some (.cells (cV c) 25 (0, 0)) := fun _ h => h.keep (((On.refl _).alloc _).keep (heap_alloc_new _ _))
  have HE : ∀ wr, On ((w.alloc (.cells (cV c) 25)).alloc (.cells (eV e p q) 27)) wr → wr.heap[w.heap.size + 1]? = some (.cells (eV e p q) 27 (0, 0)) := fun _ h => h.keep (box2 _ _ _)
  have c6 : ∀ wr, On ((w.alloc (.cells (cV c) 25)).alloc (.cells (eV e p q) 27)) wr → wr.cell? ⟨w.heap.size, 6, none⟩ = some (.int .u64 (u (c 6))) := fun _ h => blk_cell (HC _ h) 6 (cV_get c 6 (by omega))
  have hb := On.refl ((w.alloc (.cells (cV c) 25)).alloc (.cells (eV e p q) 27))
  go_enter Try.func34, Try.ntmps34
  go_wp2
  go_ret2
  exact ⟨by rw [← H.out]; rfl, (((On.refl w).alloc _).alloc _).trans hb⟩
set_option maxRecDepth 100000 in
set_option maxHeartbeats 1000000 in
theorem rvalue_262 (c e : Nat → BitVec 64) (p q : Bool) (w : World) : Calls Try.prog 34 #[.agg (cV c), .int .i64 262, .agg (eV e p q)] w fun r w' => r = .returned (.tuple #[.int .u64 (u (rv c e 262)), .bool true]) ∧ On w w' := by
  have H : Hid (u (c 12) = u (rv c e 262)) := Lib.hid (by rfl)
  have HC : ∀ wr, On ((w.alloc (.cells (cV c) 25)).alloc (.cells (eV e p q) 27)) wr → wr.heap[w.heap.size]? = some (.cells (cV c) 25 (0, 0)) := fun _ h => h.keep (((On.refl _).alloc _).keep (heap_alloc_new _ _))
  have HE : ∀ wr, On ((w.alloc (.cells (cV c) 25)).alloc (.cells (eV e p q) 27)) wr → wr.heap[w.heap.size + 1]? = some (.cells (eV e p q) 27 (0, 0)) := fun _ h => h.keep (box2 _ _ _)
  have c12 : ∀ wr, On ((w.alloc (.cells (cV c) 25)).alloc (.cells (eV e p q) 27)) wr → wr.cell? ⟨w.heap.size, 12, none⟩ = some (.int .u64 (u (c 12))) := fun _ h => blk_cell (HC _ h) 12 (cV_get c 12 (by omega))
  have hb := On.refl ((w.alloc (.cells (cV c) 25)).alloc (.cells (eV e p q) 27))
  go_enter Try.func34, Try.ntmps34
  go_wp2
  go_ret2
  exact ⟨by rw [← H.out]; rfl, (((On.refl w).alloc _).alloc _).trans hb⟩
set_option maxRecDepth 100000 in
set_option maxHeartbeats 1000000 in
theorem rvalue_800 (c e : Nat → BitVec 64) (p q : Bool) (w : World) : Calls Try.prog 34 #[.agg (cV c), .int .i64 800, .agg (eV e p q)] w fun r w' => r = .returned (.tuple #[.int .u64 (u (rv c e 800)), .bool true]) ∧ On w w' := by
  have H : Hid (u (c 18) = u (rv c e 800)) := Lib.hid (by rfl)
  have HC : ∀ wr, On ((w.alloc (.cells (cV c) 25)).alloc (.cells (eV e p q) 27)) wr → wr.heap[w.heap.size]? = some (.cells (cV c) 25 (0, 0)) := fun _ h => h.keep (((On.refl _).alloc _).keep (heap_alloc_new _ _))
  have HE : ∀ wr, On ((w.alloc (.cells (cV c) 25)).alloc (.cells (eV e p q) 27)) wr → wr.heap[w.heap.size + 1]? = some (.cells (eV e p q) 27 (0, 0)) := fun _ h => h.keep (box2 _ _ _)
  have c18 : ∀ wr, On ((w.alloc (.cells (cV c) 25)).alloc (.cells (eV e p q) 27)) wr → wr.cell? ⟨w.heap.size, 18, none⟩ = some (.int .u64 (u (c 18))) := fun _ h => blk_cell (HC _ h) 18 (cV_get c 18 (by omega))
  have hb := On.refl ((w.alloc (.cells (cV c) 25)).alloc (.cells (eV e p q) 27))
  go_enter Try.func34, Try.ntmps34
  go_wp2
  go_ret2
  exact ⟨by rw [← H.out]; rfl, (((On.refl w).alloc _).alloc _).trans hb⟩
set_option maxRecDepth 100000 in
set_option maxHeartbeats 1000000 in
theorem rvalue_832 (c e : Nat → BitVec 64) (p q : Bool) (w : World) : Calls Try.prog 34 #[.agg (cV c), .int .i64 832, .agg (eV e p q)] w fun r w' => r = .returned (.tuple #[.int .u64 (u (rv c e 832)), .bool true]) ∧ On w w' := by
  have H : Hid (u (c 7) = u (rv c e 832)) := Lib.hid (by rfl)
  have HC : ∀ wr, On ((w.alloc (.cells (cV c) 25)).alloc (.cells (eV e p q) 27)) wr → wr.heap[w.heap.size]? = some (.cells (cV c) 25 (0, 0)) := fun _ h => h.keep (((On.refl _).alloc _).keep (heap_alloc_new _ _))
  have HE : ∀ wr, On ((w.alloc (.cells (cV c) 25)).alloc (.cells (eV e p q) 27)) wr → wr.heap[w.heap.size + 1]? = some (.cells (eV e p q) 27 (0, 0)) := fun _ h => h.keep (box2 _ _ _)
  have c7 : ∀ wr, On ((w.alloc (.cells (cV c) 25)).alloc (.cells (eV e p q) 27)) wr → wr.cell? ⟨w.heap.size, 7, none⟩ = some (.int .u64 (u (c 7))) := fun _ h => blk_cell (HC _ h) 7 (cV_get c 7 (by omega))
  have hb := On.refl ((w.alloc (.cells (cV c) 25)).alloc (.cells (eV e p q) 27))
  go_enter Try.func34, Try.ntmps34
  go_wp2
  go_ret2
  exact ⟨by rw [← H.out]; rfl, (((On.refl w).alloc _).alloc _).trans hb⟩
set_option maxRecDepth 100000 in
set_option maxHeartbeats 1000000 in
theorem rvalue_320 (c e : Nat → BitVec 64) (p q : Bool) (w : World) : Calls Try.prog 34 #[.agg (cV c), .int .i64 320, .agg (eV e p q)] w fun r w' => r = .returned (.tuple #[.int .u64 (u (rv c e 320)), .bool true]) ∧ On w w' := by
  have H : Hid (u (c 13) = u (rv c e 320)) := Lib.hid (by rfl)
  have HC : ∀ wr, On ((w.alloc (.cells (cV c) 25)).alloc (.cells (eV e p q) 27)) wr → wr.heap[w.heap.size]? = some (.cells (cV c) 25 (0, 0)) := fun _ h => h.keep (((On.refl _).alloc _).keep (heap_alloc_new _ _))
  have HE : ∀ wr, On ((w.alloc (.cells (cV c) 25)).alloc (.cells (eV e p q) 27)) wr → wr.heap[w.heap.size + 1]? = some (.cells (eV e p q) 27 (0, 0)) := fun _ h => h.keep (box2 _ _ _)
  have c13 : ∀ wr, On ((w.alloc (.cells (cV c) 25)).alloc (.cells (eV e p q) 27)) wr → wr.cell? ⟨w.heap.size, 13, none⟩ = some (.int .u64 (u (c 13))) := fun _ h => blk_cell (HC _ h) 13 (cV_get c 13 (by omega))
  have hb := On.refl ((w.alloc (.cells (cV c) 25)).alloc (.cells (eV e p q) 27))
  go_enter Try.func34, Try.ntmps34
  go_wp2
  go_ret2
  exact ⟨by rw [← H.out]; rfl, (((On.refl w).alloc _).alloc _).trans hb⟩
set_option maxRecDepth 100000 in
set_option maxHeartbeats 1000000 in
theorem rvalue_835 (c e : Nat → BitVec 64) (p q : Bool) (w : World) : Calls Try.prog 34 #[.agg (cV c), .int .i64 835, .agg (eV e p q)] w fun r w' => r = .returned (.tuple #[.int .u64 (u (rv c e 835)), .bool true]) ∧ On w w' := by
  have H : Hid (u (c 10) = u (rv c e 835)) := Lib.hid (by rfl)
  have HC : ∀ wr, On ((w.alloc (.cells (cV c) 25)).alloc (.cells (eV e p q) 27)) wr → wr.heap[w.heap.size]? = some (.cells (cV c) 25 (0, 0)) := fun _ h => h.keep (((On.refl _).alloc _).keep (heap_alloc_new _ _))
  have HE : ∀ wr, On ((w.alloc (.cells (cV c) 25)).alloc (.cells (eV e p q) 27)) wr → wr.heap[w.heap.size + 1]? = some (.cells (eV e p q) 27 (0, 0)) := fun _ h => h.keep (box2 _ _ _)
  have c10 : ∀ wr, On ((w.alloc (.cells (cV c) 25)).alloc (.cells (eV e p q) 27)) wr → wr.cell? ⟨w.heap.size, 10, none⟩ = some (.int .u64 (u (c 10))) := fun _ h => blk_cell (HC _ h) 10 (cV_get c 10 (by omega))
  have hb := On.refl ((w.alloc (.cells (cV c) 25)).alloc (.cells (eV e p q) 27))
  go_enter Try.func34, Try.ntmps34
  go_wp2
  go_ret2
  exact ⟨by rw [← H.out]; rfl, (((On.refl w).alloc _).alloc _).trans hb⟩
set_option maxRecDepth 100000 in
set_option maxHeartbeats 1000000 in
theorem rvalue_323 (c e : Nat → BitVec 64) (p q : Bool) (w : World) : Calls Try.prog 34 #[.agg (cV c), .int .i64 323, .agg (eV e p q)] w fun r w' => r = .returned (.tuple #[.int .u64 (u (rv c e 323)), .bool true]) ∧ On w w' := by
  have H : Hid (u (c 16) = u (rv c e 323)) := Lib.hid (by rfl)
  have HC : ∀ wr, On ((w.alloc (.cells (cV c) 25)).alloc (.cells (eV e p q) 27)) wr → wr.heap[w.heap.size]? = some (.cells (cV c) 25 (0, 0)) := fun _ h => h.keep (((On.refl _).alloc _).keep (heap_alloc_new _ _))
  have HE : ∀ wr, On ((w.alloc (.cells (cV c) 25)).alloc (.cells (eV e p q) 27)) wr → wr.heap[w.heap.size + 1]? = some (.cells (eV e p q) 27 (0, 0)) := fun _ h => h.keep (box2 _ _ _)
  have c16 : ∀ wr, On ((w.alloc (.cells (cV c) 25)).alloc (.cells (eV e p q) 27)) wr → wr.cell? ⟨w.heap.size, 16, none⟩ = some (.int .u64 (u (c 16))) := fun _ h => blk_cell (HC _ h) 16 (cV_get c 16 (by omega))
  have hb := On.refl ((w.alloc (.cells (cV c) 25)).alloc (.cells (eV e p q) 27))
  go_enter Try.func34, Try.ntmps34
  go_wp2
  go_ret2
  exact ⟨by rw [← H.out]; rfl, (((On.refl w).alloc _).alloc _).trans hb⟩
set_option maxRecDepth 100000 in
set_option maxHeartbeats 1000000 in
theorem rvalue_833 (c e : Nat → BitVec 64) (p q : Bool) (w : World) : Calls Try.prog 34 #[.agg (cV c), .int .i64 833, .agg (eV e p q)] w fun r w' => r = .returned (.tuple #[.int .u64 (u (rv c e 833)), .bool true]) ∧ On w w' := by
  have H : Hid (u (c 8) = u (rv c e 833)) := Lib.hid (by rfl)
  have HC : ∀ wr, On ((w.alloc (.cells (cV c) 25)).alloc (.cells (eV e p q) 27)) wr → wr.heap[w.heap.size]? = some (.cells (cV c) 25 (0, 0)) := fun _ h => h.keep (((On.refl _).alloc _).keep (heap_alloc_new _ _))
  have HE : ∀ wr, On ((w.alloc (.cells (cV c) 25)).alloc (.cells (eV e p q) 27)) wr → wr.heap[w.heap.size + 1]? = some (.cells (eV e p q) 27 (0, 0)) := fun _ h => h.keep (box2 _ _ _)
  have c8 : ∀ wr, On ((w.alloc (.cells (cV c) 25)).alloc (.cells (eV e p q) 27)) wr → wr.cell? ⟨w.heap.size, 8, none⟩ = some (.int .u64 (u (c 8))) := fun _ h => blk_cell (HC _ h) 8 (cV_get c 8 (by omega))
  have hb := On.refl ((w.alloc (.cells (cV c) 25)).alloc (.cells (eV e p q) 27))
  go_enter Try.func34, Try.ntmps34
  go_wp2
  go_ret2
  exact ⟨by rw [← H.out]; rfl, (((On.refl w).alloc _).alloc _).trans hb⟩
set_option maxRecDepth 100000 in
set_option maxHeartbeats 1000000 in
theorem rvalue_321 (c e : Nat → BitVec 64) (p q : Bool) (w : World) : Calls Try.prog 34 #[.agg (cV c), .int .i64 321, .agg (eV e p q)] w fun r w' => r = .returned (.tuple #[.int .u64 (u (rv c e 321)), .bool true]) ∧ On w w' := by
  have H : Hid (u (c 14) = u (rv c e 321)) := Lib.hid (by rfl)
  have HC : ∀ wr, On ((w.alloc (.cells (cV c) 25)).alloc (.cells (eV e p q) 27)) wr → wr.heap[w.heap.size]? = some (.cells (cV c) 25 (0, 0)) := fun _ h => h.keep (((On.refl _).alloc _).keep (heap_alloc_new _ _))
  have HE : ∀ wr, On ((w.alloc (.cells (cV c) 25)).alloc (.cells (eV e p q) 27)) wr → wr.heap[w.heap.size + 1]? = some (.cells (eV e p q) 27 (0, 0)) := fun _ h => h.keep (box2 _ _ _)
  have c14 : ∀ wr, On ((w.alloc (.cells (cV c) 25)).alloc (.cells (eV e p q) 27)) wr → wr.cell? ⟨w.heap.size, 14, none⟩ = some (.int .u64 (u (c 14))) := fun _ h => blk_cell (HC _ h) 14 (cV_get c 14 (by omega))
  have hb := On.refl ((w.alloc (.cells (cV c) 25)).alloc (.cells (eV e p q) 27))
  go_enter Try.func34, Try.ntmps34
  go_wp2
  go_ret2
  exact ⟨by rw [← H.out]; rfl, (((On.refl w).alloc _).alloc _).trans hb⟩
set_option maxRecDepth 100000 in
set_option maxHeartbeats 1000000 in
theorem rvalue_834 (c e : Nat → BitVec 64) (p q : Bool) (w : World) : Calls Try.prog 34 #[.agg (cV c), .int .i64 834, .agg (eV e p q)] w fun r w' => r = .returned (.tuple #[.int .u64 (u (rv c e 834)), .bool true]) ∧ On w w' := by
  have H : Hid (u (c 9) = u (rv c e 834)) := Lib.hid (by rfl)
  have HC : ∀ wr, On ((w.alloc (.cells (cV c) 25)).alloc (.cells (eV e p q) 27)) wr → wr.heap[w.heap.size]? = some (.cells (cV c) 25 (0, 0)) := fun _ h => h.keep (((On.refl _).alloc _).keep (heap_alloc_new _ _))
  have HE : ∀ wr, On ((w.alloc (.cells (cV c) 25)).alloc (.cells (eV e p q) 27)) wr → wr.heap[w.heap.size + 1]? = some (.cells (eV e p q) 27 (0, 0)) := fun _ h => h.keep (box2 _ _ _)
  have c9 : ∀ wr, On ((w.alloc (.cells (cV c) 25)).alloc (.cells (eV e p q) 27)) wr → wr.cell? ⟨w.heap.size, 9, none⟩ = some (.int .u64 (u (c 9))) := fun _ h => blk_cell (HC _ h) 9 (cV_get c 9 (by omega))
  have hb := On.refl ((w.alloc (.cells (cV c) 25)).alloc (.cells (eV e p q) 27))
  go_enter Try.func34, Try.ntmps34
  go_wp2
  go_ret2
  exact ⟨by rw [← H.out]; rfl, (((On.refl w).alloc _).alloc _).trans hb⟩
set_option maxRecDepth 100000 in
set_option maxHeartbeats 1000000 in
theorem rvalue_322 (c e : Nat → BitVec 64) (p q : Bool) (w : World) : Calls Try.prog 34 #[.agg (cV c), .int .i64 322, .agg (eV e p q)] w fun r w' => r = .returned (.tuple #[.int .u64 (u (rv c e 322)), .bool true]) ∧ On w w' := by
  have H : Hid (u (c 15) = u (rv c e 322)) := Lib.hid (by rfl)
  have HC : ∀ wr, On ((w.alloc (.cells (cV c) 25)).alloc (.cells (eV e p q) 27)) wr → wr.heap[w.heap.size]? = some (.cells (cV c) 25 (0, 0)) := fun _ h => h.keep (((On.refl _).alloc _).keep (heap_alloc_new _ _))
  have HE : ∀ wr, On ((w.alloc (.cells (cV c) 25)).alloc (.cells (eV e p q) 27)) wr → wr.heap[w.heap.size + 1]? = some (.cells (eV e p q) 27 (0, 0)) := fun _ h => h.keep (box2 _ _ _)
  have c15 : ∀ wr, On ((w.alloc (.cells (cV c) 25)).alloc (.cells (eV e p q) 27)) wr → wr.cell? ⟨w.heap.size, 15, none⟩ = some (.int .u64 (u (c 15))) := fun _ h => blk_cell (HC _ h) 15 (cV_get c 15 (by omega))
  have hb := On.refl ((w.alloc (.cells (cV c) 25)).alloc (.cells (eV e p q) 27))
  go_enter Try.func34, Try.ntmps34
  go_wp2
  go_ret2
  exact ⟨by rw [← H.out]; rfl, (((On.refl w).alloc _).alloc _).trans hb⟩
set_option maxRecDepth 100000 in
set_option maxHeartbeats 1000000 in
theorem rvalue_384 (c e : Nat → BitVec 64) (p q : Bool) (w : World) : Calls Try.prog 34 #[.agg (cV c), .int .i64 384, .agg (eV e p q)] w fun r w' => r = .returned (.tuple #[.int .u64 (u (rv c e 384)), .bool true]) ∧ On w w' := by
  have H : Hid (u (c 17) = u (rv c e 384)) := Lib.hid (by rfl)
  have HC : ∀ wr, On ((w.alloc (.cells (cV c) 25)).alloc (.cells (eV e p q) 27)) wr → wr.heap[w.heap.size]? = some (.cells (cV c) 25 (0, 0)) := fun _ h => h.keep (((On.refl _).alloc _).keep (heap_alloc_new _ _))
  have HE : ∀ wr, On ((w.alloc (.cells (cV c) 25)).alloc (.cells (eV e p q) 27)) wr → wr.heap[w.heap.size + 1]? = some (.cells (eV e p q) 27 (0, 0)) := fun _ h => h.keep (box2 _ _ _)
  have c17 : ∀ wr, On ((w.alloc (.cells (cV c) 25)).alloc (.cells (eV e p q) 27)) wr → wr.cell? ⟨w.heap.size, 17, none⟩ = some (.int .u64 (u (c 17))) := fun _ h => blk_cell (HC _ h) 17 (cV_get c 17 (by omega))
  have hb := On.refl ((w.alloc (.cells (cV c) 25)).alloc (.cells (eV e p q) 27))
  go_enter Try.func34, Try.ntmps34
  go_wp2
  go_ret2
  exact ⟨by rw [← H.out]; rfl, (((On.refl w).alloc _).alloc _).trans hb⟩
set_option maxRecDepth 100000 in
set_option maxHeartbeats 1000000 in
theorem rvalue_2816 (c e : Nat → BitVec 64) (p q : Bool) (w : World) : Calls Try.prog 34 #[.agg (cV c), .int .i64 2816, .agg (eV e p q)] w fun r w' => r = .returned (.tuple #[.int .u64 (u (rv c e 2816)), .bool true]) ∧ On w w' := by
  have H : Hid (u (cyc c e) = u (rv c e 2816)) := Lib.hid (by rfl)
  have HC : ∀ wr, On ((w.alloc (.cells (cV c) 25)).alloc (.cells (eV e p q) 27)) wr → wr.heap[w.heap.size]? = some (.cells (cV c) 25 (0, 0)) := fun _ h => h.keep (((On.refl _).alloc _).keep (heap_alloc_new _ _))
  have HE : ∀ wr, On ((w.alloc (.cells (cV c) 25)).alloc (.cells (eV e p q) 27)) wr → wr.heap[w.heap.size + 1]? = some (.cells (eV e p q) 27 (0, 0)) := fun _ h => h.keep (box2 _ _ _)
  have hb := On.refl ((w.alloc (.cells (cV c) 25)).alloc (.cells (eV e p q) 27))
  go_enter Try.func34, Try.ntmps34
  go_wp2_with (first | (go_at_call 46; (first | refine (four_no _ _ (by decide) (by decide) _).mono ?_ | refine (four_yes _ _ (by decide) (by decide) (by decide) _).mono ?_); rintro e w' ⟨rfl, rfl⟩) | (apply csr_ld; (case hgd => exact rfl); (case ho => exact rfl); (case hx => exact rfl); (case hg => exact HC _ (by assumption))) | (apply env_ld; (case hgd => exact rfl); (case ho => exact rfl); (case hx => exact rfl); (case hg => exact HE _ (by assumption))) | (go_at_call 25; refine (rcyc_any c e p q _).mono ?_; rintro e wn ⟨rfl, hb'⟩; have hb := hb.trans hb'; clear hb'))
  go_ret2
  exact ⟨by rw [← H.out]; rfl, (((On.refl w).alloc _).alloc _).trans hb⟩
set_option maxRecDepth 100000 in
set_option maxHeartbeats 1000000 in
theorem rvalue_3072 (c e : Nat → BitVec 64) (p q : Bool) (w : World) : Calls Try.prog 34 #[.agg (cV c), .int .i64 3072, .agg (eV e p q)] w fun r w' => r = .returned (.tuple #[.int .u64 (u (rv c e 3072)), .bool true]) ∧ On w w' := by
  have H : Hid (u (cyc c e) = u (rv c e 3072)) := Lib.hid (by rfl)
  have HC : ∀ wr, On ((w.alloc (.cells (cV c) 25)).alloc (.cells (eV e p q) 27)) wr → wr.heap[w.heap.size]? = some (.cells (cV c) 25 (0, 0)) := fun _ h => h.keep (((On.refl _).alloc _).keep (heap_alloc_new _ _))
  have HE : ∀ wr, On ((w.alloc (.cells (cV c) 25)).alloc (.cells (eV e p q) 27)) wr → wr.heap[w.heap.size + 1]? = some (.cells (eV e p q) 27 (0, 0)) := fun _ h => h.keep (box2 _ _ _)
  have hb := On.refl ((w.alloc (.cells (cV c) 25)).alloc (.cells (eV e p q) 27))
  go_enter Try.func34, Try.ntmps34
  go_wp2_with (first | (go_at_call 46; (first | refine (four_no _ _ (by decide) (by decide) _).mono ?_ | refine (four_yes _ _ (by decide) (by decide) (by decide) _).mono ?_); rintro e w' ⟨rfl, rfl⟩) | (apply csr_ld; (case hgd => exact rfl); (case ho => exact rfl); (case hx => exact rfl); (case hg => exact HC _ (by assumption))) | (apply env_ld; (case hgd => exact rfl); (case ho => exact rfl); (case hx => exact rfl); (case hg => exact HE _ (by assumption))) | (go_at_call 25; refine (rcyc_any c e p q _).mono ?_; rintro e wn ⟨rfl, hb'⟩; have hb := hb.trans hb'; clear hb'))
  go_ret2
  exact ⟨by rw [← H.out]; rfl, (((On.refl w).alloc _).alloc _).trans hb⟩
set_option maxRecDepth 100000 in
set_option maxHeartbeats 1000000 in
theorem rvalue_2818 (c e : Nat → BitVec 64) (p q : Bool) (w : World) : Calls Try.prog 34 #[.agg (cV c), .int .i64 2818, .agg (eV e p q)] w fun r w' => r = .returned (.tuple #[.int .u64 (u (rv c e 2818)), .bool true]) ∧ On w w' := by
  have H : Hid (u (c 19) = u (rv c e 2818)) := Lib.hid (by rfl)
  have HC : ∀ wr, On ((w.alloc (.cells (cV c) 25)).alloc (.cells (eV e p q) 27)) wr → wr.heap[w.heap.size]? = some (.cells (cV c) 25 (0, 0)) := fun _ h => h.keep (((On.refl _).alloc _).keep (heap_alloc_new _ _))
  have HE : ∀ wr, On ((w.alloc (.cells (cV c) 25)).alloc (.cells (eV e p q) 27)) wr → wr.heap[w.heap.size + 1]? = some (.cells (eV e p q) 27 (0, 0)) := fun _ h => h.keep (box2 _ _ _)
  have c19 : ∀ wr, On ((w.alloc (.cells (cV c) 25)).alloc (.cells (eV e p q) 27)) wr → wr.cell? ⟨w.heap.size, 19, none⟩ = some (.int .u64 (u (c 19))) := fun _ h => blk_cell (HC _ h) 19 (cV_get c 19 (by omega))
  have hb := On.refl ((w.alloc (.cells (cV c) 25)).alloc (.cells (eV e p q) 27))
  go_enter Try.func34, Try.ntmps34
  go_wp2
  go_ret2
  exact ⟨by rw [← H.out]; rfl, (((On.refl w).alloc _).alloc _).trans hb⟩
set_option maxRecDepth 100000 in
set_option maxHeartbeats 1000000 in
theorem rvalue_3074 (c e : Nat → BitVec 64) (p q : Bool) (w : World) : Calls Try.prog 34 #[.agg (cV c), .int .i64 3074, .agg (eV e p q)] w fun r w' => r = .returned (.tuple #[.int .u64 (u (rv c e 3074)), .bool true]) ∧ On w w' := by
  have H : Hid (u (c 19) = u (rv c e 3074)) := Lib.hid (by rfl)
  have HC : ∀ wr, On ((w.alloc (.cells (cV c) 25)).alloc (.cells (eV e p q) 27)) wr → wr.heap[w.heap.size]? = some (.cells (cV c) 25 (0, 0)) := fun _ h => h.keep (((On.refl _).alloc _).keep (heap_alloc_new _ _))
  have HE : ∀ wr, On ((w.alloc (.cells (cV c) 25)).alloc (.cells (eV e p q) 27)) wr → wr.heap[w.heap.size + 1]? = some (.cells (eV e p q) 27 (0, 0)) := fun _ h => h.keep (box2 _ _ _)
  have c19 : ∀ wr, On ((w.alloc (.cells (cV c) 25)).alloc (.cells (eV e p q) 27)) wr → wr.cell? ⟨w.heap.size, 19, none⟩ = some (.int .u64 (u (c 19))) := fun _ h => blk_cell (HC _ h) 19 (cV_get c 19 (by omega))
  have hb := On.refl ((w.alloc (.cells (cV c) 25)).alloc (.cells (eV e p q) 27))
  go_enter Try.func34, Try.ntmps34
  go_wp2
  go_ret2
  exact ⟨by rw [← H.out]; rfl, (((On.refl w).alloc _).alloc _).trans hb⟩
set_option maxRecDepth 100000 in
set_option maxHeartbeats 1000000 in
theorem rvalue_803 (c e : Nat → BitVec 64) (p q : Bool) (w : World) : Calls Try.prog 34 #[.agg (cV c), .int .i64 803, .agg (eV e p q)] w fun r w' => r = .returned (.tuple #[.int .u64 (u (rv c e 803)), .bool true]) ∧ On w w' := by
  have H : Hid (u (c 22) = u (rv c e 803)) := Lib.hid (by rfl)
  have HC : ∀ wr, On ((w.alloc (.cells (cV c) 25)).alloc (.cells (eV e p q) 27)) wr → wr.heap[w.heap.size]? = some (.cells (cV c) 25 (0, 0)) := fun _ h => h.keep (((On.refl _).alloc _).keep (heap_alloc_new _ _))
  have HE : ∀ wr, On ((w.alloc (.cells (cV c) 25)).alloc (.cells (eV e p q) 27)) wr → wr.heap[w.heap.size + 1]? = some (.cells (eV e p q) 27 (0, 0)) := fun _ h => h.keep (box2 _ _ _)
  have c22 : ∀ wr, On ((w.alloc (.cells (cV c) 25)).alloc (.cells (eV e p q) 27)) wr → wr.cell? ⟨w.heap.size, 22, none⟩ = some (.int .u64 (u (c 22))) := fun _ h => blk_cell (HC _ h) 22 (cV_get c 22 (by omega))
  have hb := On.refl ((w.alloc (.cells (cV c) 25)).alloc (.cells (eV e p q) 27))
  go_enter Try.func34, Try.ntmps34
  go_wp2
  go_ret2
  exact ⟨by rw [← H.out]; rfl, (((On.refl w).alloc _).alloc _).trans hb⟩
set_option maxRecDepth 100000 in
set_option maxHeartbeats 1000000 in
theorem rvalue_804 (c e : Nat → BitVec 64) (p q : Bool) (w : World) : Calls Try.prog 34 #[.agg (cV c), .int .i64 804, .agg (eV e p q)] w fun r w' => r = .returned (.tuple #[.int .u64 (u (rv c e 804)), .bool true]) ∧ On w w' := by
  have H : Hid (u (c 23) = u (rv c e 804)) := Lib.hid (by rfl)
  have HC : ∀ wr, On ((w.alloc (.cells (cV c) 25)).alloc (.cells (eV e p q) 27)) wr → wr.heap[w.heap.size]? = some (.cells (cV c) 25 (0, 0)) := fun _ h => h.keep (((On.refl _).alloc _).keep (heap_alloc_new _ _))
  have HE : ∀ wr, On ((w.alloc (.cells (cV c) 25)).alloc (.cells (eV e p q) 27)) wr → wr.heap[w.heap.size + 1]? = some (.cells (eV e p q) 27 (0, 0)) := fun _ h => h.keep (box2 _ _ _)
  have c23 : ∀ wr, On ((w.alloc (.cells (cV c) 25)).alloc (.cells (eV e p q) 27)) wr → wr.cell? ⟨w.heap.size, 23, none⟩ = some (.int .u64 (u (c 23))) := fun _ h => blk_cell (HC _ h) 23 (cV_get c 23 (by omega))
  have hb := On.refl ((w.alloc (.cells (cV c) 25)).alloc (.cells (eV e p q) 27))
  go_enter Try.func34, Try.ntmps34
  go_wp2
  go_ret2
  exact ⟨by rw [← H.out]; rfl, (((On.refl w).alloc _).alloc _).trans hb⟩
set_option maxRecDepth 100000 in
set_option maxHeartbeats 1000000 in
theorem rvalue_805 (c e : Nat → BitVec 64) (p q : Bool) (w : World) : Calls Try.prog 34 #[.agg (cV c), .int .i64 805, .agg (eV e p q)] w fun r w' => r = .returned (.tuple #[.int .u64 (u (rv c e 805)), .bool true]) ∧ On w w' := by
  have H : Hid (u (c 24) = u (rv c e 805)) := Lib.hid (by rfl)
  have HC : ∀ wr, On ((w.alloc (.cells (cV c) 25)).alloc (.cells (eV e p q) 27)) wr → wr.heap[w.heap.size]? = some (.cells (cV c) 25 (0, 0)) := fun _ h => h.keep (((On.refl _).alloc _).keep (heap_alloc_new _ _))
  have HE : ∀ wr, On ((w.alloc (.cells (cV c) 25)).alloc (.cells (eV e p q) 27)) wr → wr.heap[w.heap.size + 1]? = some (.cells (eV e p q) 27 (0, 0)) := fun _ h => h.keep (box2 _ _ _)
  have c24 : ∀ wr, On ((w.alloc (.cells (cV c) 25)).alloc (.cells (eV e p q) 27)) wr → wr.cell? ⟨w.heap.size, 24, none⟩ = some (.int .u64 (u (c 24))) := fun _ h => blk_cell (HC _ h) 24 (cV_get c 24 (by omega))
  have hb := On.refl ((w.alloc (.cells (cV c) 25)).alloc (.cells (eV e p q) 27))
  go_enter Try.func34, Try.ntmps34
  go_wp2
  go_ret2
  exact ⟨by rw [← H.out]; rfl, (((On.refl w).alloc _).alloc _).trans hb⟩
set_option maxRecDepth 100000 in
set_option maxHeartbeats 1000000 in
theorem rvalue_806 (c e : Nat → BitVec 64) (p q : Bool) (w : World) : Calls Try.prog 34 #[.agg (cV c), .int .i64 806, .agg (eV e p q)] w fun r w' => r = .returned (.tuple #[.int .u64 (u (rv c e 806)), .bool true]) ∧ On w w' := by
  have H : Hid (u (c 25) = u (rv c e 806)) := Lib.hid (by rfl)
  have HC : ∀ wr, On ((w.alloc (.cells (cV c) 25)).alloc (.cells (eV e p q) 27)) wr → wr.heap[w.heap.size]? = some (.cells (cV c) 25 (0, 0)) := fun _ h => h.keep (((On.refl _).alloc _).keep (heap_alloc_new _ _))
  have HE : ∀ wr, On ((w.alloc (.cells (cV c) 25)).alloc (.cells (eV e p q) 27)) wr → wr.heap[w.heap.size + 1]? = some (.cells (eV e p q) 27 (0, 0)) := fun _ h => h.keep (box2 _ _ _)
  have c25 : ∀ wr, On ((w.alloc (.cells (cV c) 25)).alloc (.cells (eV e p q) 27)) wr → wr.cell? ⟨w.heap.size, 25, none⟩ = some (.int .u64 (u (c 25))) := fun _ h => blk_cell (HC _ h) 25 (cV_get c 25 (by omega))
  have hb := On.refl ((w.alloc (.cells (cV c) 25)).alloc (.cells (eV e p q) 27))
  go_enter Try.func34, Try.ntmps34
  go_wp2
  go_ret2
  exact ⟨by rw [← H.out]; rfl, (((On.refl w).alloc _).alloc _).trans hb⟩
set_option maxRecDepth 100000 in
set_option maxHeartbeats 1000000 in
theorem rvalue_2819 (c e : Nat → BitVec 64) (p q : Bool) (w : World) : Calls Try.prog 34 #[.agg (cV c), .int .i64 2819, .agg (eV e p q)] w fun r w' => r = .returned (.tuple #[.int .u64 (u (rv c e 2819)), .bool true]) ∧ On w w' := by
  have H : Hid (IntKind.u64.wrap (u (c 26) + u (e 3)) = u (rv c e 2819)) := Lib.hid (by rw [u_add]; rfl)
  have HC : ∀ wr, On ((w.alloc (.cells (cV c) 25)).alloc (.cells (eV e p q) 27)) wr → wr.heap[w.heap.size]? = some (.cells (cV c) 25 (0, 0)) := fun _ h => h.keep (((On.refl _).alloc _).keep (heap_alloc_new _ _))
  have HE : ∀ wr, On ((w.alloc (.cells (cV c) 25)).alloc (.cells (eV e p q) 27)) wr → wr.heap[w.heap.size + 1]? = some (.cells (eV e p q) 27 (0, 0)) := fun _ h => h.keep (box2 _ _ _)
  have c26 : ∀ wr, On ((w.alloc (.cells (cV c) 25)).alloc (.cells (eV e p q) 27)) wr → wr.cell? ⟨w.heap.size, 26, none⟩ = some (.int .u64 (u (c 26))) := fun _ h => blk_cell (HC _ h) 26 (cV_get c 26 (by omega))
  have e3 : ∀ wr, On ((w.alloc (.cells (cV c) 25)).alloc (.cells (eV e p q) 27)) wr → wr.cell? ⟨w.heap.size + 1, 3, none⟩ = some (.int .u64 (u (e 3))) := fun _ h => blk_cell (HE _ h) 3 (eV_get e p q 3 (by omega))
  have hb := On.refl ((w.alloc (.cells (cV c) 25)).alloc (.cells (eV e p q) 27))
  go_enter Try.func34, Try.ntmps34
  go_wp2_with (go_at_call 46; (first | refine (four_no _ _ (by decide) (by decide) _).mono ?_ | refine (four_yes _ _ (by decide) (by decide) (by decide) _).mono ?_); rintro e w' ⟨rfl, rfl⟩)
  go_quiet (fail)
  go_wp2
  go_ret2
  exact ⟨by rw [← H.out]; rfl, ((((On.refl w).alloc _).alloc _).trans hb).drewN _⟩
set_option maxRecDepth 100000 in
set_option maxHeartbeats 1000000 in
theorem rvalue_2820 (c e : Nat → BitVec 64) (p q : Bool) (w : World) : Calls Try.prog 34 #[.agg (cV c), .int .i64 2820, .agg (eV e p q)] w fun r w' => r = .returned (.tuple #[.int .u64 (u (rv c e 2820)), .bool true]) ∧ On w w' := by
  have H : Hid (IntKind.u64.wrap (u (c 27) + u (e 4)) = u (rv c e 2820)) := Lib.hid (by rw [u_add]; rfl)
  have HC : ∀ wr, On ((w.alloc (.cells (cV c) 25)).alloc (.cells (eV e p q) 27)) wr → wr.heap[w.heap.size]? = some (.cells (cV c) 25 (0, 0)) := fun _ h => h.keep (((On.refl _).alloc _).keep (heap_alloc_new _ _))
  have HE : ∀ wr, On ((w.alloc (.cells (cV c) 25)).alloc (.cells (eV e p q) 27)) wr → wr.heap[w.heap.size + 1]? = some (.cells (eV e p q) 27 (0, 0)) := fun _ h => h.keep (box2 _ _ _)
  have c27 : ∀ wr, On ((w.alloc (.cells (cV c) 25)).alloc (.cells (eV e p q) 27)) wr → wr.cell? ⟨w.heap.size, 27, none⟩ = some (.int .u64 (u (c 27))) := fun _ h => blk_cell (HC _ h) 27 (cV_get c 27 (by omega))
  have e4 : ∀ wr, On ((w.alloc (.cells (cV c) 25)).alloc (.cells (eV e p q) 27)) wr → wr.cell? ⟨w.heap.size + 1, 4, none⟩ = some (.int .u64 (u (e 4))) := fun _ h => blk_cell (HE _ h) 4 (eV_get e p q 4 (by omega))
  have hb := On.refl ((w.alloc (.cells (cV c) 25)).alloc (.cells (eV e p q) 27))
  go_enter Try.func34, Try.ntmps34
  go_wp2_with (go_at_call 46; (first | refine (four_no _ _ (by decide) (by decide) _).mono ?_ | refine (four_yes _ _ (by decide) (by decide) (by decide) _).mono ?_); rintro e w' ⟨rfl, rfl⟩)
  go_quiet (fail)
  go_wp2
  go_ret2
  exact ⟨by rw [← H.out]; rfl, ((((On.refl w).alloc _).alloc _).trans hb).drewN _⟩
set_option maxRecDepth 100000 in
set_option maxHeartbeats 1000000 in
theorem rvalue_2821 (c e : Nat → BitVec 64) (p q : Bool) (w : World) : Calls Try.prog 34 #[.agg (cV c), .int .i64 2821, .agg (eV e p q)] w fun r w' => r = .returned (.tuple #[.int .u64 (u (rv c e 2821)), .bool true]) ∧ On w w' := by
  have H : Hid (IntKind.u64.wrap (u (c 28) + u (e 5)) = u (rv c e 2821)) := Lib.hid (by rw [u_add]; rfl)
  have HC : ∀ wr, On ((w.alloc (.cells (cV c) 25)).alloc (.cells (eV e p q) 27)) wr → wr.heap[w.heap.size]? = some (.cells (cV c) 25 (0, 0)) := fun _ h => h.keep (((On.refl _).alloc _).keep (heap_alloc_new _ _))
  have HE : ∀ wr, On ((w.alloc (.cells (cV c) 25)).alloc (.cells (eV e p q) 27)) wr → wr.heap[w.heap.size + 1]? = some (.cells (eV e p q) 27 (0, 0)) := fun _ h => h.keep (box2 _ _ _)
  have c28 : ∀ wr, On ((w.alloc (.cells (cV c) 25)).alloc (.cells (eV e p q) 27)) wr → wr.cell? ⟨w.heap.size, 28, none⟩ = some (.int .u64 (u (c 28))) := fun _ h => blk_cell (HC _ h) 28 (cV_get c 28 (by omega))
  have e5 : ∀ wr, On ((w.alloc (.cells (cV c) 25)).alloc (.cells (eV e p q) 27)) wr → wr.cell? ⟨w.heap.size + 1, 5, none⟩ = some (.int .u64 (u (e 5))) := fun _ h => blk_cell (HE _ h) 5 (eV_get e p q 5 (by omega))
  have hb := On.refl ((w.alloc (.cells (cV c) 25)).alloc (.cells (eV e p q) 27))
  go_enter Try.func34, Try.ntmps34
  go_wp2_with (go_at_call 46; (first | refine (four_no _ _ (by decide) (by decide) _).mono ?_ | refine (four_yes _ _ (by decide) (by decide) (by decide) _).mono ?_); rintro e w' ⟨rfl, rfl⟩)
  go_quiet (fail)
  go_wp2
  go_ret2
  exact ⟨by rw [← H.out]; rfl, ((((On.refl w).alloc _).alloc _).trans hb).drewN _⟩
set_option maxRecDepth 100000 in
set_option maxHeartbeats 1000000 in
theorem rvalue_2822 (c e : Nat → BitVec 64) (p q : Bool) (w : World) : Calls Try.prog 34 #[.agg (cV c), .int .i64 2822, .agg (eV e p q)] w fun r w' => r = .returned (.tuple #[.int .u64 (u (rv c e 2822)), .bool true]) ∧ On w w' := by
  have H : Hid (IntKind.u64.wrap (u (c 29) + u (e 6)) = u (rv c e 2822)) := Lib.hid (by rw [u_add]; rfl)
  have HC : ∀ wr, On ((w.alloc (.cells (cV c) 25)).alloc (.cells (eV e p q) 27)) wr → wr.heap[w.heap.size]? = some (.cells (cV c) 25 (0, 0)) := fun _ h => h.keep (((On.refl _).alloc _).keep (heap_alloc_new _ _))
  have HE : ∀ wr, On ((w.alloc (.cells (cV c) 25)).alloc (.cells (eV e p q) 27)) wr → wr.heap[w.heap.size + 1]? = some (.cells (eV e p q) 27 (0, 0)) := fun _ h => h.keep (box2 _ _ _)
  have c29 : ∀ wr, On ((w.alloc (.cells (cV c) 25)).alloc (.cells (eV e p q) 27)) wr → wr.cell? ⟨w.heap.size, 29, none⟩ = some (.int .u64 (u (c 29))) := fun _ h => blk_cell (HC _ h) 29 (cV_get c 29 (by omega))
  have e6 : ∀ wr, On ((w.alloc (.cells (cV c) 25)).alloc (.cells (eV e p q) 27)) wr → wr.cell? ⟨w.heap.size + 1, 6, none⟩ = some (.int .u64 (u (e 6))) := fun _ h => blk_cell (HE _ h) 6 (eV_get e p q 6 (by omega))
  have hb := On.refl ((w.alloc (.cells (cV c) 25)).alloc (.cells (eV e p q) 27))
  go_enter Try.func34, Try.ntmps34
  go_wp2_with (go_at_call 46; (first | refine (four_no _ _ (by decide) (by decide) _).mono ?_ | refine (four_yes _ _ (by decide) (by decide) (by decide) _).mono ?_); rintro e w' ⟨rfl, rfl⟩)
  go_quiet (fail)
  go_wp2
  go_ret2
  exact ⟨by rw [← H.out]; rfl, ((((On.refl w).alloc _).alloc _).trans hb).drewN _⟩
set_option maxRecDepth 100000 in
set_option maxHeartbeats 1000000 in
theorem rvalue_3075 (c e : Nat → BitVec 64) (p q : Bool) (w : World) : Calls Try.prog 34 #[.agg (cV c), .int .i64 3075, .agg (eV e p q)] w fun r w' => r = .returned (.tuple #[.int .u64 (u (rv c e 3075)), .bool true]) ∧ On w w' := by
  have H : Hid (IntKind.u64.wrap (u (c 26) + u (e 3)) = u (rv c e 3075)) := Lib.hid (by rw [u_add]; rfl)
  have HC : ∀ wr, On ((w.alloc (.cells (cV c) 25)).alloc (.cells (eV e p q) 27)) wr → wr.heap[w.heap.size]? = some (.cells (cV c) 25 (0, 0)) := fun _ h => h.keep (((On.refl _).alloc _).keep (heap_alloc_new _ _))
  have HE : ∀ wr, On ((w.alloc (.cells (cV c) 25)).alloc (.cells (eV e p q) 27)) wr → wr.heap[w.heap.size + 1]? = some (.cells (eV e p q) 27 (0, 0)) := fun _ h => h.keep (box2 _ _ _)
  have c26 : ∀ wr, On ((w.alloc (.cells (cV c) 25)).alloc (.cells (eV e p q) 27)) wr → wr.cell? ⟨w.heap.size, 26, none⟩ = some (.int .u64 (u (c 26))) := fun _ h => blk_cell (HC _ h) 26 (cV_get c 26 (by omega))
  have e3 : ∀ wr, On ((w.alloc (.cells (cV c) 25)).alloc (.cells (eV e p q) 27)) wr → wr.cell? ⟨w.heap.size + 1, 3, none⟩ = some (.int .u64 (u (e 3))) := fun _ h => blk_cell (HE _ h) 3 (eV_get e p q 3 (by omega))
  have hb := On.refl ((w.alloc (.cells (cV c) 25)).alloc (.cells (eV e p q) 27))
  go_enter Try.func34, Try.ntmps34
  go_wp2_with (go_at_call 46; (first | refine (four_no _ _ (by decide) (by decide) _).mono ?_ | refine (four_yes _ _ (by decide) (by decide) (by decide) _).mono ?_); rintro e w' ⟨rfl, rfl⟩)
  go_quiet (fail)
  go_wp2
  go_ret2
  exact ⟨by rw [← H.out]; rfl, ((((On.refl w).alloc _).alloc _).trans hb).drewN _⟩
set_option maxRecDepth 100000 in
set_option maxHeartbeats 1000000 in
theorem rvalue_3076 (c e : Nat → BitVec 64) (p q : Bool) (w : World) : Calls Try.prog 34 #[.agg (cV c), .int .i64 3076, .agg (eV e p q)] w fun r w' => r = .returned (.tuple #[.int .u64 (u (rv c e 3076)), .bool true]) ∧ On w w' := by
  have H : Hid (IntKind.u64.wrap (u (c 27) + u (e 4)) = u (rv c e 3076)) := Lib.hid (by rw [u_add]; rfl)
  have HC : ∀ wr, On ((w.alloc (.cells (cV c) 25)).alloc (.cells (eV e p q) 27)) wr → wr.heap[w.heap.size]? = some (.cells (cV c) 25 (0, 0)) := fun _ h => h.keep (((On.refl _).alloc _).keep (heap_alloc_new _ _))
  have HE : ∀ wr, On ((w.alloc (.cells (cV c) 25)).alloc (.cells (eV e p q) 27)) wr → wr.heap[w.heap.size + 1]? = some (.cells (eV e p q) 27 (0, 0)) := fun _ h => h.keep (box2 _ _ _)
  have c27 : ∀ wr, On ((w.alloc (.cells (cV c) 25)).alloc (.cells (eV e p q) 27)) wr → wr.cell? ⟨w.heap.size, 27, none⟩ = some (.int .u64 (u (c 27))) := fun _ h => blk_cell (HC _ h) 27 (cV_get c 27 (by omega))
  have e4 : ∀ wr, On ((w.alloc (.cells (cV c) 25)).alloc (.cells (eV e p q) 27)) wr → wr.cell? ⟨w.heap.size + 1, 4, none⟩ = some (.int .u64 (u (e 4))) := fun _ h => blk_cell (HE _ h) 4 (eV_get e p q 4 (by omega))
  have hb := On.refl ((w.alloc (.cells (cV c) 25)).alloc (.cells (eV e p q) 27))
  go_enter Try.func34, Try.ntmps34
  go_wp2_with (go_at_call 46; (first | refine (four_no _ _ (by decide) (by decide) _).mono ?_ | refine (four_yes _ _ (by decide) (by decide) (by decide) _).mono ?_); rintro e w' ⟨rfl, rfl⟩)
  go_quiet (fail)
  go_wp2
  go_ret2
  exact ⟨by rw [← H.out]; rfl, ((((On.refl w).alloc _).alloc _).trans hb).drewN _⟩
set_option maxRecDepth 100000 in
set_option maxHeartbeats 1000000 in
theorem rvalue_3077 (c e : Nat → BitVec 64) (p q : Bool) (w : World) : Calls Try.prog 34 #[.agg (cV c), .int .i64 3077, .agg (eV e p q)] w fun r w' => r = .returned (.tuple #[.int .u64 (u (rv c e 3077)), .bool true]) ∧ On w w' := by
  have H : Hid (IntKind.u64.wrap (u (c 28) + u (e 5)) = u (rv c e 3077)) := Lib.hid (by rw [u_add]; rfl)
  have HC : ∀ wr, On ((w.alloc (.cells (cV c) 25)).alloc (.cells (eV e p q) 27)) wr → wr.heap[w.heap.size]? = some (.cells (cV c) 25 (0, 0)) := fun _ h => h.keep (((On.refl _).alloc _).keep (heap_alloc_new _ _))
  have HE : ∀ wr, On ((w.alloc (.cells (cV c) 25)).alloc (.cells (eV e p q) 27)) wr → wr.heap[w.heap.size + 1]? = some (.cells (eV e p q) 27 (0, 0)) := fun _ h => h.keep (box2 _ _ _)
  have c28 : ∀ wr, On ((w.alloc (.cells (cV c) 25)).alloc (.cells (eV e p q) 27)) wr → wr.cell? ⟨w.heap.size, 28, none⟩ = some (.int .u64 (u (c 28))) := fun _ h => blk_cell (HC _ h) 28 (cV_get c 28 (by omega))
  have e5 : ∀ wr, On ((w.alloc (.cells (cV c) 25)).alloc (.cells (eV e p q) 27)) wr → wr.cell? ⟨w.heap.size + 1, 5, none⟩ = some (.int .u64 (u (e 5))) := fun _ h => blk_cell (HE _ h) 5 (eV_get e p q 5 (by omega))
  have hb := On.refl ((w.alloc (.cells (cV c) 25)).alloc (.cells (eV e p q) 27))
  go_enter Try.func34, Try.ntmps34
  go_wp2_with (go_at_call 46; (first | refine (four_no _ _ (by decide) (by decide) _).mono ?_ | refine (four_yes _ _ (by decide) (by decide) (by decide) _).mono ?_); rintro e w' ⟨rfl, rfl⟩)
  go_quiet (fail)
  go_wp2
  go_ret2
  exact ⟨by rw [← H.out]; rfl, ((((On.refl w).alloc _).alloc _).trans hb).drewN _⟩
set_option maxRecDepth 100000 in
set_option maxHeartbeats 1000000 in
theorem rvalue_3078 (c e : Nat → BitVec 64) (p q : Bool) (w : World) : Calls Try.prog 34 #[.agg (cV c), .int .i64 3078, .agg (eV e p q)] w fun r w' => r = .returned (.tuple #[.int .u64 (u (rv c e 3078)), .bool true]) ∧ On w w' := by
  have H : Hid (IntKind.u64.wrap (u (c 29) + u (e 6)) = u (rv c e 3078)) := Lib.hid (by rw [u_add]; rfl)
  have HC : ∀ wr, On ((w.alloc (.cells (cV c) 25)).alloc (.cells (eV e p q) 27)) wr → wr.heap[w.heap.size]? = some (.cells (cV c) 25 (0, 0)) := fun _ h => h.keep (((On.refl _).alloc _).keep (heap_alloc_new _ _))
  have HE : ∀ wr, On ((w.alloc (.cells (cV c) 25)).alloc (.cells (eV e p q) 27)) wr → wr.heap[w.heap.size + 1]? = some (.cells (eV e p q) 27 (0, 0)) := fun _ h => h.keep (box2 _ _ _)
  have c29 : ∀ wr, On ((w.alloc (.cells (cV c) 25)).alloc (.cells (eV e p q) 27)) wr → wr.cell? ⟨w.heap.size, 29, none⟩ = some (.int .u64 (u (c 29))) := fun _ h => blk_cell (HC _ h) 29 (cV_get c 29 (by omega))
  have e6 : ∀ wr, On ((w.alloc (.cells (cV c) 25)).alloc (.cells (eV e p q) 27)) wr → wr.cell? ⟨w.heap.size + 1, 6, none⟩ = some (.int .u64 (u (e 6))) := fun _ h => blk_cell (HE _ h) 6 (eV_get e p q 6 (by omega))
  have hb := On.refl ((w.alloc (.cells (cV c) 25)).alloc (.cells (eV e p q) 27))
  go_enter Try.func34, Try.ntmps34
  go_wp2_with (go_at_call 46; (first | refine (four_no _ _ (by decide) (by decide) _).mono ?_ | refine (four_yes _ _ (by decide) (by decide) (by decide) _).mono ?_); rintro e w' ⟨rfl, rfl⟩)
  go_quiet (fail)
  go_wp2
  go_ret2
  exact ⟨by rw [← H.out]; rfl, ((((On.refl w).alloc _).alloc _).trans hb).drewN _⟩
set_option maxRecDepth 100000 in
set_option maxHeartbeats 1000000 in
theorem rvalue_3073 (c e : Nat → BitVec 64) (p q : Bool) (w : World) : Calls Try.prog 34 #[.agg (cV c), .int .i64 3073, .agg (eV e p q)] w fun r w' => r = .returned (.tuple #[.int .u64 (u (rv c e 3073)), .bool true]) ∧ On w w' := by
  have H : Hid (u (e 1) = u (rv c e 3073)) := Lib.hid (by rfl)
  have HC : ∀ wr, On ((w.alloc (.cells (cV c) 25)).alloc (.cells (eV e p q) 27)) wr → wr.heap[w.heap.size]? = some (.cells (cV c) 25 (0, 0)) := fun _ h => h.keep (((On.refl _).alloc _).keep (heap_alloc_new _ _))
  have HE : ∀ wr, On ((w.alloc (.cells (cV c) 25)).alloc (.cells (eV e p q) 27)) wr → wr.heap[w.heap.size + 1]? = some (.cells (eV e p q) 27 (0, 0)) := fun _ h => h.keep (box2 _ _ _)
  have e1 : ∀ wr, On ((w.alloc (.cells (cV c) 25)).alloc (.cells (eV e p q) 27)) wr → wr.cell? ⟨w.heap.size + 1, 1, none⟩ = some (.int .u64 (u (e 1))) := fun _ h => blk_cell (HE _ h) 1 (eV_get e p q 1 (by omega))
  have hb := On.refl ((w.alloc (.cells (cV c) 25)).alloc (.cells (eV e p q) 27))
  go_enter Try.func34, Try.ntmps34
  go_wp2
  go_ret2
  exact ⟨by rw [← H.out]; rfl, (((On.refl w).alloc _).alloc _).trans hb⟩
set_option maxRecDepth 100000 in
set_option maxHeartbeats 1000000 in
theorem rvalue_3857 (c e : Nat → BitVec 64) (p q : Bool) (w : World) : Calls Try.prog 34 #[.agg (cV c), .int .i64 3857, .agg (eV e p q)] w fun r w' => r = .returned (.tuple #[.int .u64 (u (rv c e 3857)), .bool true]) ∧ On w w' := by
  have H : Hid (0 = u (rv c e 3857)) := Lib.hid (by rfl)
  have HC : ∀ wr, On ((w.alloc (.cells (cV c) 25)).alloc (.cells (eV e p q) 27)) wr → wr.heap[w.heap.size]? = some (.cells (cV c) 25 (0, 0)) := fun _ h => h.keep (((On.refl _).alloc _).keep (heap_alloc_new _ _))
  have HE : ∀ wr, On ((w.alloc (.cells (cV c) 25)).alloc (.cells (eV e p q) 27)) wr → wr.heap[w.heap.size + 1]? = some (.cells (eV e p q) 27 (0, 0)) := fun _ h => h.keep (box2 _ _ _)
  have hb := On.refl ((w.alloc (.cells (cV c) 25)).alloc (.cells (eV e p q) 27))
  go_enter Try.func34, Try.ntmps34
  go_wp2
  go_ret2
  exact ⟨by rw [← H.out]; rfl, (((On.refl w).alloc _).alloc _).trans hb⟩
set_option maxRecDepth 100000 in
set_option maxHeartbeats 1000000 in
theorem rvalue_3858 (c e : Nat → BitVec 64) (p q : Bool) (w : World) : Calls Try.prog 34 #[.agg (cV c), .int .i64 3858, .agg (eV e p q)] w fun r w' => r = .returned (.tuple #[.int .u64 (u (rv c e 3858)), .bool true]) ∧ On w w' := by
  have H : Hid (0 = u (rv c e 3858)) := Lib.hid (by rfl)
  have HC : ∀ wr, On ((w.alloc (.cells (cV c) 25)).alloc (.cells (eV e p q) 27)) wr → wr.heap[w.heap.size]? = some (.cells (cV c) 25 (0, 0)) := fun _ h => h.keep (((On.refl _).alloc _).keep (heap_alloc_new _ _))
  have HE : ∀ wr, On ((w.alloc (.cells (cV c) 25)).alloc (.cells (eV e p q) 27)) wr → wr.heap[w.heap.size + 1]? = some (.cells (eV e p q) 27 (0, 0)) := fun _ h => h.keep (box2 _ _ _)
  have hb := On.refl ((w.alloc (.cells (cV c) 25)).alloc (.cells (eV e p q) 27))
  go_enter Try.func34, Try.ntmps34
  go_wp2
  go_ret2
  exact ⟨by rw [← H.out]; rfl, (((On.refl w).alloc _).alloc _).trans hb⟩
set_option maxRecDepth 100000 in
set_option maxHeartbeats 1000000 in
theorem rvalue_3859 (c e : Nat → BitVec 64) (p q : Bool) (w : World) : Calls Try.prog 34 #[.agg (cV c), .int .i64 3859, .agg (eV e p q)] w fun r w' => r = .returned (.tuple #[.int .u64 (u (rv c e 3859)), .bool true]) ∧ On w w' := by
  have H : Hid (0 = u (rv c e 3859)) := Lib.hid (by rfl)
  have HC : ∀ wr, On ((w.alloc (.cells (cV c) 25)).alloc (.cells (eV e p q) 27)) wr → wr.heap[w.heap.size]? = some (.cells (cV c) 25 (0, 0)) := fun _ h => h.keep (((On.refl _).alloc _).keep (heap_alloc_new _ _))
  have HE : ∀ wr, On ((w.alloc (.cells (cV c) 25)).alloc (.cells (eV e p q) 27)) wr → wr.heap[w.heap.size + 1]? = some (.cells (eV e p q) 27 (0, 0)) := fun _ h => h.keep (box2 _ _ _)
  have hb := On.refl ((w.alloc (.cells (cV c) 25)).alloc (.cells (eV e p q) 27))
  go_enter Try.func34, Try.ntmps34
  go_wp2
  go_ret2
  exact ⟨by rw [← H.out]; rfl, (((On.refl w).alloc _).alloc _).trans hb⟩
set_option maxRecDepth 100000 in
set_option maxHeartbeats 1000000 in
theorem rvalue_3860 (c e : Nat → BitVec 64) (p q : Bool) (w : World) : Calls Try.prog 34 #[.agg (cV c), .int .i64 3860, .agg (eV e p q)] w fun r w' => r = .returned (.tuple #[.int .u64 (u (rv c e 3860)), .bool true]) ∧ On w w' := by
  have H : Hid (0 = u (rv c e 3860)) := Lib.hid (by rfl)
  have HC : ∀ wr, On ((w.alloc (.cells (cV c) 25)).alloc (.cells (eV e p q) 27)) wr → wr.heap[w.heap.size]? = some (.cells (cV c) 25 (0, 0)) := fun _ h => h.keep (((On.refl _).alloc _).keep (heap_alloc_new _ _))
  have HE : ∀ wr, On ((w.alloc (.cells (cV c) 25)).alloc (.cells (eV e p q) 27)) wr → wr.heap[w.heap.size + 1]? = some (.cells (eV e p q) 27 (0, 0)) := fun _ h => h.keep (box2 _ _ _)
  have hb := On.refl ((w.alloc (.cells (cV c) 25)).alloc (.cells (eV e p q) 27))
  go_enter Try.func34, Try.ntmps34
  go_wp2
  go_ret2
  exact ⟨by rw [← H.out]; rfl, (((On.refl w).alloc _).alloc _).trans hb⟩
set_option maxRecDepth 100000 in
set_option maxHeartbeats 1000000 in
theorem rvalue_3861 (c e : Nat → BitVec 64) (p q : Bool) (w : World) : Calls Try.prog 34 #[.agg (cV c), .int .i64 3861, .agg (eV e p q)] w fun r w' => r = .returned (.tuple #[.int .u64 (u (rv c e 3861)), .bool true]) ∧ On w w' := by
  have H : Hid (0 = u (rv c e 3861)) := Lib.hid (by rfl)
  have HC : ∀ wr, On ((w.alloc (.cells (cV c) 25)).alloc (.cells (eV e p q) 27)) wr → wr.heap[w.heap.size]? = some (.cells (cV c) 25 (0, 0)) := fun _ h => h.keep (((On.refl _).alloc _).keep (heap_alloc_new _ _))
  have HE : ∀ wr, On ((w.alloc (.cells (cV c) 25)).alloc (.cells (eV e p q) 27)) wr → wr.heap[w.heap.size + 1]? = some (.cells (eV e p q) 27 (0, 0)) := fun _ h => h.keep (box2 _ _ _)
  have hb := On.refl ((w.alloc (.cells (cV c) 25)).alloc (.cells (eV e p q) 27))
  go_enter Try.func34, Try.ntmps34
  go_wp2
  go_ret2
  exact ⟨by rw [← H.out]; rfl, (((On.refl w).alloc _).alloc _).trans hb⟩
theorem four_ex {n : Int} (hn : ex n = false) : (n < 803 ∨ 803 + 4 ≤ n) ∧ (n < 2819 ∨ 2819 + 4 ≤ n) ∧ (n < 3075 ∨ 3075 + 4 ≤ n) := by
  have h := ex_none hn
  simp only [beq_eq_false_iff_ne, ne_eq] at h
  obtain ⟨h768, h256, h769, h770, h771, h772, h260, h836, h324, h773, h261, h774, h262, h800, h832, h320, h835, h323, h833, h321, h834, h322, h384, h2816, h3072, h2818, h3074, h803, h804, h805, h806, h2819, h2820, h2821, h2822, h3075, h3076, h3077, h3078, h3073, h3857, h3858, h3859, h3860, h3861⟩ := h
  omega
set_option maxRecDepth 100000 in
set_option maxHeartbeats 1000000 in
theorem rvalue_none (c e : Nat → BitVec 64) (p q : Bool) (n : Int) (hn : ex n = false) (w : World) : Calls Try.prog 34 #[.agg (cV c), .int .i64 n, .agg (eV e p q)] w fun r w' => r = .returned (.tuple #[.int .u64 0, .bool false]) ∧ On w w' := by
  obtain ⟨a1, a2, a3⟩ := four_ex hn
  have F1 := Lib.hid (four_no n 803 a1 (by simp))
  have F2 := Lib.hid (four_no n 2819 a2 (by simp))
  have F3 := Lib.hid (four_no n 3075 a3 (by simp))
  obtain ⟨h768, h256, h769, h770, h771, h772, h260, h836, h324, h773, h261, h774, h262, h800, h832, h320, h835, h323, h833, h321, h834, h322, h384, h2816, h3072, h2818, h3074, h803, h804, h805, h806, h2819, h2820, h2821, h2822, h3075, h3076, h3077, h3078, h3073, h3857, h3858, h3859, h3860, h3861⟩ := ex_none hn
  clear hn a1 a2 a3
  have HC : ∀ wr, On ((w.alloc (.cells (cV c) 25)).alloc (.cells (eV e p q) 27)) wr → wr.heap[w.heap.size]? = some (.cells (cV c) 25 (0, 0)) := fun _ h => h.keep (((On.refl _).alloc _).keep (heap_alloc_new _ _))
  have HE : ∀ wr, On ((w.alloc (.cells (cV c) 25)).alloc (.cells (eV e p q) 27)) wr → wr.heap[w.heap.size + 1]? = some (.cells (eV e p q) 27 (0, 0)) := fun _ h => h.keep (box2 _ _ _)
  have hb := On.refl ((w.alloc (.cells (cV c) 25)).alloc (.cells (eV e p q) 27))
  go_enter Try.func34, Try.ntmps34
  go_wp2_with (first | (go_at_call_of 46 (Value.int .i64 803); refine (F1.out _).mono ?_; rintro e w' ⟨rfl, rfl⟩) | (go_at_call_of 46 (Value.int .i64 2819); refine (F2.out _).mono ?_; rintro e w' ⟨rfl, rfl⟩) | (go_at_call_of 46 (Value.int .i64 3075); refine (F3.out _).mono ?_; rintro e w' ⟨rfl, rfl⟩))
  go_ret2
  exact ⟨rfl, (((On.refl w).alloc _).alloc _).trans hb⟩
theorem rvalue_yes (c e : Nat → BitVec 64) (p q : Bool) (n : Int) (hn : ex n = true) (w : World) : Calls Try.prog 34 #[.agg (cV c), .int .i64 n, .agg (eV e p q)] w fun r w' => r = .returned (.tuple #[.int .u64 (u (rv c e n)), .bool true]) ∧ On w w' := by
  rcases ex_cases hn with rfl | rfl | rfl | rfl | rfl | rfl | rfl | rfl | rfl | rfl | rfl | rfl | rfl | rfl | rfl | rfl | rfl | rfl | rfl | rfl | rfl | rfl | rfl | rfl | rfl | rfl | rfl | rfl | rfl | rfl | rfl | rfl | rfl | rfl | rfl | rfl | rfl | rfl | rfl | rfl | rfl | rfl | rfl | rfl | rfl
  · exact rvalue_768 c e p q w
  · exact rvalue_256 c e p q w
  · exact rvalue_769 c e p q w
  · exact rvalue_770 c e p q w
  · exact rvalue_771 c e p q w
  · exact rvalue_772 c e p q w
  · exact rvalue_260 c e p q w
  · exact rvalue_836 c e p q w
  · exact rvalue_324 c e p q w
  · exact rvalue_773 c e p q w
  · exact rvalue_261 c e p q w
  · exact rvalue_774 c e p q w
  · exact rvalue_262 c e p q w
  · exact rvalue_800 c e p q w
  · exact rvalue_832 c e p q w
  · exact rvalue_320 c e p q w
  · exact rvalue_835 c e p q w
  · exact rvalue_323 c e p q w
  · exact rvalue_833 c e p q w
  · exact rvalue_321 c e p q w
  · exact rvalue_834 c e p q w
  · exact rvalue_322 c e p q w
  · exact rvalue_384 c e p q w
  · exact rvalue_2816 c e p q w
  · exact rvalue_3072 c e p q w
  · exact rvalue_2818 c e p q w
  · exact rvalue_3074 c e p q w
  · exact rvalue_803 c e p q w
  · exact rvalue_804 c e p q w
  · exact rvalue_805 c e p q w
  · exact rvalue_806 c e p q w
  · exact rvalue_2819 c e p q w
  · exact rvalue_2820 c e p q w
  · exact rvalue_2821 c e p q w
  · exact rvalue_2822 c e p q w
  · exact rvalue_3075 c e p q w
  · exact rvalue_3076 c e p q w
  · exact rvalue_3077 c e p q w
  · exact rvalue_3078 c e p q w
  · exact rvalue_3073 c e p q w
  · exact rvalue_3857 c e p q w
  · exact rvalue_3858 c e p q w
  · exact rvalue_3859 c e p q w
  · exact rvalue_3860 c e p q w
  · exact rvalue_3861 c e p q w
end Go.Proofs.Ytoobbapdjoajgaa
