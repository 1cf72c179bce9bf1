/- What the reference's May comes to, by the first of its tests that falls. Conditions: named at each. -/
import Derived.Test.YtleolldgpoeabaaMayM
import Derived.Test.YtleolldgpoeabaaCsrT
namespace Go.Proofs.Ytleolldgpoeabaa
open Go.RowKit

set_option maxHeartbeats 4000000 in
set_option maxRecDepth 100000 in
theorem may_no0 (c : Nat → BitVec 64) (e22 : (c 22).toNat ≤ 5) (e23 : (c 23).toNat ≤ 5) (e24 : (c 24).toNat ≤ 5) (e25 : (c 25).toNat ≤ 5) (h0 : ¬ kst 0#64 (c 0) = c 0) (w : World) : Calls Try.prog 26 #[.agg (cV c)] w fun r w' => r = .returned (.bool false) ∧ On w w' := by
  have c0 : ∀ wr, On (w.alloc (.cells (cV c) 26)) wr → wr.cell? ⟨w.heap.size, 0, none⟩ = some (.int .u64 (u (c 0))) := fun _ h => blk_cell (box_cM h) 0 (cV_get c 0 (by omega))
  have c22 : ∀ wr, On (w.alloc (.cells (cV c) 26)) wr → wr.cell? ⟨w.heap.size, 22, none⟩ = some (.int .u64 (u (c 22))) := fun _ h => blk_cell (box_cM h) 22 (cV_get c 22 (by omega))
  have c23 : ∀ wr, On (w.alloc (.cells (cV c) 26)) wr → wr.cell? ⟨w.heap.size, 23, none⟩ = some (.int .u64 (u (c 23))) := fun _ h => blk_cell (box_cM h) 23 (cV_get c 23 (by omega))
  have c24 : ∀ wr, On (w.alloc (.cells (cV c) 26)) wr → wr.cell? ⟨w.heap.size, 24, none⟩ = some (.int .u64 (u (c 24))) := fun _ h => blk_cell (box_cM h) 24 (cV_get c 24 (by omega))
  have c25 : ∀ wr, On (w.alloc (.cells (cV c) 26)) wr → wr.cell? ⟨w.heap.size, 25, none⟩ = some (.int .u64 (u (c 25))) := fun _ h => blk_cell (box_cM h) 25 (cV_get c 25 (by omega))
  have hb := On.refl (w.alloc (.cells (cV c) 26))
  have t22 : ¬ (5 < u (c 22)) := by unfold u; omega
  have t23 : ¬ (5 < u (c 23)) := by unfold u; omega
  have t24 : ¬ (5 < u (c 24)) := by unfold u; omega
  have t25 : ¬ (5 < u (c 25)) := by unfold u; omega
  have K : Hid (∀ w, Calls Try.prog 40 #[.int .u64 0, .int .u64 (u (c 0))] w fun e w' => e = .returned (.int .u64 (u (kst 0#64 (c 0)))) ∧ w = w') := Lib.hid (fun w => by have := rkst_any 0#64 (c 0) w; exact this)
  have T : Hid ((u (c 0) == u (kst 0#64 (c 0))) = false) := Lib.hid (by rw [u_beq]; simpa using fun e => h0 e.symm)
  clear h0 e22 e23 e24 e25
  generalize kst 0#64 (c 0) = z at *
  go_enter Try.func26, Try.ntmps26
  go_wp2_with fail
  go_loopw [3] (fun i wr => ∃ k : Nat, k ≤ 4 ∧ i = .int .i64 k ∧ On (w.alloc (.cells (cV c) 26)) wr) (fun i _ => 4 - (intOf i).toNat)
  case atStart => exact ⟨0, by omega, rfl, hb⟩
  case round =>
    clear hb
    obtain ⟨k, hk, rfl, hb⟩ := hrel
    by_cases hk4 : k < 4
    · have h4 : k = 0 ∨ k = 1 ∨ k = 2 ∨ k = 3 := by omega
      clear K T
      rcases h4 with rfl | rfl | rfl | rfl
      · go_wp2
        go_roundw
        case rel => exact ⟨1, by omega, by go_num, hb⟩
        case measure => simp [intOf]
      · go_wp2
        go_roundw
        case rel => exact ⟨2, by omega, by go_num, hb⟩
        case measure => simp [intOf]
      · go_wp2
        go_roundw
        case rel => exact ⟨3, by omega, by go_num, hb⟩
        case measure => simp [intOf]
      · go_wp2
        go_roundw
        case rel => exact ⟨4, by omega, by go_num, hb⟩
        case measure => simp [intOf]
    · obtain rfl : k = 4 := by omega
      clear hk hk4 c22 c23 c24 c25 t22 t23 t24 t25
      have T := T.out
      have t0 := T
      clear T
      have hg : ∀ d os, On (w.alloc (.cells (cV c) 26)) (Sort.grow (redrawn wr d) os) := fun d os => hb.grow d os
      go_wp2_with fail
      simp only [List.append]
      refine wp_region_quiet_below (by kernel_rfl) (lexB_of_rows (by kernel_rfl) mayRows (by kernel_rfl) mayRows_ok) ?_
      repeat (go_big_quiet_step (first | (go_at_call 40; exact Calls.on_same (K.out _))))
      refine wpQuiet_nil ?_
      intro _ hw'
      obtain ⟨⟨dq, osq⟩, hw''⟩ := hw'
      subst hw''
      go_wp2
      go_ret
      exact ⟨rfl, ((On.refl w).alloc _).trans (hg _ _)⟩

set_option maxHeartbeats 4000000 in
set_option maxRecDepth 100000 in
theorem may_no4 (c : Nat → BitVec 64) (e22 : (c 22).toNat ≤ 5) (e23 : (c 23).toNat ≤ 5) (e24 : (c 24).toNat ≤ 5) (e25 : (c 25).toNat ≤ 5) (h0 : kst 0#64 (c 0) = c 0) (h1 : ¬ c 0 &&& 0x1800#64 = 0x1000#64) (h2 : Sub (c 1) 0xb3ff#64) (h3 : Sub (c 2) 0x222#64) (h4 : ¬ Sub (c 3) 0xaaa#64) (w : World) : Calls Try.prog 26 #[.agg (cV c)] w fun r w' => r = .returned (.bool false) ∧ On w w' := by
  have c0 : ∀ wr, On (w.alloc (.cells (cV c) 26)) wr → wr.cell? ⟨w.heap.size, 0, none⟩ = some (.int .u64 (u (c 0))) := fun _ h => blk_cell (box_cM h) 0 (cV_get c 0 (by omega))
  have c1 : ∀ wr, On (w.alloc (.cells (cV c) 26)) wr → wr.cell? ⟨w.heap.size, 1, none⟩ = some (.int .u64 (u (c 1))) := fun _ h => blk_cell (box_cM h) 1 (cV_get c 1 (by omega))
  have c2 : ∀ wr, On (w.alloc (.cells (cV c) 26)) wr → wr.cell? ⟨w.heap.size, 2, none⟩ = some (.int .u64 (u (c 2))) := fun _ h => blk_cell (box_cM h) 2 (cV_get c 2 (by omega))
  have c3 : ∀ wr, On (w.alloc (.cells (cV c) 26)) wr → wr.cell? ⟨w.heap.size, 3, none⟩ = some (.int .u64 (u (c 3))) := fun _ h => blk_cell (box_cM h) 3 (cV_get c 3 (by omega))
  have c22 : ∀ wr, On (w.alloc (.cells (cV c) 26)) wr → wr.cell? ⟨w.heap.size, 22, none⟩ = some (.int .u64 (u (c 22))) := fun _ h => blk_cell (box_cM h) 22 (cV_get c 22 (by omega))
  have c23 : ∀ wr, On (w.alloc (.cells (cV c) 26)) wr → wr.cell? ⟨w.heap.size, 23, none⟩ = some (.int .u64 (u (c 23))) := fun _ h => blk_cell (box_cM h) 23 (cV_get c 23 (by omega))
  have c24 : ∀ wr, On (w.alloc (.cells (cV c) 26)) wr → wr.cell? ⟨w.heap.size, 24, none⟩ = some (.int .u64 (u (c 24))) := fun _ h => blk_cell (box_cM h) 24 (cV_get c 24 (by omega))
  have c25 : ∀ wr, On (w.alloc (.cells (cV c) 26)) wr → wr.cell? ⟨w.heap.size, 25, none⟩ = some (.int .u64 (u (c 25))) := fun _ h => blk_cell (box_cM h) 25 (cV_get c 25 (by omega))
  have hb := On.refl (w.alloc (.cells (cV c) 26))
  have t22 : ¬ (5 < u (c 22)) := by unfold u; omega
  have t23 : ¬ (5 < u (c 23)) := by unfold u; omega
  have t24 : ¬ (5 < u (c 24)) := by unfold u; omega
  have t25 : ¬ (5 < u (c 25)) := by unfold u; omega
  have K : Hid (∀ w, Calls Try.prog 40 #[.int .u64 0, .int .u64 (u (c 0))] w fun e w' => e = .returned (.int .u64 (u (c 0))) ∧ w = w') := Lib.hid (fun w => by have := rkst_any 0#64 (c 0) w; rw [h0] at this; exact this)
  have T : Hid ((bits .and .u64 (u (c 0)) 6144 != 4096) = true ∧ (bits .andNot .u64 (u (c 1)) 46079 == 0) = true ∧ (bits .andNot .u64 (u (c 2)) 546 == 0) = true ∧ (bits .andNot .u64 (u (c 3)) 2730 == 0) = false) := Lib.hid ⟨by rw [show (6144 : Int) = u 0x1800#64 from rfl, show (4096 : Int) = u 0x1000#64 from rfl, u_and, bne, u_beq, beq_eq_false_iff_ne.2 h1]; rfl, sub_test (m := 46079#64) h2, sub_test (m := 546#64) h3, sub_fall (m := 2730#64) h4⟩
  clear h0 h1 h2 h3 h4 e22 e23 e24 e25
  go_enter Try.func26, Try.ntmps26
  go_wp2_with fail
  go_loopw [3] (fun i wr => ∃ k : Nat, k ≤ 4 ∧ i = .int .i64 k ∧ On (w.alloc (.cells (cV c) 26)) wr) (fun i _ => 4 - (intOf i).toNat)
  case atStart => exact ⟨0, by omega, rfl, hb⟩
  case round =>
    clear hb
    obtain ⟨k, hk, rfl, hb⟩ := hrel
    by_cases hk4 : k < 4
    · have h4 : k = 0 ∨ k = 1 ∨ k = 2 ∨ k = 3 := by omega
      clear K T
      rcases h4 with rfl | rfl | rfl | rfl
      · go_wp2
        go_roundw
        case rel => exact ⟨1, by omega, by go_num, hb⟩
        case measure => simp [intOf]
      · go_wp2
        go_roundw
        case rel => exact ⟨2, by omega, by go_num, hb⟩
        case measure => simp [intOf]
      · go_wp2
        go_roundw
        case rel => exact ⟨3, by omega, by go_num, hb⟩
        case measure => simp [intOf]
      · go_wp2
        go_roundw
        case rel => exact ⟨4, by omega, by go_num, hb⟩
        case measure => simp [intOf]
    · obtain rfl : k = 4 := by omega
      clear hk hk4 c22 c23 c24 c25 t22 t23 t24 t25
      have T := T.out
      obtain ⟨t0, t1, t2, t3⟩ := T
      clear T
      have hg : ∀ d os, On (w.alloc (.cells (cV c) 26)) (Sort.grow (redrawn wr d) os) := fun d os => hb.grow d os
      go_wp2_with fail
      simp only [List.append]
      refine wp_region_quiet_below (by kernel_rfl) (lexB_of_rows (by kernel_rfl) mayRows (by kernel_rfl) mayRows_ok) ?_
      repeat (go_big_quiet_step (first | (go_at_call 40; exact Calls.on_same (K.out _))))
      refine wpQuiet_nil ?_
      intro _ hw'
      obtain ⟨⟨dq, osq⟩, hw''⟩ := hw'
      subst hw''
      go_wp2
      go_ret
      exact ⟨rfl, ((On.refl w).alloc _).trans (hg _ _)⟩

set_option maxHeartbeats 4000000 in
set_option maxRecDepth 100000 in
theorem may_no8 (c : Nat → BitVec 64) (e22 : (c 22).toNat ≤ 5) (e23 : (c 23).toNat ≤ 5) (e24 : (c 24).toNat ≤ 5) (e25 : (c 25).toNat ≤ 5) (h0 : kst 0#64 (c 0) = c 0) (h1 : ¬ c 0 &&& 0x1800#64 = 0x1000#64) (h2 : Sub (c 1) 0xb3ff#64) (h3 : Sub (c 2) 0x222#64) (h4 : Sub (c 3) 0xaaa#64) (h5 : Sub (c 4) 0x222#64) (h6 : c 5 &&& 2#64 = 0#64) (h7 : c 11 &&& 2#64 = 0#64) (h8 : ¬ Sub (c 6) 0x7f#64) (w : World) : Calls Try.prog 26 #[.agg (cV c)] w fun r w' => r = .returned (.bool false) ∧ On w w' := by
  have c0 : ∀ wr, On (w.alloc (.cells (cV c) 26)) wr → wr.cell? ⟨w.heap.size, 0, none⟩ = some (.int .u64 (u (c 0))) := fun _ h => blk_cell (box_cM h) 0 (cV_get c 0 (by omega))
  have c1 : ∀ wr, On (w.alloc (.cells (cV c) 26)) wr → wr.cell? ⟨w.heap.size, 1, none⟩ = some (.int .u64 (u (c 1))) := fun _ h => blk_cell (box_cM h) 1 (cV_get c 1 (by omega))
  have c2 : ∀ wr, On (w.alloc (.cells (cV c) 26)) wr → wr.cell? ⟨w.heap.size, 2, none⟩ = some (.int .u64 (u (c 2))) := fun _ h => blk_cell (box_cM h) 2 (cV_get c 2 (by omega))
  have c3 : ∀ wr, On (w.alloc (.cells (cV c) 26)) wr → wr.cell? ⟨w.heap.size, 3, none⟩ = some (.int .u64 (u (c 3))) := fun _ h => blk_cell (box_cM h) 3 (cV_get c 3 (by omega))
  have c4 : ∀ wr, On (w.alloc (.cells (cV c) 26)) wr → wr.cell? ⟨w.heap.size, 4, none⟩ = some (.int .u64 (u (c 4))) := fun _ h => blk_cell (box_cM h) 4 (cV_get c 4 (by omega))
  have c5 : ∀ wr, On (w.alloc (.cells (cV c) 26)) wr → wr.cell? ⟨w.heap.size, 5, none⟩ = some (.int .u64 (u (c 5))) := fun _ h => blk_cell (box_cM h) 5 (cV_get c 5 (by omega))
  have c11 : ∀ wr, On (w.alloc (.cells (cV c) 26)) wr → wr.cell? ⟨w.heap.size, 11, none⟩ = some (.int .u64 (u (c 11))) := fun _ h => blk_cell (box_cM h) 11 (cV_get c 11 (by omega))
  have c6 : ∀ wr, On (w.alloc (.cells (cV c) 26)) wr → wr.cell? ⟨w.heap.size, 6, none⟩ = some (.int .u64 (u (c 6))) := fun _ h => blk_cell (box_cM h) 6 (cV_get c 6 (by omega))
  have c22 : ∀ wr, On (w.alloc (.cells (cV c) 26)) wr → wr.cell? ⟨w.heap.size, 22, none⟩ = some (.int .u64 (u (c 22))) := fun _ h => blk_cell (box_cM h) 22 (cV_get c 22 (by omega))
  have c23 : ∀ wr, On (w.alloc (.cells (cV c) 26)) wr → wr.cell? ⟨w.heap.size, 23, none⟩ = some (.int .u64 (u (c 23))) := fun _ h => blk_cell (box_cM h) 23 (cV_get c 23 (by omega))
  have c24 : ∀ wr, On (w.alloc (.cells (cV c) 26)) wr → wr.cell? ⟨w.heap.size, 24, none⟩ = some (.int .u64 (u (c 24))) := fun _ h => blk_cell (box_cM h) 24 (cV_get c 24 (by omega))
  have c25 : ∀ wr, On (w.alloc (.cells (cV c) 26)) wr → wr.cell? ⟨w.heap.size, 25, none⟩ = some (.int .u64 (u (c 25))) := fun _ h => blk_cell (box_cM h) 25 (cV_get c 25 (by omega))
  have hb := On.refl (w.alloc (.cells (cV c) 26))
  have t22 : ¬ (5 < u (c 22)) := by unfold u; omega
  have t23 : ¬ (5 < u (c 23)) := by unfold u; omega
  have t24 : ¬ (5 < u (c 24)) := by unfold u; omega
  have t25 : ¬ (5 < u (c 25)) := by unfold u; omega
  have K : Hid (∀ w, Calls Try.prog 40 #[.int .u64 0, .int .u64 (u (c 0))] w fun e w' => e = .returned (.int .u64 (u (c 0))) ∧ w = w') := Lib.hid (fun w => by have := rkst_any 0#64 (c 0) w; rw [h0] at this; exact this)
  have T : Hid ((bits .and .u64 (u (c 0)) 6144 != 4096) = true ∧ (bits .andNot .u64 (u (c 1)) 46079 == 0) = true ∧ (bits .andNot .u64 (u (c 2)) 546 == 0) = true ∧ (bits .andNot .u64 (u (c 3)) 2730 == 0) = true ∧ (bits .andNot .u64 (u (c 4)) 546 == 0) = true ∧ (bits .and .u64 (u (c 5)) 2 == 0) = true ∧ (bits .and .u64 (u (c 11)) 2 == 0) = true ∧ (bits .andNot .u64 (u (c 6)) 127 == 0) = false) := Lib.hid ⟨by rw [show (6144 : Int) = u 0x1800#64 from rfl, show (4096 : Int) = u 0x1000#64 from rfl, u_and, bne, u_beq, beq_eq_false_iff_ne.2 h1]; rfl, sub_test (m := 46079#64) h2, sub_test (m := 546#64) h3, sub_test (m := 2730#64) h4, sub_test (m := 546#64) h5, low_test (m := 2#64) h6, low_test (m := 2#64) h7, sub_fall (m := 127#64) h8⟩
  clear h0 h1 h2 h3 h4 h5 h6 h7 h8 e22 e23 e24 e25
  go_enter Try.func26, Try.ntmps26
  go_wp2_with fail
  go_loopw [3] (fun i wr => ∃ k : Nat, k ≤ 4 ∧ i = .int .i64 k ∧ On (w.alloc (.cells (cV c) 26)) wr) (fun i _ => 4 - (intOf i).toNat)
  case atStart => exact ⟨0, by omega, rfl, hb⟩
  case round =>
    clear hb
    obtain ⟨k, hk, rfl, hb⟩ := hrel
    by_cases hk4 : k < 4
    · have h4 : k = 0 ∨ k = 1 ∨ k = 2 ∨ k = 3 := by omega
      clear K T
      rcases h4 with rfl | rfl | rfl | rfl
      · go_wp2
        go_roundw
        case rel => exact ⟨1, by omega, by go_num, hb⟩
        case measure => simp [intOf]
      · go_wp2
        go_roundw
        case rel => exact ⟨2, by omega, by go_num, hb⟩
        case measure => simp [intOf]
      · go_wp2
        go_roundw
        case rel => exact ⟨3, by omega, by go_num, hb⟩
        case measure => simp [intOf]
      · go_wp2
        go_roundw
        case rel => exact ⟨4, by omega, by go_num, hb⟩
        case measure => simp [intOf]
    · obtain rfl : k = 4 := by omega
      clear hk hk4 c22 c23 c24 c25 t22 t23 t24 t25
      have T := T.out
      obtain ⟨t0, t1, t2, t3, t4, t5, t6, t7⟩ := T
      clear T
      have hg : ∀ d os, On (w.alloc (.cells (cV c) 26)) (Sort.grow (redrawn wr d) os) := fun d os => hb.grow d os
      go_wp2_with fail
      simp only [List.append]
      refine wp_region_quiet_below (by kernel_rfl) (lexB_of_rows (by kernel_rfl) mayRows (by kernel_rfl) mayRows_ok) ?_
      repeat (go_big_quiet_step (first | (go_at_call 40; exact Calls.on_same (K.out _))))
      refine wpQuiet_nil ?_
      intro _ hw'
      obtain ⟨⟨dq, osq⟩, hw''⟩ := hw'
      subst hw''
      go_wp2
      go_ret
      exact ⟨rfl, ((On.refl w).alloc _).trans (hg _ _)⟩

set_option maxHeartbeats 4000000 in
set_option maxRecDepth 100000 in
theorem may_no12 (c : Nat → BitVec 64) (e22 : (c 22).toNat ≤ 5) (e23 : (c 23).toNat ≤ 5) (e24 : (c 24).toNat ≤ 5) (e25 : (c 25).toNat ≤ 5) (h0 : kst 0#64 (c 0) = c 0) (h1 : ¬ c 0 &&& 0x1800#64 = 0x1000#64) (h2 : Sub (c 1) 0xb3ff#64) (h3 : Sub (c 2) 0x222#64) (h4 : Sub (c 3) 0xaaa#64) (h5 : Sub (c 4) 0x222#64) (h6 : c 5 &&& 2#64 = 0#64) (h7 : c 11 &&& 2#64 = 0#64) (h8 : Sub (c 6) 0x7f#64) (h9 : Sub (c 12) 0x7f#64) (h10 : c 8 &&& 3#64 = 0#64) (h11 : c 14 &&& 3#64 = 0#64) (h12 : ¬ Sub (c 9) 0x800000000000003f#64) (w : World) : Calls Try.prog 26 #[.agg (cV c)] w fun r w' => r = .returned (.bool false) ∧ On w w' := by
  have c0 : ∀ wr, On (w.alloc (.cells (cV c) 26)) wr → wr.cell? ⟨w.heap.size, 0, none⟩ = some (.int .u64 (u (c 0))) := fun _ h => blk_cell (box_cM h) 0 (cV_get c 0 (by omega))
  have c1 : ∀ wr, On (w.alloc (.cells (cV c) 26)) wr → wr.cell? ⟨w.heap.size, 1, none⟩ = some (.int .u64 (u (c 1))) := fun _ h => blk_cell (box_cM h) 1 (cV_get c 1 (by omega))
  have c2 : ∀ wr, On (w.alloc (.cells (cV c) 26)) wr → wr.cell? ⟨w.heap.size, 2, none⟩ = some (.int .u64 (u (c 2))) := fun _ h => blk_cell (box_cM h) 2 (cV_get c 2 (by omega))
  have c3 : ∀ wr, On (w.alloc (.cells (cV c) 26)) wr → wr.cell? ⟨w.heap.size, 3, none⟩ = some (.int .u64 (u (c 3))) := fun _ h => blk_cell (box_cM h) 3 (cV_get c 3 (by omega))
  have c4 : ∀ wr, On (w.alloc (.cells (cV c) 26)) wr → wr.cell? ⟨w.heap.size, 4, none⟩ = some (.int .u64 (u (c 4))) := fun _ h => blk_cell (box_cM h) 4 (cV_get c 4 (by omega))
  have c5 : ∀ wr, On (w.alloc (.cells (cV c) 26)) wr → wr.cell? ⟨w.heap.size, 5, none⟩ = some (.int .u64 (u (c 5))) := fun _ h => blk_cell (box_cM h) 5 (cV_get c 5 (by omega))
  have c11 : ∀ wr, On (w.alloc (.cells (cV c) 26)) wr → wr.cell? ⟨w.heap.size, 11, none⟩ = some (.int .u64 (u (c 11))) := fun _ h => blk_cell (box_cM h) 11 (cV_get c 11 (by omega))
  have c6 : ∀ wr, On (w.alloc (.cells (cV c) 26)) wr → wr.cell? ⟨w.heap.size, 6, none⟩ = some (.int .u64 (u (c 6))) := fun _ h => blk_cell (box_cM h) 6 (cV_get c 6 (by omega))
  have c12 : ∀ wr, On (w.alloc (.cells (cV c) 26)) wr → wr.cell? ⟨w.heap.size, 12, none⟩ = some (.int .u64 (u (c 12))) := fun _ h => blk_cell (box_cM h) 12 (cV_get c 12 (by omega))
  have c8 : ∀ wr, On (w.alloc (.cells (cV c) 26)) wr → wr.cell? ⟨w.heap.size, 8, none⟩ = some (.int .u64 (u (c 8))) := fun _ h => blk_cell (box_cM h) 8 (cV_get c 8 (by omega))
  have c14 : ∀ wr, On (w.alloc (.cells (cV c) 26)) wr → wr.cell? ⟨w.heap.size, 14, none⟩ = some (.int .u64 (u (c 14))) := fun _ h => blk_cell (box_cM h) 14 (cV_get c 14 (by omega))
  have c9 : ∀ wr, On (w.alloc (.cells (cV c) 26)) wr → wr.cell? ⟨w.heap.size, 9, none⟩ = some (.int .u64 (u (c 9))) := fun _ h => blk_cell (box_cM h) 9 (cV_get c 9 (by omega))
  have c22 : ∀ wr, On (w.alloc (.cells (cV c) 26)) wr → wr.cell? ⟨w.heap.size, 22, none⟩ = some (.int .u64 (u (c 22))) := fun _ h => blk_cell (box_cM h) 22 (cV_get c 22 (by omega))
  have c23 : ∀ wr, On (w.alloc (.cells (cV c) 26)) wr → wr.cell? ⟨w.heap.size, 23, none⟩ = some (.int .u64 (u (c 23))) := fun _ h => blk_cell (box_cM h) 23 (cV_get c 23 (by omega))
  have c24 : ∀ wr, On (w.alloc (.cells (cV c) 26)) wr → wr.cell? ⟨w.heap.size, 24, none⟩ = some (.int .u64 (u (c 24))) := fun _ h => blk_cell (box_cM h) 24 (cV_get c 24 (by omega))
  have c25 : ∀ wr, On (w.alloc (.cells (cV c) 26)) wr → wr.cell? ⟨w.heap.size, 25, none⟩ = some (.int .u64 (u (c 25))) := fun _ h => blk_cell (box_cM h) 25 (cV_get c 25 (by omega))
  have hb := On.refl (w.alloc (.cells (cV c) 26))
  have t22 : ¬ (5 < u (c 22)) := by unfold u; omega
  have t23 : ¬ (5 < u (c 23)) := by unfold u; omega
  have t24 : ¬ (5 < u (c 24)) := by unfold u; omega
  have t25 : ¬ (5 < u (c 25)) := by unfold u; omega
  have K : Hid (∀ w, Calls Try.prog 40 #[.int .u64 0, .int .u64 (u (c 0))] w fun e w' => e = .returned (.int .u64 (u (c 0))) ∧ w = w') := Lib.hid (fun w => by have := rkst_any 0#64 (c 0) w; rw [h0] at this; exact this)
  have T : Hid ((bits .and .u64 (u (c 0)) 6144 != 4096) = true ∧ (bits .andNot .u64 (u (c 1)) 46079 == 0) = true ∧ (bits .andNot .u64 (u (c 2)) 546 == 0) = true ∧ (bits .andNot .u64 (u (c 3)) 2730 == 0) = true ∧ (bits .andNot .u64 (u (c 4)) 546 == 0) = true ∧ (bits .and .u64 (u (c 5)) 2 == 0) = true ∧ (bits .and .u64 (u (c 11)) 2 == 0) = true ∧ (bits .andNot .u64 (u (c 6)) 127 == 0) = true ∧ (bits .andNot .u64 (u (c 12)) 127 == 0) = true ∧ (bits .and .u64 (u (c 8)) 3 == 0) = true ∧ (bits .and .u64 (u (c 14)) 3 == 0) = true ∧ (bits .andNot .u64 (u (c 9)) 9223372036854775871 == 0) = false) := Lib.hid ⟨by rw [show (6144 : Int) = u 0x1800#64 from rfl, show (4096 : Int) = u 0x1000#64 from rfl, u_and, bne, u_beq, beq_eq_false_iff_ne.2 h1]; rfl, sub_test (m := 46079#64) h2, sub_test (m := 546#64) h3, sub_test (m := 2730#64) h4, sub_test (m := 546#64) h5, low_test (m := 2#64) h6, low_test (m := 2#64) h7, sub_test (m := 127#64) h8, sub_test (m := 127#64) h9, low_test (m := 3#64) h10, low_test (m := 3#64) h11, sub_fall (m := 9223372036854775871#64) h12⟩
  clear h0 h1 h2 h3 h4 h5 h6 h7 h8 h9 h10 h11 h12 e22 e23 e24 e25
  go_enter Try.func26, Try.ntmps26
  go_wp2_with fail
  go_loopw [3] (fun i wr => ∃ k : Nat, k ≤ 4 ∧ i = .int .i64 k ∧ On (w.alloc (.cells (cV c) 26)) wr) (fun i _ => 4 - (intOf i).toNat)
  case atStart => exact ⟨0, by omega, rfl, hb⟩
  case round =>
    clear hb
    obtain ⟨k, hk, rfl, hb⟩ := hrel
    by_cases hk4 : k < 4
    · have h4 : k = 0 ∨ k = 1 ∨ k = 2 ∨ k = 3 := by omega
      clear K T
      rcases h4 with rfl | rfl | rfl | rfl
      · go_wp2
        go_roundw
        case rel => exact ⟨1, by omega, by go_num, hb⟩
        case measure => simp [intOf]
      · go_wp2
        go_roundw
        case rel => exact ⟨2, by omega, by go_num, hb⟩
        case measure => simp [intOf]
      · go_wp2
        go_roundw
        case rel => exact ⟨3, by omega, by go_num, hb⟩
        case measure => simp [intOf]
      · go_wp2
        go_roundw
        case rel => exact ⟨4, by omega, by go_num, hb⟩
        case measure => simp [intOf]
    · obtain rfl : k = 4 := by omega
      clear hk hk4 c22 c23 c24 c25 t22 t23 t24 t25
      have T := T.out
      obtain ⟨t0, t1, t2, t3, t4, t5, t6, t7, t8, t9, t10, t11⟩ := T
      clear T
      have hg : ∀ d os, On (w.alloc (.cells (cV c) 26)) (Sort.grow (redrawn wr d) os) := fun d os => hb.grow d os
      go_wp2_with fail
      simp only [List.append]
      refine wp_region_quiet_below (by kernel_rfl) (lexB_of_rows (by kernel_rfl) mayRows (by kernel_rfl) mayRows_ok) ?_
      repeat (go_big_quiet_step (first | (go_at_call 40; exact Calls.on_same (K.out _))))
      refine wpQuiet_nil ?_
      intro _ hw'
      obtain ⟨⟨dq, osq⟩, hw''⟩ := hw'
      subst hw''
      go_wp2
      go_ret
      exact ⟨rfl, ((On.refl w).alloc _).trans (hg _ _)⟩

set_option maxHeartbeats 4000000 in
set_option maxRecDepth 100000 in
theorem may_no15b (c : Nat → BitVec 64) (e22 : (c 22).toNat ≤ 5) (e23 : (c 23).toNat ≤ 5) (e24 : (c 24).toNat ≤ 5) (e25 : (c 25).toNat ≤ 5) (h0 : kst 0#64 (c 0) = c 0) (h1 : ¬ c 0 &&& 0x1800#64 = 0x1000#64) (h2 : Sub (c 1) 0xb3ff#64) (h3 : Sub (c 2) 0x222#64) (h4 : Sub (c 3) 0xaaa#64) (h5 : Sub (c 4) 0x222#64) (h6 : c 5 &&& 2#64 = 0#64) (h7 : c 11 &&& 2#64 = 0#64) (h8 : Sub (c 6) 0x7f#64) (h9 : Sub (c 12) 0x7f#64) (h10 : c 8 &&& 3#64 = 0#64) (h11 : c 14 &&& 3#64 = 0#64) (h12 : Sub (c 9) 0x800000000000003f#64) (h13 : Sub (c 15) 0x800000000000003f#64) (h14 : c 17 >>> 60 = 8#64) (h15 : ¬ Sub (c 18) 0x7d#64) (w : World) : Calls Try.prog 26 #[.agg (cV c)] w fun r w' => r = .returned (.bool false) ∧ On w w' := by
  have c0 : ∀ wr, On (w.alloc (.cells (cV c) 26)) wr → wr.cell? ⟨w.heap.size, 0, none⟩ = some (.int .u64 (u (c 0))) := fun _ h => blk_cell (box_cM h) 0 (cV_get c 0 (by omega))
  have c1 : ∀ wr, On (w.alloc (.cells (cV c) 26)) wr → wr.cell? ⟨w.heap.size, 1, none⟩ = some (.int .u64 (u (c 1))) := fun _ h => blk_cell (box_cM h) 1 (cV_get c 1 (by omega))
  have c2 : ∀ wr, On (w.alloc (.cells (cV c) 26)) wr → wr.cell? ⟨w.heap.size, 2, none⟩ = some (.int .u64 (u (c 2))) := fun _ h => blk_cell (box_cM h) 2 (cV_get c 2 (by omega))
  have c3 : ∀ wr, On (w.alloc (.cells (cV c) 26)) wr → wr.cell? ⟨w.heap.size, 3, none⟩ = some (.int .u64 (u (c 3))) := fun _ h => blk_cell (box_cM h) 3 (cV_get c 3 (by omega))
  have c4 : ∀ wr, On (w.alloc (.cells (cV c) 26)) wr → wr.cell? ⟨w.heap.size, 4, none⟩ = some (.int .u64 (u (c 4))) := fun _ h => blk_cell (box_cM h) 4 (cV_get c 4 (by omega))
  have c5 : ∀ wr, On (w.alloc (.cells (cV c) 26)) wr → wr.cell? ⟨w.heap.size, 5, none⟩ = some (.int .u64 (u (c 5))) := fun _ h => blk_cell (box_cM h) 5 (cV_get c 5 (by omega))
  have c11 : ∀ wr, On (w.alloc (.cells (cV c) 26)) wr → wr.cell? ⟨w.heap.size, 11, none⟩ = some (.int .u64 (u (c 11))) := fun _ h => blk_cell (box_cM h) 11 (cV_get c 11 (by omega))
  have c6 : ∀ wr, On (w.alloc (.cells (cV c) 26)) wr → wr.cell? ⟨w.heap.size, 6, none⟩ = some (.int .u64 (u (c 6))) := fun _ h => blk_cell (box_cM h) 6 (cV_get c 6 (by omega))
  have c12 : ∀ wr, On (w.alloc (.cells (cV c) 26)) wr → wr.cell? ⟨w.heap.size, 12, none⟩ = some (.int .u64 (u (c 12))) := fun _ h => blk_cell (box_cM h) 12 (cV_get c 12 (by omega))
  have c8 : ∀ wr, On (w.alloc (.cells (cV c) 26)) wr → wr.cell? ⟨w.heap.size, 8, none⟩ = some (.int .u64 (u (c 8))) := fun _ h => blk_cell (box_cM h) 8 (cV_get c 8 (by omega))
  have c14 : ∀ wr, On (w.alloc (.cells (cV c) 26)) wr → wr.cell? ⟨w.heap.size, 14, none⟩ = some (.int .u64 (u (c 14))) := fun _ h => blk_cell (box_cM h) 14 (cV_get c 14 (by omega))
  have c9 : ∀ wr, On (w.alloc (.cells (cV c) 26)) wr → wr.cell? ⟨w.heap.size, 9, none⟩ = some (.int .u64 (u (c 9))) := fun _ h => blk_cell (box_cM h) 9 (cV_get c 9 (by omega))
  have c15 : ∀ wr, On (w.alloc (.cells (cV c) 26)) wr → wr.cell? ⟨w.heap.size, 15, none⟩ = some (.int .u64 (u (c 15))) := fun _ h => blk_cell (box_cM h) 15 (cV_get c 15 (by omega))
  have c17 : ∀ wr, On (w.alloc (.cells (cV c) 26)) wr → wr.cell? ⟨w.heap.size, 17, none⟩ = some (.int .u64 (u (c 17))) := fun _ h => blk_cell (box_cM h) 17 (cV_get c 17 (by omega))
  have c18 : ∀ wr, On (w.alloc (.cells (cV c) 26)) wr → wr.cell? ⟨w.heap.size, 18, none⟩ = some (.int .u64 (u (c 18))) := fun _ h => blk_cell (box_cM h) 18 (cV_get c 18 (by omega))
  have c22 : ∀ wr, On (w.alloc (.cells (cV c) 26)) wr → wr.cell? ⟨w.heap.size, 22, none⟩ = some (.int .u64 (u (c 22))) := fun _ h => blk_cell (box_cM h) 22 (cV_get c 22 (by omega))
  have c23 : ∀ wr, On (w.alloc (.cells (cV c) 26)) wr → wr.cell? ⟨w.heap.size, 23, none⟩ = some (.int .u64 (u (c 23))) := fun _ h => blk_cell (box_cM h) 23 (cV_get c 23 (by omega))
  have c24 : ∀ wr, On (w.alloc (.cells (cV c) 26)) wr → wr.cell? ⟨w.heap.size, 24, none⟩ = some (.int .u64 (u (c 24))) := fun _ h => blk_cell (box_cM h) 24 (cV_get c 24 (by omega))
  have c25 : ∀ wr, On (w.alloc (.cells (cV c) 26)) wr → wr.cell? ⟨w.heap.size, 25, none⟩ = some (.int .u64 (u (c 25))) := fun _ h => blk_cell (box_cM h) 25 (cV_get c 25 (by omega))
  have hb := On.refl (w.alloc (.cells (cV c) 26))
  have t22 : ¬ (5 < u (c 22)) := by unfold u; omega
  have t23 : ¬ (5 < u (c 23)) := by unfold u; omega
  have t24 : ¬ (5 < u (c 24)) := by unfold u; omega
  have t25 : ¬ (5 < u (c 25)) := by unfold u; omega
  have K : Hid (∀ w, Calls Try.prog 40 #[.int .u64 0, .int .u64 (u (c 0))] w fun e w' => e = .returned (.int .u64 (u (c 0))) ∧ w = w') := Lib.hid (fun w => by have := rkst_any 0#64 (c 0) w; rw [h0] at this; exact this)
  have T : Hid ((bits .and .u64 (u (c 0)) 6144 != 4096) = true ∧ (bits .andNot .u64 (u (c 1)) 46079 == 0) = true ∧ (bits .andNot .u64 (u (c 2)) 546 == 0) = true ∧ (bits .andNot .u64 (u (c 3)) 2730 == 0) = true ∧ (bits .andNot .u64 (u (c 4)) 546 == 0) = true ∧ (bits .and .u64 (u (c 5)) 2 == 0) = true ∧ (bits .and .u64 (u (c 11)) 2 == 0) = true ∧ (bits .andNot .u64 (u (c 6)) 127 == 0) = true ∧ (bits .andNot .u64 (u (c 12)) 127 == 0) = true ∧ (bits .and .u64 (u (c 8)) 3 == 0) = true ∧ (bits .and .u64 (u (c 14)) 3 == 0) = true ∧ (bits .andNot .u64 (u (c 9)) 9223372036854775871 == 0) = true ∧ (bits .andNot .u64 (u (c 15)) 9223372036854775871 == 0) = true ∧ (u (c 17) / (1152921504606846976 : Int) == 0) = false ∧ (u (c 17) / (1152921504606846976 : Int) == 8) = true ∧ (bits .andNot .u64 (u (c 18)) 125 == 0) = false) := Lib.hid ⟨by rw [show (6144 : Int) = u 0x1800#64 from rfl, show (4096 : Int) = u 0x1000#64 from rfl, u_and, bne, u_beq, beq_eq_false_iff_ne.2 h1]; rfl, sub_test (m := 46079#64) h2, sub_test (m := 546#64) h3, sub_test (m := 2730#64) h4, sub_test (m := 546#64) h5, low_test (m := 2#64) h6, low_test (m := 2#64) h7, sub_test (m := 127#64) h8, sub_test (m := 127#64) h9, low_test (m := 3#64) h10, low_test (m := 3#64) h11, sub_test (m := 9223372036854775871#64) h12, sub_test (m := 9223372036854775871#64) h13, by rw [(show u (c 17) / (1152921504606846976 : Int) = u (c 17 >>> 60) from by rw [← u_shr (c 17) 60]; rfl), h14]; rfl, by rw [(show u (c 17) / (1152921504606846976 : Int) = u (c 17 >>> 60) from by rw [← u_shr (c 17) 60]; rfl), h14]; rfl, sub_fall (m := 125#64) h15⟩
  clear h0 h1 h2 h3 h4 h5 h6 h7 h8 h9 h10 h11 h12 h13 h14 h15 e22 e23 e24 e25
  go_enter Try.func26, Try.ntmps26
  go_wp2_with fail
  go_loopw [3] (fun i wr => ∃ k : Nat, k ≤ 4 ∧ i = .int .i64 k ∧ On (w.alloc (.cells (cV c) 26)) wr) (fun i _ => 4 - (intOf i).toNat)
  case atStart => exact ⟨0, by omega, rfl, hb⟩
  case round =>
    clear hb
    obtain ⟨k, hk, rfl, hb⟩ := hrel
    by_cases hk4 : k < 4
    · have h4 : k = 0 ∨ k = 1 ∨ k = 2 ∨ k = 3 := by omega
      clear K T
      rcases h4 with rfl | rfl | rfl | rfl
      · go_wp2
        go_roundw
        case rel => exact ⟨1, by omega, by go_num, hb⟩
        case measure => simp [intOf]
      · go_wp2
        go_roundw
        case rel => exact ⟨2, by omega, by go_num, hb⟩
        case measure => simp [intOf]
      · go_wp2
        go_roundw
        case rel => exact ⟨3, by omega, by go_num, hb⟩
        case measure => simp [intOf]
      · go_wp2
        go_roundw
        case rel => exact ⟨4, by omega, by go_num, hb⟩
        case measure => simp [intOf]
    · obtain rfl : k = 4 := by omega
      clear hk hk4 c22 c23 c24 c25 t22 t23 t24 t25
      have T := T.out
      obtain ⟨t0, t1, t2, t3, t4, t5, t6, t7, t8, t9, t10, t11, t12, t13, t14, t15⟩ := T
      clear T
      have hg : ∀ d os, On (w.alloc (.cells (cV c) 26)) (Sort.grow (redrawn wr d) os) := fun d os => hb.grow d os
      go_wp2_with fail
      simp only [List.append]
      refine wp_region_quiet_below (by kernel_rfl) (lexB_of_rows (by kernel_rfl) mayRows (by kernel_rfl) mayRows_ok) ?_
      repeat (go_big_quiet_step (first | (go_at_call 40; exact Calls.on_same (K.out _))))
      refine wpQuiet_nil ?_
      intro _ hw'
      obtain ⟨⟨dq, osq⟩, hw''⟩ := hw'
      subst hw''
      go_wp2
      go_ret
      exact ⟨rfl, ((On.refl w).alloc _).trans (hg _ _)⟩
end Go.Proofs.Ytleolldgpoeabaa
