/- Traps on a hart: whether they are delegated, and what comes of them. Conditions: named at each. -/
import Derived.Test.YtleolldgpoeabaaTrapE
namespace Go.Proofs.Ytleolldgpoeabaa
open Go.RowKit

set_option maxRecDepth 100000 in
set_option maxHeartbeats 1000000 in
theorem dlg_0 (h : Nat → BitVec 64) (r : Bool) (c : BitVec 64) (w : World) : Calls Try.prog 28 #[.agg (hV h 0 r), .int .u64 (u c)] w fun e w' => e = .returned (.bool (dlg h 0 c)) ∧ On w w' := by
  have HC : ∀ wr, On (w.alloc (.cells (hV h 0 r) 28)) wr → wr.heap[w.heap.size]? = some (.cells (hV h 0 r) 28 (0, 0)) := fun _ k => k.keep (heap_alloc_new _ _)
  have c35 : ∀ wr, On (w.alloc (.cells (hV h 0 r) 28)) wr → wr.cell? ⟨w.heap.size, 35, none⟩ = some (.int .u64 (u (h 35))) := fun _ k => blk_cell (HC _ k) 35 (hV_get h 0 r 35 (by omega) (by omega) (by omega))
  have c36 : ∀ wr, On (w.alloc (.cells (hV h 0 r) 28)) wr → wr.cell? ⟨w.heap.size, 36, none⟩ = some (.int .u64 (u (h 36))) := fun _ k => blk_cell (HC _ k) 36 (hV_get h 0 r 36 (by omega) (by omega) (by omega))
  have cP : ∀ wr, On (w.alloc (.cells (hV h 0 r) 28)) wr → wr.cell? ⟨w.heap.size, 1, none⟩ = some (.int .i64 0) := fun _ k => blk_cell (HC _ k) 1 (hV_priv h 0 r)
  have hb := On.refl (w.alloc (.cells (hV h 0 r) 28))
  have sh := fun v => shr_run Try.prog v (c &&& 63#64) (and_lt64 c)
  cases h2 : c.getLsbD 63
  · have K : Hid (∀ w, Calls Try.prog 41 #[.int .u64 (u c)] w fun e w' => e = .returned (.bool false) ∧ w = w') := Lib.hid (fun w => by have := isint_any c w; rw [h2] at this; exact this)
    have D : Hid ((bits .and .u64 (u (h 35 >>> (c &&& 63#64).toNat)) 1 != 0) = dlg h 0 c) := Lib.hid (by rw [bit_at]; unfold dlg; rw [h2]; rfl)
    clear h2
    go_enter Try.func28, Try.ntmps28
    go_wp2_with (first | (go_at_call 41; refine (K.out _).mono ?_; rintro e w' ⟨rfl, rfl⟩) | (go_at_call 42; refine (num_any _ _).mono ?_; rintro e w' ⟨rfl, rfl⟩))
    go_ret
    exact ⟨by rw [← D.out]; rfl, (On.refl w).alloc _⟩
  · have K : Hid (∀ w, Calls Try.prog 41 #[.int .u64 (u c)] w fun e w' => e = .returned (.bool true) ∧ w = w') := Lib.hid (fun w => by have := isint_any c w; rw [h2] at this; exact this)
    have D : Hid ((bits .and .u64 (u (h 36 >>> (c &&& 63#64).toNat)) 1 != 0) = dlg h 0 c) := Lib.hid (by rw [bit_at]; unfold dlg; rw [h2]; rfl)
    clear h2
    go_enter Try.func28, Try.ntmps28
    go_wp2_with (first | (go_at_call 41; refine (K.out _).mono ?_; rintro e w' ⟨rfl, rfl⟩) | (go_at_call 42; refine (num_any _ _).mono ?_; rintro e w' ⟨rfl, rfl⟩))
    go_ret
    exact ⟨by rw [← D.out]; rfl, (On.refl w).alloc _⟩
set_option maxRecDepth 100000 in
set_option maxHeartbeats 1000000 in
theorem dlg_1 (h : Nat → BitVec 64) (r : Bool) (c : BitVec 64) (w : World) : Calls Try.prog 28 #[.agg (hV h 1 r), .int .u64 (u c)] w fun e w' => e = .returned (.bool (dlg h 1 c)) ∧ On w w' := by
  have HC : ∀ wr, On (w.alloc (.cells (hV h 1 r) 28)) wr → wr.heap[w.heap.size]? = some (.cells (hV h 1 r) 28 (0, 0)) := fun _ k => k.keep (heap_alloc_new _ _)
  have c35 : ∀ wr, On (w.alloc (.cells (hV h 1 r) 28)) wr → wr.cell? ⟨w.heap.size, 35, none⟩ = some (.int .u64 (u (h 35))) := fun _ k => blk_cell (HC _ k) 35 (hV_get h 1 r 35 (by omega) (by omega) (by omega))
  have c36 : ∀ wr, On (w.alloc (.cells (hV h 1 r) 28)) wr → wr.cell? ⟨w.heap.size, 36, none⟩ = some (.int .u64 (u (h 36))) := fun _ k => blk_cell (HC _ k) 36 (hV_get h 1 r 36 (by omega) (by omega) (by omega))
  have cP : ∀ wr, On (w.alloc (.cells (hV h 1 r) 28)) wr → wr.cell? ⟨w.heap.size, 1, none⟩ = some (.int .i64 1) := fun _ k => blk_cell (HC _ k) 1 (hV_priv h 1 r)
  have hb := On.refl (w.alloc (.cells (hV h 1 r) 28))
  have sh := fun v => shr_run Try.prog v (c &&& 63#64) (and_lt64 c)
  cases h2 : c.getLsbD 63
  · have K : Hid (∀ w, Calls Try.prog 41 #[.int .u64 (u c)] w fun e w' => e = .returned (.bool false) ∧ w = w') := Lib.hid (fun w => by have := isint_any c w; rw [h2] at this; exact this)
    have D : Hid ((bits .and .u64 (u (h 35 >>> (c &&& 63#64).toNat)) 1 != 0) = dlg h 1 c) := Lib.hid (by rw [bit_at]; unfold dlg; rw [h2]; rfl)
    clear h2
    go_enter Try.func28, Try.ntmps28
    go_wp2_with (first | (go_at_call 41; refine (K.out _).mono ?_; rintro e w' ⟨rfl, rfl⟩) | (go_at_call 42; refine (num_any _ _).mono ?_; rintro e w' ⟨rfl, rfl⟩))
    go_ret
    exact ⟨by rw [← D.out]; rfl, (On.refl w).alloc _⟩
  · have K : Hid (∀ w, Calls Try.prog 41 #[.int .u64 (u c)] w fun e w' => e = .returned (.bool true) ∧ w = w') := Lib.hid (fun w => by have := isint_any c w; rw [h2] at this; exact this)
    have D : Hid ((bits .and .u64 (u (h 36 >>> (c &&& 63#64).toNat)) 1 != 0) = dlg h 1 c) := Lib.hid (by rw [bit_at]; unfold dlg; rw [h2]; rfl)
    clear h2
    go_enter Try.func28, Try.ntmps28
    go_wp2_with (first | (go_at_call 41; refine (K.out _).mono ?_; rintro e w' ⟨rfl, rfl⟩) | (go_at_call 42; refine (num_any _ _).mono ?_; rintro e w' ⟨rfl, rfl⟩))
    go_ret
    exact ⟨by rw [← D.out]; rfl, (On.refl w).alloc _⟩
set_option maxRecDepth 100000 in
set_option maxHeartbeats 1000000 in
theorem dlg_x (h : Nat → BitVec 64) (p : Int) (r : Bool) (c : BitVec 64) (h0 : ¬ p = 0) (h1 : ¬ p = 1) (w : World) : Calls Try.prog 28 #[.agg (hV h p r), .int .u64 (u c)] w fun e w' => e = .returned (.bool (dlg h p c)) ∧ On w w' := by
  have HC : ∀ wr, On (w.alloc (.cells (hV h p r) 28)) wr → wr.heap[w.heap.size]? = some (.cells (hV h p r) 28 (0, 0)) := fun _ k => k.keep (heap_alloc_new _ _)
  have c35 : ∀ wr, On (w.alloc (.cells (hV h p r) 28)) wr → wr.cell? ⟨w.heap.size, 35, none⟩ = some (.int .u64 (u (h 35))) := fun _ k => blk_cell (HC _ k) 35 (hV_get h p r 35 (by omega) (by omega) (by omega))
  have c36 : ∀ wr, On (w.alloc (.cells (hV h p r) 28)) wr → wr.cell? ⟨w.heap.size, 36, none⟩ = some (.int .u64 (u (h 36))) := fun _ k => blk_cell (HC _ k) 36 (hV_get h p r 36 (by omega) (by omega) (by omega))
  have cP : ∀ wr, On (w.alloc (.cells (hV h p r) 28)) wr → wr.cell? ⟨w.heap.size, 1, none⟩ = some (.int .i64 p) := fun _ k => blk_cell (HC _ k) 1 (hV_priv h p r)
  have hb := On.refl (w.alloc (.cells (hV h p r) 28))
  have p0 : (p == 0) = false := by simpa using h0
  have p1 : (p == 1) = false := by simpa using h1
  have sh := fun v => shr_run Try.prog v (c &&& 63#64) (and_lt64 c)
  cases h2 : c.getLsbD 63
  · have K : Hid (∀ w, Calls Try.prog 41 #[.int .u64 (u c)] w fun e w' => e = .returned (.bool false) ∧ w = w') := Lib.hid (fun w => by have := isint_any c w; rw [h2] at this; exact this)
    have D : Hid (false = dlg h p c) := Lib.hid (by unfold dlg; rw [p0, p1]; rfl)
    clear h2 h0 h1
    go_enter Try.func28, Try.ntmps28
    go_wp2_with (first | (go_at_call 41; refine (K.out _).mono ?_; rintro e w' ⟨rfl, rfl⟩) | (go_at_call 42; refine (num_any _ _).mono ?_; rintro e w' ⟨rfl, rfl⟩))
    go_ret
    exact ⟨by rw [← D.out]; rfl, (On.refl w).alloc _⟩
  · have K : Hid (∀ w, Calls Try.prog 41 #[.int .u64 (u c)] w fun e w' => e = .returned (.bool true) ∧ w = w') := Lib.hid (fun w => by have := isint_any c w; rw [h2] at this; exact this)
    have D : Hid (false = dlg h p c) := Lib.hid (by unfold dlg; rw [p0, p1]; rfl)
    clear h2 h0 h1
    go_enter Try.func28, Try.ntmps28
    go_wp2_with (first | (go_at_call 41; refine (K.out _).mono ?_; rintro e w' ⟨rfl, rfl⟩) | (go_at_call 42; refine (num_any _ _).mono ?_; rintro e w' ⟨rfl, rfl⟩))
    go_ret
    exact ⟨by rw [← D.out]; rfl, (On.refl w).alloc _⟩
theorem dlg_any (h : Nat → BitVec 64) (p : Int) (r : Bool) (c : BitVec 64) (w : World) : Calls Try.prog 28 #[.agg (hV h p r), .int .u64 (u c)] w fun e w' => e = .returned (.bool (dlg h p c)) ∧ On w w' := by
  by_cases h0 : p = 0
  · subst h0; exact dlg_0 h r c w
  · by_cases h1 : p = 1
    · subst h1; exact dlg_1 h r c w
    · exact dlg_x h p r c h0 h1 w
set_option maxRecDepth 100000 in
set_option maxHeartbeats 1000000 in
theorem enter_any (h : Nat → BitVec 64) (p : Int) (r : Bool) (c t : BitVec 64) (w : World) : Calls Try.prog 12 #[.agg (hV h p r), .int .u64 (u c), .int .u64 (u t)] w fun e w' => e = .returned (.agg (hV (entH h p c t) (entP h p c) false)) ∧ On w w' := by
  have hZ := fun w => hrt_zero w
  have A : bits .and .u64 (u c) 9223372036854775871 = u (cau c) := u_and c 0x800000000000003f#64
  have K0 := fun w => dlg_any h p r (cau c) w
  rw [dlg_cau] at K0
  have HC : ∀ wr, On ((w.alloc (.cells (hV h p r) 28)).alloc (.cells (hV zC 0 false) 28)) wr → wr.heap[w.heap.size]? = some (.cells (hV h p r) 28 (0, 0)) := fun _ k => k.keep (box1 _ _ _)
  have HR : ∀ wr, On ((w.alloc (.cells (hV h p r) 28)).alloc (.cells (hV zC 0 false) 28)) wr → wr.heap[w.heap.size + 1]? = some (.cells (hV zC 0 false) 28 (0, 0)) := fun _ k => k.keep (box2 _ _ _)
  have HO : Hid (On w ((w.alloc (.cells (hV h p r) 28)).alloc (.cells (hV zC 0 false) 28))) := Lib.hid (((On.refl w).alloc _).alloc _)
  have hb := On.refl ((w.alloc (.cells (hV h p r) 28)).alloc (.cells (hV zC 0 false) 28))
  cases hd : dlg h p c
  · have K1 : Hid (∀ w, Calls Try.prog 28 #[.agg (hV h p r), .int .u64 (u (cau c))] w fun e w' => e = .returned (.bool false) ∧ On w w') := Lib.hid (fun w => by have := K0 w; rw [hd] at this; exact this)
    have K2 : Hid (∀ w, Calls Try.prog 31 #[.agg (hV h p r), .int .u64 (u (cau c)), .int .u64 (u t)] w fun e w' => e = .returned (.agg (hV (entM h p (cau c) t) 3 r)) ∧ On w w') := Lib.hid (fun w => entM_any h p r (cau c) t w)
    have E : Hid (hV (upd (entM h p (cau c) t) 65 0#64) 3 false = hV (entH h p c t) (entP h p c) false) := Lib.hid (by unfold entH entP; rw [hd]; rfl)
    generalize entM h p (cau c) t = x at *
    clear hd K0
    go_enter Try.func12, Try.ntmps12
    go_wp2_with (first | ((with_reducible apply hrt_ld); (case ho => exact rfl); (case hgd => exact rfl); (case hx => exact rfl); (case hg => exact HC _ (by assumption))) | ((with_reducible apply hrt_st); (case ho => exact rfl); (case hgd => exact rfl); (case hx => exact rfl); (case hy => exact rfl); (case hg => exact HR _ (by assumption))) | (go_at_call 28; refine (K1.out _).mono ?_; rintro e wn ⟨rfl, hb'⟩; have hb := hb.trans hb'; clear hb') | (go_at_call 31; refine (K2.out _).mono ?_; rintro e wn ⟨rfl, hb'⟩; have hb := hb.trans hb'; clear hb') | (go_at_call 29; refine (rel_any _ _ _ _).mono ?_; rintro e wn ⟨rfl, hb'⟩; have hb := hb.trans hb'; clear hb'))
    refine row_back hrtT rfl rfl rfl (hset_row (HR _ (by assumption))) (hV_size ..) ⟨by rw [← E.out], (HO.out.trans hb).row _ _ (by omega)⟩
  · have K1 : Hid (∀ w, Calls Try.prog 28 #[.agg (hV h p r), .int .u64 (u (cau c))] w fun e w' => e = .returned (.bool true) ∧ On w w') := Lib.hid (fun w => by have := K0 w; rw [hd] at this; exact this)
    have K2 : Hid (∀ w, Calls Try.prog 30 #[.agg (hV h p r), .int .u64 (u (cau c)), .int .u64 (u t)] w fun e w' => e = .returned (.agg (hV (entS h p (cau c) t) 1 r)) ∧ On w w') := Lib.hid (fun w => entS_any h p r (cau c) t w)
    have E : Hid (hV (upd (entS h p (cau c) t) 65 0#64) 1 false = hV (entH h p c t) (entP h p c) false) := Lib.hid (by unfold entH entP; rw [hd]; rfl)
    generalize entS h p (cau c) t = x at *
    clear hd K0
    go_enter Try.func12, Try.ntmps12
    go_wp2_with (first | ((with_reducible apply hrt_ld); (case ho => exact rfl); (case hgd => exact rfl); (case hx => exact rfl); (case hg => exact HC _ (by assumption))) | ((with_reducible apply hrt_st); (case ho => exact rfl); (case hgd => exact rfl); (case hx => exact rfl); (case hy => exact rfl); (case hg => exact HR _ (by assumption))) | (go_at_call 28; refine (K1.out _).mono ?_; rintro e wn ⟨rfl, hb'⟩; have hb := hb.trans hb'; clear hb') | (go_at_call 30; refine (K2.out _).mono ?_; rintro e wn ⟨rfl, hb'⟩; have hb := hb.trans hb'; clear hb') | (go_at_call 29; refine (rel_any _ _ _ _).mono ?_; rintro e wn ⟨rfl, hb'⟩; have hb := hb.trans hb'; clear hb'))
    refine row_back hrtT rfl rfl rfl (hset_row (HR _ (by assumption))) (hV_size ..) ⟨by rw [← E.out], (HO.out.trans hb).row _ _ (by omega)⟩
end Go.Proofs.Ytleolldgpoeabaa
