/- What Reads comes to: the registers that the table names. Conditions: the library's table lies in memory. -/
import Derived.Test.YtjnalgilkdoalaaDoorEnc4
import Derived.Test.YtjnalgilkdoalaaDoorEncR
import Derived.Deep.RegionHeld
namespace Go.Proofs.YtjnalgilkdoalaaDoor
open Go.RowKit
set_option linter.unusedSimpArgs false
set_option linter.unusedVariables false

set_option maxRecDepth 100000 in
set_option maxHeartbeats 4000000 in
theorem when_0 (o f d s t z k : Int) (m : BitVec 64) (a b c : Bool) (w : World) (H : Hid (d = 0)) :
    Calls Tryd.prog 14 #[.agg #[.int .i64 o, .int .i64 f, .int .i64 d, .int .i64 s, .int .i64 t, .int .u64 (u m), .int .i64 z, .bool a, .bool b, .bool c, .int .i64 k]] w fun e w' => e = .returned (.int .i64 0) ∧ On w w' := by
  have b0 : (d == 0) = true := by rw [H.out]; rfl
  go_enter Tryd.func14, Tryd.ntmps14
  go_wp2
  go_ret
  exact ⟨rfl, (On.refl w).alloc _⟩
set_option maxRecDepth 100000 in
set_option maxHeartbeats 4000000 in
theorem when_6 (o f d s t z k : Int) (m : BitVec 64) (a b c : Bool) (w : World) (H : Hid (¬ d = 0)) :
    Calls Tryd.prog 14 #[.agg #[.int .i64 6, .int .i64 f, .int .i64 d, .int .i64 s, .int .i64 t, .int .u64 (u m), .int .i64 z, .bool a, .bool b, .bool c, .int .i64 k]] w fun e w' => e = .returned (.int .i64 2) ∧ On w w' := by
  have b0 : (d == 0) = false := by simpa using H.out
  go_enter Tryd.func14, Tryd.ntmps14
  go_wp2
  go_ret
  exact ⟨rfl, (On.refl w).alloc _⟩
set_option maxRecDepth 100000 in
set_option maxHeartbeats 4000000 in
theorem when_19 (o f d s t z k : Int) (m : BitVec 64) (a b c : Bool) (w : World) (H : Hid (¬ d = 0)) :
    Calls Tryd.prog 14 #[.agg #[.int .i64 19, .int .i64 f, .int .i64 d, .int .i64 s, .int .i64 t, .int .u64 (u m), .int .i64 z, .bool a, .bool b, .bool c, .int .i64 k]] w fun e w' => e = .returned (.int .i64 2) ∧ On w w' := by
  have b0 : (d == 0) = false := by simpa using H.out
  go_enter Tryd.func14, Tryd.ntmps14
  go_wp2
  go_ret
  exact ⟨rfl, (On.refl w).alloc _⟩
set_option maxRecDepth 100000 in
set_option maxHeartbeats 4000000 in
theorem when_20 (o f d s t z k : Int) (m : BitVec 64) (a b c : Bool) (w : World) (H : Hid (¬ d = 0)) :
    Calls Tryd.prog 14 #[.agg #[.int .i64 20, .int .i64 f, .int .i64 d, .int .i64 s, .int .i64 t, .int .u64 (u m), .int .i64 z, .bool a, .bool b, .bool c, .int .i64 k]] w fun e w' => e = .returned (.int .i64 2) ∧ On w w' := by
  have b0 : (d == 0) = false := by simpa using H.out
  go_enter Tryd.func14, Tryd.ntmps14
  go_wp2
  go_ret
  exact ⟨rfl, (On.refl w).alloc _⟩
set_option maxRecDepth 100000 in
set_option maxHeartbeats 4000000 in
theorem when_21 (o f d s t z k : Int) (m : BitVec 64) (a b c : Bool) (w : World) (H : Hid (¬ d = 0)) :
    Calls Tryd.prog 14 #[.agg #[.int .i64 21, .int .i64 f, .int .i64 d, .int .i64 s, .int .i64 t, .int .u64 (u m), .int .i64 z, .bool a, .bool b, .bool c, .int .i64 k]] w fun e w' => e = .returned (.int .i64 2) ∧ On w w' := by
  have b0 : (d == 0) = false := by simpa using H.out
  go_enter Tryd.func14, Tryd.ntmps14
  go_wp2
  go_ret
  exact ⟨rfl, (On.refl w).alloc _⟩
set_option maxRecDepth 100000 in
set_option maxHeartbeats 4000000 in
theorem when_22 (o f d s t z k : Int) (m : BitVec 64) (a b c : Bool) (w : World) (H : Hid (¬ d = 0)) :
    Calls Tryd.prog 14 #[.agg #[.int .i64 22, .int .i64 f, .int .i64 d, .int .i64 s, .int .i64 t, .int .u64 (u m), .int .i64 z, .bool a, .bool b, .bool c, .int .i64 k]] w fun e w' => e = .returned (.int .i64 2) ∧ On w w' := by
  have b0 : (d == 0) = false := by simpa using H.out
  go_enter Tryd.func14, Tryd.ntmps14
  go_wp2
  go_ret
  exact ⟨rfl, (On.refl w).alloc _⟩
set_option maxRecDepth 100000 in
set_option maxHeartbeats 4000000 in
theorem when_n (o f d s t z k : Int) (m : BitVec 64) (a b c : Bool) (w : World) (H : Hid (¬ d = 0)) (N : Hid (¬ o = 6 ∧ ¬ o = 19 ∧ ¬ o = 20 ∧ ¬ o = 21 ∧ ¬ o = 22)) :
    Calls Tryd.prog 14 #[.agg #[.int .i64 o, .int .i64 f, .int .i64 d, .int .i64 s, .int .i64 t, .int .u64 (u m), .int .i64 z, .bool a, .bool b, .bool c, .int .i64 k]] w fun e w' => e = .returned (.int .i64 1) ∧ On w w' := by
  have b0 : (d == 0) = false := by simpa using H.out
  have b6 : (o == 6) = false := by have := N.out; simp; omega
  have b19 : (o == 19) = false := by have := N.out; simp; omega
  have b20 : (o == 20) = false := by have := N.out; simp; omega
  have b21 : (o == 21) = false := by have := N.out; simp; omega
  have b22 : (o == 22) = false := by have := N.out; simp; omega
  go_enter Tryd.func14, Tryd.ntmps14
  go_wp2
  go_ret
  exact ⟨rfl, (On.refl w).alloc _⟩
theorem when_any (o f d s t z k : Int) (m : BitVec 64) (a b c : Bool) (w : World) : Calls Tryd.prog 14 #[.agg #[.int .i64 o, .int .i64 f, .int .i64 d, .int .i64 s, .int .i64 t, .int .u64 (u m), .int .i64 z, .bool a, .bool b, .bool c, .int .i64 k]] w fun e w' => e = .returned (.int .i64 (whenOf o d)) ∧ On w w' := by
  by_cases h : d = 0
  · rw [show whenOf o d = 0 by unfold whenOf; rw [if_pos h]]; exact when_0 o f d s t z k m a b c w (Lib.hid h)
  by_cases n6 : o = 6
  · rw [show whenOf o d = 2 by unfold whenOf; rw [if_neg h, if_pos (by omega)]]; subst n6; exact when_6 0 f d s t z k m a b c w (Lib.hid h)
  by_cases n19 : o = 19
  · rw [show whenOf o d = 2 by unfold whenOf; rw [if_neg h, if_pos (by omega)]]; subst n19; exact when_19 0 f d s t z k m a b c w (Lib.hid h)
  by_cases n20 : o = 20
  · rw [show whenOf o d = 2 by unfold whenOf; rw [if_neg h, if_pos (by omega)]]; subst n20; exact when_20 0 f d s t z k m a b c w (Lib.hid h)
  by_cases n21 : o = 21
  · rw [show whenOf o d = 2 by unfold whenOf; rw [if_neg h, if_pos (by omega)]]; subst n21; exact when_21 0 f d s t z k m a b c w (Lib.hid h)
  by_cases n22 : o = 22
  · rw [show whenOf o d = 2 by unfold whenOf; rw [if_neg h, if_pos (by omega)]]; subst n22; exact when_22 0 f d s t z k m a b c w (Lib.hid h)
  rw [show whenOf o d = 1 by unfold whenOf; rw [if_neg h, if_neg (by omega)]]; exact when_n o f d s t z k m a b c w (Lib.hid h) (Lib.hid ⟨n6, n19, n20, n21, n22⟩)
theorem own4 {w wr : World} {t : TypeId} {o : Obj} {v0 v1 v2 v3 : Value} (h : On ((w.alloc o).alloc (.cells #[v0, v1, v2, v3] t)) wr) :
    wr.heap[w.heap.size + 1]? = some (.cells #[v0, v1, v2, v3] t) ∧ wr.cell? ⟨w.heap.size + 1, 0, none⟩ = some v0 ∧ wr.cell? ⟨w.heap.size + 1, 1, none⟩ = some v1 ∧ wr.cell? ⟨w.heap.size + 1, 2, none⟩ = some v2 ∧ wr.cell? ⟨w.heap.size + 1, 3, none⟩ = some v3 ∧ (∀ k, wr.frozen? ⟨w.heap.size + 1, k, none⟩ = false) ∧ w.heap.size + 1 < wr.heap.size := by
  have e : (w.alloc o).heap.size = w.heap.size + 1 := by simp
  have h0 := heap_on h
  have h1 := on_new h 0 (v := v0) rfl
  have h2 := on_new h 1 (v := v1) rfl
  have h3 := on_new h 2 (v := v2) rfl
  have h4 := on_new h 3 (v := v3) rfl
  have h5 := fun k => on_unfrozen h k
  have h6 := on_size h
  rw [e] at h0 h1 h2 h3 h4 h6
  exact ⟨h0, h1, h2, h3, h4, fun k => by have := h5 k; rw [e] at this; exact this, h6⟩
theorem new4 {w wr : World} {t : TypeId} {v0 v1 v2 v3 : Value} (h : On (w.alloc (.cells #[v0, v1, v2, v3] t)) wr) {g : Nat} (hg : w.heap.size = g) :
    wr.cell? ⟨g, 0, none⟩ = some v0 ∧ wr.cell? ⟨g, 1, none⟩ = some v1 ∧ wr.cell? ⟨g, 2, none⟩ = some v2 ∧ wr.cell? ⟨g, 3, none⟩ = some v3 ∧ (∀ k, wr.frozen? ⟨g, k, none⟩ = false) ∧ g < wr.heap.size := by
  subst hg
  exact ⟨on_new h 0 rfl, on_new h 1 rfl, on_new h 2 rfl, on_new h 3 rfl, fun k => on_unfrozen h k, on_size h⟩
theorem put4 {wr : World} {g : Nat} {t : TypeId} {z0 z1 z2 z3 v0 v1 v2 v3 : Value} (h : wr.heap[g]? = some (.cells #[z0, z1, z2, z3] t)) :
    ((((wr.setCell ⟨g, 0, none⟩ v0).setCell ⟨g, 1, none⟩ v1).setCell ⟨g, 2, none⟩ v2).setCell ⟨g, 3, none⟩ v3).heap[g]? = some (.cells #[v0, v1, v2, v3] t) := by
  have hc := heap_put (k := 3) (heap_put (k := 2) (heap_put (k := 1) (heap_put (k := 0) h (by simp) v0) (by simp) v1) (by simp) v2) (by simp) v3
  rw [show ((((#[z0, z1, z2, z3] : Array Value).setIfInBounds 0 v0).setIfInBounds 1 v1).setIfInBounds 2 v2).setIfInBounds 3 v3 = #[v0, v1, v2, v3] from by simp] at hc
  exact hc
theorem frozen_in {a b : World} (h : On a b) {g : Nat} (hg : g < a.heap.size) (hc : ∀ k, a.frozen? ⟨g, k, none⟩ = false) (k : Nat) : b.frozen? ⟨g, k, none⟩ = false := frozen_keep h hg hc k
theorem heap_keep {a b : World} (h : On a b) {g : Nat} {o : Obj} (hc : a.heap[g]? = some o) : b.heap[g]? = some o := by
  rw [h.block g (Array.getElem?_eq_some_iff.1 hc).1]; exact hc
theorem size_in {a b : World} (h : On a b) {g : Nat} (hg : g < a.heap.size) : g < b.heap.size := Nat.lt_of_lt_of_le hg h.size
set_option maxRecDepth 100000 in
set_option maxHeartbeats 4000000 in
theorem reads_no (o f d s t z k : Int) (m : BitVec 64) (a b c : Bool) (w : World) (ht : Tab w) (HE : Hid (∀ w, Tab w → Calls Tryd.prog 13 #[.agg #[.int .i64 o, .int .i64 f, .int .i64 d, .int .i64 s, .int .i64 t, .int .u64 (u m), .int .i64 z, .bool a, .bool b, .bool c, .int .i64 k]] w fun e w' => e = .returned (.tuple #[.int .u32 0, .int .i64 7]) ∧ On w w')) :
    Calls Tryd.prog 6 #[.agg #[.int .i64 o, .int .i64 f, .int .i64 d, .int .i64 s, .int .i64 t, .int .u64 (u m), .int .i64 z, .bool a, .bool b, .bool c, .int .i64 k]] w fun e w' => e = .returned (.agg #[.int .i64 0, .int .i64 0, .int .i64 0, .int .i64 0]) ∧ On w w' := by
  have HT := Lib.hid ht
  clear ht
  have HB : Hid (On w ((w.alloc (.cells #[.int .i64 o, .int .i64 f, .int .i64 d, .int .i64 s, .int .i64 t, .int .u64 (u m), .int .i64 z, .bool a, .bool b, .bool c, .int .i64 k] 24)).alloc (.cells #[.int .i64 0, .int .i64 0, .int .i64 0, .int .i64 0] 27))) := Lib.hid (((On.refl w).alloc _).alloc _)
  go_enter Tryd.func6, Tryd.ntmps6
  go_wp2_with (go_at_call 13; refine (HE.out _ (HT.out.keep (((On.refl w).alloc _).alloc _))).mono ?_; rintro e wn ⟨rfl, h⟩; have g2 := own4 h; have g1 := own11 (((On.refl _).alloc _).trans h); have hs := On.refl wn; replace HB := tr HB h; clear h; obtain ⟨h0, r0, r1, r2, r3, rf, rl⟩ := g2; obtain ⟨k0, k1, k2, k3, k4, k5, k6, k7, k8, k9, k10, kf, hlt⟩ := g1; have c0 : ∀ wr, On wn wr → wr.cell? ⟨w.heap.size, 0, none⟩ = some (.int .i64 o) := fun wr h => cell_keep h hlt k0; have c1 : ∀ wr, On wn wr → wr.cell? ⟨w.heap.size, 1, none⟩ = some (.int .i64 f) := fun wr h => cell_keep h hlt k1; have c2 : ∀ wr, On wn wr → wr.cell? ⟨w.heap.size, 2, none⟩ = some (.int .i64 d) := fun wr h => cell_keep h hlt k2; have c3 : ∀ wr, On wn wr → wr.cell? ⟨w.heap.size, 3, none⟩ = some (.int .i64 s) := fun wr h => cell_keep h hlt k3; have c4 : ∀ wr, On wn wr → wr.cell? ⟨w.heap.size, 4, none⟩ = some (.int .i64 t) := fun wr h => cell_keep h hlt k4; have c5 : ∀ wr, On wn wr → wr.cell? ⟨w.heap.size, 5, none⟩ = some (.int .u64 (u m)) := fun wr h => cell_keep h hlt k5; have c6 : ∀ wr, On wn wr → wr.cell? ⟨w.heap.size, 6, none⟩ = some (.int .i64 z) := fun wr h => cell_keep h hlt k6; have c7 : ∀ wr, On wn wr → wr.cell? ⟨w.heap.size, 7, none⟩ = some (.bool a) := fun wr h => cell_keep h hlt k7; have c8 : ∀ wr, On wn wr → wr.cell? ⟨w.heap.size, 8, none⟩ = some (.bool b) := fun wr h => cell_keep h hlt k8; have c9 : ∀ wr, On wn wr → wr.cell? ⟨w.heap.size, 9, none⟩ = some (.bool c) := fun wr h => cell_keep h hlt k9; have c10 : ∀ wr, On wn wr → wr.cell? ⟨w.heap.size, 10, none⟩ = some (.int .i64 k) := fun wr h => cell_keep h hlt k10; have q0 : ∀ wr, On wn wr → wr.cell? ⟨w.heap.size + 1, 0, none⟩ = some (.int .i64 0) := fun wr h => cell_keep h rl r0; have q1 : ∀ wr, On wn wr → wr.cell? ⟨w.heap.size + 1, 1, none⟩ = some (.int .i64 0) := fun wr h => cell_keep h rl r1; have q2 : ∀ wr, On wn wr → wr.cell? ⟨w.heap.size + 1, 2, none⟩ = some (.int .i64 0) := fun wr h => cell_keep h rl r2; have q3 : ∀ wr, On wn wr → wr.cell? ⟨w.heap.size + 1, 3, none⟩ = some (.int .i64 0) := fun wr h => cell_keep h rl r3; have qf : ∀ wr k, On wn wr → wr.frozen? ⟨w.heap.size + 1, k, none⟩ = false := fun wr k h => frozen_in h rl rf k; have l1 : ∀ wr, On wn wr → w.heap.size < wr.heap.size := fun wr h => size_in h hlt; have l2 : ∀ wr, On wn wr → w.heap.size + 1 < wr.heap.size := fun wr h => size_in h rl; have H0 : Hid (∀ wr, On wn wr → wr.heap[w.heap.size + 1]? = some (.cells #[.int .i64 0, .int .i64 0, .int .i64 0, .int .i64 0] 27)) := Lib.hid (fun wr h => heap_keep h h0); clear h0 r0 r1 r2 r3 rf rl k0 k1 k2 k3 k4 k5 k6 k7 k8 k9 k10 kf hlt)
  refine bodyPost_ret (results_cell_row rfl _ _ (w.heap.size + 1) 27 _ (0, 0) _ rfl (heap_put (k := 3) (heap_put (k := 2) (heap_put (k := 1) (heap_put (k := 0) (H0.out _ hs) (by simp) _) (by simp) _) (by simp) _) (by simp) _) Tryd.underlying27 rfl (by kernel_rfl)) rfl ?_
  exact ⟨by simp, by (repeat (refine On.set ?_ _ _ (Nat.le_succ _))); exact HB.out⟩
set_option maxRecDepth 100000 in
set_option maxHeartbeats 4000000 in
theorem reads_true (o f d s t z k : Int) (m : BitVec 64) (a b : Bool) (y : BitVec 32) (w : World) (ht : Tab w) (HE : Hid (∀ w, Tab w → Calls Tryd.prog 13 #[.agg #[.int .i64 o, .int .i64 f, .int .i64 d, .int .i64 s, .int .i64 t, .int .u64 (u m), .int .i64 z, .bool a, .bool b, .bool true, .int .i64 k]] w fun e w' => e = .returned (.tuple #[.int .u32 (q y), .int .i64 0]) ∧ On w w')) :
    Calls Tryd.prog 6 #[.agg #[.int .i64 o, .int .i64 f, .int .i64 d, .int .i64 s, .int .i64 t, .int .u64 (u m), .int .i64 z, .bool a, .bool b, .bool true, .int .i64 k]] w fun e w' => e = .returned (.agg #[.int .i64 0, .int .i64 t, .int .i64 d, .int .i64 (whenOf o d)]) ∧ On w w' := by
  have HT := Lib.hid ht
  clear ht
  have HB : Hid (On w ((w.alloc (.cells #[.int .i64 o, .int .i64 f, .int .i64 d, .int .i64 s, .int .i64 t, .int .u64 (u m), .int .i64 z, .bool a, .bool b, .bool true, .int .i64 k] 24)).alloc (.cells #[.int .i64 0, .int .i64 0, .int .i64 0, .int .i64 0] 27))) := Lib.hid (((On.refl w).alloc _).alloc _)
  go_enter Tryd.func6, Tryd.ntmps6
  go_wp2_with (go_at_call 13; refine (HE.out _ (HT.out.keep (((On.refl w).alloc _).alloc _))).mono ?_; rintro e wn ⟨rfl, h⟩; have g2 := own4 h; have g1 := own11 (((On.refl _).alloc _).trans h); have hs := On.refl wn; replace HB := tr HB h; clear h; obtain ⟨h0, r0, r1, r2, r3, rf, rl⟩ := g2; obtain ⟨k0, k1, k2, k3, k4, k5, k6, k7, k8, k9, k10, kf, hlt⟩ := g1; have c0 : ∀ wr, On wn wr → wr.cell? ⟨w.heap.size, 0, none⟩ = some (.int .i64 o) := fun wr h => cell_keep h hlt k0; have c1 : ∀ wr, On wn wr → wr.cell? ⟨w.heap.size, 1, none⟩ = some (.int .i64 f) := fun wr h => cell_keep h hlt k1; have c2 : ∀ wr, On wn wr → wr.cell? ⟨w.heap.size, 2, none⟩ = some (.int .i64 d) := fun wr h => cell_keep h hlt k2; have c3 : ∀ wr, On wn wr → wr.cell? ⟨w.heap.size, 3, none⟩ = some (.int .i64 s) := fun wr h => cell_keep h hlt k3; have c4 : ∀ wr, On wn wr → wr.cell? ⟨w.heap.size, 4, none⟩ = some (.int .i64 t) := fun wr h => cell_keep h hlt k4; have c5 : ∀ wr, On wn wr → wr.cell? ⟨w.heap.size, 5, none⟩ = some (.int .u64 (u m)) := fun wr h => cell_keep h hlt k5; have c6 : ∀ wr, On wn wr → wr.cell? ⟨w.heap.size, 6, none⟩ = some (.int .i64 z) := fun wr h => cell_keep h hlt k6; have c7 : ∀ wr, On wn wr → wr.cell? ⟨w.heap.size, 7, none⟩ = some (.bool a) := fun wr h => cell_keep h hlt k7; have c8 : ∀ wr, On wn wr → wr.cell? ⟨w.heap.size, 8, none⟩ = some (.bool b) := fun wr h => cell_keep h hlt k8; have c9 : ∀ wr, On wn wr → wr.cell? ⟨w.heap.size, 9, none⟩ = some (.bool true) := fun wr h => cell_keep h hlt k9; have c10 : ∀ wr, On wn wr → wr.cell? ⟨w.heap.size, 10, none⟩ = some (.int .i64 k) := fun wr h => cell_keep h hlt k10; have q0 : ∀ wr, On wn wr → wr.cell? ⟨w.heap.size + 1, 0, none⟩ = some (.int .i64 0) := fun wr h => cell_keep h rl r0; have q1 : ∀ wr, On wn wr → wr.cell? ⟨w.heap.size + 1, 1, none⟩ = some (.int .i64 0) := fun wr h => cell_keep h rl r1; have q2 : ∀ wr, On wn wr → wr.cell? ⟨w.heap.size + 1, 2, none⟩ = some (.int .i64 0) := fun wr h => cell_keep h rl r2; have q3 : ∀ wr, On wn wr → wr.cell? ⟨w.heap.size + 1, 3, none⟩ = some (.int .i64 0) := fun wr h => cell_keep h rl r3; have qf : ∀ wr k, On wn wr → wr.frozen? ⟨w.heap.size + 1, k, none⟩ = false := fun wr k h => frozen_in h rl rf k; have l1 : ∀ wr, On wn wr → w.heap.size < wr.heap.size := fun wr h => size_in h hlt; have l2 : ∀ wr, On wn wr → w.heap.size + 1 < wr.heap.size := fun wr h => size_in h rl; have H0 : Hid (∀ wr, On wn wr → wr.heap[w.heap.size + 1]? = some (.cells #[.int .i64 0, .int .i64 0, .int .i64 0, .int .i64 0] 27)) := Lib.hid (fun wr h => heap_keep h h0); clear h0 r0 r1 r2 r3 rf rl k0 k1 k2 k3 k4 k5 k6 k7 k8 k9 k10 kf hlt)
  have Q0 := Lib.hid q0
  have Q1 := Lib.hid q1
  have Q2 := Lib.hid q2
  have Q3 := Lib.hid q3
  have QF := Lib.hid qf
  have L1 := Lib.hid l1
  have L2 := Lib.hid l2
  have n1 := l1 wn hs
  have n2 := l2 wn hs
  clear q0 q1 q2 q3 qf l1 l2
  go_region_held (fun w' => On wn w') (((repeat (first | with_reducible apply On.drew | with_reducible apply On.alloc | with_reducible refine On.set ?_ _ _ (by exact Nat.le_refl _))); with_reducible assumption)) ((go_at_call 14; refine (when_any _ _ _ _ _ _ _ _ _ _ _ _).mono ?_; rintro e wx ⟨rfl, h⟩; (first | (with_reducible have hx : On wn wx := hs.drew.trans h) | (have h2 := ((On.refl _).drew).trans h; have hx : On wn wx := (hs.alloc _).trans h2; obtain ⟨m0, m1, m2, m3, mf, ml⟩ := new4 (g := wn.heap.size) h2 rfl))))
  all_goals (have q0 := Q0.out; have q1 := Q1.out; have q2 := Q2.out; have q3 := Q3.out; have qf := QF.out; have l1 := L1.out; have l2 := L2.out; go_wp2; refine bodyPost_ret (results_cell_row rfl _ _ (w.heap.size + 1) 27 #[.int .i64 0, .int .i64 t, .int .i64 d, .int .i64 (whenOf o d)] (0, 0) _ rfl ?_ Tryd.underlying27 rfl (by kernel_rfl)) rfl ?_; (first | with_reducible exact heap_past _ (put4 (H0.out _ hx)) | with_reducible exact put4 (heap_far (heap_far (heap_far (heap_far (heap_far (H0.out _ hx) (Nat.ne_of_gt n2) _) (Nat.ne_of_gt n2) _) (Nat.ne_of_gt n2) _) (Nat.ne_of_gt n2) _) (Nat.ne_of_gt n2) _) | with_reducible exact put4 (heap_far (heap_far (heap_far (heap_far (H0.out _ hx) (Nat.ne_of_gt n2) _) (Nat.ne_of_gt n2) _) (Nat.ne_of_gt n2) _) (Nat.ne_of_gt n2) _)); exact ⟨by with_reducible rfl, by ((repeat (first | with_reducible apply On.alloc | with_reducible refine On.set ?_ _ _ (by exact Nat.le_succ _) | with_reducible refine On.set ?_ _ _ (by exact Nat.le_of_lt n1))); exact HB.out.trans hx)⟩)
set_option maxRecDepth 100000 in
set_option maxHeartbeats 4000000 in
theorem reads_false (o f d s t z k : Int) (m : BitVec 64) (a b : Bool) (y : BitVec 32) (w : World) (ht : Tab w) (HE : Hid (∀ w, Tab w → Calls Tryd.prog 13 #[.agg #[.int .i64 o, .int .i64 f, .int .i64 d, .int .i64 s, .int .i64 t, .int .u64 (u m), .int .i64 z, .bool a, .bool b, .bool false, .int .i64 k]] w fun e w' => e = .returned (.tuple #[.int .u32 (q y), .int .i64 0]) ∧ On w w')) :
    Calls Tryd.prog 6 #[.agg #[.int .i64 o, .int .i64 f, .int .i64 d, .int .i64 s, .int .i64 t, .int .u64 (u m), .int .i64 z, .bool a, .bool b, .bool false, .int .i64 k]] w fun e w' => e = .returned (.agg #[.int .i64 s, .int .i64 t, .int .i64 d, .int .i64 (whenOf o d)]) ∧ On w w' := by
  have HT := Lib.hid ht
  clear ht
  have HB : Hid (On w ((w.alloc (.cells #[.int .i64 o, .int .i64 f, .int .i64 d, .int .i64 s, .int .i64 t, .int .u64 (u m), .int .i64 z, .bool a, .bool b, .bool false, .int .i64 k] 24)).alloc (.cells #[.int .i64 0, .int .i64 0, .int .i64 0, .int .i64 0] 27))) := Lib.hid (((On.refl w).alloc _).alloc _)
  go_enter Tryd.func6, Tryd.ntmps6
  go_wp2_with (go_at_call 13; refine (HE.out _ (HT.out.keep (((On.refl w).alloc _).alloc _))).mono ?_; rintro e wn ⟨rfl, h⟩; have g2 := own4 h; have g1 := own11 (((On.refl _).alloc _).trans h); have hs := On.refl wn; replace HB := tr HB h; clear h; obtain ⟨h0, r0, r1, r2, r3, rf, rl⟩ := g2; obtain ⟨k0, k1, k2, k3, k4, k5, k6, k7, k8, k9, k10, kf, hlt⟩ := g1; have c0 : ∀ wr, On wn wr → wr.cell? ⟨w.heap.size, 0, none⟩ = some (.int .i64 o) := fun wr h => cell_keep h hlt k0; have c1 : ∀ wr, On wn wr → wr.cell? ⟨w.heap.size, 1, none⟩ = some (.int .i64 f) := fun wr h => cell_keep h hlt k1; have c2 : ∀ wr, On wn wr → wr.cell? ⟨w.heap.size, 2, none⟩ = some (.int .i64 d) := fun wr h => cell_keep h hlt k2; have c3 : ∀ wr, On wn wr → wr.cell? ⟨w.heap.size, 3, none⟩ = some (.int .i64 s) := fun wr h => cell_keep h hlt k3; have c4 : ∀ wr, On wn wr → wr.cell? ⟨w.heap.size, 4, none⟩ = some (.int .i64 t) := fun wr h => cell_keep h hlt k4; have c5 : ∀ wr, On wn wr → wr.cell? ⟨w.heap.size, 5, none⟩ = some (.int .u64 (u m)) := fun wr h => cell_keep h hlt k5; have c6 : ∀ wr, On wn wr → wr.cell? ⟨w.heap.size, 6, none⟩ = some (.int .i64 z) := fun wr h => cell_keep h hlt k6; have c7 : ∀ wr, On wn wr → wr.cell? ⟨w.heap.size, 7, none⟩ = some (.bool a) := fun wr h => cell_keep h hlt k7; have c8 : ∀ wr, On wn wr → wr.cell? ⟨w.heap.size, 8, none⟩ = some (.bool b) := fun wr h => cell_keep h hlt k8; have c9 : ∀ wr, On wn wr → wr.cell? ⟨w.heap.size, 9, none⟩ = some (.bool false) := fun wr h => cell_keep h hlt k9; have c10 : ∀ wr, On wn wr → wr.cell? ⟨w.heap.size, 10, none⟩ = some (.int .i64 k) := fun wr h => cell_keep h hlt k10; have q0 : ∀ wr, On wn wr → wr.cell? ⟨w.heap.size + 1, 0, none⟩ = some (.int .i64 0) := fun wr h => cell_keep h rl r0; have q1 : ∀ wr, On wn wr → wr.cell? ⟨w.heap.size + 1, 1, none⟩ = some (.int .i64 0) := fun wr h => cell_keep h rl r1; have q2 : ∀ wr, On wn wr → wr.cell? ⟨w.heap.size + 1, 2, none⟩ = some (.int .i64 0) := fun wr h => cell_keep h rl r2; have q3 : ∀ wr, On wn wr → wr.cell? ⟨w.heap.size + 1, 3, none⟩ = some (.int .i64 0) := fun wr h => cell_keep h rl r3; have qf : ∀ wr k, On wn wr → wr.frozen? ⟨w.heap.size + 1, k, none⟩ = false := fun wr k h => frozen_in h rl rf k; have l1 : ∀ wr, On wn wr → w.heap.size < wr.heap.size := fun wr h => size_in h hlt; have l2 : ∀ wr, On wn wr → w.heap.size + 1 < wr.heap.size := fun wr h => size_in h rl; have H0 : Hid (∀ wr, On wn wr → wr.heap[w.heap.size + 1]? = some (.cells #[.int .i64 0, .int .i64 0, .int .i64 0, .int .i64 0] 27)) := Lib.hid (fun wr h => heap_keep h h0); clear h0 r0 r1 r2 r3 rf rl k0 k1 k2 k3 k4 k5 k6 k7 k8 k9 k10 kf hlt)
  have Q0 := Lib.hid q0
  have Q1 := Lib.hid q1
  have Q2 := Lib.hid q2
  have Q3 := Lib.hid q3
  have QF := Lib.hid qf
  have L1 := Lib.hid l1
  have L2 := Lib.hid l2
  have n1 := l1 wn hs
  have n2 := l2 wn hs
  clear q0 q1 q2 q3 qf l1 l2
  go_region_held (fun w' => On wn w') (((repeat (first | with_reducible apply On.drew | with_reducible apply On.alloc | with_reducible refine On.set ?_ _ _ (by exact Nat.le_refl _))); with_reducible assumption)) ((go_at_call 14; refine (when_any _ _ _ _ _ _ _ _ _ _ _ _).mono ?_; rintro e wx ⟨rfl, h⟩; (first | (with_reducible have hx : On wn wx := hs.drew.trans h) | (have h2 := ((On.refl _).drew).trans h; have hx : On wn wx := (hs.alloc _).trans h2; obtain ⟨m0, m1, m2, m3, mf, ml⟩ := new4 (g := wn.heap.size) h2 rfl))))
  all_goals (have q0 := Q0.out; have q1 := Q1.out; have q2 := Q2.out; have q3 := Q3.out; have qf := QF.out; have l1 := L1.out; have l2 := L2.out; go_wp2; refine bodyPost_ret (results_cell_row rfl _ _ (w.heap.size + 1) 27 #[.int .i64 s, .int .i64 t, .int .i64 d, .int .i64 (whenOf o d)] (0, 0) _ rfl ?_ Tryd.underlying27 rfl (by kernel_rfl)) rfl ?_; (first | with_reducible exact heap_past _ (put4 (H0.out _ hx)) | with_reducible exact put4 (heap_far (heap_far (heap_far (heap_far (heap_far (H0.out _ hx) (Nat.ne_of_gt n2) _) (Nat.ne_of_gt n2) _) (Nat.ne_of_gt n2) _) (Nat.ne_of_gt n2) _) (Nat.ne_of_gt n2) _) | with_reducible exact put4 (heap_far (heap_far (heap_far (heap_far (H0.out _ hx) (Nat.ne_of_gt n2) _) (Nat.ne_of_gt n2) _) (Nat.ne_of_gt n2) _) (Nat.ne_of_gt n2) _)); exact ⟨by with_reducible rfl, by ((repeat (first | with_reducible apply On.alloc | with_reducible refine On.set ?_ _ _ (by exact Nat.le_succ _) | with_reducible refine On.set ?_ _ _ (by exact Nat.le_of_lt n1))); exact HB.out.trans hx)⟩)
theorem reads_yes (o f d s t z k : Int) (m : BitVec 64) (a b c : Bool) (y : BitVec 32) (w : World) (ht : Tab w) (HE : Hid (∀ w, Tab w → Calls Tryd.prog 13 #[.agg #[.int .i64 o, .int .i64 f, .int .i64 d, .int .i64 s, .int .i64 t, .int .u64 (u m), .int .i64 z, .bool a, .bool b, .bool c, .int .i64 k]] w fun e w' => e = .returned (.tuple #[.int .u32 (q y), .int .i64 0]) ∧ On w w')) : Calls Tryd.prog 6 #[.agg #[.int .i64 o, .int .i64 f, .int .i64 d, .int .i64 s, .int .i64 t, .int .u64 (u m), .int .i64 z, .bool a, .bool b, .bool c, .int .i64 k]] w fun e w' => e = .returned (.agg #[.int .i64 (if c = true then 0 else s), .int .i64 t, .int .i64 d, .int .i64 (whenOf o d)]) ∧ On w w' := by
  cases c
  · exact reads_false o f d s t z k m a b y w ht HE
  · exact reads_true o f d s t z k m a b y w ht HE
end Go.Proofs.YtjnalgilkdoalaaDoor
