/- What the reference's may and Read come to. Conditions: named at each. -/
import Derived.Test.YtoobbapdjoajgaaCsrX
import Derived.Test.YtoobbapdjoajgaaCsrW
namespace Go.Proofs.Ytoobbapdjoajgaa
open Go.RowKit

/-- may it be read (written)? -/
def mayB (c : Nat → BitVec 64) (n p : Int) (wr : Bool) : Bool := rdb c n p && (!wr || !ron n)
theorem bit0 (v : BitVec 64) (k : Nat) : (bits .and .u64 (u (v >>> k)) 1 == 0) = !v.getLsbD k := by
  rw [u_and1]
  have h := and1_test v k
  cases hb : v.getLsbD k
  · rw [hb] at h
    rw [and1_bit, hb]; rfl
  · rw [and1_bit, hb]; rfl
theorem rvalue_any (c e : Nat → BitVec 64) (p q : Bool) (n : Int) (w : World) : Calls Try.prog 34 #[.agg (cV c), .int .i64 n, .agg (eV e p q)] w fun r w' => r = .returned (.tuple #[.int .u64 (u (rv c e n)), .bool (ex n)]) ∧ On w w' := by
  cases hn : ex n
  · rw [rv_none hn]; exact rvalue_none c e p q n hn w
  · exact rvalue_yes c e p q n hn w
set_option maxHeartbeats 1000000 in
theorem rmay_none (c e : Nat → BitVec 64) (p q : Bool) (n m : Int) (o : Bool) (hx : ex n = false) (w : World) : Calls Try.prog 33 #[.agg (cV c), .int .i64 n, .int .i64 m, .bool o, .agg (eV e p q)] w fun r w' => r = .returned (.bool false) ∧ On w w' := by
  have K1 : Hid (∀ w, Calls Try.prog 34 #[.agg (cV c), .int .i64 n, .agg (eV e p q)] w fun r w' => r = .returned (.tuple #[.int .u64 (u (rv c e n)), .bool false]) ∧ On w w') := Lib.hid (fun w => by rw [← hx]; exact rvalue_any c e p q n w)
  clear hx
  have HC : ∀ wr, On ((w.alloc (.cells (cV c) 25)).alloc (.cells (eV e p q) 27)) wr → wr.heap[w.heap.size]? = some (.cells (cV c) 25 (0, 0)) := fun _ h => h.keep (((On.refl _).alloc _).keep (heap_alloc_new _ _))
  have HE : ∀ wr, On ((w.alloc (.cells (cV c) 25)).alloc (.cells (eV e p q) 27)) wr → wr.heap[w.heap.size + 1]? = some (.cells (eV e p q) 27 (0, 0)) := fun _ h => h.keep (box2 _ _ _)
  have hb := On.refl ((w.alloc (.cells (cV c) 25)).alloc (.cells (eV e p q) 27))
  generalize rv c e n = y at *
  go_enter Try.func33, Try.ntmps33
  go_wp2_with (first | ((with_reducible apply csr_ld); (case ho => exact rfl); (case hgd => exact rfl); (case hx => exact rfl); (case hg => exact HC _ (by assumption))) | ((with_reducible apply env_ld); (case ho => exact rfl); (case hgd => exact rfl); (case hx => exact rfl); (case hg => exact HE _ (by assumption))) | (go_at_call 34; refine (K1.out _).mono ?_; rintro e wn ⟨rfl, hb'⟩; have hb := hb.trans hb'; clear hb'))
  go_ret
  exact ⟨rfl, (((On.refl w).alloc _).alloc _).trans hb⟩
set_option maxHeartbeats 1000000 in
theorem rmay_priv (c e : Nat → BitVec 64) (p q : Bool) (n m : Int) (o : Bool) (hx : ex n = true) (h0 : (m != 0) = true) (h1 : (m != 1) = true) (h3 : (m != 3) = true) (w : World) : Calls Try.prog 33 #[.agg (cV c), .int .i64 n, .int .i64 m, .bool o, .agg (eV e p q)] w fun r w' => r = .returned (.bool false) ∧ On w w' := by
  have K1 : Hid (∀ w, Calls Try.prog 34 #[.agg (cV c), .int .i64 n, .agg (eV e p q)] w fun r w' => r = .returned (.tuple #[.int .u64 (u (rv c e n)), .bool true]) ∧ On w w') := Lib.hid (fun w => by rw [← hx]; exact rvalue_any c e p q n w)
  clear hx
  have HC : ∀ wr, On ((w.alloc (.cells (cV c) 25)).alloc (.cells (eV e p q) 27)) wr → wr.heap[w.heap.size]? = some (.cells (cV c) 25 (0, 0)) := fun _ h => h.keep (((On.refl _).alloc _).keep (heap_alloc_new _ _))
  have HE : ∀ wr, On ((w.alloc (.cells (cV c) 25)).alloc (.cells (eV e p q) 27)) wr → wr.heap[w.heap.size + 1]? = some (.cells (eV e p q) 27 (0, 0)) := fun _ h => h.keep (box2 _ _ _)
  have hb := On.refl ((w.alloc (.cells (cV c) 25)).alloc (.cells (eV e p q) 27))
  generalize rv c e n = y at *
  go_enter Try.func33, Try.ntmps33
  go_wp2_with (first | ((with_reducible apply csr_ld); (case ho => exact rfl); (case hgd => exact rfl); (case hx => exact rfl); (case hg => exact HC _ (by assumption))) | ((with_reducible apply env_ld); (case ho => exact rfl); (case hgd => exact rfl); (case hx => exact rfl); (case hg => exact HE _ (by assumption))) | (go_at_call 34; refine (K1.out _).mono ?_; rintro e wn ⟨rfl, hb'⟩; have hb := hb.trans hb'; clear hb'))
  go_ret
  exact ⟨rfl, (((On.refl w).alloc _).alloc _).trans hb⟩
set_option maxHeartbeats 1000000 in
theorem rmay_low_0 (c e : Nat → BitVec 64) (p q : Bool) (n : Int) (o : Bool) (hx : ex n = true) (hq : 0 < bits .and .i64 (n / 256) 3) (w : World) : Calls Try.prog 33 #[.agg (cV c), .int .i64 n, .int .i64 0, .bool o, .agg (eV e p q)] w fun r w' => r = .returned (.bool false) ∧ On w w' := by
  have K1 : Hid (∀ w, Calls Try.prog 34 #[.agg (cV c), .int .i64 n, .agg (eV e p q)] w fun r w' => r = .returned (.tuple #[.int .u64 (u (rv c e n)), .bool true]) ∧ On w w') := Lib.hid (fun w => by rw [← hx]; exact rvalue_any c e p q n w)
  clear hx
  have HC : ∀ wr, On ((w.alloc (.cells (cV c) 25)).alloc (.cells (eV e p q) 27)) wr → wr.heap[w.heap.size]? = some (.cells (cV c) 25 (0, 0)) := fun _ h => h.keep (((On.refl _).alloc _).keep (heap_alloc_new _ _))
  have HE : ∀ wr, On ((w.alloc (.cells (cV c) 25)).alloc (.cells (eV e p q) 27)) wr → wr.heap[w.heap.size + 1]? = some (.cells (eV e p q) 27 (0, 0)) := fun _ h => h.keep (box2 _ _ _)
  have hb := On.refl ((w.alloc (.cells (cV c) 25)).alloc (.cells (eV e p q) 27))
  generalize rv c e n = y at *
  go_enter Try.func33, Try.ntmps33
  go_wp2_with (first | ((with_reducible apply csr_ld); (case ho => exact rfl); (case hgd => exact rfl); (case hx => exact rfl); (case hg => exact HC _ (by assumption))) | ((with_reducible apply env_ld); (case ho => exact rfl); (case hgd => exact rfl); (case hx => exact rfl); (case hg => exact HE _ (by assumption))) | (go_at_call 34; refine (K1.out _).mono ?_; rintro e wn ⟨rfl, hb'⟩; have hb := hb.trans hb'; clear hb'))
  go_ret
  exact ⟨rfl, (((On.refl w).alloc _).alloc _).trans hb⟩
set_option maxHeartbeats 1000000 in
theorem rmay_ro_0 (c e : Nat → BitVec 64) (p q : Bool) (n : Int) (hx : ex n = true) (hq : bits .and .i64 (n / 256) 3 ≤ 0) (hr : (n / 1024 == 3) = true) (w : World) : Calls Try.prog 33 #[.agg (cV c), .int .i64 n, .int .i64 0, .bool true, .agg (eV e p q)] w fun r w' => r = .returned (.bool false) ∧ On w w' := by
  have K1 : Hid (∀ w, Calls Try.prog 34 #[.agg (cV c), .int .i64 n, .agg (eV e p q)] w fun r w' => r = .returned (.tuple #[.int .u64 (u (rv c e n)), .bool true]) ∧ On w w') := Lib.hid (fun w => by rw [← hx]; exact rvalue_any c e p q n w)
  clear hx
  have HC : ∀ wr, On ((w.alloc (.cells (cV c) 25)).alloc (.cells (eV e p q) 27)) wr → wr.heap[w.heap.size]? = some (.cells (cV c) 25 (0, 0)) := fun _ h => h.keep (((On.refl _).alloc _).keep (heap_alloc_new _ _))
  have HE : ∀ wr, On ((w.alloc (.cells (cV c) 25)).alloc (.cells (eV e p q) 27)) wr → wr.heap[w.heap.size + 1]? = some (.cells (eV e p q) 27 (0, 0)) := fun _ h => h.keep (box2 _ _ _)
  have hb := On.refl ((w.alloc (.cells (cV c) 25)).alloc (.cells (eV e p q) 27))
  generalize rv c e n = y at *
  go_enter Try.func33, Try.ntmps33
  go_wp2_with (first | ((with_reducible apply csr_ld); (case ho => exact rfl); (case hgd => exact rfl); (case hx => exact rfl); (case hg => exact HC _ (by assumption))) | ((with_reducible apply env_ld); (case ho => exact rfl); (case hgd => exact rfl); (case hx => exact rfl); (case hg => exact HE _ (by assumption))) | (go_at_call 34; refine (K1.out _).mono ?_; rintro e wn ⟨rfl, hb'⟩; have hb := hb.trans hb'; clear hb'))
  go_ret
  exact ⟨rfl, (((On.refl w).alloc _).alloc _).trans hb⟩
set_option maxHeartbeats 1000000 in
theorem rmay_far_0_false_lo (c e : Nat → BitVec 64) (p q : Bool) (n : Int) (hx : ex n = true) (hq : bits .and .i64 (n / 256) 3 ≤ 0) (h384 : (n == 384) = false) (hs : n < 3072) (w : World) : Calls Try.prog 33 #[.agg (cV c), .int .i64 n, .int .i64 0, .bool false, .agg (eV e p q)] w fun r w' => r = .returned (.bool true) ∧ On w w' := by
  have K1 : Hid (∀ w, Calls Try.prog 34 #[.agg (cV c), .int .i64 n, .agg (eV e p q)] w fun r w' => r = .returned (.tuple #[.int .u64 (u (rv c e n)), .bool true]) ∧ On w w') := Lib.hid (fun w => by rw [← hx]; exact rvalue_any c e p q n w)
  clear hx
  have HC : ∀ wr, On ((w.alloc (.cells (cV c) 25)).alloc (.cells (eV e p q) 27)) wr → wr.heap[w.heap.size]? = some (.cells (cV c) 25 (0, 0)) := fun _ h => h.keep (((On.refl _).alloc _).keep (heap_alloc_new _ _))
  have HE : ∀ wr, On ((w.alloc (.cells (cV c) 25)).alloc (.cells (eV e p q) 27)) wr → wr.heap[w.heap.size + 1]? = some (.cells (eV e p q) 27 (0, 0)) := fun _ h => h.keep (box2 _ _ _)
  have hb := On.refl ((w.alloc (.cells (cV c) 25)).alloc (.cells (eV e p q) 27))
  generalize rv c e n = y at *
  go_enter Try.func33, Try.ntmps33
  go_wp2_with (first | ((with_reducible apply csr_ld); (case ho => exact rfl); (case hgd => exact rfl); (case hx => exact rfl); (case hg => exact HC _ (by assumption))) | ((with_reducible apply env_ld); (case ho => exact rfl); (case hgd => exact rfl); (case hx => exact rfl); (case hg => exact HE _ (by assumption))) | (go_at_call 34; refine (K1.out _).mono ?_; rintro e wn ⟨rfl, hb'⟩; have hb := hb.trans hb'; clear hb'))
  go_ret
  exact ⟨rfl, (((On.refl w).alloc _).alloc _).trans hb⟩
set_option maxHeartbeats 1000000 in
theorem rmay_far_0_false_hi (c e : Nat → BitVec 64) (p q : Bool) (n : Int) (hx : ex n = true) (hq : bits .and .i64 (n / 256) 3 ≤ 0) (h384 : (n == 384) = false) (hs : 3079 ≤ n) (w : World) : Calls Try.prog 33 #[.agg (cV c), .int .i64 n, .int .i64 0, .bool false, .agg (eV e p q)] w fun r w' => r = .returned (.bool true) ∧ On w w' := by
  have K1 : Hid (∀ w, Calls Try.prog 34 #[.agg (cV c), .int .i64 n, .agg (eV e p q)] w fun r w' => r = .returned (.tuple #[.int .u64 (u (rv c e n)), .bool true]) ∧ On w w') := Lib.hid (fun w => by rw [← hx]; exact rvalue_any c e p q n w)
  clear hx
  have HC : ∀ wr, On ((w.alloc (.cells (cV c) 25)).alloc (.cells (eV e p q) 27)) wr → wr.heap[w.heap.size]? = some (.cells (cV c) 25 (0, 0)) := fun _ h => h.keep (((On.refl _).alloc _).keep (heap_alloc_new _ _))
  have HE : ∀ wr, On ((w.alloc (.cells (cV c) 25)).alloc (.cells (eV e p q) 27)) wr → wr.heap[w.heap.size + 1]? = some (.cells (eV e p q) 27 (0, 0)) := fun _ h => h.keep (box2 _ _ _)
  have hb := On.refl ((w.alloc (.cells (cV c) 25)).alloc (.cells (eV e p q) 27))
  generalize rv c e n = y at *
  go_enter Try.func33, Try.ntmps33
  go_wp2_with (first | ((with_reducible apply csr_ld); (case ho => exact rfl); (case hgd => exact rfl); (case hx => exact rfl); (case hg => exact HC _ (by assumption))) | ((with_reducible apply env_ld); (case ho => exact rfl); (case hgd => exact rfl); (case hx => exact rfl); (case hg => exact HE _ (by assumption))) | (go_at_call 34; refine (K1.out _).mono ?_; rintro e wn ⟨rfl, hb'⟩; have hb := hb.trans hb'; clear hb'))
  go_ret
  exact ⟨rfl, (((On.refl w).alloc _).alloc _).trans hb⟩
set_option maxHeartbeats 1000000 in
theorem rmay_far_0_true_lo (c e : Nat → BitVec 64) (p q : Bool) (n : Int) (hx : ex n = true) (hq : bits .and .i64 (n / 256) 3 ≤ 0) (hr : (n / 1024 == 3) = false) (h384 : (n == 384) = false) (hs : n < 3072) (w : World) : Calls Try.prog 33 #[.agg (cV c), .int .i64 n, .int .i64 0, .bool true, .agg (eV e p q)] w fun r w' => r = .returned (.bool true) ∧ On w w' := by
  have K1 : Hid (∀ w, Calls Try.prog 34 #[.agg (cV c), .int .i64 n, .agg (eV e p q)] w fun r w' => r = .returned (.tuple #[.int .u64 (u (rv c e n)), .bool true]) ∧ On w w') := Lib.hid (fun w => by rw [← hx]; exact rvalue_any c e p q n w)
  clear hx
  have HC : ∀ wr, On ((w.alloc (.cells (cV c) 25)).alloc (.cells (eV e p q) 27)) wr → wr.heap[w.heap.size]? = some (.cells (cV c) 25 (0, 0)) := fun _ h => h.keep (((On.refl _).alloc _).keep (heap_alloc_new _ _))
  have HE : ∀ wr, On ((w.alloc (.cells (cV c) 25)).alloc (.cells (eV e p q) 27)) wr → wr.heap[w.heap.size + 1]? = some (.cells (eV e p q) 27 (0, 0)) := fun _ h => h.keep (box2 _ _ _)
  have hb := On.refl ((w.alloc (.cells (cV c) 25)).alloc (.cells (eV e p q) 27))
  generalize rv c e n = y at *
  go_enter Try.func33, Try.ntmps33
  go_wp2_with (first | ((with_reducible apply csr_ld); (case ho => exact rfl); (case hgd => exact rfl); (case hx => exact rfl); (case hg => exact HC _ (by assumption))) | ((with_reducible apply env_ld); (case ho => exact rfl); (case hgd => exact rfl); (case hx => exact rfl); (case hg => exact HE _ (by assumption))) | (go_at_call 34; refine (K1.out _).mono ?_; rintro e wn ⟨rfl, hb'⟩; have hb := hb.trans hb'; clear hb'))
  go_ret
  exact ⟨rfl, (((On.refl w).alloc _).alloc _).trans hb⟩
set_option maxHeartbeats 1000000 in
theorem rmay_far_0_true_hi (c e : Nat → BitVec 64) (p q : Bool) (n : Int) (hx : ex n = true) (hq : bits .and .i64 (n / 256) 3 ≤ 0) (hr : (n / 1024 == 3) = false) (h384 : (n == 384) = false) (hs : 3079 ≤ n) (w : World) : Calls Try.prog 33 #[.agg (cV c), .int .i64 n, .int .i64 0, .bool true, .agg (eV e p q)] w fun r w' => r = .returned (.bool true) ∧ On w w' := by
  have K1 : Hid (∀ w, Calls Try.prog 34 #[.agg (cV c), .int .i64 n, .agg (eV e p q)] w fun r w' => r = .returned (.tuple #[.int .u64 (u (rv c e n)), .bool true]) ∧ On w w') := Lib.hid (fun w => by rw [← hx]; exact rvalue_any c e p q n w)
  clear hx
  have HC : ∀ wr, On ((w.alloc (.cells (cV c) 25)).alloc (.cells (eV e p q) 27)) wr → wr.heap[w.heap.size]? = some (.cells (cV c) 25 (0, 0)) := fun _ h => h.keep (((On.refl _).alloc _).keep (heap_alloc_new _ _))
  have HE : ∀ wr, On ((w.alloc (.cells (cV c) 25)).alloc (.cells (eV e p q) 27)) wr → wr.heap[w.heap.size + 1]? = some (.cells (eV e p q) 27 (0, 0)) := fun _ h => h.keep (box2 _ _ _)
  have hb := On.refl ((w.alloc (.cells (cV c) 25)).alloc (.cells (eV e p q) 27))
  generalize rv c e n = y at *
  go_enter Try.func33, Try.ntmps33
  go_wp2_with (first | ((with_reducible apply csr_ld); (case ho => exact rfl); (case hgd => exact rfl); (case hx => exact rfl); (case hg => exact HC _ (by assumption))) | ((with_reducible apply env_ld); (case ho => exact rfl); (case hgd => exact rfl); (case hx => exact rfl); (case hg => exact HE _ (by assumption))) | (go_at_call 34; refine (K1.out _).mono ?_; rintro e wn ⟨rfl, hb'⟩; have hb := hb.trans hb'; clear hb'))
  go_ret
  exact ⟨rfl, (((On.refl w).alloc _).alloc _).trans hb⟩
set_option maxHeartbeats 1000000 in
theorem rmay_low_1 (c e : Nat → BitVec 64) (p q : Bool) (n : Int) (o : Bool) (hx : ex n = true) (hq : 1 < bits .and .i64 (n / 256) 3) (w : World) : Calls Try.prog 33 #[.agg (cV c), .int .i64 n, .int .i64 1, .bool o, .agg (eV e p q)] w fun r w' => r = .returned (.bool false) ∧ On w w' := by
  have K1 : Hid (∀ w, Calls Try.prog 34 #[.agg (cV c), .int .i64 n, .agg (eV e p q)] w fun r w' => r = .returned (.tuple #[.int .u64 (u (rv c e n)), .bool true]) ∧ On w w') := Lib.hid (fun w => by rw [← hx]; exact rvalue_any c e p q n w)
  clear hx
  have HC : ∀ wr, On ((w.alloc (.cells (cV c) 25)).alloc (.cells (eV e p q) 27)) wr → wr.heap[w.heap.size]? = some (.cells (cV c) 25 (0, 0)) := fun _ h => h.keep (((On.refl _).alloc _).keep (heap_alloc_new _ _))
  have HE : ∀ wr, On ((w.alloc (.cells (cV c) 25)).alloc (.cells (eV e p q) 27)) wr → wr.heap[w.heap.size + 1]? = some (.cells (eV e p q) 27 (0, 0)) := fun _ h => h.keep (box2 _ _ _)
  have hb := On.refl ((w.alloc (.cells (cV c) 25)).alloc (.cells (eV e p q) 27))
  generalize rv c e n = y at *
  go_enter Try.func33, Try.ntmps33
  go_wp2_with (first | ((with_reducible apply csr_ld); (case ho => exact rfl); (case hgd => exact rfl); (case hx => exact rfl); (case hg => exact HC _ (by assumption))) | ((with_reducible apply env_ld); (case ho => exact rfl); (case hgd => exact rfl); (case hx => exact rfl); (case hg => exact HE _ (by assumption))) | (go_at_call 34; refine (K1.out _).mono ?_; rintro e wn ⟨rfl, hb'⟩; have hb := hb.trans hb'; clear hb'))
  go_ret
  exact ⟨rfl, (((On.refl w).alloc _).alloc _).trans hb⟩
set_option maxHeartbeats 1000000 in
theorem rmay_ro_1 (c e : Nat → BitVec 64) (p q : Bool) (n : Int) (hx : ex n = true) (hq : bits .and .i64 (n / 256) 3 ≤ 1) (hr : (n / 1024 == 3) = true) (w : World) : Calls Try.prog 33 #[.agg (cV c), .int .i64 n, .int .i64 1, .bool true, .agg (eV e p q)] w fun r w' => r = .returned (.bool false) ∧ On w w' := by
  have K1 : Hid (∀ w, Calls Try.prog 34 #[.agg (cV c), .int .i64 n, .agg (eV e p q)] w fun r w' => r = .returned (.tuple #[.int .u64 (u (rv c e n)), .bool true]) ∧ On w w') := Lib.hid (fun w => by rw [← hx]; exact rvalue_any c e p q n w)
  clear hx
  have HC : ∀ wr, On ((w.alloc (.cells (cV c) 25)).alloc (.cells (eV e p q) 27)) wr → wr.heap[w.heap.size]? = some (.cells (cV c) 25 (0, 0)) := fun _ h => h.keep (((On.refl _).alloc _).keep (heap_alloc_new _ _))
  have HE : ∀ wr, On ((w.alloc (.cells (cV c) 25)).alloc (.cells (eV e p q) 27)) wr → wr.heap[w.heap.size + 1]? = some (.cells (eV e p q) 27 (0, 0)) := fun _ h => h.keep (box2 _ _ _)
  have hb := On.refl ((w.alloc (.cells (cV c) 25)).alloc (.cells (eV e p q) 27))
  generalize rv c e n = y at *
  go_enter Try.func33, Try.ntmps33
  go_wp2_with (first | ((with_reducible apply csr_ld); (case ho => exact rfl); (case hgd => exact rfl); (case hx => exact rfl); (case hg => exact HC _ (by assumption))) | ((with_reducible apply env_ld); (case ho => exact rfl); (case hgd => exact rfl); (case hx => exact rfl); (case hg => exact HE _ (by assumption))) | (go_at_call 34; refine (K1.out _).mono ?_; rintro e wn ⟨rfl, hb'⟩; have hb := hb.trans hb'; clear hb'))
  go_ret
  exact ⟨rfl, (((On.refl w).alloc _).alloc _).trans hb⟩
set_option maxHeartbeats 1000000 in
theorem rmay_far_1_false_lo (c e : Nat → BitVec 64) (p q : Bool) (n : Int) (hx : ex n = true) (hq : bits .and .i64 (n / 256) 3 ≤ 1) (h384 : (n == 384) = false) (hs : n < 3072) (w : World) : Calls Try.prog 33 #[.agg (cV c), .int .i64 n, .int .i64 1, .bool false, .agg (eV e p q)] w fun r w' => r = .returned (.bool true) ∧ On w w' := by
  have K1 : Hid (∀ w, Calls Try.prog 34 #[.agg (cV c), .int .i64 n, .agg (eV e p q)] w fun r w' => r = .returned (.tuple #[.int .u64 (u (rv c e n)), .bool true]) ∧ On w w') := Lib.hid (fun w => by rw [← hx]; exact rvalue_any c e p q n w)
  clear hx
  have HC : ∀ wr, On ((w.alloc (.cells (cV c) 25)).alloc (.cells (eV e p q) 27)) wr → wr.heap[w.heap.size]? = some (.cells (cV c) 25 (0, 0)) := fun _ h => h.keep (((On.refl _).alloc _).keep (heap_alloc_new _ _))
  have HE : ∀ wr, On ((w.alloc (.cells (cV c) 25)).alloc (.cells (eV e p q) 27)) wr → wr.heap[w.heap.size + 1]? = some (.cells (eV e p q) 27 (0, 0)) := fun _ h => h.keep (box2 _ _ _)
  have hb := On.refl ((w.alloc (.cells (cV c) 25)).alloc (.cells (eV e p q) 27))
  generalize rv c e n = y at *
  go_enter Try.func33, Try.ntmps33
  go_wp2_with (first | ((with_reducible apply csr_ld); (case ho => exact rfl); (case hgd => exact rfl); (case hx => exact rfl); (case hg => exact HC _ (by assumption))) | ((with_reducible apply env_ld); (case ho => exact rfl); (case hgd => exact rfl); (case hx => exact rfl); (case hg => exact HE _ (by assumption))) | (go_at_call 34; refine (K1.out _).mono ?_; rintro e wn ⟨rfl, hb'⟩; have hb := hb.trans hb'; clear hb'))
  go_ret
  exact ⟨rfl, (((On.refl w).alloc _).alloc _).trans hb⟩
set_option maxHeartbeats 1000000 in
theorem rmay_far_1_false_hi (c e : Nat → BitVec 64) (p q : Bool) (n : Int) (hx : ex n = true) (hq : bits .and .i64 (n / 256) 3 ≤ 1) (h384 : (n == 384) = false) (hs : 3079 ≤ n) (w : World) : Calls Try.prog 33 #[.agg (cV c), .int .i64 n, .int .i64 1, .bool false, .agg (eV e p q)] w fun r w' => r = .returned (.bool true) ∧ On w w' := by
  have K1 : Hid (∀ w, Calls Try.prog 34 #[.agg (cV c), .int .i64 n, .agg (eV e p q)] w fun r w' => r = .returned (.tuple #[.int .u64 (u (rv c e n)), .bool true]) ∧ On w w') := Lib.hid (fun w => by rw [← hx]; exact rvalue_any c e p q n w)
  clear hx
  have HC : ∀ wr, On ((w.alloc (.cells (cV c) 25)).alloc (.cells (eV e p q) 27)) wr → wr.heap[w.heap.size]? = some (.cells (cV c) 25 (0, 0)) := fun _ h => h.keep (((On.refl _).alloc _).keep (heap_alloc_new _ _))
  have HE : ∀ wr, On ((w.alloc (.cells (cV c) 25)).alloc (.cells (eV e p q) 27)) wr → wr.heap[w.heap.size + 1]? = some (.cells (eV e p q) 27 (0, 0)) := fun _ h => h.keep (box2 _ _ _)
  have hb := On.refl ((w.alloc (.cells (cV c) 25)).alloc (.cells (eV e p q) 27))
  generalize rv c e n = y at *
  go_enter Try.func33, Try.ntmps33
  go_wp2_with (first | ((with_reducible apply csr_ld); (case ho => exact rfl); (case hgd => exact rfl); (case hx => exact rfl); (case hg => exact HC _ (by assumption))) | ((with_reducible apply env_ld); (case ho => exact rfl); (case hgd => exact rfl); (case hx => exact rfl); (case hg => exact HE _ (by assumption))) | (go_at_call 34; refine (K1.out _).mono ?_; rintro e wn ⟨rfl, hb'⟩; have hb := hb.trans hb'; clear hb'))
  go_ret
  exact ⟨rfl, (((On.refl w).alloc _).alloc _).trans hb⟩
set_option maxHeartbeats 1000000 in
theorem rmay_far_1_true_lo (c e : Nat → BitVec 64) (p q : Bool) (n : Int) (hx : ex n = true) (hq : bits .and .i64 (n / 256) 3 ≤ 1) (hr : (n / 1024 == 3) = false) (h384 : (n == 384) = false) (hs : n < 3072) (w : World) : Calls Try.prog 33 #[.agg (cV c), .int .i64 n, .int .i64 1, .bool true, .agg (eV e p q)] w fun r w' => r = .returned (.bool true) ∧ On w w' := by
  have K1 : Hid (∀ w, Calls Try.prog 34 #[.agg (cV c), .int .i64 n, .agg (eV e p q)] w fun r w' => r = .returned (.tuple #[.int .u64 (u (rv c e n)), .bool true]) ∧ On w w') := Lib.hid (fun w => by rw [← hx]; exact rvalue_any c e p q n w)
  clear hx
  have HC : ∀ wr, On ((w.alloc (.cells (cV c) 25)).alloc (.cells (eV e p q) 27)) wr → wr.heap[w.heap.size]? = some (.cells (cV c) 25 (0, 0)) := fun _ h => h.keep (((On.refl _).alloc _).keep (heap_alloc_new _ _))
  have HE : ∀ wr, On ((w.alloc (.cells (cV c) 25)).alloc (.cells (eV e p q) 27)) wr → wr.heap[w.heap.size + 1]? = some (.cells (eV e p q) 27 (0, 0)) := fun _ h => h.keep (box2 _ _ _)
  have hb := On.refl ((w.alloc (.cells (cV c) 25)).alloc (.cells (eV e p q) 27))
  generalize rv c e n = y at *
  go_enter Try.func33, Try.ntmps33
  go_wp2_with (first | ((with_reducible apply csr_ld); (case ho => exact rfl); (case hgd => exact rfl); (case hx => exact rfl); (case hg => exact HC _ (by assumption))) | ((with_reducible apply env_ld); (case ho => exact rfl); (case hgd => exact rfl); (case hx => exact rfl); (case hg => exact HE _ (by assumption))) | (go_at_call 34; refine (K1.out _).mono ?_; rintro e wn ⟨rfl, hb'⟩; have hb := hb.trans hb'; clear hb'))
  go_ret
  exact ⟨rfl, (((On.refl w).alloc _).alloc _).trans hb⟩
set_option maxHeartbeats 1000000 in
theorem rmay_far_1_true_hi (c e : Nat → BitVec 64) (p q : Bool) (n : Int) (hx : ex n = true) (hq : bits .and .i64 (n / 256) 3 ≤ 1) (hr : (n / 1024 == 3) = false) (h384 : (n == 384) = false) (hs : 3079 ≤ n) (w : World) : Calls Try.prog 33 #[.agg (cV c), .int .i64 n, .int .i64 1, .bool true, .agg (eV e p q)] w fun r w' => r = .returned (.bool true) ∧ On w w' := by
  have K1 : Hid (∀ w, Calls Try.prog 34 #[.agg (cV c), .int .i64 n, .agg (eV e p q)] w fun r w' => r = .returned (.tuple #[.int .u64 (u (rv c e n)), .bool true]) ∧ On w w') := Lib.hid (fun w => by rw [← hx]; exact rvalue_any c e p q n w)
  clear hx
  have HC : ∀ wr, On ((w.alloc (.cells (cV c) 25)).alloc (.cells (eV e p q) 27)) wr → wr.heap[w.heap.size]? = some (.cells (cV c) 25 (0, 0)) := fun _ h => h.keep (((On.refl _).alloc _).keep (heap_alloc_new _ _))
  have HE : ∀ wr, On ((w.alloc (.cells (cV c) 25)).alloc (.cells (eV e p q) 27)) wr → wr.heap[w.heap.size + 1]? = some (.cells (eV e p q) 27 (0, 0)) := fun _ h => h.keep (box2 _ _ _)
  have hb := On.refl ((w.alloc (.cells (cV c) 25)).alloc (.cells (eV e p q) 27))
  generalize rv c e n = y at *
  go_enter Try.func33, Try.ntmps33
  go_wp2_with (first | ((with_reducible apply csr_ld); (case ho => exact rfl); (case hgd => exact rfl); (case hx => exact rfl); (case hg => exact HC _ (by assumption))) | ((with_reducible apply env_ld); (case ho => exact rfl); (case hgd => exact rfl); (case hx => exact rfl); (case hg => exact HE _ (by assumption))) | (go_at_call 34; refine (K1.out _).mono ?_; rintro e wn ⟨rfl, hb'⟩; have hb := hb.trans hb'; clear hb'))
  go_ret
  exact ⟨rfl, (((On.refl w).alloc _).alloc _).trans hb⟩
set_option maxHeartbeats 1000000 in
theorem rmay_low_3 (c e : Nat → BitVec 64) (p q : Bool) (n : Int) (o : Bool) (hx : ex n = true) (hq : 3 < bits .and .i64 (n / 256) 3) (w : World) : Calls Try.prog 33 #[.agg (cV c), .int .i64 n, .int .i64 3, .bool o, .agg (eV e p q)] w fun r w' => r = .returned (.bool false) ∧ On w w' := by
  have K1 : Hid (∀ w, Calls Try.prog 34 #[.agg (cV c), .int .i64 n, .agg (eV e p q)] w fun r w' => r = .returned (.tuple #[.int .u64 (u (rv c e n)), .bool true]) ∧ On w w') := Lib.hid (fun w => by rw [← hx]; exact rvalue_any c e p q n w)
  clear hx
  have HC : ∀ wr, On ((w.alloc (.cells (cV c) 25)).alloc (.cells (eV e p q) 27)) wr → wr.heap[w.heap.size]? = some (.cells (cV c) 25 (0, 0)) := fun _ h => h.keep (((On.refl _).alloc _).keep (heap_alloc_new _ _))
  have HE : ∀ wr, On ((w.alloc (.cells (cV c) 25)).alloc (.cells (eV e p q) 27)) wr → wr.heap[w.heap.size + 1]? = some (.cells (eV e p q) 27 (0, 0)) := fun _ h => h.keep (box2 _ _ _)
  have hb := On.refl ((w.alloc (.cells (cV c) 25)).alloc (.cells (eV e p q) 27))
  generalize rv c e n = y at *
  go_enter Try.func33, Try.ntmps33
  go_wp2_with (first | ((with_reducible apply csr_ld); (case ho => exact rfl); (case hgd => exact rfl); (case hx => exact rfl); (case hg => exact HC _ (by assumption))) | ((with_reducible apply env_ld); (case ho => exact rfl); (case hgd => exact rfl); (case hx => exact rfl); (case hg => exact HE _ (by assumption))) | (go_at_call 34; refine (K1.out _).mono ?_; rintro e wn ⟨rfl, hb'⟩; have hb := hb.trans hb'; clear hb'))
  go_ret
  exact ⟨rfl, (((On.refl w).alloc _).alloc _).trans hb⟩
set_option maxHeartbeats 1000000 in
theorem rmay_ro_3 (c e : Nat → BitVec 64) (p q : Bool) (n : Int) (hx : ex n = true) (hq : bits .and .i64 (n / 256) 3 ≤ 3) (hr : (n / 1024 == 3) = true) (w : World) : Calls Try.prog 33 #[.agg (cV c), .int .i64 n, .int .i64 3, .bool true, .agg (eV e p q)] w fun r w' => r = .returned (.bool false) ∧ On w w' := by
  have K1 : Hid (∀ w, Calls Try.prog 34 #[.agg (cV c), .int .i64 n, .agg (eV e p q)] w fun r w' => r = .returned (.tuple #[.int .u64 (u (rv c e n)), .bool true]) ∧ On w w') := Lib.hid (fun w => by rw [← hx]; exact rvalue_any c e p q n w)
  clear hx
  have HC : ∀ wr, On ((w.alloc (.cells (cV c) 25)).alloc (.cells (eV e p q) 27)) wr → wr.heap[w.heap.size]? = some (.cells (cV c) 25 (0, 0)) := fun _ h => h.keep (((On.refl _).alloc _).keep (heap_alloc_new _ _))
  have HE : ∀ wr, On ((w.alloc (.cells (cV c) 25)).alloc (.cells (eV e p q) 27)) wr → wr.heap[w.heap.size + 1]? = some (.cells (eV e p q) 27 (0, 0)) := fun _ h => h.keep (box2 _ _ _)
  have hb := On.refl ((w.alloc (.cells (cV c) 25)).alloc (.cells (eV e p q) 27))
  generalize rv c e n = y at *
  go_enter Try.func33, Try.ntmps33
  go_wp2_with (first | ((with_reducible apply csr_ld); (case ho => exact rfl); (case hgd => exact rfl); (case hx => exact rfl); (case hg => exact HC _ (by assumption))) | ((with_reducible apply env_ld); (case ho => exact rfl); (case hgd => exact rfl); (case hx => exact rfl); (case hg => exact HE _ (by assumption))) | (go_at_call 34; refine (K1.out _).mono ?_; rintro e wn ⟨rfl, hb'⟩; have hb := hb.trans hb'; clear hb'))
  go_ret
  exact ⟨rfl, (((On.refl w).alloc _).alloc _).trans hb⟩
set_option maxHeartbeats 1000000 in
theorem rmay_far_3_false_lo (c e : Nat → BitVec 64) (p q : Bool) (n : Int) (hx : ex n = true) (hq : bits .and .i64 (n / 256) 3 ≤ 3) (h384 : (n == 384) = false) (hs : n < 3072) (w : World) : Calls Try.prog 33 #[.agg (cV c), .int .i64 n, .int .i64 3, .bool false, .agg (eV e p q)] w fun r w' => r = .returned (.bool true) ∧ On w w' := by
  have K1 : Hid (∀ w, Calls Try.prog 34 #[.agg (cV c), .int .i64 n, .agg (eV e p q)] w fun r w' => r = .returned (.tuple #[.int .u64 (u (rv c e n)), .bool true]) ∧ On w w') := Lib.hid (fun w => by rw [← hx]; exact rvalue_any c e p q n w)
  clear hx
  have HC : ∀ wr, On ((w.alloc (.cells (cV c) 25)).alloc (.cells (eV e p q) 27)) wr → wr.heap[w.heap.size]? = some (.cells (cV c) 25 (0, 0)) := fun _ h => h.keep (((On.refl _).alloc _).keep (heap_alloc_new _ _))
  have HE : ∀ wr, On ((w.alloc (.cells (cV c) 25)).alloc (.cells (eV e p q) 27)) wr → wr.heap[w.heap.size + 1]? = some (.cells (eV e p q) 27 (0, 0)) := fun _ h => h.keep (box2 _ _ _)
  have hb := On.refl ((w.alloc (.cells (cV c) 25)).alloc (.cells (eV e p q) 27))
  generalize rv c e n = y at *
  go_enter Try.func33, Try.ntmps33
  go_wp2_with (first | ((with_reducible apply csr_ld); (case ho => exact rfl); (case hgd => exact rfl); (case hx => exact rfl); (case hg => exact HC _ (by assumption))) | ((with_reducible apply env_ld); (case ho => exact rfl); (case hgd => exact rfl); (case hx => exact rfl); (case hg => exact HE _ (by assumption))) | (go_at_call 34; refine (K1.out _).mono ?_; rintro e wn ⟨rfl, hb'⟩; have hb := hb.trans hb'; clear hb'))
  go_ret
  exact ⟨rfl, (((On.refl w).alloc _).alloc _).trans hb⟩
set_option maxHeartbeats 1000000 in
theorem rmay_far_3_false_hi (c e : Nat → BitVec 64) (p q : Bool) (n : Int) (hx : ex n = true) (hq : bits .and .i64 (n / 256) 3 ≤ 3) (h384 : (n == 384) = false) (hs : 3079 ≤ n) (w : World) : Calls Try.prog 33 #[.agg (cV c), .int .i64 n, .int .i64 3, .bool false, .agg (eV e p q)] w fun r w' => r = .returned (.bool true) ∧ On w w' := by
  have K1 : Hid (∀ w, Calls Try.prog 34 #[.agg (cV c), .int .i64 n, .agg (eV e p q)] w fun r w' => r = .returned (.tuple #[.int .u64 (u (rv c e n)), .bool true]) ∧ On w w') := Lib.hid (fun w => by rw [← hx]; exact rvalue_any c e p q n w)
  clear hx
  have HC : ∀ wr, On ((w.alloc (.cells (cV c) 25)).alloc (.cells (eV e p q) 27)) wr → wr.heap[w.heap.size]? = some (.cells (cV c) 25 (0, 0)) := fun _ h => h.keep (((On.refl _).alloc _).keep (heap_alloc_new _ _))
  have HE : ∀ wr, On ((w.alloc (.cells (cV c) 25)).alloc (.cells (eV e p q) 27)) wr → wr.heap[w.heap.size + 1]? = some (.cells (eV e p q) 27 (0, 0)) := fun _ h => h.keep (box2 _ _ _)
  have hb := On.refl ((w.alloc (.cells (cV c) 25)).alloc (.cells (eV e p q) 27))
  generalize rv c e n = y at *
  go_enter Try.func33, Try.ntmps33
  go_wp2_with (first | ((with_reducible apply csr_ld); (case ho => exact rfl); (case hgd => exact rfl); (case hx => exact rfl); (case hg => exact HC _ (by assumption))) | ((with_reducible apply env_ld); (case ho => exact rfl); (case hgd => exact rfl); (case hx => exact rfl); (case hg => exact HE _ (by assumption))) | (go_at_call 34; refine (K1.out _).mono ?_; rintro e wn ⟨rfl, hb'⟩; have hb := hb.trans hb'; clear hb'))
  go_ret
  exact ⟨rfl, (((On.refl w).alloc _).alloc _).trans hb⟩
set_option maxHeartbeats 1000000 in
theorem rmay_far_3_true_lo (c e : Nat → BitVec 64) (p q : Bool) (n : Int) (hx : ex n = true) (hq : bits .and .i64 (n / 256) 3 ≤ 3) (hr : (n / 1024 == 3) = false) (h384 : (n == 384) = false) (hs : n < 3072) (w : World) : Calls Try.prog 33 #[.agg (cV c), .int .i64 n, .int .i64 3, .bool true, .agg (eV e p q)] w fun r w' => r = .returned (.bool true) ∧ On w w' := by
  have K1 : Hid (∀ w, Calls Try.prog 34 #[.agg (cV c), .int .i64 n, .agg (eV e p q)] w fun r w' => r = .returned (.tuple #[.int .u64 (u (rv c e n)), .bool true]) ∧ On w w') := Lib.hid (fun w => by rw [← hx]; exact rvalue_any c e p q n w)
  clear hx
  have HC : ∀ wr, On ((w.alloc (.cells (cV c) 25)).alloc (.cells (eV e p q) 27)) wr → wr.heap[w.heap.size]? = some (.cells (cV c) 25 (0, 0)) := fun _ h => h.keep (((On.refl _).alloc _).keep (heap_alloc_new _ _))
  have HE : ∀ wr, On ((w.alloc (.cells (cV c) 25)).alloc (.cells (eV e p q) 27)) wr → wr.heap[w.heap.size + 1]? = some (.cells (eV e p q) 27 (0, 0)) := fun _ h => h.keep (box2 _ _ _)
  have hb := On.refl ((w.alloc (.cells (cV c) 25)).alloc (.cells (eV e p q) 27))
  generalize rv c e n = y at *
  go_enter Try.func33, Try.ntmps33
  go_wp2_with (first | ((with_reducible apply csr_ld); (case ho => exact rfl); (case hgd => exact rfl); (case hx => exact rfl); (case hg => exact HC _ (by assumption))) | ((with_reducible apply env_ld); (case ho => exact rfl); (case hgd => exact rfl); (case hx => exact rfl); (case hg => exact HE _ (by assumption))) | (go_at_call 34; refine (K1.out _).mono ?_; rintro e wn ⟨rfl, hb'⟩; have hb := hb.trans hb'; clear hb'))
  go_ret
  exact ⟨rfl, (((On.refl w).alloc _).alloc _).trans hb⟩
set_option maxHeartbeats 1000000 in
theorem rmay_far_3_true_hi (c e : Nat → BitVec 64) (p q : Bool) (n : Int) (hx : ex n = true) (hq : bits .and .i64 (n / 256) 3 ≤ 3) (hr : (n / 1024 == 3) = false) (h384 : (n == 384) = false) (hs : 3079 ≤ n) (w : World) : Calls Try.prog 33 #[.agg (cV c), .int .i64 n, .int .i64 3, .bool true, .agg (eV e p q)] w fun r w' => r = .returned (.bool true) ∧ On w w' := by
  have K1 : Hid (∀ w, Calls Try.prog 34 #[.agg (cV c), .int .i64 n, .agg (eV e p q)] w fun r w' => r = .returned (.tuple #[.int .u64 (u (rv c e n)), .bool true]) ∧ On w w') := Lib.hid (fun w => by rw [← hx]; exact rvalue_any c e p q n w)
  clear hx
  have HC : ∀ wr, On ((w.alloc (.cells (cV c) 25)).alloc (.cells (eV e p q) 27)) wr → wr.heap[w.heap.size]? = some (.cells (cV c) 25 (0, 0)) := fun _ h => h.keep (((On.refl _).alloc _).keep (heap_alloc_new _ _))
  have HE : ∀ wr, On ((w.alloc (.cells (cV c) 25)).alloc (.cells (eV e p q) 27)) wr → wr.heap[w.heap.size + 1]? = some (.cells (eV e p q) 27 (0, 0)) := fun _ h => h.keep (box2 _ _ _)
  have hb := On.refl ((w.alloc (.cells (cV c) 25)).alloc (.cells (eV e p q) 27))
  generalize rv c e n = y at *
  go_enter Try.func33, Try.ntmps33
  go_wp2_with (first | ((with_reducible apply csr_ld); (case ho => exact rfl); (case hgd => exact rfl); (case hx => exact rfl); (case hg => exact HC _ (by assumption))) | ((with_reducible apply env_ld); (case ho => exact rfl); (case hgd => exact rfl); (case hx => exact rfl); (case hg => exact HE _ (by assumption))) | (go_at_call 34; refine (K1.out _).mono ?_; rintro e wn ⟨rfl, hb'⟩; have hb := hb.trans hb'; clear hb'))
  go_ret
  exact ⟨rfl, (((On.refl w).alloc _).alloc _).trans hb⟩
set_option maxHeartbeats 1000000 in
theorem rmay_384_3_false (c e : Nat → BitVec 64) (p q : Bool)  (w : World) : Calls Try.prog 33 #[.agg (cV c), .int .i64 384, .int .i64 3, .bool false, .agg (eV e p q)] w fun r w' => r = .returned (.bool true) ∧ On w w' := by
  have hx : ex 384 = true := rfl
  have K1 : Hid (∀ w, Calls Try.prog 34 #[.agg (cV c), .int .i64 384, .agg (eV e p q)] w fun r w' => r = .returned (.tuple #[.int .u64 (u (rv c e 384)), .bool true]) ∧ On w w') := Lib.hid (fun w => by rw [← hx]; exact rvalue_any c e p q 384 w)
  clear hx
  have hbit : bits .and .i64 1 3 = 1 := by decide
  have HC : ∀ wr, On ((w.alloc (.cells (cV c) 25)).alloc (.cells (eV e p q) 27)) wr → wr.heap[w.heap.size]? = some (.cells (cV c) 25 (0, 0)) := fun _ h => h.keep (((On.refl _).alloc _).keep (heap_alloc_new _ _))
  have HE : ∀ wr, On ((w.alloc (.cells (cV c) 25)).alloc (.cells (eV e p q) 27)) wr → wr.heap[w.heap.size + 1]? = some (.cells (eV e p q) 27 (0, 0)) := fun _ h => h.keep (box2 _ _ _)
  have hb := On.refl ((w.alloc (.cells (cV c) 25)).alloc (.cells (eV e p q) 27))
  generalize rv c e 384 = y at *
  go_enter Try.func33, Try.ntmps33
  go_wp2_with (first | ((with_reducible apply csr_ld); (case ho => exact rfl); (case hgd => exact rfl); (case hx => exact rfl); (case hg => exact HC _ (by assumption))) | ((with_reducible apply env_ld); (case ho => exact rfl); (case hgd => exact rfl); (case hx => exact rfl); (case hg => exact HE _ (by assumption))) | (go_at_call 34; refine (K1.out _).mono ?_; rintro e wn ⟨rfl, hb'⟩; have hb := hb.trans hb'; clear hb'))
  go_ret
  exact ⟨rfl, (((On.refl w).alloc _).alloc _).trans hb⟩
set_option maxHeartbeats 1000000 in
theorem rmay_384_1_false_false (c e : Nat → BitVec 64) (p q : Bool) (hb : (bits .and .u64 (u (c 0)) 1048576 != 0) = false) (w : World) : Calls Try.prog 33 #[.agg (cV c), .int .i64 384, .int .i64 1, .bool false, .agg (eV e p q)] w fun r w' => r = .returned (.bool true) ∧ On w w' := by
  have hx : ex 384 = true := rfl
  have K1 : Hid (∀ w, Calls Try.prog 34 #[.agg (cV c), .int .i64 384, .agg (eV e p q)] w fun r w' => r = .returned (.tuple #[.int .u64 (u (rv c e 384)), .bool true]) ∧ On w w') := Lib.hid (fun w => by rw [← hx]; exact rvalue_any c e p q 384 w)
  clear hx
  have hbit : bits .and .i64 1 3 = 1 := by decide
  have HC : ∀ wr, On ((w.alloc (.cells (cV c) 25)).alloc (.cells (eV e p q) 27)) wr → wr.heap[w.heap.size]? = some (.cells (cV c) 25 (0, 0)) := fun _ h => h.keep (((On.refl _).alloc _).keep (heap_alloc_new _ _))
  have HE : ∀ wr, On ((w.alloc (.cells (cV c) 25)).alloc (.cells (eV e p q) 27)) wr → wr.heap[w.heap.size + 1]? = some (.cells (eV e p q) 27 (0, 0)) := fun _ h => h.keep (box2 _ _ _)
  have c0 : ∀ wr, On ((w.alloc (.cells (cV c) 25)).alloc (.cells (eV e p q) 27)) wr → wr.cell? ⟨w.heap.size, 0, none⟩ = some (.int .u64 (u (c 0))) := fun _ h => blk_cell (HC _ h) 0 (cV_get c 0 (by omega))
  have hb := On.refl ((w.alloc (.cells (cV c) 25)).alloc (.cells (eV e p q) 27))
  generalize rv c e 384 = y at *
  go_enter Try.func33, Try.ntmps33
  go_wp2_with (first | ((with_reducible apply csr_ld); (case ho => exact rfl); (case hgd => exact rfl); (case hx => exact rfl); (case hg => exact HC _ (by assumption))) | ((with_reducible apply env_ld); (case ho => exact rfl); (case hgd => exact rfl); (case hx => exact rfl); (case hg => exact HE _ (by assumption))) | (go_at_call 34; refine (K1.out _).mono ?_; rintro e wn ⟨rfl, hb'⟩; have hb := hb.trans hb'; clear hb'))
  go_ret
  exact ⟨rfl, (((On.refl w).alloc _).alloc _).trans hb⟩
set_option maxHeartbeats 1000000 in
theorem rmay_384_1_false_true (c e : Nat → BitVec 64) (p q : Bool) (hb : (bits .and .u64 (u (c 0)) 1048576 != 0) = true) (w : World) : Calls Try.prog 33 #[.agg (cV c), .int .i64 384, .int .i64 1, .bool false, .agg (eV e p q)] w fun r w' => r = .returned (.bool false) ∧ On w w' := by
  have hx : ex 384 = true := rfl
  have K1 : Hid (∀ w, Calls Try.prog 34 #[.agg (cV c), .int .i64 384, .agg (eV e p q)] w fun r w' => r = .returned (.tuple #[.int .u64 (u (rv c e 384)), .bool true]) ∧ On w w') := Lib.hid (fun w => by rw [← hx]; exact rvalue_any c e p q 384 w)
  clear hx
  have hbit : bits .and .i64 1 3 = 1 := by decide
  have HC : ∀ wr, On ((w.alloc (.cells (cV c) 25)).alloc (.cells (eV e p q) 27)) wr → wr.heap[w.heap.size]? = some (.cells (cV c) 25 (0, 0)) := fun _ h => h.keep (((On.refl _).alloc _).keep (heap_alloc_new _ _))
  have HE : ∀ wr, On ((w.alloc (.cells (cV c) 25)).alloc (.cells (eV e p q) 27)) wr → wr.heap[w.heap.size + 1]? = some (.cells (eV e p q) 27 (0, 0)) := fun _ h => h.keep (box2 _ _ _)
  have c0 : ∀ wr, On ((w.alloc (.cells (cV c) 25)).alloc (.cells (eV e p q) 27)) wr → wr.cell? ⟨w.heap.size, 0, none⟩ = some (.int .u64 (u (c 0))) := fun _ h => blk_cell (HC _ h) 0 (cV_get c 0 (by omega))
  have hb := On.refl ((w.alloc (.cells (cV c) 25)).alloc (.cells (eV e p q) 27))
  generalize rv c e 384 = y at *
  go_enter Try.func33, Try.ntmps33
  go_wp2_with (first | ((with_reducible apply csr_ld); (case ho => exact rfl); (case hgd => exact rfl); (case hx => exact rfl); (case hg => exact HC _ (by assumption))) | ((with_reducible apply env_ld); (case ho => exact rfl); (case hgd => exact rfl); (case hx => exact rfl); (case hg => exact HE _ (by assumption))) | (go_at_call 34; refine (K1.out _).mono ?_; rintro e wn ⟨rfl, hb'⟩; have hb := hb.trans hb'; clear hb'))
  go_ret
  exact ⟨rfl, (((On.refl w).alloc _).alloc _).trans hb⟩
set_option maxHeartbeats 1000000 in
theorem rmay_384_3_true (c e : Nat → BitVec 64) (p q : Bool)  (w : World) : Calls Try.prog 33 #[.agg (cV c), .int .i64 384, .int .i64 3, .bool true, .agg (eV e p q)] w fun r w' => r = .returned (.bool true) ∧ On w w' := by
  have hx : ex 384 = true := rfl
  have K1 : Hid (∀ w, Calls Try.prog 34 #[.agg (cV c), .int .i64 384, .agg (eV e p q)] w fun r w' => r = .returned (.tuple #[.int .u64 (u (rv c e 384)), .bool true]) ∧ On w w') := Lib.hid (fun w => by rw [← hx]; exact rvalue_any c e p q 384 w)
  clear hx
  have hbit : bits .and .i64 1 3 = 1 := by decide
  have HC : ∀ wr, On ((w.alloc (.cells (cV c) 25)).alloc (.cells (eV e p q) 27)) wr → wr.heap[w.heap.size]? = some (.cells (cV c) 25 (0, 0)) := fun _ h => h.keep (((On.refl _).alloc _).keep (heap_alloc_new _ _))
  have HE : ∀ wr, On ((w.alloc (.cells (cV c) 25)).alloc (.cells (eV e p q) 27)) wr → wr.heap[w.heap.size + 1]? = some (.cells (eV e p q) 27 (0, 0)) := fun _ h => h.keep (box2 _ _ _)
  have hb := On.refl ((w.alloc (.cells (cV c) 25)).alloc (.cells (eV e p q) 27))
  generalize rv c e 384 = y at *
  go_enter Try.func33, Try.ntmps33
  go_wp2_with (first | ((with_reducible apply csr_ld); (case ho => exact rfl); (case hgd => exact rfl); (case hx => exact rfl); (case hg => exact HC _ (by assumption))) | ((with_reducible apply env_ld); (case ho => exact rfl); (case hgd => exact rfl); (case hx => exact rfl); (case hg => exact HE _ (by assumption))) | (go_at_call 34; refine (K1.out _).mono ?_; rintro e wn ⟨rfl, hb'⟩; have hb := hb.trans hb'; clear hb'))
  go_ret
  exact ⟨rfl, (((On.refl w).alloc _).alloc _).trans hb⟩
set_option maxHeartbeats 1000000 in
theorem rmay_384_1_true_false (c e : Nat → BitVec 64) (p q : Bool) (hb : (bits .and .u64 (u (c 0)) 1048576 != 0) = false) (w : World) : Calls Try.prog 33 #[.agg (cV c), .int .i64 384, .int .i64 1, .bool true, .agg (eV e p q)] w fun r w' => r = .returned (.bool true) ∧ On w w' := by
  have hx : ex 384 = true := rfl
  have K1 : Hid (∀ w, Calls Try.prog 34 #[.agg (cV c), .int .i64 384, .agg (eV e p q)] w fun r w' => r = .returned (.tuple #[.int .u64 (u (rv c e 384)), .bool true]) ∧ On w w') := Lib.hid (fun w => by rw [← hx]; exact rvalue_any c e p q 384 w)
  clear hx
  have hbit : bits .and .i64 1 3 = 1 := by decide
  have HC : ∀ wr, On ((w.alloc (.cells (cV c) 25)).alloc (.cells (eV e p q) 27)) wr → wr.heap[w.heap.size]? = some (.cells (cV c) 25 (0, 0)) := fun _ h => h.keep (((On.refl _).alloc _).keep (heap_alloc_new _ _))
  have HE : ∀ wr, On ((w.alloc (.cells (cV c) 25)).alloc (.cells (eV e p q) 27)) wr → wr.heap[w.heap.size + 1]? = some (.cells (eV e p q) 27 (0, 0)) := fun _ h => h.keep (box2 _ _ _)
  have c0 : ∀ wr, On ((w.alloc (.cells (cV c) 25)).alloc (.cells (eV e p q) 27)) wr → wr.cell? ⟨w.heap.size, 0, none⟩ = some (.int .u64 (u (c 0))) := fun _ h => blk_cell (HC _ h) 0 (cV_get c 0 (by omega))
  have hb := On.refl ((w.alloc (.cells (cV c) 25)).alloc (.cells (eV e p q) 27))
  generalize rv c e 384 = y at *
  go_enter Try.func33, Try.ntmps33
  go_wp2_with (first | ((with_reducible apply csr_ld); (case ho => exact rfl); (case hgd => exact rfl); (case hx => exact rfl); (case hg => exact HC _ (by assumption))) | ((with_reducible apply env_ld); (case ho => exact rfl); (case hgd => exact rfl); (case hx => exact rfl); (case hg => exact HE _ (by assumption))) | (go_at_call 34; refine (K1.out _).mono ?_; rintro e wn ⟨rfl, hb'⟩; have hb := hb.trans hb'; clear hb'))
  go_ret
  exact ⟨rfl, (((On.refl w).alloc _).alloc _).trans hb⟩
set_option maxHeartbeats 1000000 in
theorem rmay_384_1_true_true (c e : Nat → BitVec 64) (p q : Bool) (hb : (bits .and .u64 (u (c 0)) 1048576 != 0) = true) (w : World) : Calls Try.prog 33 #[.agg (cV c), .int .i64 384, .int .i64 1, .bool true, .agg (eV e p q)] w fun r w' => r = .returned (.bool false) ∧ On w w' := by
  have hx : ex 384 = true := rfl
  have K1 : Hid (∀ w, Calls Try.prog 34 #[.agg (cV c), .int .i64 384, .agg (eV e p q)] w fun r w' => r = .returned (.tuple #[.int .u64 (u (rv c e 384)), .bool true]) ∧ On w w') := Lib.hid (fun w => by rw [← hx]; exact rvalue_any c e p q 384 w)
  clear hx
  have hbit : bits .and .i64 1 3 = 1 := by decide
  have HC : ∀ wr, On ((w.alloc (.cells (cV c) 25)).alloc (.cells (eV e p q) 27)) wr → wr.heap[w.heap.size]? = some (.cells (cV c) 25 (0, 0)) := fun _ h => h.keep (((On.refl _).alloc _).keep (heap_alloc_new _ _))
  have HE : ∀ wr, On ((w.alloc (.cells (cV c) 25)).alloc (.cells (eV e p q) 27)) wr → wr.heap[w.heap.size + 1]? = some (.cells (eV e p q) 27 (0, 0)) := fun _ h => h.keep (box2 _ _ _)
  have c0 : ∀ wr, On ((w.alloc (.cells (cV c) 25)).alloc (.cells (eV e p q) 27)) wr → wr.cell? ⟨w.heap.size, 0, none⟩ = some (.int .u64 (u (c 0))) := fun _ h => blk_cell (HC _ h) 0 (cV_get c 0 (by omega))
  have hb := On.refl ((w.alloc (.cells (cV c) 25)).alloc (.cells (eV e p q) 27))
  generalize rv c e 384 = y at *
  go_enter Try.func33, Try.ntmps33
  go_wp2_with (first | ((with_reducible apply csr_ld); (case ho => exact rfl); (case hgd => exact rfl); (case hx => exact rfl); (case hg => exact HC _ (by assumption))) | ((with_reducible apply env_ld); (case ho => exact rfl); (case hgd => exact rfl); (case hx => exact rfl); (case hg => exact HE _ (by assumption))) | (go_at_call 34; refine (K1.out _).mono ?_; rintro e wn ⟨rfl, hb'⟩; have hb := hb.trans hb'; clear hb'))
  go_ret
  exact ⟨rfl, (((On.refl w).alloc _).alloc _).trans hb⟩
set_option maxHeartbeats 1000000 in
theorem rmay_3072_3 (c e : Nat → BitVec 64) (p q : Bool)  (w : World) : Calls Try.prog 33 #[.agg (cV c), .int .i64 3072, .int .i64 3, .bool false, .agg (eV e p q)] w fun r w' => r = .returned (.bool true) ∧ On w w' := by
  have hx : ex 3072 = true := rfl
  have K1 : Hid (∀ w, Calls Try.prog 34 #[.agg (cV c), .int .i64 3072, .agg (eV e p q)] w fun r w' => r = .returned (.tuple #[.int .u64 (u (rv c e 3072)), .bool true]) ∧ On w w') := Lib.hid (fun w => by rw [← hx]; exact rvalue_any c e p q 3072 w)
  clear hx
  have hbit : bits .and .i64 12 3 = 0 := by decide
  have HC : ∀ wr, On ((w.alloc (.cells (cV c) 25)).alloc (.cells (eV e p q) 27)) wr → wr.heap[w.heap.size]? = some (.cells (cV c) 25 (0, 0)) := fun _ h => h.keep (((On.refl _).alloc _).keep (heap_alloc_new _ _))
  have HE : ∀ wr, On ((w.alloc (.cells (cV c) 25)).alloc (.cells (eV e p q) 27)) wr → wr.heap[w.heap.size + 1]? = some (.cells (eV e p q) 27 (0, 0)) := fun _ h => h.keep (box2 _ _ _)
  have hb := On.refl ((w.alloc (.cells (cV c) 25)).alloc (.cells (eV e p q) 27))
  generalize rv c e 3072 = y at *
  go_enter Try.func33, Try.ntmps33
  go_wp2_with (first | ((with_reducible apply csr_ld); (case ho => exact rfl); (case hgd => exact rfl); (case hx => exact rfl); (case hg => exact HC _ (by assumption))) | ((with_reducible apply env_ld); (case ho => exact rfl); (case hgd => exact rfl); (case hx => exact rfl); (case hg => exact HE _ (by assumption))) | (go_at_call 34; refine (K1.out _).mono ?_; rintro e wn ⟨rfl, hb'⟩; have hb := hb.trans hb'; clear hb'))
  go_ret
  exact ⟨rfl, (((On.refl w).alloc _).alloc _).trans hb⟩
set_option maxHeartbeats 1000000 in
theorem rmay_3072_1_false (c e : Nat → BitVec 64) (p q : Bool) (m : Int) (g0 : (m != 0) = true) (g1 : (m != 1) = false) (g3 : (m != 3) = true) (g5 : 0 ≤ m) (h6 : (bits .and .u64 (u (c 6 >>> 0)) 1 == 0) = true) (w : World) : Calls Try.prog 33 #[.agg (cV c), .int .i64 3072, .int .i64 m, .bool false, .agg (eV e p q)] w fun r w' => r = .returned (.bool false) ∧ On w w' := by
  have hx : ex 3072 = true := rfl
  have K1 : Hid (∀ w, Calls Try.prog 34 #[.agg (cV c), .int .i64 3072, .agg (eV e p q)] w fun r w' => r = .returned (.tuple #[.int .u64 (u (rv c e 3072)), .bool true]) ∧ On w w') := Lib.hid (fun w => by rw [← hx]; exact rvalue_any c e p q 3072 w)
  clear hx
  have hbit : bits .and .i64 12 3 = 0 := by decide
  have hn6 := u_nonneg (c 6)
  have hn12 := u_nonneg (c 12)
  have s6 : (bits .and .u64 (u (c 6)) 1 == 0) = true := by
    have hs : u (c 6) = u (c 6 >>> 0) := by rw [BitVec.ushiftRight_zero]
    rw [hs]; exact h6
  clear h6
  have HC : ∀ wr, On ((w.alloc (.cells (cV c) 25)).alloc (.cells (eV e p q) 27)) wr → wr.heap[w.heap.size]? = some (.cells (cV c) 25 (0, 0)) := fun _ h => h.keep (((On.refl _).alloc _).keep (heap_alloc_new _ _))
  have HE : ∀ wr, On ((w.alloc (.cells (cV c) 25)).alloc (.cells (eV e p q) 27)) wr → wr.heap[w.heap.size + 1]? = some (.cells (eV e p q) 27 (0, 0)) := fun _ h => h.keep (box2 _ _ _)
  have c6 : ∀ wr, On ((w.alloc (.cells (cV c) 25)).alloc (.cells (eV e p q) 27)) wr → wr.cell? ⟨w.heap.size, 6, none⟩ = some (.int .u64 (u (c 6))) := fun _ h => blk_cell (HC _ h) 6 (cV_get c 6 (by omega))
  have c12 : ∀ wr, On ((w.alloc (.cells (cV c) 25)).alloc (.cells (eV e p q) 27)) wr → wr.cell? ⟨w.heap.size, 12, none⟩ = some (.int .u64 (u (c 12))) := fun _ h => blk_cell (HC _ h) 12 (cV_get c 12 (by omega))
  have hb := On.refl ((w.alloc (.cells (cV c) 25)).alloc (.cells (eV e p q) 27))
  generalize rv c e 3072 = y at *
  go_enter Try.func33, Try.ntmps33
  go_wp2_with (first | ((with_reducible apply csr_ld); (case ho => exact rfl); (case hgd => exact rfl); (case hx => exact rfl); (case hg => exact HC _ (by assumption))) | ((with_reducible apply env_ld); (case ho => exact rfl); (case hgd => exact rfl); (case hx => exact rfl); (case hg => exact HE _ (by assumption))) | (go_at_call 34; refine (K1.out _).mono ?_; rintro e wn ⟨rfl, hb'⟩; have hb := hb.trans hb'; clear hb'))
  go_ret
  exact ⟨rfl, (((On.refl w).alloc _).alloc _).trans hb⟩
set_option maxHeartbeats 1000000 in
theorem rmay_3072_0_false (c e : Nat → BitVec 64) (p q : Bool) (h6 : (bits .and .u64 (u (c 6 >>> 0)) 1 == 0) = true) (w : World) : Calls Try.prog 33 #[.agg (cV c), .int .i64 3072, .int .i64 0, .bool false, .agg (eV e p q)] w fun r w' => r = .returned (.bool false) ∧ On w w' := by
  have hx : ex 3072 = true := rfl
  have K1 : Hid (∀ w, Calls Try.prog 34 #[.agg (cV c), .int .i64 3072, .agg (eV e p q)] w fun r w' => r = .returned (.tuple #[.int .u64 (u (rv c e 3072)), .bool true]) ∧ On w w') := Lib.hid (fun w => by rw [← hx]; exact rvalue_any c e p q 3072 w)
  clear hx
  have hbit : bits .and .i64 12 3 = 0 := by decide
  have hn6 := u_nonneg (c 6)
  have hn12 := u_nonneg (c 12)
  have s6 : (bits .and .u64 (u (c 6)) 1 == 0) = true := by
    have hs : u (c 6) = u (c 6 >>> 0) := by rw [BitVec.ushiftRight_zero]
    rw [hs]; exact h6
  clear h6
  have HC : ∀ wr, On ((w.alloc (.cells (cV c) 25)).alloc (.cells (eV e p q) 27)) wr → wr.heap[w.heap.size]? = some (.cells (cV c) 25 (0, 0)) := fun _ h => h.keep (((On.refl _).alloc _).keep (heap_alloc_new _ _))
  have HE : ∀ wr, On ((w.alloc (.cells (cV c) 25)).alloc (.cells (eV e p q) 27)) wr → wr.heap[w.heap.size + 1]? = some (.cells (eV e p q) 27 (0, 0)) := fun _ h => h.keep (box2 _ _ _)
  have c6 : ∀ wr, On ((w.alloc (.cells (cV c) 25)).alloc (.cells (eV e p q) 27)) wr → wr.cell? ⟨w.heap.size, 6, none⟩ = some (.int .u64 (u (c 6))) := fun _ h => blk_cell (HC _ h) 6 (cV_get c 6 (by omega))
  have hb := On.refl ((w.alloc (.cells (cV c) 25)).alloc (.cells (eV e p q) 27))
  generalize rv c e 3072 = y at *
  go_enter Try.func33, Try.ntmps33
  go_wp2_with (first | ((with_reducible apply csr_ld); (case ho => exact rfl); (case hgd => exact rfl); (case hx => exact rfl); (case hg => exact HC _ (by assumption))) | ((with_reducible apply env_ld); (case ho => exact rfl); (case hgd => exact rfl); (case hx => exact rfl); (case hg => exact HE _ (by assumption))) | (go_at_call 34; refine (K1.out _).mono ?_; rintro e wn ⟨rfl, hb'⟩; have hb := hb.trans hb'; clear hb'))
  go_ret
  exact ⟨rfl, (((On.refl w).alloc _).alloc _).trans hb⟩
set_option maxHeartbeats 1000000 in
theorem rmay_3072_1_true (c e : Nat → BitVec 64) (p q : Bool) (m : Int) (g0 : (m != 0) = true) (g1 : (m != 1) = false) (g3 : (m != 3) = true) (g5 : 0 ≤ m) (h6 : (bits .and .u64 (u (c 6 >>> 0)) 1 == 0) = false) (w : World) : Calls Try.prog 33 #[.agg (cV c), .int .i64 3072, .int .i64 m, .bool false, .agg (eV e p q)] w fun r w' => r = .returned (.bool true) ∧ On w w' := by
  have hx : ex 3072 = true := rfl
  have K1 : Hid (∀ w, Calls Try.prog 34 #[.agg (cV c), .int .i64 3072, .agg (eV e p q)] w fun r w' => r = .returned (.tuple #[.int .u64 (u (rv c e 3072)), .bool true]) ∧ On w w') := Lib.hid (fun w => by rw [← hx]; exact rvalue_any c e p q 3072 w)
  clear hx
  have hbit : bits .and .i64 12 3 = 0 := by decide
  have hn6 := u_nonneg (c 6)
  have hn12 := u_nonneg (c 12)
  have s6 : (bits .and .u64 (u (c 6)) 1 == 0) = false := by
    have hs : u (c 6) = u (c 6 >>> 0) := by rw [BitVec.ushiftRight_zero]
    rw [hs]; exact h6
  clear h6
  have HC : ∀ wr, On ((w.alloc (.cells (cV c) 25)).alloc (.cells (eV e p q) 27)) wr → wr.heap[w.heap.size]? = some (.cells (cV c) 25 (0, 0)) := fun _ h => h.keep (((On.refl _).alloc _).keep (heap_alloc_new _ _))
  have HE : ∀ wr, On ((w.alloc (.cells (cV c) 25)).alloc (.cells (eV e p q) 27)) wr → wr.heap[w.heap.size + 1]? = some (.cells (eV e p q) 27 (0, 0)) := fun _ h => h.keep (box2 _ _ _)
  have c6 : ∀ wr, On ((w.alloc (.cells (cV c) 25)).alloc (.cells (eV e p q) 27)) wr → wr.cell? ⟨w.heap.size, 6, none⟩ = some (.int .u64 (u (c 6))) := fun _ h => blk_cell (HC _ h) 6 (cV_get c 6 (by omega))
  have c12 : ∀ wr, On ((w.alloc (.cells (cV c) 25)).alloc (.cells (eV e p q) 27)) wr → wr.cell? ⟨w.heap.size, 12, none⟩ = some (.int .u64 (u (c 12))) := fun _ h => blk_cell (HC _ h) 12 (cV_get c 12 (by omega))
  have hb := On.refl ((w.alloc (.cells (cV c) 25)).alloc (.cells (eV e p q) 27))
  generalize rv c e 3072 = y at *
  go_enter Try.func33, Try.ntmps33
  go_wp2_with (first | ((with_reducible apply csr_ld); (case ho => exact rfl); (case hgd => exact rfl); (case hx => exact rfl); (case hg => exact HC _ (by assumption))) | ((with_reducible apply env_ld); (case ho => exact rfl); (case hgd => exact rfl); (case hx => exact rfl); (case hg => exact HE _ (by assumption))) | (go_at_call 34; refine (K1.out _).mono ?_; rintro e wn ⟨rfl, hb'⟩; have hb := hb.trans hb'; clear hb'))
  go_ret
  exact ⟨rfl, (((On.refl w).alloc _).alloc _).trans hb⟩
set_option maxHeartbeats 1000000 in
theorem rmay_3072_0_true_false (c e : Nat → BitVec 64) (p q : Bool) (h6 : (bits .and .u64 (u (c 6 >>> 0)) 1 == 0) = false) (h12 : (bits .and .u64 (u (c 12 >>> 0)) 1 == 0) = true) (w : World) : Calls Try.prog 33 #[.agg (cV c), .int .i64 3072, .int .i64 0, .bool false, .agg (eV e p q)] w fun r w' => r = .returned (.bool false) ∧ On w w' := by
  have hx : ex 3072 = true := rfl
  have K1 : Hid (∀ w, Calls Try.prog 34 #[.agg (cV c), .int .i64 3072, .agg (eV e p q)] w fun r w' => r = .returned (.tuple #[.int .u64 (u (rv c e 3072)), .bool true]) ∧ On w w') := Lib.hid (fun w => by rw [← hx]; exact rvalue_any c e p q 3072 w)
  clear hx
  have hbit : bits .and .i64 12 3 = 0 := by decide
  have hn6 := u_nonneg (c 6)
  have hn12 := u_nonneg (c 12)
  have s6 : (bits .and .u64 (u (c 6)) 1 == 0) = false := by
    have hs : u (c 6) = u (c 6 >>> 0) := by rw [BitVec.ushiftRight_zero]
    rw [hs]; exact h6
  clear h6
  have s12 : (bits .and .u64 (u (c 12)) 1 == 0) = true := by
    have hs : u (c 12) = u (c 12 >>> 0) := by rw [BitVec.ushiftRight_zero]
    rw [hs]; exact h12
  clear h12
  have HC : ∀ wr, On ((w.alloc (.cells (cV c) 25)).alloc (.cells (eV e p q) 27)) wr → wr.heap[w.heap.size]? = some (.cells (cV c) 25 (0, 0)) := fun _ h => h.keep (((On.refl _).alloc _).keep (heap_alloc_new _ _))
  have HE : ∀ wr, On ((w.alloc (.cells (cV c) 25)).alloc (.cells (eV e p q) 27)) wr → wr.heap[w.heap.size + 1]? = some (.cells (eV e p q) 27 (0, 0)) := fun _ h => h.keep (box2 _ _ _)
  have c6 : ∀ wr, On ((w.alloc (.cells (cV c) 25)).alloc (.cells (eV e p q) 27)) wr → wr.cell? ⟨w.heap.size, 6, none⟩ = some (.int .u64 (u (c 6))) := fun _ h => blk_cell (HC _ h) 6 (cV_get c 6 (by omega))
  have c12 : ∀ wr, On ((w.alloc (.cells (cV c) 25)).alloc (.cells (eV e p q) 27)) wr → wr.cell? ⟨w.heap.size, 12, none⟩ = some (.int .u64 (u (c 12))) := fun _ h => blk_cell (HC _ h) 12 (cV_get c 12 (by omega))
  have hb := On.refl ((w.alloc (.cells (cV c) 25)).alloc (.cells (eV e p q) 27))
  generalize rv c e 3072 = y at *
  go_enter Try.func33, Try.ntmps33
  go_wp2_with (first | ((with_reducible apply csr_ld); (case ho => exact rfl); (case hgd => exact rfl); (case hx => exact rfl); (case hg => exact HC _ (by assumption))) | ((with_reducible apply env_ld); (case ho => exact rfl); (case hgd => exact rfl); (case hx => exact rfl); (case hg => exact HE _ (by assumption))) | (go_at_call 34; refine (K1.out _).mono ?_; rintro e wn ⟨rfl, hb'⟩; have hb := hb.trans hb'; clear hb'))
  go_ret
  exact ⟨rfl, (((On.refl w).alloc _).alloc _).trans hb⟩
set_option maxHeartbeats 1000000 in
theorem rmay_3072_0_true_true (c e : Nat → BitVec 64) (p q : Bool) (h6 : (bits .and .u64 (u (c 6 >>> 0)) 1 == 0) = false) (h12 : (bits .and .u64 (u (c 12 >>> 0)) 1 == 0) = false) (w : World) : Calls Try.prog 33 #[.agg (cV c), .int .i64 3072, .int .i64 0, .bool false, .agg (eV e p q)] w fun r w' => r = .returned (.bool true) ∧ On w w' := by
  have hx : ex 3072 = true := rfl
  have K1 : Hid (∀ w, Calls Try.prog 34 #[.agg (cV c), .int .i64 3072, .agg (eV e p q)] w fun r w' => r = .returned (.tuple #[.int .u64 (u (rv c e 3072)), .bool true]) ∧ On w w') := Lib.hid (fun w => by rw [← hx]; exact rvalue_any c e p q 3072 w)
  clear hx
  have hbit : bits .and .i64 12 3 = 0 := by decide
  have hn6 := u_nonneg (c 6)
  have hn12 := u_nonneg (c 12)
  have s6 : (bits .and .u64 (u (c 6)) 1 == 0) = false := by
    have hs : u (c 6) = u (c 6 >>> 0) := by rw [BitVec.ushiftRight_zero]
    rw [hs]; exact h6
  clear h6
  have s12 : (bits .and .u64 (u (c 12)) 1 == 0) = false := by
    have hs : u (c 12) = u (c 12 >>> 0) := by rw [BitVec.ushiftRight_zero]
    rw [hs]; exact h12
  clear h12
  have HC : ∀ wr, On ((w.alloc (.cells (cV c) 25)).alloc (.cells (eV e p q) 27)) wr → wr.heap[w.heap.size]? = some (.cells (cV c) 25 (0, 0)) := fun _ h => h.keep (((On.refl _).alloc _).keep (heap_alloc_new _ _))
  have HE : ∀ wr, On ((w.alloc (.cells (cV c) 25)).alloc (.cells (eV e p q) 27)) wr → wr.heap[w.heap.size + 1]? = some (.cells (eV e p q) 27 (0, 0)) := fun _ h => h.keep (box2 _ _ _)
  have c6 : ∀ wr, On ((w.alloc (.cells (cV c) 25)).alloc (.cells (eV e p q) 27)) wr → wr.cell? ⟨w.heap.size, 6, none⟩ = some (.int .u64 (u (c 6))) := fun _ h => blk_cell (HC _ h) 6 (cV_get c 6 (by omega))
  have c12 : ∀ wr, On ((w.alloc (.cells (cV c) 25)).alloc (.cells (eV e p q) 27)) wr → wr.cell? ⟨w.heap.size, 12, none⟩ = some (.int .u64 (u (c 12))) := fun _ h => blk_cell (HC _ h) 12 (cV_get c 12 (by omega))
  have hb := On.refl ((w.alloc (.cells (cV c) 25)).alloc (.cells (eV e p q) 27))
  generalize rv c e 3072 = y at *
  go_enter Try.func33, Try.ntmps33
  go_wp2_with (first | ((with_reducible apply csr_ld); (case ho => exact rfl); (case hgd => exact rfl); (case hx => exact rfl); (case hg => exact HC _ (by assumption))) | ((with_reducible apply env_ld); (case ho => exact rfl); (case hgd => exact rfl); (case hx => exact rfl); (case hg => exact HE _ (by assumption))) | (go_at_call 34; refine (K1.out _).mono ?_; rintro e wn ⟨rfl, hb'⟩; have hb := hb.trans hb'; clear hb'))
  go_ret
  exact ⟨rfl, (((On.refl w).alloc _).alloc _).trans hb⟩
set_option maxHeartbeats 1000000 in
theorem rmay_3073_3 (c e : Nat → BitVec 64) (p q : Bool)  (w : World) : Calls Try.prog 33 #[.agg (cV c), .int .i64 3073, .int .i64 3, .bool false, .agg (eV e p q)] w fun r w' => r = .returned (.bool true) ∧ On w w' := by
  have hx : ex 3073 = true := rfl
  have K1 : Hid (∀ w, Calls Try.prog 34 #[.agg (cV c), .int .i64 3073, .agg (eV e p q)] w fun r w' => r = .returned (.tuple #[.int .u64 (u (rv c e 3073)), .bool true]) ∧ On w w') := Lib.hid (fun w => by rw [← hx]; exact rvalue_any c e p q 3073 w)
  clear hx
  have hbit : bits .and .i64 12 3 = 0 := by decide
  have HC : ∀ wr, On ((w.alloc (.cells (cV c) 25)).alloc (.cells (eV e p q) 27)) wr → wr.heap[w.heap.size]? = some (.cells (cV c) 25 (0, 0)) := fun _ h => h.keep (((On.refl _).alloc _).keep (heap_alloc_new _ _))
  have HE : ∀ wr, On ((w.alloc (.cells (cV c) 25)).alloc (.cells (eV e p q) 27)) wr → wr.heap[w.heap.size + 1]? = some (.cells (eV e p q) 27 (0, 0)) := fun _ h => h.keep (box2 _ _ _)
  have hb := On.refl ((w.alloc (.cells (cV c) 25)).alloc (.cells (eV e p q) 27))
  generalize rv c e 3073 = y at *
  go_enter Try.func33, Try.ntmps33
  go_wp2_with (first | ((with_reducible apply csr_ld); (case ho => exact rfl); (case hgd => exact rfl); (case hx => exact rfl); (case hg => exact HC _ (by assumption))) | ((with_reducible apply env_ld); (case ho => exact rfl); (case hgd => exact rfl); (case hx => exact rfl); (case hg => exact HE _ (by assumption))) | (go_at_call 34; refine (K1.out _).mono ?_; rintro e wn ⟨rfl, hb'⟩; have hb := hb.trans hb'; clear hb'))
  go_ret
  exact ⟨rfl, (((On.refl w).alloc _).alloc _).trans hb⟩
set_option maxHeartbeats 1000000 in
theorem rmay_3073_1_false (c e : Nat → BitVec 64) (p q : Bool) (m : Int) (g0 : (m != 0) = true) (g1 : (m != 1) = false) (g3 : (m != 3) = true) (g5 : 0 ≤ m) (h6 : (bits .and .u64 (u (c 6 >>> 1)) 1 == 0) = true) (w : World) : Calls Try.prog 33 #[.agg (cV c), .int .i64 3073, .int .i64 m, .bool false, .agg (eV e p q)] w fun r w' => r = .returned (.bool false) ∧ On w w' := by
  have hx : ex 3073 = true := rfl
  have K1 : Hid (∀ w, Calls Try.prog 34 #[.agg (cV c), .int .i64 3073, .agg (eV e p q)] w fun r w' => r = .returned (.tuple #[.int .u64 (u (rv c e 3073)), .bool true]) ∧ On w w') := Lib.hid (fun w => by rw [← hx]; exact rvalue_any c e p q 3073 w)
  clear hx
  have hbit : bits .and .i64 12 3 = 0 := by decide
  have hn6 := u_nonneg (c 6)
  have hn12 := u_nonneg (c 12)
  have s6 : (bits .and .u64 (u (c 6) / 2) 1 == 0) = true := by
    have hs : u (c 6) / (2 : Int) = u (c 6 >>> 1) := by rw [← u_shr (c 6) 1]; rfl
    rw [hs]; exact h6
  clear h6
  have HC : ∀ wr, On ((w.alloc (.cells (cV c) 25)).alloc (.cells (eV e p q) 27)) wr → wr.heap[w.heap.size]? = some (.cells (cV c) 25 (0, 0)) := fun _ h => h.keep (((On.refl _).alloc _).keep (heap_alloc_new _ _))
  have HE : ∀ wr, On ((w.alloc (.cells (cV c) 25)).alloc (.cells (eV e p q) 27)) wr → wr.heap[w.heap.size + 1]? = some (.cells (eV e p q) 27 (0, 0)) := fun _ h => h.keep (box2 _ _ _)
  have c6 : ∀ wr, On ((w.alloc (.cells (cV c) 25)).alloc (.cells (eV e p q) 27)) wr → wr.cell? ⟨w.heap.size, 6, none⟩ = some (.int .u64 (u (c 6))) := fun _ h => blk_cell (HC _ h) 6 (cV_get c 6 (by omega))
  have c12 : ∀ wr, On ((w.alloc (.cells (cV c) 25)).alloc (.cells (eV e p q) 27)) wr → wr.cell? ⟨w.heap.size, 12, none⟩ = some (.int .u64 (u (c 12))) := fun _ h => blk_cell (HC _ h) 12 (cV_get c 12 (by omega))
  have hb := On.refl ((w.alloc (.cells (cV c) 25)).alloc (.cells (eV e p q) 27))
  generalize rv c e 3073 = y at *
  go_enter Try.func33, Try.ntmps33
  go_wp2_with (first | ((with_reducible apply csr_ld); (case ho => exact rfl); (case hgd => exact rfl); (case hx => exact rfl); (case hg => exact HC _ (by assumption))) | ((with_reducible apply env_ld); (case ho => exact rfl); (case hgd => exact rfl); (case hx => exact rfl); (case hg => exact HE _ (by assumption))) | (go_at_call 34; refine (K1.out _).mono ?_; rintro e wn ⟨rfl, hb'⟩; have hb := hb.trans hb'; clear hb'))
  go_ret
  exact ⟨rfl, (((On.refl w).alloc _).alloc _).trans hb⟩
set_option maxHeartbeats 1000000 in
theorem rmay_3073_0_false (c e : Nat → BitVec 64) (p q : Bool) (h6 : (bits .and .u64 (u (c 6 >>> 1)) 1 == 0) = true) (w : World) : Calls Try.prog 33 #[.agg (cV c), .int .i64 3073, .int .i64 0, .bool false, .agg (eV e p q)] w fun r w' => r = .returned (.bool false) ∧ On w w' := by
  have hx : ex 3073 = true := rfl
  have K1 : Hid (∀ w, Calls Try.prog 34 #[.agg (cV c), .int .i64 3073, .agg (eV e p q)] w fun r w' => r = .returned (.tuple #[.int .u64 (u (rv c e 3073)), .bool true]) ∧ On w w') := Lib.hid (fun w => by rw [← hx]; exact rvalue_any c e p q 3073 w)
  clear hx
  have hbit : bits .and .i64 12 3 = 0 := by decide
  have hn6 := u_nonneg (c 6)
  have hn12 := u_nonneg (c 12)
  have s6 : (bits .and .u64 (u (c 6) / 2) 1 == 0) = true := by
    have hs : u (c 6) / (2 : Int) = u (c 6 >>> 1) := by rw [← u_shr (c 6) 1]; rfl
    rw [hs]; exact h6
  clear h6
  have HC : ∀ wr, On ((w.alloc (.cells (cV c) 25)).alloc (.cells (eV e p q) 27)) wr → wr.heap[w.heap.size]? = some (.cells (cV c) 25 (0, 0)) := fun _ h => h.keep (((On.refl _).alloc _).keep (heap_alloc_new _ _))
  have HE : ∀ wr, On ((w.alloc (.cells (cV c) 25)).alloc (.cells (eV e p q) 27)) wr → wr.heap[w.heap.size + 1]? = some (.cells (eV e p q) 27 (0, 0)) := fun _ h => h.keep (box2 _ _ _)
  have c6 : ∀ wr, On ((w.alloc (.cells (cV c) 25)).alloc (.cells (eV e p q) 27)) wr → wr.cell? ⟨w.heap.size, 6, none⟩ = some (.int .u64 (u (c 6))) := fun _ h => blk_cell (HC _ h) 6 (cV_get c 6 (by omega))
  have hb := On.refl ((w.alloc (.cells (cV c) 25)).alloc (.cells (eV e p q) 27))
  generalize rv c e 3073 = y at *
  go_enter Try.func33, Try.ntmps33
  go_wp2_with (first | ((with_reducible apply csr_ld); (case ho => exact rfl); (case hgd => exact rfl); (case hx => exact rfl); (case hg => exact HC _ (by assumption))) | ((with_reducible apply env_ld); (case ho => exact rfl); (case hgd => exact rfl); (case hx => exact rfl); (case hg => exact HE _ (by assumption))) | (go_at_call 34; refine (K1.out _).mono ?_; rintro e wn ⟨rfl, hb'⟩; have hb := hb.trans hb'; clear hb'))
  go_ret
  exact ⟨rfl, (((On.refl w).alloc _).alloc _).trans hb⟩
set_option maxHeartbeats 1000000 in
theorem rmay_3073_1_true (c e : Nat → BitVec 64) (p q : Bool) (m : Int) (g0 : (m != 0) = true) (g1 : (m != 1) = false) (g3 : (m != 3) = true) (g5 : 0 ≤ m) (h6 : (bits .and .u64 (u (c 6 >>> 1)) 1 == 0) = false) (w : World) : Calls Try.prog 33 #[.agg (cV c), .int .i64 3073, .int .i64 m, .bool false, .agg (eV e p q)] w fun r w' => r = .returned (.bool true) ∧ On w w' := by
  have hx : ex 3073 = true := rfl
  have K1 : Hid (∀ w, Calls Try.prog 34 #[.agg (cV c), .int .i64 3073, .agg (eV e p q)] w fun r w' => r = .returned (.tuple #[.int .u64 (u (rv c e 3073)), .bool true]) ∧ On w w') := Lib.hid (fun w => by rw [← hx]; exact rvalue_any c e p q 3073 w)
  clear hx
  have hbit : bits .and .i64 12 3 = 0 := by decide
  have hn6 := u_nonneg (c 6)
  have hn12 := u_nonneg (c 12)
  have s6 : (bits .and .u64 (u (c 6) / 2) 1 == 0) = false := by
    have hs : u (c 6) / (2 : Int) = u (c 6 >>> 1) := by rw [← u_shr (c 6) 1]; rfl
    rw [hs]; exact h6
  clear h6
  have HC : ∀ wr, On ((w.alloc (.cells (cV c) 25)).alloc (.cells (eV e p q) 27)) wr → wr.heap[w.heap.size]? = some (.cells (cV c) 25 (0, 0)) := fun _ h => h.keep (((On.refl _).alloc _).keep (heap_alloc_new _ _))
  have HE : ∀ wr, On ((w.alloc (.cells (cV c) 25)).alloc (.cells (eV e p q) 27)) wr → wr.heap[w.heap.size + 1]? = some (.cells (eV e p q) 27 (0, 0)) := fun _ h => h.keep (box2 _ _ _)
  have c6 : ∀ wr, On ((w.alloc (.cells (cV c) 25)).alloc (.cells (eV e p q) 27)) wr → wr.cell? ⟨w.heap.size, 6, none⟩ = some (.int .u64 (u (c 6))) := fun _ h => blk_cell (HC _ h) 6 (cV_get c 6 (by omega))
  have c12 : ∀ wr, On ((w.alloc (.cells (cV c) 25)).alloc (.cells (eV e p q) 27)) wr → wr.cell? ⟨w.heap.size, 12, none⟩ = some (.int .u64 (u (c 12))) := fun _ h => blk_cell (HC _ h) 12 (cV_get c 12 (by omega))
  have hb := On.refl ((w.alloc (.cells (cV c) 25)).alloc (.cells (eV e p q) 27))
  generalize rv c e 3073 = y at *
  go_enter Try.func33, Try.ntmps33
  go_wp2_with (first | ((with_reducible apply csr_ld); (case ho => exact rfl); (case hgd => exact rfl); (case hx => exact rfl); (case hg => exact HC _ (by assumption))) | ((with_reducible apply env_ld); (case ho => exact rfl); (case hgd => exact rfl); (case hx => exact rfl); (case hg => exact HE _ (by assumption))) | (go_at_call 34; refine (K1.out _).mono ?_; rintro e wn ⟨rfl, hb'⟩; have hb := hb.trans hb'; clear hb'))
  go_ret
  exact ⟨rfl, (((On.refl w).alloc _).alloc _).trans hb⟩
set_option maxHeartbeats 1000000 in
theorem rmay_3073_0_true_false (c e : Nat → BitVec 64) (p q : Bool) (h6 : (bits .and .u64 (u (c 6 >>> 1)) 1 == 0) = false) (h12 : (bits .and .u64 (u (c 12 >>> 1)) 1 == 0) = true) (w : World) : Calls Try.prog 33 #[.agg (cV c), .int .i64 3073, .int .i64 0, .bool false, .agg (eV e p q)] w fun r w' => r = .returned (.bool false) ∧ On w w' := by
  have hx : ex 3073 = true := rfl
  have K1 : Hid (∀ w, Calls Try.prog 34 #[.agg (cV c), .int .i64 3073, .agg (eV e p q)] w fun r w' => r = .returned (.tuple #[.int .u64 (u (rv c e 3073)), .bool true]) ∧ On w w') := Lib.hid (fun w => by rw [← hx]; exact rvalue_any c e p q 3073 w)
  clear hx
  have hbit : bits .and .i64 12 3 = 0 := by decide
  have hn6 := u_nonneg (c 6)
  have hn12 := u_nonneg (c 12)
  have s6 : (bits .and .u64 (u (c 6) / 2) 1 == 0) = false := by
    have hs : u (c 6) / (2 : Int) = u (c 6 >>> 1) := by rw [← u_shr (c 6) 1]; rfl
    rw [hs]; exact h6
  clear h6
  have s12 : (bits .and .u64 (u (c 12) / 2) 1 == 0) = true := by
    have hs : u (c 12) / (2 : Int) = u (c 12 >>> 1) := by rw [← u_shr (c 12) 1]; rfl
    rw [hs]; exact h12
  clear h12
  have HC : ∀ wr, On ((w.alloc (.cells (cV c) 25)).alloc (.cells (eV e p q) 27)) wr → wr.heap[w.heap.size]? = some (.cells (cV c) 25 (0, 0)) := fun _ h => h.keep (((On.refl _).alloc _).keep (heap_alloc_new _ _))
  have HE : ∀ wr, On ((w.alloc (.cells (cV c) 25)).alloc (.cells (eV e p q) 27)) wr → wr.heap[w.heap.size + 1]? = some (.cells (eV e p q) 27 (0, 0)) := fun _ h => h.keep (box2 _ _ _)
  have c6 : ∀ wr, On ((w.alloc (.cells (cV c) 25)).alloc (.cells (eV e p q) 27)) wr → wr.cell? ⟨w.heap.size, 6, none⟩ = some (.int .u64 (u (c 6))) := fun _ h => blk_cell (HC _ h) 6 (cV_get c 6 (by omega))
  have c12 : ∀ wr, On ((w.alloc (.cells (cV c) 25)).alloc (.cells (eV e p q) 27)) wr → wr.cell? ⟨w.heap.size, 12, none⟩ = some (.int .u64 (u (c 12))) := fun _ h => blk_cell (HC _ h) 12 (cV_get c 12 (by omega))
  have hb := On.refl ((w.alloc (.cells (cV c) 25)).alloc (.cells (eV e p q) 27))
  generalize rv c e 3073 = y at *
  go_enter Try.func33, Try.ntmps33
  go_wp2_with (first | ((with_reducible apply csr_ld); (case ho => exact rfl); (case hgd => exact rfl); (case hx => exact rfl); (case hg => exact HC _ (by assumption))) | ((with_reducible apply env_ld); (case ho => exact rfl); (case hgd => exact rfl); (case hx => exact rfl); (case hg => exact HE _ (by assumption))) | (go_at_call 34; refine (K1.out _).mono ?_; rintro e wn ⟨rfl, hb'⟩; have hb := hb.trans hb'; clear hb'))
  go_ret
  exact ⟨rfl, (((On.refl w).alloc _).alloc _).trans hb⟩
set_option maxHeartbeats 1000000 in
theorem rmay_3073_0_true_true (c e : Nat → BitVec 64) (p q : Bool) (h6 : (bits .and .u64 (u (c 6 >>> 1)) 1 == 0) = false) (h12 : (bits .and .u64 (u (c 12 >>> 1)) 1 == 0) = false) (w : World) : Calls Try.prog 33 #[.agg (cV c), .int .i64 3073, .int .i64 0, .bool false, .agg (eV e p q)] w fun r w' => r = .returned (.bool true) ∧ On w w' := by
  have hx : ex 3073 = true := rfl
  have K1 : Hid (∀ w, Calls Try.prog 34 #[.agg (cV c), .int .i64 3073, .agg (eV e p q)] w fun r w' => r = .returned (.tuple #[.int .u64 (u (rv c e 3073)), .bool true]) ∧ On w w') := Lib.hid (fun w => by rw [← hx]; exact rvalue_any c e p q 3073 w)
  clear hx
  have hbit : bits .and .i64 12 3 = 0 := by decide
  have hn6 := u_nonneg (c 6)
  have hn12 := u_nonneg (c 12)
  have s6 : (bits .and .u64 (u (c 6) / 2) 1 == 0) = false := by
    have hs : u (c 6) / (2 : Int) = u (c 6 >>> 1) := by rw [← u_shr (c 6) 1]; rfl
    rw [hs]; exact h6
  clear h6
  have s12 : (bits .and .u64 (u (c 12) / 2) 1 == 0) = false := by
    have hs : u (c 12) / (2 : Int) = u (c 12 >>> 1) := by rw [← u_shr (c 12) 1]; rfl
    rw [hs]; exact h12
  clear h12
  have HC : ∀ wr, On ((w.alloc (.cells (cV c) 25)).alloc (.cells (eV e p q) 27)) wr → wr.heap[w.heap.size]? = some (.cells (cV c) 25 (0, 0)) := fun _ h => h.keep (((On.refl _).alloc _).keep (heap_alloc_new _ _))
  have HE : ∀ wr, On ((w.alloc (.cells (cV c) 25)).alloc (.cells (eV e p q) 27)) wr → wr.heap[w.heap.size + 1]? = some (.cells (eV e p q) 27 (0, 0)) := fun _ h => h.keep (box2 _ _ _)
  have c6 : ∀ wr, On ((w.alloc (.cells (cV c) 25)).alloc (.cells (eV e p q) 27)) wr → wr.cell? ⟨w.heap.size, 6, none⟩ = some (.int .u64 (u (c 6))) := fun _ h => blk_cell (HC _ h) 6 (cV_get c 6 (by omega))
  have c12 : ∀ wr, On ((w.alloc (.cells (cV c) 25)).alloc (.cells (eV e p q) 27)) wr → wr.cell? ⟨w.heap.size, 12, none⟩ = some (.int .u64 (u (c 12))) := fun _ h => blk_cell (HC _ h) 12 (cV_get c 12 (by omega))
  have hb := On.refl ((w.alloc (.cells (cV c) 25)).alloc (.cells (eV e p q) 27))
  generalize rv c e 3073 = y at *
  go_enter Try.func33, Try.ntmps33
  go_wp2_with (first | ((with_reducible apply csr_ld); (case ho => exact rfl); (case hgd => exact rfl); (case hx => exact rfl); (case hg => exact HC _ (by assumption))) | ((with_reducible apply env_ld); (case ho => exact rfl); (case hgd => exact rfl); (case hx => exact rfl); (case hg => exact HE _ (by assumption))) | (go_at_call 34; refine (K1.out _).mono ?_; rintro e wn ⟨rfl, hb'⟩; have hb := hb.trans hb'; clear hb'))
  go_ret
  exact ⟨rfl, (((On.refl w).alloc _).alloc _).trans hb⟩
set_option maxHeartbeats 1000000 in
theorem rmay_3074_3 (c e : Nat → BitVec 64) (p q : Bool)  (w : World) : Calls Try.prog 33 #[.agg (cV c), .int .i64 3074, .int .i64 3, .bool false, .agg (eV e p q)] w fun r w' => r = .returned (.bool true) ∧ On w w' := by
  have hx : ex 3074 = true := rfl
  have K1 : Hid (∀ w, Calls Try.prog 34 #[.agg (cV c), .int .i64 3074, .agg (eV e p q)] w fun r w' => r = .returned (.tuple #[.int .u64 (u (rv c e 3074)), .bool true]) ∧ On w w') := Lib.hid (fun w => by rw [← hx]; exact rvalue_any c e p q 3074 w)
  clear hx
  have hbit : bits .and .i64 12 3 = 0 := by decide
  have HC : ∀ wr, On ((w.alloc (.cells (cV c) 25)).alloc (.cells (eV e p q) 27)) wr → wr.heap[w.heap.size]? = some (.cells (cV c) 25 (0, 0)) := fun _ h => h.keep (((On.refl _).alloc _).keep (heap_alloc_new _ _))
  have HE : ∀ wr, On ((w.alloc (.cells (cV c) 25)).alloc (.cells (eV e p q) 27)) wr → wr.heap[w.heap.size + 1]? = some (.cells (eV e p q) 27 (0, 0)) := fun _ h => h.keep (box2 _ _ _)
  have hb := On.refl ((w.alloc (.cells (cV c) 25)).alloc (.cells (eV e p q) 27))
  generalize rv c e 3074 = y at *
  go_enter Try.func33, Try.ntmps33
  go_wp2_with (first | ((with_reducible apply csr_ld); (case ho => exact rfl); (case hgd => exact rfl); (case hx => exact rfl); (case hg => exact HC _ (by assumption))) | ((with_reducible apply env_ld); (case ho => exact rfl); (case hgd => exact rfl); (case hx => exact rfl); (case hg => exact HE _ (by assumption))) | (go_at_call 34; refine (K1.out _).mono ?_; rintro e wn ⟨rfl, hb'⟩; have hb := hb.trans hb'; clear hb'))
  go_ret
  exact ⟨rfl, (((On.refl w).alloc _).alloc _).trans hb⟩
set_option maxHeartbeats 1000000 in
theorem rmay_3074_1_false (c e : Nat → BitVec 64) (p q : Bool) (m : Int) (g0 : (m != 0) = true) (g1 : (m != 1) = false) (g3 : (m != 3) = true) (g5 : 0 ≤ m) (h6 : (bits .and .u64 (u (c 6 >>> 2)) 1 == 0) = true) (w : World) : Calls Try.prog 33 #[.agg (cV c), .int .i64 3074, .int .i64 m, .bool false, .agg (eV e p q)] w fun r w' => r = .returned (.bool false) ∧ On w w' := by
  have hx : ex 3074 = true := rfl
  have K1 : Hid (∀ w, Calls Try.prog 34 #[.agg (cV c), .int .i64 3074, .agg (eV e p q)] w fun r w' => r = .returned (.tuple #[.int .u64 (u (rv c e 3074)), .bool true]) ∧ On w w') := Lib.hid (fun w => by rw [← hx]; exact rvalue_any c e p q 3074 w)
  clear hx
  have hbit : bits .and .i64 12 3 = 0 := by decide
  have hn6 := u_nonneg (c 6)
  have hn12 := u_nonneg (c 12)
  have s6 : (bits .and .u64 (u (c 6) / 4) 1 == 0) = true := by
    have hs : u (c 6) / (4 : Int) = u (c 6 >>> 2) := by rw [← u_shr (c 6) 2]; rfl
    rw [hs]; exact h6
  clear h6
  have HC : ∀ wr, On ((w.alloc (.cells (cV c) 25)).alloc (.cells (eV e p q) 27)) wr → wr.heap[w.heap.size]? = some (.cells (cV c) 25 (0, 0)) := fun _ h => h.keep (((On.refl _).alloc _).keep (heap_alloc_new _ _))
  have HE : ∀ wr, On ((w.alloc (.cells (cV c) 25)).alloc (.cells (eV e p q) 27)) wr → wr.heap[w.heap.size + 1]? = some (.cells (eV e p q) 27 (0, 0)) := fun _ h => h.keep (box2 _ _ _)
  have c6 : ∀ wr, On ((w.alloc (.cells (cV c) 25)).alloc (.cells (eV e p q) 27)) wr → wr.cell? ⟨w.heap.size, 6, none⟩ = some (.int .u64 (u (c 6))) := fun _ h => blk_cell (HC _ h) 6 (cV_get c 6 (by omega))
  have c12 : ∀ wr, On ((w.alloc (.cells (cV c) 25)).alloc (.cells (eV e p q) 27)) wr → wr.cell? ⟨w.heap.size, 12, none⟩ = some (.int .u64 (u (c 12))) := fun _ h => blk_cell (HC _ h) 12 (cV_get c 12 (by omega))
  have hb := On.refl ((w.alloc (.cells (cV c) 25)).alloc (.cells (eV e p q) 27))
  generalize rv c e 3074 = y at *
  go_enter Try.func33, Try.ntmps33
  go_wp2_with (first | ((with_reducible apply csr_ld); (case ho => exact rfl); (case hgd => exact rfl); (case hx => exact rfl); (case hg => exact HC _ (by assumption))) | ((with_reducible apply env_ld); (case ho => exact rfl); (case hgd => exact rfl); (case hx => exact rfl); (case hg => exact HE _ (by assumption))) | (go_at_call 34; refine (K1.out _).mono ?_; rintro e wn ⟨rfl, hb'⟩; have hb := hb.trans hb'; clear hb'))
  go_ret
  exact ⟨rfl, (((On.refl w).alloc _).alloc _).trans hb⟩
set_option maxHeartbeats 1000000 in
theorem rmay_3074_0_false (c e : Nat → BitVec 64) (p q : Bool) (h6 : (bits .and .u64 (u (c 6 >>> 2)) 1 == 0) = true) (w : World) : Calls Try.prog 33 #[.agg (cV c), .int .i64 3074, .int .i64 0, .bool false, .agg (eV e p q)] w fun r w' => r = .returned (.bool false) ∧ On w w' := by
  have hx : ex 3074 = true := rfl
  have K1 : Hid (∀ w, Calls Try.prog 34 #[.agg (cV c), .int .i64 3074, .agg (eV e p q)] w fun r w' => r = .returned (.tuple #[.int .u64 (u (rv c e 3074)), .bool true]) ∧ On w w') := Lib.hid (fun w => by rw [← hx]; exact rvalue_any c e p q 3074 w)
  clear hx
  have hbit : bits .and .i64 12 3 = 0 := by decide
  have hn6 := u_nonneg (c 6)
  have hn12 := u_nonneg (c 12)
  have s6 : (bits .and .u64 (u (c 6) / 4) 1 == 0) = true := by
    have hs : u (c 6) / (4 : Int) = u (c 6 >>> 2) := by rw [← u_shr (c 6) 2]; rfl
    rw [hs]; exact h6
  clear h6
  have HC : ∀ wr, On ((w.alloc (.cells (cV c) 25)).alloc (.cells (eV e p q) 27)) wr → wr.heap[w.heap.size]? = some (.cells (cV c) 25 (0, 0)) := fun _ h => h.keep (((On.refl _).alloc _).keep (heap_alloc_new _ _))
  have HE : ∀ wr, On ((w.alloc (.cells (cV c) 25)).alloc (.cells (eV e p q) 27)) wr → wr.heap[w.heap.size + 1]? = some (.cells (eV e p q) 27 (0, 0)) := fun _ h => h.keep (box2 _ _ _)
  have c6 : ∀ wr, On ((w.alloc (.cells (cV c) 25)).alloc (.cells (eV e p q) 27)) wr → wr.cell? ⟨w.heap.size, 6, none⟩ = some (.int .u64 (u (c 6))) := fun _ h => blk_cell (HC _ h) 6 (cV_get c 6 (by omega))
  have hb := On.refl ((w.alloc (.cells (cV c) 25)).alloc (.cells (eV e p q) 27))
  generalize rv c e 3074 = y at *
  go_enter Try.func33, Try.ntmps33
  go_wp2_with (first | ((with_reducible apply csr_ld); (case ho => exact rfl); (case hgd => exact rfl); (case hx => exact rfl); (case hg => exact HC _ (by assumption))) | ((with_reducible apply env_ld); (case ho => exact rfl); (case hgd => exact rfl); (case hx => exact rfl); (case hg => exact HE _ (by assumption))) | (go_at_call 34; refine (K1.out _).mono ?_; rintro e wn ⟨rfl, hb'⟩; have hb := hb.trans hb'; clear hb'))
  go_ret
  exact ⟨rfl, (((On.refl w).alloc _).alloc _).trans hb⟩
set_option maxHeartbeats 1000000 in
theorem rmay_3074_1_true (c e : Nat → BitVec 64) (p q : Bool) (m : Int) (g0 : (m != 0) = true) (g1 : (m != 1) = false) (g3 : (m != 3) = true) (g5 : 0 ≤ m) (h6 : (bits .and .u64 (u (c 6 >>> 2)) 1 == 0) = false) (w : World) : Calls Try.prog 33 #[.agg (cV c), .int .i64 3074, .int .i64 m, .bool false, .agg (eV e p q)] w fun r w' => r = .returned (.bool true) ∧ On w w' := by
  have hx : ex 3074 = true := rfl
  have K1 : Hid (∀ w, Calls Try.prog 34 #[.agg (cV c), .int .i64 3074, .agg (eV e p q)] w fun r w' => r = .returned (.tuple #[.int .u64 (u (rv c e 3074)), .bool true]) ∧ On w w') := Lib.hid (fun w => by rw [← hx]; exact rvalue_any c e p q 3074 w)
  clear hx
  have hbit : bits .and .i64 12 3 = 0 := by decide
  have hn6 := u_nonneg (c 6)
  have hn12 := u_nonneg (c 12)
  have s6 : (bits .and .u64 (u (c 6) / 4) 1 == 0) = false := by
    have hs : u (c 6) / (4 : Int) = u (c 6 >>> 2) := by rw [← u_shr (c 6) 2]; rfl
    rw [hs]; exact h6
  clear h6
  have HC : ∀ wr, On ((w.alloc (.cells (cV c) 25)).alloc (.cells (eV e p q) 27)) wr → wr.heap[w.heap.size]? = some (.cells (cV c) 25 (0, 0)) := fun _ h => h.keep (((On.refl _).alloc _).keep (heap_alloc_new _ _))
  have HE : ∀ wr, On ((w.alloc (.cells (cV c) 25)).alloc (.cells (eV e p q) 27)) wr → wr.heap[w.heap.size + 1]? = some (.cells (eV e p q) 27 (0, 0)) := fun _ h => h.keep (box2 _ _ _)
  have c6 : ∀ wr, On ((w.alloc (.cells (cV c) 25)).alloc (.cells (eV e p q) 27)) wr → wr.cell? ⟨w.heap.size, 6, none⟩ = some (.int .u64 (u (c 6))) := fun _ h => blk_cell (HC _ h) 6 (cV_get c 6 (by omega))
  have c12 : ∀ wr, On ((w.alloc (.cells (cV c) 25)).alloc (.cells (eV e p q) 27)) wr → wr.cell? ⟨w.heap.size, 12, none⟩ = some (.int .u64 (u (c 12))) := fun _ h => blk_cell (HC _ h) 12 (cV_get c 12 (by omega))
  have hb := On.refl ((w.alloc (.cells (cV c) 25)).alloc (.cells (eV e p q) 27))
  generalize rv c e 3074 = y at *
  go_enter Try.func33, Try.ntmps33
  go_wp2_with (first | ((with_reducible apply csr_ld); (case ho => exact rfl); (case hgd => exact rfl); (case hx => exact rfl); (case hg => exact HC _ (by assumption))) | ((with_reducible apply env_ld); (case ho => exact rfl); (case hgd => exact rfl); (case hx => exact rfl); (case hg => exact HE _ (by assumption))) | (go_at_call 34; refine (K1.out _).mono ?_; rintro e wn ⟨rfl, hb'⟩; have hb := hb.trans hb'; clear hb'))
  go_ret
  exact ⟨rfl, (((On.refl w).alloc _).alloc _).trans hb⟩
set_option maxHeartbeats 1000000 in
theorem rmay_3074_0_true_false (c e : Nat → BitVec 64) (p q : Bool) (h6 : (bits .and .u64 (u (c 6 >>> 2)) 1 == 0) = false) (h12 : (bits .and .u64 (u (c 12 >>> 2)) 1 == 0) = true) (w : World) : Calls Try.prog 33 #[.agg (cV c), .int .i64 3074, .int .i64 0, .bool false, .agg (eV e p q)] w fun r w' => r = .returned (.bool false) ∧ On w w' := by
  have hx : ex 3074 = true := rfl
  have K1 : Hid (∀ w, Calls Try.prog 34 #[.agg (cV c), .int .i64 3074, .agg (eV e p q)] w fun r w' => r = .returned (.tuple #[.int .u64 (u (rv c e 3074)), .bool true]) ∧ On w w') := Lib.hid (fun w => by rw [← hx]; exact rvalue_any c e p q 3074 w)
  clear hx
  have hbit : bits .and .i64 12 3 = 0 := by decide
  have hn6 := u_nonneg (c 6)
  have hn12 := u_nonneg (c 12)
  have s6 : (bits .and .u64 (u (c 6) / 4) 1 == 0) = false := by
    have hs : u (c 6) / (4 : Int) = u (c 6 >>> 2) := by rw [← u_shr (c 6) 2]; rfl
    rw [hs]; exact h6
  clear h6
  have s12 : (bits .and .u64 (u (c 12) / 4) 1 == 0) = true := by
    have hs : u (c 12) / (4 : Int) = u (c 12 >>> 2) := by rw [← u_shr (c 12) 2]; rfl
    rw [hs]; exact h12
  clear h12
  have HC : ∀ wr, On ((w.alloc (.cells (cV c) 25)).alloc (.cells (eV e p q) 27)) wr → wr.heap[w.heap.size]? = some (.cells (cV c) 25 (0, 0)) := fun _ h => h.keep (((On.refl _).alloc _).keep (heap_alloc_new _ _))
  have HE : ∀ wr, On ((w.alloc (.cells (cV c) 25)).alloc (.cells (eV e p q) 27)) wr → wr.heap[w.heap.size + 1]? = some (.cells (eV e p q) 27 (0, 0)) := fun _ h => h.keep (box2 _ _ _)
  have c6 : ∀ wr, On ((w.alloc (.cells (cV c) 25)).alloc (.cells (eV e p q) 27)) wr → wr.cell? ⟨w.heap.size, 6, none⟩ = some (.int .u64 (u (c 6))) := fun _ h => blk_cell (HC _ h) 6 (cV_get c 6 (by omega))
  have c12 : ∀ wr, On ((w.alloc (.cells (cV c) 25)).alloc (.cells (eV e p q) 27)) wr → wr.cell? ⟨w.heap.size, 12, none⟩ = some (.int .u64 (u (c 12))) := fun _ h => blk_cell (HC _ h) 12 (cV_get c 12 (by omega))
  have hb := On.refl ((w.alloc (.cells (cV c) 25)).alloc (.cells (eV e p q) 27))
  generalize rv c e 3074 = y at *
  go_enter Try.func33, Try.ntmps33
  go_wp2_with (first | ((with_reducible apply csr_ld); (case ho => exact rfl); (case hgd => exact rfl); (case hx => exact rfl); (case hg => exact HC _ (by assumption))) | ((with_reducible apply env_ld); (case ho => exact rfl); (case hgd => exact rfl); (case hx => exact rfl); (case hg => exact HE _ (by assumption))) | (go_at_call 34; refine (K1.out _).mono ?_; rintro e wn ⟨rfl, hb'⟩; have hb := hb.trans hb'; clear hb'))
  go_ret
  exact ⟨rfl, (((On.refl w).alloc _).alloc _).trans hb⟩
set_option maxHeartbeats 1000000 in
theorem rmay_3074_0_true_true (c e : Nat → BitVec 64) (p q : Bool) (h6 : (bits .and .u64 (u (c 6 >>> 2)) 1 == 0) = false) (h12 : (bits .and .u64 (u (c 12 >>> 2)) 1 == 0) = false) (w : World) : Calls Try.prog 33 #[.agg (cV c), .int .i64 3074, .int .i64 0, .bool false, .agg (eV e p q)] w fun r w' => r = .returned (.bool true) ∧ On w w' := by
  have hx : ex 3074 = true := rfl
  have K1 : Hid (∀ w, Calls Try.prog 34 #[.agg (cV c), .int .i64 3074, .agg (eV e p q)] w fun r w' => r = .returned (.tuple #[.int .u64 (u (rv c e 3074)), .bool true]) ∧ On w w') := Lib.hid (fun w => by rw [← hx]; exact rvalue_any c e p q 3074 w)
  clear hx
  have hbit : bits .and .i64 12 3 = 0 := by decide
  have hn6 := u_nonneg (c 6)
  have hn12 := u_nonneg (c 12)
  have s6 : (bits .and .u64 (u (c 6) / 4) 1 == 0) = false := by
    have hs : u (c 6) / (4 : Int) = u (c 6 >>> 2) := by rw [← u_shr (c 6) 2]; rfl
    rw [hs]; exact h6
  clear h6
  have s12 : (bits .and .u64 (u (c 12) / 4) 1 == 0) = false := by
    have hs : u (c 12) / (4 : Int) = u (c 12 >>> 2) := by rw [← u_shr (c 12) 2]; rfl
    rw [hs]; exact h12
  clear h12
  have HC : ∀ wr, On ((w.alloc (.cells (cV c) 25)).alloc (.cells (eV e p q) 27)) wr → wr.heap[w.heap.size]? = some (.cells (cV c) 25 (0, 0)) := fun _ h => h.keep (((On.refl _).alloc _).keep (heap_alloc_new _ _))
  have HE : ∀ wr, On ((w.alloc (.cells (cV c) 25)).alloc (.cells (eV e p q) 27)) wr → wr.heap[w.heap.size + 1]? = some (.cells (eV e p q) 27 (0, 0)) := fun _ h => h.keep (box2 _ _ _)
  have c6 : ∀ wr, On ((w.alloc (.cells (cV c) 25)).alloc (.cells (eV e p q) 27)) wr → wr.cell? ⟨w.heap.size, 6, none⟩ = some (.int .u64 (u (c 6))) := fun _ h => blk_cell (HC _ h) 6 (cV_get c 6 (by omega))
  have c12 : ∀ wr, On ((w.alloc (.cells (cV c) 25)).alloc (.cells (eV e p q) 27)) wr → wr.cell? ⟨w.heap.size, 12, none⟩ = some (.int .u64 (u (c 12))) := fun _ h => blk_cell (HC _ h) 12 (cV_get c 12 (by omega))
  have hb := On.refl ((w.alloc (.cells (cV c) 25)).alloc (.cells (eV e p q) 27))
  generalize rv c e 3074 = y at *
  go_enter Try.func33, Try.ntmps33
  go_wp2_with (first | ((with_reducible apply csr_ld); (case ho => exact rfl); (case hgd => exact rfl); (case hx => exact rfl); (case hg => exact HC _ (by assumption))) | ((with_reducible apply env_ld); (case ho => exact rfl); (case hgd => exact rfl); (case hx => exact rfl); (case hg => exact HE _ (by assumption))) | (go_at_call 34; refine (K1.out _).mono ?_; rintro e wn ⟨rfl, hb'⟩; have hb := hb.trans hb'; clear hb'))
  go_ret
  exact ⟨rfl, (((On.refl w).alloc _).alloc _).trans hb⟩
set_option maxHeartbeats 1000000 in
theorem rmay_3075_3 (c e : Nat → BitVec 64) (p q : Bool)  (w : World) : Calls Try.prog 33 #[.agg (cV c), .int .i64 3075, .int .i64 3, .bool false, .agg (eV e p q)] w fun r w' => r = .returned (.bool true) ∧ On w w' := by
  have hx : ex 3075 = true := rfl
  have K1 : Hid (∀ w, Calls Try.prog 34 #[.agg (cV c), .int .i64 3075, .agg (eV e p q)] w fun r w' => r = .returned (.tuple #[.int .u64 (u (rv c e 3075)), .bool true]) ∧ On w w') := Lib.hid (fun w => by rw [← hx]; exact rvalue_any c e p q 3075 w)
  clear hx
  have hbit : bits .and .i64 12 3 = 0 := by decide
  have HC : ∀ wr, On ((w.alloc (.cells (cV c) 25)).alloc (.cells (eV e p q) 27)) wr → wr.heap[w.heap.size]? = some (.cells (cV c) 25 (0, 0)) := fun _ h => h.keep (((On.refl _).alloc _).keep (heap_alloc_new _ _))
  have HE : ∀ wr, On ((w.alloc (.cells (cV c) 25)).alloc (.cells (eV e p q) 27)) wr → wr.heap[w.heap.size + 1]? = some (.cells (eV e p q) 27 (0, 0)) := fun _ h => h.keep (box2 _ _ _)
  have hb := On.refl ((w.alloc (.cells (cV c) 25)).alloc (.cells (eV e p q) 27))
  generalize rv c e 3075 = y at *
  go_enter Try.func33, Try.ntmps33
  go_wp2_with (first | ((with_reducible apply csr_ld); (case ho => exact rfl); (case hgd => exact rfl); (case hx => exact rfl); (case hg => exact HC _ (by assumption))) | ((with_reducible apply env_ld); (case ho => exact rfl); (case hgd => exact rfl); (case hx => exact rfl); (case hg => exact HE _ (by assumption))) | (go_at_call 34; refine (K1.out _).mono ?_; rintro e wn ⟨rfl, hb'⟩; have hb := hb.trans hb'; clear hb'))
  go_ret
  exact ⟨rfl, (((On.refl w).alloc _).alloc _).trans hb⟩
set_option maxHeartbeats 1000000 in
theorem rmay_3075_1_false (c e : Nat → BitVec 64) (p q : Bool) (m : Int) (g0 : (m != 0) = true) (g1 : (m != 1) = false) (g3 : (m != 3) = true) (g5 : 0 ≤ m) (h6 : (bits .and .u64 (u (c 6 >>> 3)) 1 == 0) = true) (w : World) : Calls Try.prog 33 #[.agg (cV c), .int .i64 3075, .int .i64 m, .bool false, .agg (eV e p q)] w fun r w' => r = .returned (.bool false) ∧ On w w' := by
  have hx : ex 3075 = true := rfl
  have K1 : Hid (∀ w, Calls Try.prog 34 #[.agg (cV c), .int .i64 3075, .agg (eV e p q)] w fun r w' => r = .returned (.tuple #[.int .u64 (u (rv c e 3075)), .bool true]) ∧ On w w') := Lib.hid (fun w => by rw [← hx]; exact rvalue_any c e p q 3075 w)
  clear hx
  have hbit : bits .and .i64 12 3 = 0 := by decide
  have hn6 := u_nonneg (c 6)
  have hn12 := u_nonneg (c 12)
  have s6 : (bits .and .u64 (u (c 6) / 8) 1 == 0) = true := by
    have hs : u (c 6) / (8 : Int) = u (c 6 >>> 3) := by rw [← u_shr (c 6) 3]; rfl
    rw [hs]; exact h6
  clear h6
  have HC : ∀ wr, On ((w.alloc (.cells (cV c) 25)).alloc (.cells (eV e p q) 27)) wr → wr.heap[w.heap.size]? = some (.cells (cV c) 25 (0, 0)) := fun _ h => h.keep (((On.refl _).alloc _).keep (heap_alloc_new _ _))
  have HE : ∀ wr, On ((w.alloc (.cells (cV c) 25)).alloc (.cells (eV e p q) 27)) wr → wr.heap[w.heap.size + 1]? = some (.cells (eV e p q) 27 (0, 0)) := fun _ h => h.keep (box2 _ _ _)
  have c6 : ∀ wr, On ((w.alloc (.cells (cV c) 25)).alloc (.cells (eV e p q) 27)) wr → wr.cell? ⟨w.heap.size, 6, none⟩ = some (.int .u64 (u (c 6))) := fun _ h => blk_cell (HC _ h) 6 (cV_get c 6 (by omega))
  have c12 : ∀ wr, On ((w.alloc (.cells (cV c) 25)).alloc (.cells (eV e p q) 27)) wr → wr.cell? ⟨w.heap.size, 12, none⟩ = some (.int .u64 (u (c 12))) := fun _ h => blk_cell (HC _ h) 12 (cV_get c 12 (by omega))
  have hb := On.refl ((w.alloc (.cells (cV c) 25)).alloc (.cells (eV e p q) 27))
  generalize rv c e 3075 = y at *
  go_enter Try.func33, Try.ntmps33
  go_wp2_with (first | ((with_reducible apply csr_ld); (case ho => exact rfl); (case hgd => exact rfl); (case hx => exact rfl); (case hg => exact HC _ (by assumption))) | ((with_reducible apply env_ld); (case ho => exact rfl); (case hgd => exact rfl); (case hx => exact rfl); (case hg => exact HE _ (by assumption))) | (go_at_call 34; refine (K1.out _).mono ?_; rintro e wn ⟨rfl, hb'⟩; have hb := hb.trans hb'; clear hb'))
  go_ret
  exact ⟨rfl, (((On.refl w).alloc _).alloc _).trans hb⟩
set_option maxHeartbeats 1000000 in
theorem rmay_3075_0_false (c e : Nat → BitVec 64) (p q : Bool) (h6 : (bits .and .u64 (u (c 6 >>> 3)) 1 == 0) = true) (w : World) : Calls Try.prog 33 #[.agg (cV c), .int .i64 3075, .int .i64 0, .bool false, .agg (eV e p q)] w fun r w' => r = .returned (.bool false) ∧ On w w' := by
  have hx : ex 3075 = true := rfl
  have K1 : Hid (∀ w, Calls Try.prog 34 #[.agg (cV c), .int .i64 3075, .agg (eV e p q)] w fun r w' => r = .returned (.tuple #[.int .u64 (u (rv c e 3075)), .bool true]) ∧ On w w') := Lib.hid (fun w => by rw [← hx]; exact rvalue_any c e p q 3075 w)
  clear hx
  have hbit : bits .and .i64 12 3 = 0 := by decide
  have hn6 := u_nonneg (c 6)
  have hn12 := u_nonneg (c 12)
  have s6 : (bits .and .u64 (u (c 6) / 8) 1 == 0) = true := by
    have hs : u (c 6) / (8 : Int) = u (c 6 >>> 3) := by rw [← u_shr (c 6) 3]; rfl
    rw [hs]; exact h6
  clear h6
  have HC : ∀ wr, On ((w.alloc (.cells (cV c) 25)).alloc (.cells (eV e p q) 27)) wr → wr.heap[w.heap.size]? = some (.cells (cV c) 25 (0, 0)) := fun _ h => h.keep (((On.refl _).alloc _).keep (heap_alloc_new _ _))
  have HE : ∀ wr, On ((w.alloc (.cells (cV c) 25)).alloc (.cells (eV e p q) 27)) wr → wr.heap[w.heap.size + 1]? = some (.cells (eV e p q) 27 (0, 0)) := fun _ h => h.keep (box2 _ _ _)
  have c6 : ∀ wr, On ((w.alloc (.cells (cV c) 25)).alloc (.cells (eV e p q) 27)) wr → wr.cell? ⟨w.heap.size, 6, none⟩ = some (.int .u64 (u (c 6))) := fun _ h => blk_cell (HC _ h) 6 (cV_get c 6 (by omega))
  have hb := On.refl ((w.alloc (.cells (cV c) 25)).alloc (.cells (eV e p q) 27))
  generalize rv c e 3075 = y at *
  go_enter Try.func33, Try.ntmps33
  go_wp2_with (first | ((with_reducible apply csr_ld); (case ho => exact rfl); (case hgd => exact rfl); (case hx => exact rfl); (case hg => exact HC _ (by assumption))) | ((with_reducible apply env_ld); (case ho => exact rfl); (case hgd => exact rfl); (case hx => exact rfl); (case hg => exact HE _ (by assumption))) | (go_at_call 34; refine (K1.out _).mono ?_; rintro e wn ⟨rfl, hb'⟩; have hb := hb.trans hb'; clear hb'))
  go_ret
  exact ⟨rfl, (((On.refl w).alloc _).alloc _).trans hb⟩
set_option maxHeartbeats 1000000 in
theorem rmay_3075_1_true (c e : Nat → BitVec 64) (p q : Bool) (m : Int) (g0 : (m != 0) = true) (g1 : (m != 1) = false) (g3 : (m != 3) = true) (g5 : 0 ≤ m) (h6 : (bits .and .u64 (u (c 6 >>> 3)) 1 == 0) = false) (w : World) : Calls Try.prog 33 #[.agg (cV c), .int .i64 3075, .int .i64 m, .bool false, .agg (eV e p q)] w fun r w' => r = .returned (.bool true) ∧ On w w' := by
  have hx : ex 3075 = true := rfl
  have K1 : Hid (∀ w, Calls Try.prog 34 #[.agg (cV c), .int .i64 3075, .agg (eV e p q)] w fun r w' => r = .returned (.tuple #[.int .u64 (u (rv c e 3075)), .bool true]) ∧ On w w') := Lib.hid (fun w => by rw [← hx]; exact rvalue_any c e p q 3075 w)
  clear hx
  have hbit : bits .and .i64 12 3 = 0 := by decide
  have hn6 := u_nonneg (c 6)
  have hn12 := u_nonneg (c 12)
  have s6 : (bits .and .u64 (u (c 6) / 8) 1 == 0) = false := by
    have hs : u (c 6) / (8 : Int) = u (c 6 >>> 3) := by rw [← u_shr (c 6) 3]; rfl
    rw [hs]; exact h6
  clear h6
  have HC : ∀ wr, On ((w.alloc (.cells (cV c) 25)).alloc (.cells (eV e p q) 27)) wr → wr.heap[w.heap.size]? = some (.cells (cV c) 25 (0, 0)) := fun _ h => h.keep (((On.refl _).alloc _).keep (heap_alloc_new _ _))
  have HE : ∀ wr, On ((w.alloc (.cells (cV c) 25)).alloc (.cells (eV e p q) 27)) wr → wr.heap[w.heap.size + 1]? = some (.cells (eV e p q) 27 (0, 0)) := fun _ h => h.keep (box2 _ _ _)
  have c6 : ∀ wr, On ((w.alloc (.cells (cV c) 25)).alloc (.cells (eV e p q) 27)) wr → wr.cell? ⟨w.heap.size, 6, none⟩ = some (.int .u64 (u (c 6))) := fun _ h => blk_cell (HC _ h) 6 (cV_get c 6 (by omega))
  have c12 : ∀ wr, On ((w.alloc (.cells (cV c) 25)).alloc (.cells (eV e p q) 27)) wr → wr.cell? ⟨w.heap.size, 12, none⟩ = some (.int .u64 (u (c 12))) := fun _ h => blk_cell (HC _ h) 12 (cV_get c 12 (by omega))
  have hb := On.refl ((w.alloc (.cells (cV c) 25)).alloc (.cells (eV e p q) 27))
  generalize rv c e 3075 = y at *
  go_enter Try.func33, Try.ntmps33
  go_wp2_with (first | ((with_reducible apply csr_ld); (case ho => exact rfl); (case hgd => exact rfl); (case hx => exact rfl); (case hg => exact HC _ (by assumption))) | ((with_reducible apply env_ld); (case ho => exact rfl); (case hgd => exact rfl); (case hx => exact rfl); (case hg => exact HE _ (by assumption))) | (go_at_call 34; refine (K1.out _).mono ?_; rintro e wn ⟨rfl, hb'⟩; have hb := hb.trans hb'; clear hb'))
  go_ret
  exact ⟨rfl, (((On.refl w).alloc _).alloc _).trans hb⟩
set_option maxHeartbeats 1000000 in
theorem rmay_3075_0_true_false (c e : Nat → BitVec 64) (p q : Bool) (h6 : (bits .and .u64 (u (c 6 >>> 3)) 1 == 0) = false) (h12 : (bits .and .u64 (u (c 12 >>> 3)) 1 == 0) = true) (w : World) : Calls Try.prog 33 #[.agg (cV c), .int .i64 3075, .int .i64 0, .bool false, .agg (eV e p q)] w fun r w' => r = .returned (.bool false) ∧ On w w' := by
  have hx : ex 3075 = true := rfl
  have K1 : Hid (∀ w, Calls Try.prog 34 #[.agg (cV c), .int .i64 3075, .agg (eV e p q)] w fun r w' => r = .returned (.tuple #[.int .u64 (u (rv c e 3075)), .bool true]) ∧ On w w') := Lib.hid (fun w => by rw [← hx]; exact rvalue_any c e p q 3075 w)
  clear hx
  have hbit : bits .and .i64 12 3 = 0 := by decide
  have hn6 := u_nonneg (c 6)
  have hn12 := u_nonneg (c 12)
  have s6 : (bits .and .u64 (u (c 6) / 8) 1 == 0) = false := by
    have hs : u (c 6) / (8 : Int) = u (c 6 >>> 3) := by rw [← u_shr (c 6) 3]; rfl
    rw [hs]; exact h6
  clear h6
  have s12 : (bits .and .u64 (u (c 12) / 8) 1 == 0) = true := by
    have hs : u (c 12) / (8 : Int) = u (c 12 >>> 3) := by rw [← u_shr (c 12) 3]; rfl
    rw [hs]; exact h12
  clear h12
  have HC : ∀ wr, On ((w.alloc (.cells (cV c) 25)).alloc (.cells (eV e p q) 27)) wr → wr.heap[w.heap.size]? = some (.cells (cV c) 25 (0, 0)) := fun _ h => h.keep (((On.refl _).alloc _).keep (heap_alloc_new _ _))
  have HE : ∀ wr, On ((w.alloc (.cells (cV c) 25)).alloc (.cells (eV e p q) 27)) wr → wr.heap[w.heap.size + 1]? = some (.cells (eV e p q) 27 (0, 0)) := fun _ h => h.keep (box2 _ _ _)
  have c6 : ∀ wr, On ((w.alloc (.cells (cV c) 25)).alloc (.cells (eV e p q) 27)) wr → wr.cell? ⟨w.heap.size, 6, none⟩ = some (.int .u64 (u (c 6))) := fun _ h => blk_cell (HC _ h) 6 (cV_get c 6 (by omega))
  have c12 : ∀ wr, On ((w.alloc (.cells (cV c) 25)).alloc (.cells (eV e p q) 27)) wr → wr.cell? ⟨w.heap.size, 12, none⟩ = some (.int .u64 (u (c 12))) := fun _ h => blk_cell (HC _ h) 12 (cV_get c 12 (by omega))
  have hb := On.refl ((w.alloc (.cells (cV c) 25)).alloc (.cells (eV e p q) 27))
  generalize rv c e 3075 = y at *
  go_enter Try.func33, Try.ntmps33
  go_wp2_with (first | ((with_reducible apply csr_ld); (case ho => exact rfl); (case hgd => exact rfl); (case hx => exact rfl); (case hg => exact HC _ (by assumption))) | ((with_reducible apply env_ld); (case ho => exact rfl); (case hgd => exact rfl); (case hx => exact rfl); (case hg => exact HE _ (by assumption))) | (go_at_call 34; refine (K1.out _).mono ?_; rintro e wn ⟨rfl, hb'⟩; have hb := hb.trans hb'; clear hb'))
  go_ret
  exact ⟨rfl, (((On.refl w).alloc _).alloc _).trans hb⟩
set_option maxHeartbeats 1000000 in
theorem rmay_3075_0_true_true (c e : Nat → BitVec 64) (p q : Bool) (h6 : (bits .and .u64 (u (c 6 >>> 3)) 1 == 0) = false) (h12 : (bits .and .u64 (u (c 12 >>> 3)) 1 == 0) = false) (w : World) : Calls Try.prog 33 #[.agg (cV c), .int .i64 3075, .int .i64 0, .bool false, .agg (eV e p q)] w fun r w' => r = .returned (.bool true) ∧ On w w' := by
  have hx : ex 3075 = true := rfl
  have K1 : Hid (∀ w, Calls Try.prog 34 #[.agg (cV c), .int .i64 3075, .agg (eV e p q)] w fun r w' => r = .returned (.tuple #[.int .u64 (u (rv c e 3075)), .bool true]) ∧ On w w') := Lib.hid (fun w => by rw [← hx]; exact rvalue_any c e p q 3075 w)
  clear hx
  have hbit : bits .and .i64 12 3 = 0 := by decide
  have hn6 := u_nonneg (c 6)
  have hn12 := u_nonneg (c 12)
  have s6 : (bits .and .u64 (u (c 6) / 8) 1 == 0) = false := by
    have hs : u (c 6) / (8 : Int) = u (c 6 >>> 3) := by rw [← u_shr (c 6) 3]; rfl
    rw [hs]; exact h6
  clear h6
  have s12 : (bits .and .u64 (u (c 12) / 8) 1 == 0) = false := by
    have hs : u (c 12) / (8 : Int) = u (c 12 >>> 3) := by rw [← u_shr (c 12) 3]; rfl
    rw [hs]; exact h12
  clear h12
  have HC : ∀ wr, On ((w.alloc (.cells (cV c) 25)).alloc (.cells (eV e p q) 27)) wr → wr.heap[w.heap.size]? = some (.cells (cV c) 25 (0, 0)) := fun _ h => h.keep (((On.refl _).alloc _).keep (heap_alloc_new _ _))
  have HE : ∀ wr, On ((w.alloc (.cells (cV c) 25)).alloc (.cells (eV e p q) 27)) wr → wr.heap[w.heap.size + 1]? = some (.cells (eV e p q) 27 (0, 0)) := fun _ h => h.keep (box2 _ _ _)
  have c6 : ∀ wr, On ((w.alloc (.cells (cV c) 25)).alloc (.cells (eV e p q) 27)) wr → wr.cell? ⟨w.heap.size, 6, none⟩ = some (.int .u64 (u (c 6))) := fun _ h => blk_cell (HC _ h) 6 (cV_get c 6 (by omega))
  have c12 : ∀ wr, On ((w.alloc (.cells (cV c) 25)).alloc (.cells (eV e p q) 27)) wr → wr.cell? ⟨w.heap.size, 12, none⟩ = some (.int .u64 (u (c 12))) := fun _ h => blk_cell (HC _ h) 12 (cV_get c 12 (by omega))
  have hb := On.refl ((w.alloc (.cells (cV c) 25)).alloc (.cells (eV e p q) 27))
  generalize rv c e 3075 = y at *
  go_enter Try.func33, Try.ntmps33
  go_wp2_with (first | ((with_reducible apply csr_ld); (case ho => exact rfl); (case hgd => exact rfl); (case hx => exact rfl); (case hg => exact HC _ (by assumption))) | ((with_reducible apply env_ld); (case ho => exact rfl); (case hgd => exact rfl); (case hx => exact rfl); (case hg => exact HE _ (by assumption))) | (go_at_call 34; refine (K1.out _).mono ?_; rintro e wn ⟨rfl, hb'⟩; have hb := hb.trans hb'; clear hb'))
  go_ret
  exact ⟨rfl, (((On.refl w).alloc _).alloc _).trans hb⟩
set_option maxHeartbeats 1000000 in
theorem rmay_3076_3 (c e : Nat → BitVec 64) (p q : Bool)  (w : World) : Calls Try.prog 33 #[.agg (cV c), .int .i64 3076, .int .i64 3, .bool false, .agg (eV e p q)] w fun r w' => r = .returned (.bool true) ∧ On w w' := by
  have hx : ex 3076 = true := rfl
  have K1 : Hid (∀ w, Calls Try.prog 34 #[.agg (cV c), .int .i64 3076, .agg (eV e p q)] w fun r w' => r = .returned (.tuple #[.int .u64 (u (rv c e 3076)), .bool true]) ∧ On w w') := Lib.hid (fun w => by rw [← hx]; exact rvalue_any c e p q 3076 w)
  clear hx
  have hbit : bits .and .i64 12 3 = 0 := by decide
  have HC : ∀ wr, On ((w.alloc (.cells (cV c) 25)).alloc (.cells (eV e p q) 27)) wr → wr.heap[w.heap.size]? = some (.cells (cV c) 25 (0, 0)) := fun _ h => h.keep (((On.refl _).alloc _).keep (heap_alloc_new _ _))
  have HE : ∀ wr, On ((w.alloc (.cells (cV c) 25)).alloc (.cells (eV e p q) 27)) wr → wr.heap[w.heap.size + 1]? = some (.cells (eV e p q) 27 (0, 0)) := fun _ h => h.keep (box2 _ _ _)
  have hb := On.refl ((w.alloc (.cells (cV c) 25)).alloc (.cells (eV e p q) 27))
  generalize rv c e 3076 = y at *
  go_enter Try.func33, Try.ntmps33
  go_wp2_with (first | ((with_reducible apply csr_ld); (case ho => exact rfl); (case hgd => exact rfl); (case hx => exact rfl); (case hg => exact HC _ (by assumption))) | ((with_reducible apply env_ld); (case ho => exact rfl); (case hgd => exact rfl); (case hx => exact rfl); (case hg => exact HE _ (by assumption))) | (go_at_call 34; refine (K1.out _).mono ?_; rintro e wn ⟨rfl, hb'⟩; have hb := hb.trans hb'; clear hb'))
  go_ret
  exact ⟨rfl, (((On.refl w).alloc _).alloc _).trans hb⟩
set_option maxHeartbeats 1000000 in
theorem rmay_3076_1_false (c e : Nat → BitVec 64) (p q : Bool) (m : Int) (g0 : (m != 0) = true) (g1 : (m != 1) = false) (g3 : (m != 3) = true) (g5 : 0 ≤ m) (h6 : (bits .and .u64 (u (c 6 >>> 4)) 1 == 0) = true) (w : World) : Calls Try.prog 33 #[.agg (cV c), .int .i64 3076, .int .i64 m, .bool false, .agg (eV e p q)] w fun r w' => r = .returned (.bool false) ∧ On w w' := by
  have hx : ex 3076 = true := rfl
  have K1 : Hid (∀ w, Calls Try.prog 34 #[.agg (cV c), .int .i64 3076, .agg (eV e p q)] w fun r w' => r = .returned (.tuple #[.int .u64 (u (rv c e 3076)), .bool true]) ∧ On w w') := Lib.hid (fun w => by rw [← hx]; exact rvalue_any c e p q 3076 w)
  clear hx
  have hbit : bits .and .i64 12 3 = 0 := by decide
  have hn6 := u_nonneg (c 6)
  have hn12 := u_nonneg (c 12)
  have s6 : (bits .and .u64 (u (c 6) / 16) 1 == 0) = true := by
    have hs : u (c 6) / (16 : Int) = u (c 6 >>> 4) := by rw [← u_shr (c 6) 4]; rfl
    rw [hs]; exact h6
  clear h6
  have HC : ∀ wr, On ((w.alloc (.cells (cV c) 25)).alloc (.cells (eV e p q) 27)) wr → wr.heap[w.heap.size]? = some (.cells (cV c) 25 (0, 0)) := fun _ h => h.keep (((On.refl _).alloc _).keep (heap_alloc_new _ _))
  have HE : ∀ wr, On ((w.alloc (.cells (cV c) 25)).alloc (.cells (eV e p q) 27)) wr → wr.heap[w.heap.size + 1]? = some (.cells (eV e p q) 27 (0, 0)) := fun _ h => h.keep (box2 _ _ _)
  have c6 : ∀ wr, On ((w.alloc (.cells (cV c) 25)).alloc (.cells (eV e p q) 27)) wr → wr.cell? ⟨w.heap.size, 6, none⟩ = some (.int .u64 (u (c 6))) := fun _ h => blk_cell (HC _ h) 6 (cV_get c 6 (by omega))
  have c12 : ∀ wr, On ((w.alloc (.cells (cV c) 25)).alloc (.cells (eV e p q) 27)) wr → wr.cell? ⟨w.heap.size, 12, none⟩ = some (.int .u64 (u (c 12))) := fun _ h => blk_cell (HC _ h) 12 (cV_get c 12 (by omega))
  have hb := On.refl ((w.alloc (.cells (cV c) 25)).alloc (.cells (eV e p q) 27))
  generalize rv c e 3076 = y at *
  go_enter Try.func33, Try.ntmps33
  go_wp2_with (first | ((with_reducible apply csr_ld); (case ho => exact rfl); (case hgd => exact rfl); (case hx => exact rfl); (case hg => exact HC _ (by assumption))) | ((with_reducible apply env_ld); (case ho => exact rfl); (case hgd => exact rfl); (case hx => exact rfl); (case hg => exact HE _ (by assumption))) | (go_at_call 34; refine (K1.out _).mono ?_; rintro e wn ⟨rfl, hb'⟩; have hb := hb.trans hb'; clear hb'))
  go_ret
  exact ⟨rfl, (((On.refl w).alloc _).alloc _).trans hb⟩
set_option maxHeartbeats 1000000 in
theorem rmay_3076_0_false (c e : Nat → BitVec 64) (p q : Bool) (h6 : (bits .and .u64 (u (c 6 >>> 4)) 1 == 0) = true) (w : World) : Calls Try.prog 33 #[.agg (cV c), .int .i64 3076, .int .i64 0, .bool false, .agg (eV e p q)] w fun r w' => r = .returned (.bool false) ∧ On w w' := by
  have hx : ex 3076 = true := rfl
  have K1 : Hid (∀ w, Calls Try.prog 34 #[.agg (cV c), .int .i64 3076, .agg (eV e p q)] w fun r w' => r = .returned (.tuple #[.int .u64 (u (rv c e 3076)), .bool true]) ∧ On w w') := Lib.hid (fun w => by rw [← hx]; exact rvalue_any c e p q 3076 w)
  clear hx
  have hbit : bits .and .i64 12 3 = 0 := by decide
  have hn6 := u_nonneg (c 6)
  have hn12 := u_nonneg (c 12)
  have s6 : (bits .and .u64 (u (c 6) / 16) 1 == 0) = true := by
    have hs : u (c 6) / (16 : Int) = u (c 6 >>> 4) := by rw [← u_shr (c 6) 4]; rfl
    rw [hs]; exact h6
  clear h6
  have HC : ∀ wr, On ((w.alloc (.cells (cV c) 25)).alloc (.cells (eV e p q) 27)) wr → wr.heap[w.heap.size]? = some (.cells (cV c) 25 (0, 0)) := fun _ h => h.keep (((On.refl _).alloc _).keep (heap_alloc_new _ _))
  have HE : ∀ wr, On ((w.alloc (.cells (cV c) 25)).alloc (.cells (eV e p q) 27)) wr → wr.heap[w.heap.size + 1]? = some (.cells (eV e p q) 27 (0, 0)) := fun _ h => h.keep (box2 _ _ _)
  have c6 : ∀ wr, On ((w.alloc (.cells (cV c) 25)).alloc (.cells (eV e p q) 27)) wr → wr.cell? ⟨w.heap.size, 6, none⟩ = some (.int .u64 (u (c 6))) := fun _ h => blk_cell (HC _ h) 6 (cV_get c 6 (by omega))
  have hb := On.refl ((w.alloc (.cells (cV c) 25)).alloc (.cells (eV e p q) 27))
  generalize rv c e 3076 = y at *
  go_enter Try.func33, Try.ntmps33
  go_wp2_with (first | ((with_reducible apply csr_ld); (case ho => exact rfl); (case hgd => exact rfl); (case hx => exact rfl); (case hg => exact HC _ (by assumption))) | ((with_reducible apply env_ld); (case ho => exact rfl); (case hgd => exact rfl); (case hx => exact rfl); (case hg => exact HE _ (by assumption))) | (go_at_call 34; refine (K1.out _).mono ?_; rintro e wn ⟨rfl, hb'⟩; have hb := hb.trans hb'; clear hb'))
  go_ret
  exact ⟨rfl, (((On.refl w).alloc _).alloc _).trans hb⟩
set_option maxHeartbeats 1000000 in
theorem rmay_3076_1_true (c e : Nat → BitVec 64) (p q : Bool) (m : Int) (g0 : (m != 0) = true) (g1 : (m != 1) = false) (g3 : (m != 3) = true) (g5 : 0 ≤ m) (h6 : (bits .and .u64 (u (c 6 >>> 4)) 1 == 0) = false) (w : World) : Calls Try.prog 33 #[.agg (cV c), .int .i64 3076, .int .i64 m, .bool false, .agg (eV e p q)] w fun r w' => r = .returned (.bool true) ∧ On w w' := by
  have hx : ex 3076 = true := rfl
  have K1 : Hid (∀ w, Calls Try.prog 34 #[.agg (cV c), .int .i64 3076, .agg (eV e p q)] w fun r w' => r = .returned (.tuple #[.int .u64 (u (rv c e 3076)), .bool true]) ∧ On w w') := Lib.hid (fun w => by rw [← hx]; exact rvalue_any c e p q 3076 w)
  clear hx
  have hbit : bits .and .i64 12 3 = 0 := by decide
  have hn6 := u_nonneg (c 6)
  have hn12 := u_nonneg (c 12)
  have s6 : (bits .and .u64 (u (c 6) / 16) 1 == 0) = false := by
    have hs : u (c 6) / (16 : Int) = u (c 6 >>> 4) := by rw [← u_shr (c 6) 4]; rfl
    rw [hs]; exact h6
  clear h6
  have HC : ∀ wr, On ((w.alloc (.cells (cV c) 25)).alloc (.cells (eV e p q) 27)) wr → wr.heap[w.heap.size]? = some (.cells (cV c) 25 (0, 0)) := fun _ h => h.keep (((On.refl _).alloc _).keep (heap_alloc_new _ _))
  have HE : ∀ wr, On ((w.alloc (.cells (cV c) 25)).alloc (.cells (eV e p q) 27)) wr → wr.heap[w.heap.size + 1]? = some (.cells (eV e p q) 27 (0, 0)) := fun _ h => h.keep (box2 _ _ _)
  have c6 : ∀ wr, On ((w.alloc (.cells (cV c) 25)).alloc (.cells (eV e p q) 27)) wr → wr.cell? ⟨w.heap.size, 6, none⟩ = some (.int .u64 (u (c 6))) := fun _ h => blk_cell (HC _ h) 6 (cV_get c 6 (by omega))
  have c12 : ∀ wr, On ((w.alloc (.cells (cV c) 25)).alloc (.cells (eV e p q) 27)) wr → wr.cell? ⟨w.heap.size, 12, none⟩ = some (.int .u64 (u (c 12))) := fun _ h => blk_cell (HC _ h) 12 (cV_get c 12 (by omega))
  have hb := On.refl ((w.alloc (.cells (cV c) 25)).alloc (.cells (eV e p q) 27))
  generalize rv c e 3076 = y at *
  go_enter Try.func33, Try.ntmps33
  go_wp2_with (first | ((with_reducible apply csr_ld); (case ho => exact rfl); (case hgd => exact rfl); (case hx => exact rfl); (case hg => exact HC _ (by assumption))) | ((with_reducible apply env_ld); (case ho => exact rfl); (case hgd => exact rfl); (case hx => exact rfl); (case hg => exact HE _ (by assumption))) | (go_at_call 34; refine (K1.out _).mono ?_; rintro e wn ⟨rfl, hb'⟩; have hb := hb.trans hb'; clear hb'))
  go_ret
  exact ⟨rfl, (((On.refl w).alloc _).alloc _).trans hb⟩
set_option maxHeartbeats 1000000 in
theorem rmay_3076_0_true_false (c e : Nat → BitVec 64) (p q : Bool) (h6 : (bits .and .u64 (u (c 6 >>> 4)) 1 == 0) = false) (h12 : (bits .and .u64 (u (c 12 >>> 4)) 1 == 0) = true) (w : World) : Calls Try.prog 33 #[.agg (cV c), .int .i64 3076, .int .i64 0, .bool false, .agg (eV e p q)] w fun r w' => r = .returned (.bool false) ∧ On w w' := by
  have hx : ex 3076 = true := rfl
  have K1 : Hid (∀ w, Calls Try.prog 34 #[.agg (cV c), .int .i64 3076, .agg (eV e p q)] w fun r w' => r = .returned (.tuple #[.int .u64 (u (rv c e 3076)), .bool true]) ∧ On w w') := Lib.hid (fun w => by rw [← hx]; exact rvalue_any c e p q 3076 w)
  clear hx
  have hbit : bits .and .i64 12 3 = 0 := by decide
  have hn6 := u_nonneg (c 6)
  have hn12 := u_nonneg (c 12)
  have s6 : (bits .and .u64 (u (c 6) / 16) 1 == 0) = false := by
    have hs : u (c 6) / (16 : Int) = u (c 6 >>> 4) := by rw [← u_shr (c 6) 4]; rfl
    rw [hs]; exact h6
  clear h6
  have s12 : (bits .and .u64 (u (c 12) / 16) 1 == 0) = true := by
    have hs : u (c 12) / (16 : Int) = u (c 12 >>> 4) := by rw [← u_shr (c 12) 4]; rfl
    rw [hs]; exact h12
  clear h12
  have HC : ∀ wr, On ((w.alloc (.cells (cV c) 25)).alloc (.cells (eV e p q) 27)) wr → wr.heap[w.heap.size]? = some (.cells (cV c) 25 (0, 0)) := fun _ h => h.keep (((On.refl _).alloc _).keep (heap_alloc_new _ _))
  have HE : ∀ wr, On ((w.alloc (.cells (cV c) 25)).alloc (.cells (eV e p q) 27)) wr → wr.heap[w.heap.size + 1]? = some (.cells (eV e p q) 27 (0, 0)) := fun _ h => h.keep (box2 _ _ _)
  have c6 : ∀ wr, On ((w.alloc (.cells (cV c) 25)).alloc (.cells (eV e p q) 27)) wr → wr.cell? ⟨w.heap.size, 6, none⟩ = some (.int .u64 (u (c 6))) := fun _ h => blk_cell (HC _ h) 6 (cV_get c 6 (by omega))
  have c12 : ∀ wr, On ((w.alloc (.cells (cV c) 25)).alloc (.cells (eV e p q) 27)) wr → wr.cell? ⟨w.heap.size, 12, none⟩ = some (.int .u64 (u (c 12))) := fun _ h => blk_cell (HC _ h) 12 (cV_get c 12 (by omega))
  have hb := On.refl ((w.alloc (.cells (cV c) 25)).alloc (.cells (eV e p q) 27))
  generalize rv c e 3076 = y at *
  go_enter Try.func33, Try.ntmps33
  go_wp2_with (first | ((with_reducible apply csr_ld); (case ho => exact rfl); (case hgd => exact rfl); (case hx => exact rfl); (case hg => exact HC _ (by assumption))) | ((with_reducible apply env_ld); (case ho => exact rfl); (case hgd => exact rfl); (case hx => exact rfl); (case hg => exact HE _ (by assumption))) | (go_at_call 34; refine (K1.out _).mono ?_; rintro e wn ⟨rfl, hb'⟩; have hb := hb.trans hb'; clear hb'))
  go_ret
  exact ⟨rfl, (((On.refl w).alloc _).alloc _).trans hb⟩
set_option maxHeartbeats 1000000 in
theorem rmay_3076_0_true_true (c e : Nat → BitVec 64) (p q : Bool) (h6 : (bits .and .u64 (u (c 6 >>> 4)) 1 == 0) = false) (h12 : (bits .and .u64 (u (c 12 >>> 4)) 1 == 0) = false) (w : World) : Calls Try.prog 33 #[.agg (cV c), .int .i64 3076, .int .i64 0, .bool false, .agg (eV e p q)] w fun r w' => r = .returned (.bool true) ∧ On w w' := by
  have hx : ex 3076 = true := rfl
  have K1 : Hid (∀ w, Calls Try.prog 34 #[.agg (cV c), .int .i64 3076, .agg (eV e p q)] w fun r w' => r = .returned (.tuple #[.int .u64 (u (rv c e 3076)), .bool true]) ∧ On w w') := Lib.hid (fun w => by rw [← hx]; exact rvalue_any c e p q 3076 w)
  clear hx
  have hbit : bits .and .i64 12 3 = 0 := by decide
  have hn6 := u_nonneg (c 6)
  have hn12 := u_nonneg (c 12)
  have s6 : (bits .and .u64 (u (c 6) / 16) 1 == 0) = false := by
    have hs : u (c 6) / (16 : Int) = u (c 6 >>> 4) := by rw [← u_shr (c 6) 4]; rfl
    rw [hs]; exact h6
  clear h6
  have s12 : (bits .and .u64 (u (c 12) / 16) 1 == 0) = false := by
    have hs : u (c 12) / (16 : Int) = u (c 12 >>> 4) := by rw [← u_shr (c 12) 4]; rfl
    rw [hs]; exact h12
  clear h12
  have HC : ∀ wr, On ((w.alloc (.cells (cV c) 25)).alloc (.cells (eV e p q) 27)) wr → wr.heap[w.heap.size]? = some (.cells (cV c) 25 (0, 0)) := fun _ h => h.keep (((On.refl _).alloc _).keep (heap_alloc_new _ _))
  have HE : ∀ wr, On ((w.alloc (.cells (cV c) 25)).alloc (.cells (eV e p q) 27)) wr → wr.heap[w.heap.size + 1]? = some (.cells (eV e p q) 27 (0, 0)) := fun _ h => h.keep (box2 _ _ _)
  have c6 : ∀ wr, On ((w.alloc (.cells (cV c) 25)).alloc (.cells (eV e p q) 27)) wr → wr.cell? ⟨w.heap.size, 6, none⟩ = some (.int .u64 (u (c 6))) := fun _ h => blk_cell (HC _ h) 6 (cV_get c 6 (by omega))
  have c12 : ∀ wr, On ((w.alloc (.cells (cV c) 25)).alloc (.cells (eV e p q) 27)) wr → wr.cell? ⟨w.heap.size, 12, none⟩ = some (.int .u64 (u (c 12))) := fun _ h => blk_cell (HC _ h) 12 (cV_get c 12 (by omega))
  have hb := On.refl ((w.alloc (.cells (cV c) 25)).alloc (.cells (eV e p q) 27))
  generalize rv c e 3076 = y at *
  go_enter Try.func33, Try.ntmps33
  go_wp2_with (first | ((with_reducible apply csr_ld); (case ho => exact rfl); (case hgd => exact rfl); (case hx => exact rfl); (case hg => exact HC _ (by assumption))) | ((with_reducible apply env_ld); (case ho => exact rfl); (case hgd => exact rfl); (case hx => exact rfl); (case hg => exact HE _ (by assumption))) | (go_at_call 34; refine (K1.out _).mono ?_; rintro e wn ⟨rfl, hb'⟩; have hb := hb.trans hb'; clear hb'))
  go_ret
  exact ⟨rfl, (((On.refl w).alloc _).alloc _).trans hb⟩
set_option maxHeartbeats 1000000 in
theorem rmay_3077_3 (c e : Nat → BitVec 64) (p q : Bool)  (w : World) : Calls Try.prog 33 #[.agg (cV c), .int .i64 3077, .int .i64 3, .bool false, .agg (eV e p q)] w fun r w' => r = .returned (.bool true) ∧ On w w' := by
  have hx : ex 3077 = true := rfl
  have K1 : Hid (∀ w, Calls Try.prog 34 #[.agg (cV c), .int .i64 3077, .agg (eV e p q)] w fun r w' => r = .returned (.tuple #[.int .u64 (u (rv c e 3077)), .bool true]) ∧ On w w') := Lib.hid (fun w => by rw [← hx]; exact rvalue_any c e p q 3077 w)
  clear hx
  have hbit : bits .and .i64 12 3 = 0 := by decide
  have HC : ∀ wr, On ((w.alloc (.cells (cV c) 25)).alloc (.cells (eV e p q) 27)) wr → wr.heap[w.heap.size]? = some (.cells (cV c) 25 (0, 0)) := fun _ h => h.keep (((On.refl _).alloc _).keep (heap_alloc_new _ _))
  have HE : ∀ wr, On ((w.alloc (.cells (cV c) 25)).alloc (.cells (eV e p q) 27)) wr → wr.heap[w.heap.size + 1]? = some (.cells (eV e p q) 27 (0, 0)) := fun _ h => h.keep (box2 _ _ _)
  have hb := On.refl ((w.alloc (.cells (cV c) 25)).alloc (.cells (eV e p q) 27))
  generalize rv c e 3077 = y at *
  go_enter Try.func33, Try.ntmps33
  go_wp2_with (first | ((with_reducible apply csr_ld); (case ho => exact rfl); (case hgd => exact rfl); (case hx => exact rfl); (case hg => exact HC _ (by assumption))) | ((with_reducible apply env_ld); (case ho => exact rfl); (case hgd => exact rfl); (case hx => exact rfl); (case hg => exact HE _ (by assumption))) | (go_at_call 34; refine (K1.out _).mono ?_; rintro e wn ⟨rfl, hb'⟩; have hb := hb.trans hb'; clear hb'))
  go_ret
  exact ⟨rfl, (((On.refl w).alloc _).alloc _).trans hb⟩
set_option maxHeartbeats 1000000 in
theorem rmay_3077_1_false (c e : Nat → BitVec 64) (p q : Bool) (m : Int) (g0 : (m != 0) = true) (g1 : (m != 1) = false) (g3 : (m != 3) = true) (g5 : 0 ≤ m) (h6 : (bits .and .u64 (u (c 6 >>> 5)) 1 == 0) = true) (w : World) : Calls Try.prog 33 #[.agg (cV c), .int .i64 3077, .int .i64 m, .bool false, .agg (eV e p q)] w fun r w' => r = .returned (.bool false) ∧ On w w' := by
  have hx : ex 3077 = true := rfl
  have K1 : Hid (∀ w, Calls Try.prog 34 #[.agg (cV c), .int .i64 3077, .agg (eV e p q)] w fun r w' => r = .returned (.tuple #[.int .u64 (u (rv c e 3077)), .bool true]) ∧ On w w') := Lib.hid (fun w => by rw [← hx]; exact rvalue_any c e p q 3077 w)
  clear hx
  have hbit : bits .and .i64 12 3 = 0 := by decide
  have hn6 := u_nonneg (c 6)
  have hn12 := u_nonneg (c 12)
  have s6 : (bits .and .u64 (u (c 6) / 32) 1 == 0) = true := by
    have hs : u (c 6) / (32 : Int) = u (c 6 >>> 5) := by rw [← u_shr (c 6) 5]; rfl
    rw [hs]; exact h6
  clear h6
  have HC : ∀ wr, On ((w.alloc (.cells (cV c) 25)).alloc (.cells (eV e p q) 27)) wr → wr.heap[w.heap.size]? = some (.cells (cV c) 25 (0, 0)) := fun _ h => h.keep (((On.refl _).alloc _).keep (heap_alloc_new _ _))
  have HE : ∀ wr, On ((w.alloc (.cells (cV c) 25)).alloc (.cells (eV e p q) 27)) wr → wr.heap[w.heap.size + 1]? = some (.cells (eV e p q) 27 (0, 0)) := fun _ h => h.keep (box2 _ _ _)
  have c6 : ∀ wr, On ((w.alloc (.cells (cV c) 25)).alloc (.cells (eV e p q) 27)) wr → wr.cell? ⟨w.heap.size, 6, none⟩ = some (.int .u64 (u (c 6))) := fun _ h => blk_cell (HC _ h) 6 (cV_get c 6 (by omega))
  have c12 : ∀ wr, On ((w.alloc (.cells (cV c) 25)).alloc (.cells (eV e p q) 27)) wr → wr.cell? ⟨w.heap.size, 12, none⟩ = some (.int .u64 (u (c 12))) := fun _ h => blk_cell (HC _ h) 12 (cV_get c 12 (by omega))
  have hb := On.refl ((w.alloc (.cells (cV c) 25)).alloc (.cells (eV e p q) 27))
  generalize rv c e 3077 = y at *
  go_enter Try.func33, Try.ntmps33
  go_wp2_with (first | ((with_reducible apply csr_ld); (case ho => exact rfl); (case hgd => exact rfl); (case hx => exact rfl); (case hg => exact HC _ (by assumption))) | ((with_reducible apply env_ld); (case ho => exact rfl); (case hgd => exact rfl); (case hx => exact rfl); (case hg => exact HE _ (by assumption))) | (go_at_call 34; refine (K1.out _).mono ?_; rintro e wn ⟨rfl, hb'⟩; have hb := hb.trans hb'; clear hb'))
  go_ret
  exact ⟨rfl, (((On.refl w).alloc _).alloc _).trans hb⟩
set_option maxHeartbeats 1000000 in
theorem rmay_3077_0_false (c e : Nat → BitVec 64) (p q : Bool) (h6 : (bits .and .u64 (u (c 6 >>> 5)) 1 == 0) = true) (w : World) : Calls Try.prog 33 #[.agg (cV c), .int .i64 3077, .int .i64 0, .bool false, .agg (eV e p q)] w fun r w' => r = .returned (.bool false) ∧ On w w' := by
  have hx : ex 3077 = true := rfl
  have K1 : Hid (∀ w, Calls Try.prog 34 #[.agg (cV c), .int .i64 3077, .agg (eV e p q)] w fun r w' => r = .returned (.tuple #[.int .u64 (u (rv c e 3077)), .bool true]) ∧ On w w') := Lib.hid (fun w => by rw [← hx]; exact rvalue_any c e p q 3077 w)
  clear hx
  have hbit : bits .and .i64 12 3 = 0 := by decide
  have hn6 := u_nonneg (c 6)
  have hn12 := u_nonneg (c 12)
  have s6 : (bits .and .u64 (u (c 6) / 32) 1 == 0) = true := by
    have hs : u (c 6) / (32 : Int) = u (c 6 >>> 5) := by rw [← u_shr (c 6) 5]; rfl
    rw [hs]; exact h6
  clear h6
  have HC : ∀ wr, On ((w.alloc (.cells (cV c) 25)).alloc (.cells (eV e p q) 27)) wr → wr.heap[w.heap.size]? = some (.cells (cV c) 25 (0, 0)) := fun _ h => h.keep (((On.refl _).alloc _).keep (heap_alloc_new _ _))
  have HE : ∀ wr, On ((w.alloc (.cells (cV c) 25)).alloc (.cells (eV e p q) 27)) wr → wr.heap[w.heap.size + 1]? = some (.cells (eV e p q) 27 (0, 0)) := fun _ h => h.keep (box2 _ _ _)
  have c6 : ∀ wr, On ((w.alloc (.cells (cV c) 25)).alloc (.cells (eV e p q) 27)) wr → wr.cell? ⟨w.heap.size, 6, none⟩ = some (.int .u64 (u (c 6))) := fun _ h => blk_cell (HC _ h) 6 (cV_get c 6 (by omega))
  have hb := On.refl ((w.alloc (.cells (cV c) 25)).alloc (.cells (eV e p q) 27))
  generalize rv c e 3077 = y at *
  go_enter Try.func33, Try.ntmps33
  go_wp2_with (first | ((with_reducible apply csr_ld); (case ho => exact rfl); (case hgd => exact rfl); (case hx => exact rfl); (case hg => exact HC _ (by assumption))) | ((with_reducible apply env_ld); (case ho => exact rfl); (case hgd => exact rfl); (case hx => exact rfl); (case hg => exact HE _ (by assumption))) | (go_at_call 34; refine (K1.out _).mono ?_; rintro e wn ⟨rfl, hb'⟩; have hb := hb.trans hb'; clear hb'))
  go_ret
  exact ⟨rfl, (((On.refl w).alloc _).alloc _).trans hb⟩
set_option maxHeartbeats 1000000 in
theorem rmay_3077_1_true (c e : Nat → BitVec 64) (p q : Bool) (m : Int) (g0 : (m != 0) = true) (g1 : (m != 1) = false) (g3 : (m != 3) = true) (g5 : 0 ≤ m) (h6 : (bits .and .u64 (u (c 6 >>> 5)) 1 == 0) = false) (w : World) : Calls Try.prog 33 #[.agg (cV c), .int .i64 3077, .int .i64 m, .bool false, .agg (eV e p q)] w fun r w' => r = .returned (.bool true) ∧ On w w' := by
  have hx : ex 3077 = true := rfl
  have K1 : Hid (∀ w, Calls Try.prog 34 #[.agg (cV c), .int .i64 3077, .agg (eV e p q)] w fun r w' => r = .returned (.tuple #[.int .u64 (u (rv c e 3077)), .bool true]) ∧ On w w') := Lib.hid (fun w => by rw [← hx]; exact rvalue_any c e p q 3077 w)
  clear hx
  have hbit : bits .and .i64 12 3 = 0 := by decide
  have hn6 := u_nonneg (c 6)
  have hn12 := u_nonneg (c 12)
  have s6 : (bits .and .u64 (u (c 6) / 32) 1 == 0) = false := by
    have hs : u (c 6) / (32 : Int) = u (c 6 >>> 5) := by rw [← u_shr (c 6) 5]; rfl
    rw [hs]; exact h6
  clear h6
  have HC : ∀ wr, On ((w.alloc (.cells (cV c) 25)).alloc (.cells (eV e p q) 27)) wr → wr.heap[w.heap.size]? = some (.cells (cV c) 25 (0, 0)) := fun _ h => h.keep (((On.refl _).alloc _).keep (heap_alloc_new _ _))
  have HE : ∀ wr, On ((w.alloc (.cells (cV c) 25)).alloc (.cells (eV e p q) 27)) wr → wr.heap[w.heap.size + 1]? = some (.cells (eV e p q) 27 (0, 0)) := fun _ h => h.keep (box2 _ _ _)
  have c6 : ∀ wr, On ((w.alloc (.cells (cV c) 25)).alloc (.cells (eV e p q) 27)) wr → wr.cell? ⟨w.heap.size, 6, none⟩ = some (.int .u64 (u (c 6))) := fun _ h => blk_cell (HC _ h) 6 (cV_get c 6 (by omega))
  have c12 : ∀ wr, On ((w.alloc (.cells (cV c) 25)).alloc (.cells (eV e p q) 27)) wr → wr.cell? ⟨w.heap.size, 12, none⟩ = some (.int .u64 (u (c 12))) := fun _ h => blk_cell (HC _ h) 12 (cV_get c 12 (by omega))
  have hb := On.refl ((w.alloc (.cells (cV c) 25)).alloc (.cells (eV e p q) 27))
  generalize rv c e 3077 = y at *
  go_enter Try.func33, Try.ntmps33
  go_wp2_with (first | ((with_reducible apply csr_ld); (case ho => exact rfl); (case hgd => exact rfl); (case hx => exact rfl); (case hg => exact HC _ (by assumption))) | ((with_reducible apply env_ld); (case ho => exact rfl); (case hgd => exact rfl); (case hx => exact rfl); (case hg => exact HE _ (by assumption))) | (go_at_call 34; refine (K1.out _).mono ?_; rintro e wn ⟨rfl, hb'⟩; have hb := hb.trans hb'; clear hb'))
  go_ret
  exact ⟨rfl, (((On.refl w).alloc _).alloc _).trans hb⟩
set_option maxHeartbeats 1000000 in
theorem rmay_3077_0_true_false (c e : Nat → BitVec 64) (p q : Bool) (h6 : (bits .and .u64 (u (c 6 >>> 5)) 1 == 0) = false) (h12 : (bits .and .u64 (u (c 12 >>> 5)) 1 == 0) = true) (w : World) : Calls Try.prog 33 #[.agg (cV c), .int .i64 3077, .int .i64 0, .bool false, .agg (eV e p q)] w fun r w' => r = .returned (.bool false) ∧ On w w' := by
  have hx : ex 3077 = true := rfl
  have K1 : Hid (∀ w, Calls Try.prog 34 #[.agg (cV c), .int .i64 3077, .agg (eV e p q)] w fun r w' => r = .returned (.tuple #[.int .u64 (u (rv c e 3077)), .bool true]) ∧ On w w') := Lib.hid (fun w => by rw [← hx]; exact rvalue_any c e p q 3077 w)
  clear hx
  have hbit : bits .and .i64 12 3 = 0 := by decide
  have hn6 := u_nonneg (c 6)
  have hn12 := u_nonneg (c 12)
  have s6 : (bits .and .u64 (u (c 6) / 32) 1 == 0) = false := by
    have hs : u (c 6) / (32 : Int) = u (c 6 >>> 5) := by rw [← u_shr (c 6) 5]; rfl
    rw [hs]; exact h6
  clear h6
  have s12 : (bits .and .u64 (u (c 12) / 32) 1 == 0) = true := by
    have hs : u (c 12) / (32 : Int) = u (c 12 >>> 5) := by rw [← u_shr (c 12) 5]; rfl
    rw [hs]; exact h12
  clear h12
  have HC : ∀ wr, On ((w.alloc (.cells (cV c) 25)).alloc (.cells (eV e p q) 27)) wr → wr.heap[w.heap.size]? = some (.cells (cV c) 25 (0, 0)) := fun _ h => h.keep (((On.refl _).alloc _).keep (heap_alloc_new _ _))
  have HE : ∀ wr, On ((w.alloc (.cells (cV c) 25)).alloc (.cells (eV e p q) 27)) wr → wr.heap[w.heap.size + 1]? = some (.cells (eV e p q) 27 (0, 0)) := fun _ h => h.keep (box2 _ _ _)
  have c6 : ∀ wr, On ((w.alloc (.cells (cV c) 25)).alloc (.cells (eV e p q) 27)) wr → wr.cell? ⟨w.heap.size, 6, none⟩ = some (.int .u64 (u (c 6))) := fun _ h => blk_cell (HC _ h) 6 (cV_get c 6 (by omega))
  have c12 : ∀ wr, On ((w.alloc (.cells (cV c) 25)).alloc (.cells (eV e p q) 27)) wr → wr.cell? ⟨w.heap.size, 12, none⟩ = some (.int .u64 (u (c 12))) := fun _ h => blk_cell (HC _ h) 12 (cV_get c 12 (by omega))
  have hb := On.refl ((w.alloc (.cells (cV c) 25)).alloc (.cells (eV e p q) 27))
  generalize rv c e 3077 = y at *
  go_enter Try.func33, Try.ntmps33
  go_wp2_with (first | ((with_reducible apply csr_ld); (case ho => exact rfl); (case hgd => exact rfl); (case hx => exact rfl); (case hg => exact HC _ (by assumption))) | ((with_reducible apply env_ld); (case ho => exact rfl); (case hgd => exact rfl); (case hx => exact rfl); (case hg => exact HE _ (by assumption))) | (go_at_call 34; refine (K1.out _).mono ?_; rintro e wn ⟨rfl, hb'⟩; have hb := hb.trans hb'; clear hb'))
  go_ret
  exact ⟨rfl, (((On.refl w).alloc _).alloc _).trans hb⟩
set_option maxHeartbeats 1000000 in
theorem rmay_3077_0_true_true (c e : Nat → BitVec 64) (p q : Bool) (h6 : (bits .and .u64 (u (c 6 >>> 5)) 1 == 0) = false) (h12 : (bits .and .u64 (u (c 12 >>> 5)) 1 == 0) = false) (w : World) : Calls Try.prog 33 #[.agg (cV c), .int .i64 3077, .int .i64 0, .bool false, .agg (eV e p q)] w fun r w' => r = .returned (.bool true) ∧ On w w' := by
  have hx : ex 3077 = true := rfl
  have K1 : Hid (∀ w, Calls Try.prog 34 #[.agg (cV c), .int .i64 3077, .agg (eV e p q)] w fun r w' => r = .returned (.tuple #[.int .u64 (u (rv c e 3077)), .bool true]) ∧ On w w') := Lib.hid (fun w => by rw [← hx]; exact rvalue_any c e p q 3077 w)
  clear hx
  have hbit : bits .and .i64 12 3 = 0 := by decide
  have hn6 := u_nonneg (c 6)
  have hn12 := u_nonneg (c 12)
  have s6 : (bits .and .u64 (u (c 6) / 32) 1 == 0) = false := by
    have hs : u (c 6) / (32 : Int) = u (c 6 >>> 5) := by rw [← u_shr (c 6) 5]; rfl
    rw [hs]; exact h6
  clear h6
  have s12 : (bits .and .u64 (u (c 12) / 32) 1 == 0) = false := by
    have hs : u (c 12) / (32 : Int) = u (c 12 >>> 5) := by rw [← u_shr (c 12) 5]; rfl
    rw [hs]; exact h12
  clear h12
  have HC : ∀ wr, On ((w.alloc (.cells (cV c) 25)).alloc (.cells (eV e p q) 27)) wr → wr.heap[w.heap.size]? = some (.cells (cV c) 25 (0, 0)) := fun _ h => h.keep (((On.refl _).alloc _).keep (heap_alloc_new _ _))
  have HE : ∀ wr, On ((w.alloc (.cells (cV c) 25)).alloc (.cells (eV e p q) 27)) wr → wr.heap[w.heap.size + 1]? = some (.cells (eV e p q) 27 (0, 0)) := fun _ h => h.keep (box2 _ _ _)
  have c6 : ∀ wr, On ((w.alloc (.cells (cV c) 25)).alloc (.cells (eV e p q) 27)) wr → wr.cell? ⟨w.heap.size, 6, none⟩ = some (.int .u64 (u (c 6))) := fun _ h => blk_cell (HC _ h) 6 (cV_get c 6 (by omega))
  have c12 : ∀ wr, On ((w.alloc (.cells (cV c) 25)).alloc (.cells (eV e p q) 27)) wr → wr.cell? ⟨w.heap.size, 12, none⟩ = some (.int .u64 (u (c 12))) := fun _ h => blk_cell (HC _ h) 12 (cV_get c 12 (by omega))
  have hb := On.refl ((w.alloc (.cells (cV c) 25)).alloc (.cells (eV e p q) 27))
  generalize rv c e 3077 = y at *
  go_enter Try.func33, Try.ntmps33
  go_wp2_with (first | ((with_reducible apply csr_ld); (case ho => exact rfl); (case hgd => exact rfl); (case hx => exact rfl); (case hg => exact HC _ (by assumption))) | ((with_reducible apply env_ld); (case ho => exact rfl); (case hgd => exact rfl); (case hx => exact rfl); (case hg => exact HE _ (by assumption))) | (go_at_call 34; refine (K1.out _).mono ?_; rintro e wn ⟨rfl, hb'⟩; have hb := hb.trans hb'; clear hb'))
  go_ret
  exact ⟨rfl, (((On.refl w).alloc _).alloc _).trans hb⟩
set_option maxHeartbeats 1000000 in
theorem rmay_3078_3 (c e : Nat → BitVec 64) (p q : Bool)  (w : World) : Calls Try.prog 33 #[.agg (cV c), .int .i64 3078, .int .i64 3, .bool false, .agg (eV e p q)] w fun r w' => r = .returned (.bool true) ∧ On w w' := by
  have hx : ex 3078 = true := rfl
  have K1 : Hid (∀ w, Calls Try.prog 34 #[.agg (cV c), .int .i64 3078, .agg (eV e p q)] w fun r w' => r = .returned (.tuple #[.int .u64 (u (rv c e 3078)), .bool true]) ∧ On w w') := Lib.hid (fun w => by rw [← hx]; exact rvalue_any c e p q 3078 w)
  clear hx
  have hbit : bits .and .i64 12 3 = 0 := by decide
  have HC : ∀ wr, On ((w.alloc (.cells (cV c) 25)).alloc (.cells (eV e p q) 27)) wr → wr.heap[w.heap.size]? = some (.cells (cV c) 25 (0, 0)) := fun _ h => h.keep (((On.refl _).alloc _).keep (heap_alloc_new _ _))
  have HE : ∀ wr, On ((w.alloc (.cells (cV c) 25)).alloc (.cells (eV e p q) 27)) wr → wr.heap[w.heap.size + 1]? = some (.cells (eV e p q) 27 (0, 0)) := fun _ h => h.keep (box2 _ _ _)
  have hb := On.refl ((w.alloc (.cells (cV c) 25)).alloc (.cells (eV e p q) 27))
  generalize rv c e 3078 = y at *
  go_enter Try.func33, Try.ntmps33
  go_wp2_with (first | ((with_reducible apply csr_ld); (case ho => exact rfl); (case hgd => exact rfl); (case hx => exact rfl); (case hg => exact HC _ (by assumption))) | ((with_reducible apply env_ld); (case ho => exact rfl); (case hgd => exact rfl); (case hx => exact rfl); (case hg => exact HE _ (by assumption))) | (go_at_call 34; refine (K1.out _).mono ?_; rintro e wn ⟨rfl, hb'⟩; have hb := hb.trans hb'; clear hb'))
  go_ret
  exact ⟨rfl, (((On.refl w).alloc _).alloc _).trans hb⟩
set_option maxHeartbeats 1000000 in
theorem rmay_3078_1_false (c e : Nat → BitVec 64) (p q : Bool) (m : Int) (g0 : (m != 0) = true) (g1 : (m != 1) = false) (g3 : (m != 3) = true) (g5 : 0 ≤ m) (h6 : (bits .and .u64 (u (c 6 >>> 6)) 1 == 0) = true) (w : World) : Calls Try.prog 33 #[.agg (cV c), .int .i64 3078, .int .i64 m, .bool false, .agg (eV e p q)] w fun r w' => r = .returned (.bool false) ∧ On w w' := by
  have hx : ex 3078 = true := rfl
  have K1 : Hid (∀ w, Calls Try.prog 34 #[.agg (cV c), .int .i64 3078, .agg (eV e p q)] w fun r w' => r = .returned (.tuple #[.int .u64 (u (rv c e 3078)), .bool true]) ∧ On w w') := Lib.hid (fun w => by rw [← hx]; exact rvalue_any c e p q 3078 w)
  clear hx
  have hbit : bits .and .i64 12 3 = 0 := by decide
  have hn6 := u_nonneg (c 6)
  have hn12 := u_nonneg (c 12)
  have s6 : (bits .and .u64 (u (c 6) / 64) 1 == 0) = true := by
    have hs : u (c 6) / (64 : Int) = u (c 6 >>> 6) := by rw [← u_shr (c 6) 6]; rfl
    rw [hs]; exact h6
  clear h6
  have HC : ∀ wr, On ((w.alloc (.cells (cV c) 25)).alloc (.cells (eV e p q) 27)) wr → wr.heap[w.heap.size]? = some (.cells (cV c) 25 (0, 0)) := fun _ h => h.keep (((On.refl _).alloc _).keep (heap_alloc_new _ _))
  have HE : ∀ wr, On ((w.alloc (.cells (cV c) 25)).alloc (.cells (eV e p q) 27)) wr → wr.heap[w.heap.size + 1]? = some (.cells (eV e p q) 27 (0, 0)) := fun _ h => h.keep (box2 _ _ _)
  have c6 : ∀ wr, On ((w.alloc (.cells (cV c) 25)).alloc (.cells (eV e p q) 27)) wr → wr.cell? ⟨w.heap.size, 6, none⟩ = some (.int .u64 (u (c 6))) := fun _ h => blk_cell (HC _ h) 6 (cV_get c 6 (by omega))
  have c12 : ∀ wr, On ((w.alloc (.cells (cV c) 25)).alloc (.cells (eV e p q) 27)) wr → wr.cell? ⟨w.heap.size, 12, none⟩ = some (.int .u64 (u (c 12))) := fun _ h => blk_cell (HC _ h) 12 (cV_get c 12 (by omega))
  have hb := On.refl ((w.alloc (.cells (cV c) 25)).alloc (.cells (eV e p q) 27))
  generalize rv c e 3078 = y at *
  go_enter Try.func33, Try.ntmps33
  go_wp2_with (first | ((with_reducible apply csr_ld); (case ho => exact rfl); (case hgd => exact rfl); (case hx => exact rfl); (case hg => exact HC _ (by assumption))) | ((with_reducible apply env_ld); (case ho => exact rfl); (case hgd => exact rfl); (case hx => exact rfl); (case hg => exact HE _ (by assumption))) | (go_at_call 34; refine (K1.out _).mono ?_; rintro e wn ⟨rfl, hb'⟩; have hb := hb.trans hb'; clear hb'))
  go_ret
  exact ⟨rfl, (((On.refl w).alloc _).alloc _).trans hb⟩
set_option maxHeartbeats 1000000 in
theorem rmay_3078_0_false (c e : Nat → BitVec 64) (p q : Bool) (h6 : (bits .and .u64 (u (c 6 >>> 6)) 1 == 0) = true) (w : World) : Calls Try.prog 33 #[.agg (cV c), .int .i64 3078, .int .i64 0, .bool false, .agg (eV e p q)] w fun r w' => r = .returned (.bool false) ∧ On w w' := by
  have hx : ex 3078 = true := rfl
  have K1 : Hid (∀ w, Calls Try.prog 34 #[.agg (cV c), .int .i64 3078, .agg (eV e p q)] w fun r w' => r = .returned (.tuple #[.int .u64 (u (rv c e 3078)), .bool true]) ∧ On w w') := Lib.hid (fun w => by rw [← hx]; exact rvalue_any c e p q 3078 w)
  clear hx
  have hbit : bits .and .i64 12 3 = 0 := by decide
  have hn6 := u_nonneg (c 6)
  have hn12 := u_nonneg (c 12)
  have s6 : (bits .and .u64 (u (c 6) / 64) 1 == 0) = true := by
    have hs : u (c 6) / (64 : Int) = u (c 6 >>> 6) := by rw [← u_shr (c 6) 6]; rfl
    rw [hs]; exact h6
  clear h6
  have HC : ∀ wr, On ((w.alloc (.cells (cV c) 25)).alloc (.cells (eV e p q) 27)) wr → wr.heap[w.heap.size]? = some (.cells (cV c) 25 (0, 0)) := fun _ h => h.keep (((On.refl _).alloc _).keep (heap_alloc_new _ _))
  have HE : ∀ wr, On ((w.alloc (.cells (cV c) 25)).alloc (.cells (eV e p q) 27)) wr → wr.heap[w.heap.size + 1]? = some (.cells (eV e p q) 27 (0, 0)) := fun _ h => h.keep (box2 _ _ _)
  have c6 : ∀ wr, On ((w.alloc (.cells (cV c) 25)).alloc (.cells (eV e p q) 27)) wr → wr.cell? ⟨w.heap.size, 6, none⟩ = some (.int .u64 (u (c 6))) := fun _ h => blk_cell (HC _ h) 6 (cV_get c 6 (by omega))
  have hb := On.refl ((w.alloc (.cells (cV c) 25)).alloc (.cells (eV e p q) 27))
  generalize rv c e 3078 = y at *
  go_enter Try.func33, Try.ntmps33
  go_wp2_with (first | ((with_reducible apply csr_ld); (case ho => exact rfl); (case hgd => exact rfl); (case hx => exact rfl); (case hg => exact HC _ (by assumption))) | ((with_reducible apply env_ld); (case ho => exact rfl); (case hgd => exact rfl); (case hx => exact rfl); (case hg => exact HE _ (by assumption))) | (go_at_call 34; refine (K1.out _).mono ?_; rintro e wn ⟨rfl, hb'⟩; have hb := hb.trans hb'; clear hb'))
  go_ret
  exact ⟨rfl, (((On.refl w).alloc _).alloc _).trans hb⟩
set_option maxHeartbeats 1000000 in
theorem rmay_3078_1_true (c e : Nat → BitVec 64) (p q : Bool) (m : Int) (g0 : (m != 0) = true) (g1 : (m != 1) = false) (g3 : (m != 3) = true) (g5 : 0 ≤ m) (h6 : (bits .and .u64 (u (c 6 >>> 6)) 1 == 0) = false) (w : World) : Calls Try.prog 33 #[.agg (cV c), .int .i64 3078, .int .i64 m, .bool false, .agg (eV e p q)] w fun r w' => r = .returned (.bool true) ∧ On w w' := by
  have hx : ex 3078 = true := rfl
  have K1 : Hid (∀ w, Calls Try.prog 34 #[.agg (cV c), .int .i64 3078, .agg (eV e p q)] w fun r w' => r = .returned (.tuple #[.int .u64 (u (rv c e 3078)), .bool true]) ∧ On w w') := Lib.hid (fun w => by rw [← hx]; exact rvalue_any c e p q 3078 w)
  clear hx
  have hbit : bits .and .i64 12 3 = 0 := by decide
  have hn6 := u_nonneg (c 6)
  have hn12 := u_nonneg (c 12)
  have s6 : (bits .and .u64 (u (c 6) / 64) 1 == 0) = false := by
    have hs : u (c 6) / (64 : Int) = u (c 6 >>> 6) := by rw [← u_shr (c 6) 6]; rfl
    rw [hs]; exact h6
  clear h6
  have HC : ∀ wr, On ((w.alloc (.cells (cV c) 25)).alloc (.cells (eV e p q) 27)) wr → wr.heap[w.heap.size]? = some (.cells (cV c) 25 (0, 0)) := fun _ h => h.keep (((On.refl _).alloc _).keep (heap_alloc_new _ _))
  have HE : ∀ wr, On ((w.alloc (.cells (cV c) 25)).alloc (.cells (eV e p q) 27)) wr → wr.heap[w.heap.size + 1]? = some (.cells (eV e p q) 27 (0, 0)) := fun _ h => h.keep (box2 _ _ _)
  have c6 : ∀ wr, On ((w.alloc (.cells (cV c) 25)).alloc (.cells (eV e p q) 27)) wr → wr.cell? ⟨w.heap.size, 6, none⟩ = some (.int .u64 (u (c 6))) := fun _ h => blk_cell (HC _ h) 6 (cV_get c 6 (by omega))
  have c12 : ∀ wr, On ((w.alloc (.cells (cV c) 25)).alloc (.cells (eV e p q) 27)) wr → wr.cell? ⟨w.heap.size, 12, none⟩ = some (.int .u64 (u (c 12))) := fun _ h => blk_cell (HC _ h) 12 (cV_get c 12 (by omega))
  have hb := On.refl ((w.alloc (.cells (cV c) 25)).alloc (.cells (eV e p q) 27))
  generalize rv c e 3078 = y at *
  go_enter Try.func33, Try.ntmps33
  go_wp2_with (first | ((with_reducible apply csr_ld); (case ho => exact rfl); (case hgd => exact rfl); (case hx => exact rfl); (case hg => exact HC _ (by assumption))) | ((with_reducible apply env_ld); (case ho => exact rfl); (case hgd => exact rfl); (case hx => exact rfl); (case hg => exact HE _ (by assumption))) | (go_at_call 34; refine (K1.out _).mono ?_; rintro e wn ⟨rfl, hb'⟩; have hb := hb.trans hb'; clear hb'))
  go_ret
  exact ⟨rfl, (((On.refl w).alloc _).alloc _).trans hb⟩
set_option maxHeartbeats 1000000 in
theorem rmay_3078_0_true_false (c e : Nat → BitVec 64) (p q : Bool) (h6 : (bits .and .u64 (u (c 6 >>> 6)) 1 == 0) = false) (h12 : (bits .and .u64 (u (c 12 >>> 6)) 1 == 0) = true) (w : World) : Calls Try.prog 33 #[.agg (cV c), .int .i64 3078, .int .i64 0, .bool false, .agg (eV e p q)] w fun r w' => r = .returned (.bool false) ∧ On w w' := by
  have hx : ex 3078 = true := rfl
  have K1 : Hid (∀ w, Calls Try.prog 34 #[.agg (cV c), .int .i64 3078, .agg (eV e p q)] w fun r w' => r = .returned (.tuple #[.int .u64 (u (rv c e 3078)), .bool true]) ∧ On w w') := Lib.hid (fun w => by rw [← hx]; exact rvalue_any c e p q 3078 w)
  clear hx
  have hbit : bits .and .i64 12 3 = 0 := by decide
  have hn6 := u_nonneg (c 6)
  have hn12 := u_nonneg (c 12)
  have s6 : (bits .and .u64 (u (c 6) / 64) 1 == 0) = false := by
    have hs : u (c 6) / (64 : Int) = u (c 6 >>> 6) := by rw [← u_shr (c 6) 6]; rfl
    rw [hs]; exact h6
  clear h6
  have s12 : (bits .and .u64 (u (c 12) / 64) 1 == 0) = true := by
    have hs : u (c 12) / (64 : Int) = u (c 12 >>> 6) := by rw [← u_shr (c 12) 6]; rfl
    rw [hs]; exact h12
  clear h12
  have HC : ∀ wr, On ((w.alloc (.cells (cV c) 25)).alloc (.cells (eV e p q) 27)) wr → wr.heap[w.heap.size]? = some (.cells (cV c) 25 (0, 0)) := fun _ h => h.keep (((On.refl _).alloc _).keep (heap_alloc_new _ _))
  have HE : ∀ wr, On ((w.alloc (.cells (cV c) 25)).alloc (.cells (eV e p q) 27)) wr → wr.heap[w.heap.size + 1]? = some (.cells (eV e p q) 27 (0, 0)) := fun _ h => h.keep (box2 _ _ _)
  have c6 : ∀ wr, On ((w.alloc (.cells (cV c) 25)).alloc (.cells (eV e p q) 27)) wr → wr.cell? ⟨w.heap.size, 6, none⟩ = some (.int .u64 (u (c 6))) := fun _ h => blk_cell (HC _ h) 6 (cV_get c 6 (by omega))
  have c12 : ∀ wr, On ((w.alloc (.cells (cV c) 25)).alloc (.cells (eV e p q) 27)) wr → wr.cell? ⟨w.heap.size, 12, none⟩ = some (.int .u64 (u (c 12))) := fun _ h => blk_cell (HC _ h) 12 (cV_get c 12 (by omega))
  have hb := On.refl ((w.alloc (.cells (cV c) 25)).alloc (.cells (eV e p q) 27))
  generalize rv c e 3078 = y at *
  go_enter Try.func33, Try.ntmps33
  go_wp2_with (first | ((with_reducible apply csr_ld); (case ho => exact rfl); (case hgd => exact rfl); (case hx => exact rfl); (case hg => exact HC _ (by assumption))) | ((with_reducible apply env_ld); (case ho => exact rfl); (case hgd => exact rfl); (case hx => exact rfl); (case hg => exact HE _ (by assumption))) | (go_at_call 34; refine (K1.out _).mono ?_; rintro e wn ⟨rfl, hb'⟩; have hb := hb.trans hb'; clear hb'))
  go_ret
  exact ⟨rfl, (((On.refl w).alloc _).alloc _).trans hb⟩
set_option maxHeartbeats 1000000 in
theorem rmay_3078_0_true_true (c e : Nat → BitVec 64) (p q : Bool) (h6 : (bits .and .u64 (u (c 6 >>> 6)) 1 == 0) = false) (h12 : (bits .and .u64 (u (c 12 >>> 6)) 1 == 0) = false) (w : World) : Calls Try.prog 33 #[.agg (cV c), .int .i64 3078, .int .i64 0, .bool false, .agg (eV e p q)] w fun r w' => r = .returned (.bool true) ∧ On w w' := by
  have hx : ex 3078 = true := rfl
  have K1 : Hid (∀ w, Calls Try.prog 34 #[.agg (cV c), .int .i64 3078, .agg (eV e p q)] w fun r w' => r = .returned (.tuple #[.int .u64 (u (rv c e 3078)), .bool true]) ∧ On w w') := Lib.hid (fun w => by rw [← hx]; exact rvalue_any c e p q 3078 w)
  clear hx
  have hbit : bits .and .i64 12 3 = 0 := by decide
  have hn6 := u_nonneg (c 6)
  have hn12 := u_nonneg (c 12)
  have s6 : (bits .and .u64 (u (c 6) / 64) 1 == 0) = false := by
    have hs : u (c 6) / (64 : Int) = u (c 6 >>> 6) := by rw [← u_shr (c 6) 6]; rfl
    rw [hs]; exact h6
  clear h6
  have s12 : (bits .and .u64 (u (c 12) / 64) 1 == 0) = false := by
    have hs : u (c 12) / (64 : Int) = u (c 12 >>> 6) := by rw [← u_shr (c 12) 6]; rfl
    rw [hs]; exact h12
  clear h12
  have HC : ∀ wr, On ((w.alloc (.cells (cV c) 25)).alloc (.cells (eV e p q) 27)) wr → wr.heap[w.heap.size]? = some (.cells (cV c) 25 (0, 0)) := fun _ h => h.keep (((On.refl _).alloc _).keep (heap_alloc_new _ _))
  have HE : ∀ wr, On ((w.alloc (.cells (cV c) 25)).alloc (.cells (eV e p q) 27)) wr → wr.heap[w.heap.size + 1]? = some (.cells (eV e p q) 27 (0, 0)) := fun _ h => h.keep (box2 _ _ _)
  have c6 : ∀ wr, On ((w.alloc (.cells (cV c) 25)).alloc (.cells (eV e p q) 27)) wr → wr.cell? ⟨w.heap.size, 6, none⟩ = some (.int .u64 (u (c 6))) := fun _ h => blk_cell (HC _ h) 6 (cV_get c 6 (by omega))
  have c12 : ∀ wr, On ((w.alloc (.cells (cV c) 25)).alloc (.cells (eV e p q) 27)) wr → wr.cell? ⟨w.heap.size, 12, none⟩ = some (.int .u64 (u (c 12))) := fun _ h => blk_cell (HC _ h) 12 (cV_get c 12 (by omega))
  have hb := On.refl ((w.alloc (.cells (cV c) 25)).alloc (.cells (eV e p q) 27))
  generalize rv c e 3078 = y at *
  go_enter Try.func33, Try.ntmps33
  go_wp2_with (first | ((with_reducible apply csr_ld); (case ho => exact rfl); (case hgd => exact rfl); (case hx => exact rfl); (case hg => exact HC _ (by assumption))) | ((with_reducible apply env_ld); (case ho => exact rfl); (case hgd => exact rfl); (case hx => exact rfl); (case hg => exact HE _ (by assumption))) | (go_at_call 34; refine (K1.out _).mono ?_; rintro e wn ⟨rfl, hb'⟩; have hb := hb.trans hb'; clear hb'))
  go_ret
  exact ⟨rfl, (((On.refl w).alloc _).alloc _).trans hb⟩
end Go.Proofs.Ytoobbapdjoajgaa
