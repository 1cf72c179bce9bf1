/- The states that writes leave: they stay so, and the reference's May tells of them that they are. Conditions: named at each. -/
import Derived.Test.YtoobbapdjoajgaaCsrL
import Derived.Test.YtoobbapdjoajgaaLoops
import Derived.Test.YtoobbapdjoajgaaCsrT
namespace Go.Proofs.Ytoobbapdjoajgaa
open Go.RowKit

/-- no bits but those of m -/
def Sub (x m : BitVec 64) : Prop := x &&& ~~~m = 0#64
theorem sub_iff {x m : BitVec 64} : Sub x m ↔ ∀ i, i < 64 → x.getLsbD i = true → m.getLsbD i = true := by
  unfold Sub
  constructor
  · intro h i hi hx
    have := congrArg (fun b => b.getLsbD i) h
    simp only [BitVec.getLsbD_and, BitVec.getLsbD_not, hi, decide_true, Bool.true_and, hx, BitVec.getLsbD_zero] at this
    cases hm : m.getLsbD i
    · rw [hm] at this; exact absurd this (by decide)
    · rfl
  · intro h
    apply BitVec.eq_of_getLsbD_eq; intro i hi
    simp only [BitVec.getLsbD_and, BitVec.getLsbD_not, hi, decide_true, Bool.true_and, BitVec.getLsbD_zero]
    cases hx : x.getLsbD i
    · rfl
    · rw [h i hi hx]; rfl
theorem sub_and (v m : BitVec 64) : Sub (v &&& m) m := sub_iff.2 fun i _ h => by
  rw [BitVec.getLsbD_and] at h; exact (Bool.and_eq_true_iff.1 h).2
theorem sub_repl {o v w m : BitVec 64} (h1 : Sub o m) (h2 : Sub w m) : Sub (repl o v w) m := sub_iff.2 fun i hi h => by
  unfold repl at h
  rw [BitVec.getLsbD_or, BitVec.getLsbD_and, BitVec.getLsbD_and] at h
  rcases Bool.or_eq_true_iff.1 h with h | h
  · exact sub_iff.1 h1 i hi (Bool.and_eq_true_iff.1 h).1
  · exact sub_iff.1 h2 i hi (Bool.and_eq_true_iff.1 h).2
theorem sub_trans {x m k : BitVec 64} (h1 : Sub x m) (h2 : Sub m k) : Sub x k := sub_iff.2 fun i hi h => sub_iff.1 h2 i hi (sub_iff.1 h1 i hi h)
theorem sub_self {x m : BitVec 64} (h : Sub x m) : x &&& m = x := by
  apply BitVec.eq_of_getLsbD_eq; intro i hi
  rw [BitVec.getLsbD_and]
  cases hx : x.getLsbD i
  · rfl
  · rw [sub_iff.1 h i hi hx]; rfl
theorem low_and (v m : BitVec 64) : (v &&& ~~~m) &&& m = 0#64 := by
  apply BitVec.eq_of_getLsbD_eq; intro i hi
  simp only [BitVec.getLsbD_and, BitVec.getLsbD_not, hi, decide_true, Bool.true_and, BitVec.getLsbD_zero]
  cases m.getLsbD i <;> simp
theorem repl_out (o v w k : BitVec 64) (h : w &&& k = 0#64) : repl o v w &&& k = o &&& k := by
  apply BitVec.eq_of_getLsbD_eq; intro i hi
  have := congrArg (fun b => b.getLsbD i) h
  simp only [BitVec.getLsbD_and, BitVec.getLsbD_zero] at this
  unfold repl
  simp only [BitVec.getLsbD_and, BitVec.getLsbD_or, BitVec.getLsbD_not, hi, decide_true, Bool.true_and]
  cases hk : k.getLsbD i
  · simp
  · rw [hk] at this
    have hw : w.getLsbD i = false := by simpa using this
    rw [hw]; simp
theorem repl_in (o v w : BitVec 64) : repl o v w &&& w = v &&& w := by
  apply BitVec.eq_of_getLsbD_eq; intro i hi
  unfold repl
  simp only [BitVec.getLsbD_and, BitVec.getLsbD_or, BitVec.getLsbD_not, hi, decide_true, Bool.true_and]
  cases w.getLsbD i <;> simp
/-- what each cell may hold -/
def OkC (i : Nat) (v : BitVec 64) : Prop :=
  match i with
  | 0 => Sub v 0x7e19aa#64 ∧ v &&& 0x1800#64 ≠ 0x1000#64
  | 1 => Sub v 0xb3ff#64
  | 2 => Sub v 0x222#64
  | 3 => Sub v 0xaaa#64
  | 4 => Sub v 0x222#64
  | 5 => v &&& 2#64 = 0#64
  | 6 => Sub v 0x7f#64
  | 8 => v &&& 3#64 = 0#64
  | 9 => Sub v 0x800000000000003f#64
  | 11 => v &&& 2#64 = 0#64
  | 12 => Sub v 0x7f#64
  | 14 => v &&& 3#64 = 0#64
  | 15 => Sub v 0x800000000000003f#64
  | 17 => v >>> 60 = 0#64 ∨ v >>> 60 = 8#64
  | 18 => Sub v 0x7d#64
  | 22 => v.toNat ≤ 5
  | 23 => v.toNat ≤ 5
  | 24 => v.toNat ≤ 5
  | 25 => v.toNat ≤ 5
  | _ => True
structure OkS (c : Nat → BitVec 64) : Prop where
  at_ : ∀ i, OkC i (c i)
theorem OkS.upd {c : Nat → BitVec 64} (h : OkS c) (i : Nat) {v : BitVec 64} (hv : OkC i v) : OkS (upd c i v) := ⟨fun j => by
  unfold Go.Proofs.Ytoobbapdjoajgaa.upd
  split
  · next hj => rw [hj]; exact hv
  · exact h.at_ j⟩
theorem okS_zero : OkS zC := ⟨fun i => by
  have h0 : ∀ m, Sub 0#64 m := fun m => sub_iff.2 fun i _ h => by simp at h
  unfold zC OkC
  split <;> first | exact h0 _ | trivial | decide | exact ⟨h0 _, by decide⟩ | exact .inl (by decide)⟩
theorem kst_ok {o : BitVec 64} (v : BitVec 64) (h : OkC 0 o) : OkC 0 (kst o v) := by
  obtain ⟨_, h2⟩ := h
  unfold kst
  split
  · refine ⟨sub_and _ _, ?_⟩
    rw [BitVec.and_assoc, show (0x7e19aa#64 &&& 0x1800#64) = 0x1800#64 by decide, repl_in]; exact h2
  · next hv =>
    refine ⟨sub_and _ _, ?_⟩
    rw [BitVec.and_assoc, show (0x7e19aa#64 &&& 0x1800#64) = 0x1800#64 by decide]; exact hv
theorem ksa_ok {o : BitVec 64} (v : BitVec 64) (h : OkC 17 o) : OkC 17 (ksa o v) := by
  unfold ksa
  split
  · next hv => exact hv
  · exact h
theorem kev_ok (v : BitVec 64) : (kev v).toNat ≤ 5 := by
  unfold kev
  split
  · exact Nat.zero_le _
  · omega
theorem kst_self {o : BitVec 64} (h : OkC 0 o) : kst 0#64 o = o := by
  obtain ⟨h1, h2⟩ := h
  unfold kst
  rw [if_neg h2, sub_self h1]
/-- a write leaves such a state -/
theorem kp_ok (c e : Nat → BitVec 64) (n : Int) (v : BitVec 64) (hx : ex n = true) (h : OkS c) : OkS (kp c e n v) := by
  have s2 : Sub (c 2) 0x222#64 := h.at_ 2
  rcases ex_cases hx with rfl | rfl | rfl | rfl | rfl | rfl | rfl | rfl | rfl | rfl | rfl | rfl | rfl | rfl | rfl | rfl | rfl | rfl | rfl | rfl | rfl | rfl | rfl | rfl | rfl | rfl | rfl | rfl | rfl | rfl | rfl | rfl | rfl | rfl | rfl | rfl | rfl | rfl | rfl | rfl | rfl | rfl | rfl | rfl | rfl
  · exact h.upd 0 (kst_ok v (h.at_ 0))
  · exact h.upd 0 (v := repl (c 0) v 0xc0122#64) ⟨sub_repl (h.at_ 0).1 (by unfold Sub; decide), by rw [repl_out _ _ _ _ (by decide)]; exact (h.at_ 0).2⟩
  · exact h
  · exact h.upd 1 (v := v &&& 0xb3ff#64) (sub_and _ _)
  · exact h.upd 2 (v := v &&& 0x222#64) (sub_and _ _)
  · exact h.upd 3 (v := v &&& 0xaaa#64) (sub_and _ _)
  · exact h.upd 3 (v := repl (c 3) v (c 2)) (sub_repl (h.at_ 3) (sub_trans s2 (by unfold Sub; decide)))
  · exact h.upd 4 (v := v &&& 0x222#64) (sub_and _ _)
  · exact h.upd 4 (v := repl (c 4) v (c 2 &&& 2#64)) (sub_repl (h.at_ 4) (sub_trans (sub_and _ _) (by unfold Sub; decide)))
  · exact h.upd 5 (v := v &&& ~~~2#64) (low_and _ _)
  · exact h.upd 11 (v := v &&& ~~~2#64) (low_and _ _)
  · exact h.upd 6 (v := v &&& 0x7f#64) (sub_and _ _)
  · exact h.upd 12 (v := v &&& 0x7f#64) (sub_and _ _)
  · exact OkS.upd (OkS.upd (h.upd 20 (v := cyc c e) trivial) 21 (v := e 0) trivial) 18 (v := v &&& 0x7d#64) (sub_and _ _)
  · exact h.upd 7 (v := v) trivial
  · exact h.upd 13 (v := v) trivial
  · exact h.upd 10 (v := v) trivial
  · exact h.upd 16 (v := v) trivial
  · exact h.upd 8 (v := v &&& ~~~3#64) (low_and _ _)
  · exact h.upd 14 (v := v &&& ~~~3#64) (low_and _ _)
  · exact h.upd 9 (v := v &&& 0x800000000000003f#64) (sub_and _ _)
  · exact h.upd 15 (v := v &&& 0x800000000000003f#64) (sub_and _ _)
  · exact h.upd 17 (ksa_ok v (h.at_ 17))
  · exact OkS.upd (h.upd 20 (v := v) trivial) 21 (v := e 0) trivial
  · exact h
  · exact h.upd 19 (v := v) trivial
  · exact h
  · exact h.upd 22 (v := kev v) (kev_ok v)
  · exact h.upd 23 (v := kev v) (kev_ok v)
  · exact h.upd 24 (v := kev v) (kev_ok v)
  · exact h.upd 25 (v := kev v) (kev_ok v)
  · exact h.upd 26 (v := v - e 3) trivial
  · exact h.upd 27 (v := v - e 4) trivial
  · exact h.upd 28 (v := v - e 5) trivial
  · exact h.upd 29 (v := v - e 6) trivial
  · exact h
  · exact h
  · exact h
  · exact h
  · exact h
  · exact h
  · exact h
  · exact h
  · exact h
  · exact h
theorem mdC_ok {c : Nat → BitVec 64} (e : Nat → BitVec 64) (n m f : Int) (x : BitVec 64) (o : Bool) (h : OkS c) : OkS (mdC c e n m f x o) := by
  unfold mdC
  split
  · next hm =>
    split
    · refine kp_ok c e n _ ?_ h
      unfold mdB at hm
      exact mayB_ex (Bool.and_eq_true_iff.1 (Bool.and_eq_true_iff.1 hm).2).2
    · exact h
  · exact okS_zero
/-- the state lies in the block C, which is new, and it is one that writes leave -/
structure Kp (w wr : World) (C : Nat) : Prop where
  out : ∃ c, OkS c ∧ On w wr ∧ w.heap.size ≤ C ∧ C < wr.heap.size ∧ wr.heap[C]? = some (.cells (cV c) 25 (0, 0))
theorem Kp.mk' {w wr : World} {C : Nat} {c : Nat → BitVec 64} (h1 : OkS c) (h2 : On w wr) (h3 : w.heap.size ≤ C) (h4 : wr.heap[C]? = some (.cells (cV c) 25 (0, 0))) : Kp w wr C := ⟨c, h1, h2, h3, blk_lt h4, h4⟩
/-- the state lies in the block C, which is new -/
structure Kq (w wr : World) (C : Nat) : Prop where
  out : ∃ c, True ∧ On w wr ∧ w.heap.size ≤ C ∧ C < wr.heap.size ∧ wr.heap[C]? = some (.cells (cV c) 25 (0, 0))
theorem Kq.mk' {w wr : World} {C : Nat} {c : Nat → BitVec 64} (h2 : On w wr) (h3 : w.heap.size ≤ C) (h4 : wr.heap[C]? = some (.cells (cV c) 25 (0, 0))) : Kq w wr C := ⟨c, trivial, h2, h3, blk_lt h4, h4⟩
theorem sub_test {x m : BitVec 64} (h : Sub x m) : (bits .andNot .u64 (u x) (u m) == 0) = true := by rw [u_andNot, h]; rfl
theorem low_test {x m : BitVec 64} (h : x &&& m = 0#64) : (bits .and .u64 (u x) (u m) == 0) = true := by rw [u_and, h]; rfl
set_option maxHeartbeats 4000000 in
set_option maxRecDepth 100000 in
theorem rmay_ok (c : Nat → BitVec 64) (h : OkS c) (w : World) : Calls Try.prog 28 #[.agg (cV c)] w fun r w' => r = .returned (.bool true) ∧ On w w' := by
  have HC : ∀ wr, On (w.alloc (.cells (cV c) 25)) wr → wr.heap[w.heap.size]? = some (.cells (cV c) 25 (0, 0)) := fun _ h => box_c h
  have c0 : ∀ wr, On (w.alloc (.cells (cV c) 25)) wr → wr.cell? ⟨w.heap.size, 0, none⟩ = some (.int .u64 (u (c 0))) := fun _ h => blk_cell (HC _ h) 0 (cV_get c 0 (by omega))
  have c1 : ∀ wr, On (w.alloc (.cells (cV c) 25)) wr → wr.cell? ⟨w.heap.size, 1, none⟩ = some (.int .u64 (u (c 1))) := fun _ h => blk_cell (HC _ h) 1 (cV_get c 1 (by omega))
  have c2 : ∀ wr, On (w.alloc (.cells (cV c) 25)) wr → wr.cell? ⟨w.heap.size, 2, none⟩ = some (.int .u64 (u (c 2))) := fun _ h => blk_cell (HC _ h) 2 (cV_get c 2 (by omega))
  have c3 : ∀ wr, On (w.alloc (.cells (cV c) 25)) wr → wr.cell? ⟨w.heap.size, 3, none⟩ = some (.int .u64 (u (c 3))) := fun _ h => blk_cell (HC _ h) 3 (cV_get c 3 (by omega))
  have c4 : ∀ wr, On (w.alloc (.cells (cV c) 25)) wr → wr.cell? ⟨w.heap.size, 4, none⟩ = some (.int .u64 (u (c 4))) := fun _ h => blk_cell (HC _ h) 4 (cV_get c 4 (by omega))
  have c5 : ∀ wr, On (w.alloc (.cells (cV c) 25)) wr → wr.cell? ⟨w.heap.size, 5, none⟩ = some (.int .u64 (u (c 5))) := fun _ h => blk_cell (HC _ h) 5 (cV_get c 5 (by omega))
  have c11 : ∀ wr, On (w.alloc (.cells (cV c) 25)) wr → wr.cell? ⟨w.heap.size, 11, none⟩ = some (.int .u64 (u (c 11))) := fun _ h => blk_cell (HC _ h) 11 (cV_get c 11 (by omega))
  have c6 : ∀ wr, On (w.alloc (.cells (cV c) 25)) wr → wr.cell? ⟨w.heap.size, 6, none⟩ = some (.int .u64 (u (c 6))) := fun _ h => blk_cell (HC _ h) 6 (cV_get c 6 (by omega))
  have c12 : ∀ wr, On (w.alloc (.cells (cV c) 25)) wr → wr.cell? ⟨w.heap.size, 12, none⟩ = some (.int .u64 (u (c 12))) := fun _ h => blk_cell (HC _ h) 12 (cV_get c 12 (by omega))
  have c8 : ∀ wr, On (w.alloc (.cells (cV c) 25)) wr → wr.cell? ⟨w.heap.size, 8, none⟩ = some (.int .u64 (u (c 8))) := fun _ h => blk_cell (HC _ h) 8 (cV_get c 8 (by omega))
  have c14 : ∀ wr, On (w.alloc (.cells (cV c) 25)) wr → wr.cell? ⟨w.heap.size, 14, none⟩ = some (.int .u64 (u (c 14))) := fun _ h => blk_cell (HC _ h) 14 (cV_get c 14 (by omega))
  have c9 : ∀ wr, On (w.alloc (.cells (cV c) 25)) wr → wr.cell? ⟨w.heap.size, 9, none⟩ = some (.int .u64 (u (c 9))) := fun _ h => blk_cell (HC _ h) 9 (cV_get c 9 (by omega))
  have c15 : ∀ wr, On (w.alloc (.cells (cV c) 25)) wr → wr.cell? ⟨w.heap.size, 15, none⟩ = some (.int .u64 (u (c 15))) := fun _ h => blk_cell (HC _ h) 15 (cV_get c 15 (by omega))
  have c17 : ∀ wr, On (w.alloc (.cells (cV c) 25)) wr → wr.cell? ⟨w.heap.size, 17, none⟩ = some (.int .u64 (u (c 17))) := fun _ h => blk_cell (HC _ h) 17 (cV_get c 17 (by omega))
  have c18 : ∀ wr, On (w.alloc (.cells (cV c) 25)) wr → wr.cell? ⟨w.heap.size, 18, none⟩ = some (.int .u64 (u (c 18))) := fun _ h => blk_cell (HC _ h) 18 (cV_get c 18 (by omega))
  have c22 : ∀ wr, On (w.alloc (.cells (cV c) 25)) wr → wr.cell? ⟨w.heap.size, 22, none⟩ = some (.int .u64 (u (c 22))) := fun _ h => blk_cell (HC _ h) 22 (cV_get c 22 (by omega))
  have c23 : ∀ wr, On (w.alloc (.cells (cV c) 25)) wr → wr.cell? ⟨w.heap.size, 23, none⟩ = some (.int .u64 (u (c 23))) := fun _ h => blk_cell (HC _ h) 23 (cV_get c 23 (by omega))
  have c24 : ∀ wr, On (w.alloc (.cells (cV c) 25)) wr → wr.cell? ⟨w.heap.size, 24, none⟩ = some (.int .u64 (u (c 24))) := fun _ h => blk_cell (HC _ h) 24 (cV_get c 24 (by omega))
  have c25 : ∀ wr, On (w.alloc (.cells (cV c) 25)) wr → wr.cell? ⟨w.heap.size, 25, none⟩ = some (.int .u64 (u (c 25))) := fun _ h => blk_cell (HC _ h) 25 (cV_get c 25 (by omega))
  have hb := On.refl (w.alloc (.cells (cV c) 25))
  have h0 := h.at_ 0
  have K : Hid (∀ w, Calls Try.prog 40 #[.int .u64 0, .int .u64 (u (c 0))] w fun e w' => e = .returned (.int .u64 (u (c 0))) ∧ w = w') := Lib.hid (fun w => by have := rkst_any 0#64 (c 0) w; rw [kst_self h0] at this; exact this)
  have t0 : (bits .and .u64 (u (c 0)) 6144 != 4096) = true := by
    rw [show (6144 : Int) = u 0x1800#64 from rfl, show (4096 : Int) = u 0x1000#64 from rfl, u_and, bne, u_beq, beq_eq_false_iff_ne.2 h0.2]; rfl
  have t1 : (bits .andNot .u64 (u (c 1)) 46079 == 0) = true := sub_test (m := 0xb3ff#64) (h.at_ 1)
  have t2 : (bits .andNot .u64 (u (c 2)) 546 == 0) = true := sub_test (m := 0x222#64) (h.at_ 2)
  have t3 : (bits .andNot .u64 (u (c 3)) 2730 == 0) = true := sub_test (m := 0xaaa#64) (h.at_ 3)
  have t4 : (bits .andNot .u64 (u (c 4)) 546 == 0) = true := sub_test (m := 0x222#64) (h.at_ 4)
  have t5 : (bits .and .u64 (u (c 5)) 2 == 0) = true := low_test (m := 2#64) (h.at_ 5)
  have t11 : (bits .and .u64 (u (c 11)) 2 == 0) = true := low_test (m := 2#64) (h.at_ 11)
  have t6 : (bits .andNot .u64 (u (c 6)) 127 == 0) = true := sub_test (m := 0x7f#64) (h.at_ 6)
  have t12 : (bits .andNot .u64 (u (c 12)) 127 == 0) = true := sub_test (m := 0x7f#64) (h.at_ 12)
  have t8 : (bits .and .u64 (u (c 8)) 3 == 0) = true := low_test (m := 3#64) (h.at_ 8)
  have t14 : (bits .and .u64 (u (c 14)) 3 == 0) = true := low_test (m := 3#64) (h.at_ 14)
  have t9 : (bits .andNot .u64 (u (c 9)) 9223372036854775871 == 0) = true := sub_test (m := 0x800000000000003f#64) (h.at_ 9)
  have t15 : (bits .andNot .u64 (u (c 15)) 9223372036854775871 == 0) = true := sub_test (m := 0x800000000000003f#64) (h.at_ 15)
  have t18 : (bits .andNot .u64 (u (c 18)) 125 == 0) = true := sub_test (m := 0x7d#64) (h.at_ 18)
  have t22 : ¬ (5 < u (c 22)) := by have : (c 22).toNat ≤ 5 := h.at_ 22; unfold u; omega
  have t23 : ¬ (5 < u (c 23)) := by have : (c 23).toNat ≤ 5 := h.at_ 23; unfold u; omega
  have t24 : ¬ (5 < u (c 24)) := by have : (c 24).toNat ≤ 5 := h.at_ 24; unfold u; omega
  have t25 : ¬ (5 < u (c 25)) := by have : (c 25).toNat ≤ 5 := h.at_ 25; unfold u; omega
  have s17 : u (c 17) / (1152921504606846976 : Int) = u (c 17 >>> 60) := by rw [← u_shr (c 17) 60]; rfl
  have h17 : c 17 >>> 60 = 0#64 ∨ c 17 >>> 60 = 8#64 := h.at_ 17
  clear h0 h HC
  go_enter Try.func28, Try.ntmps28
  go_wp2_with fail
  go_loopw [3] (fun i wr => ∃ k : Nat, k ≤ 4 ∧ i = .int .i64 k ∧ On (w.alloc (.cells (cV c) 25)) wr) (fun i _ => 4 - (intOf i).toNat)
  case atStart => exact ⟨0, by omega, rfl, hb⟩
  case round =>
    clear hb
    obtain ⟨k, hk, rfl, hb⟩ := hrel
    by_cases hk4 : k < 4
    · have h4 : k = 0 ∨ k = 1 ∨ k = 2 ∨ k = 3 := by omega
      clear K t0 s17 h17
      rcases h4 with rfl | rfl | rfl | rfl
      · go_wp2
        go_roundw
        case rel => exact ⟨1, by omega, by go_num, hb⟩
        case measure => simp [intOf]
      · go_wp2
        go_roundw
        case rel => exact ⟨2, by omega, by go_num, hb⟩
        case measure => simp [intOf]
      · go_wp2
        go_roundw
        case rel => exact ⟨3, by omega, by go_num, hb⟩
        case measure => simp [intOf]
      · go_wp2
        go_roundw
        case rel => exact ⟨4, by omega, by go_num, hb⟩
        case measure => simp [intOf]
    · obtain rfl : k = 4 := by omega
      clear hk hk4 c22 c23 c24 c25 t22 t23 t24 t25
      rcases h17 with h17 | h17
      · have t17 : (u (c 17) / (1152921504606846976 : Int) == 0) = true := by rw [s17, h17]; rfl
        clear s17 h17
        have hg : ∀ d os, On (w.alloc (.cells (cV c) 25)) (Sort.grow (redrawn wr d) os) := fun d os => hb.grow d os
        go_wp2_with fail
        simp only [List.append]
        refine wp_region_quiet_below (by kernel_rfl) (lexB_of_rows (by kernel_rfl) mayRows (by kernel_rfl) mayRows_ok) ?_
        repeat (go_big_quiet_step (first | (go_at_call 40; exact Calls.on_same (K.out _))))
        refine wpQuiet_nil ?_
        intro _ hw'
        obtain ⟨⟨dq, osq⟩, hw''⟩ := hw'
        subst hw''
        go_wp2
        go_ret
        exact ⟨rfl, ((On.refl w).alloc _).trans (hg _ _)⟩
      · have t17 : (u (c 17) / (1152921504606846976 : Int) == 0) = false := by rw [s17, h17]; rfl
        have t17' : (u (c 17) / (1152921504606846976 : Int) == 8) = true := by rw [s17, h17]; rfl
        clear s17 h17
        have hg : ∀ d os, On (w.alloc (.cells (cV c) 25)) (Sort.grow (redrawn wr d) os) := fun d os => hb.grow d os
        go_wp2_with fail
        simp only [List.append]
        refine wp_region_quiet_below (by kernel_rfl) (lexB_of_rows (by kernel_rfl) mayRows (by kernel_rfl) mayRows_ok) ?_
        repeat (go_big_quiet_step (first | (go_at_call 40; exact Calls.on_same (K.out _))))
        refine wpQuiet_nil ?_
        intro _ hw'
        obtain ⟨⟨dq, osq⟩, hw''⟩ := hw'
        subst hw''
        go_wp2
        go_ret
        exact ⟨rfl, ((On.refl w).alloc _).trans (hg _ _)⟩
end Go.Proofs.Ytoobbapdjoajgaa
