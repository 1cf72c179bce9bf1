/- The states that writes leave, as words; the reference's status. Conditions: named at each. -/
import Derived.Test.YtleolldgpoeabaaCsrP
namespace Go.Proofs.Ytleolldgpoeabaa
open Go.RowKit

/-- no bits but those of m -/
def Sub (x m : BitVec 64) : Prop := x &&& ~~~m = 0#64
theorem sub_iff {x m : BitVec 64} : Sub x m ↔ ∀ i, i < 64 → x.getLsbD i = true → m.getLsbD i = true := by
  unfold Sub
  constructor
  · intro h i hi hx
    have := congrArg (fun b => b.getLsbD i) h
    simp only [BitVec.getLsbD_and, BitVec.getLsbD_not, hi, decide_true, Bool.true_and, hx, BitVec.getLsbD_zero] at this
    cases hm : m.getLsbD i
    · rw [hm] at this; exact absurd this (by decide)
    · rfl
  · intro h
    apply BitVec.eq_of_getLsbD_eq; intro i hi
    simp only [BitVec.getLsbD_and, BitVec.getLsbD_not, hi, decide_true, Bool.true_and, BitVec.getLsbD_zero]
    cases hx : x.getLsbD i
    · rfl
    · rw [h i hi hx]; rfl
theorem sub_and (v m : BitVec 64) : Sub (v &&& m) m := sub_iff.2 fun i _ h => by
  rw [BitVec.getLsbD_and] at h; exact (Bool.and_eq_true_iff.1 h).2
theorem sub_self {x m : BitVec 64} (h : Sub x m) : x &&& m = x := by
  apply BitVec.eq_of_getLsbD_eq; intro i hi
  rw [BitVec.getLsbD_and]
  cases hx : x.getLsbD i
  · rfl
  · rw [sub_iff.1 h i hi hx]; rfl
theorem low_and (v m : BitVec 64) : (v &&& ~~~m) &&& m = 0#64 := by
  apply BitVec.eq_of_getLsbD_eq; intro i hi
  simp only [BitVec.getLsbD_and, BitVec.getLsbD_not, hi, decide_true, Bool.true_and, BitVec.getLsbD_zero]
  cases m.getLsbD i <;> simp
/-- what each cell may hold -/
def OkC (i : Nat) (v : BitVec 64) : Prop :=
  match i with
  | 0 => Sub v 0x7e19aa#64 ∧ v &&& 0x1800#64 ≠ 0x1000#64
  | 1 => Sub v 0xb3ff#64
  | 2 => Sub v 0x222#64
  | 3 => Sub v 0xaaa#64
  | 4 => Sub v 0x222#64
  | 5 => v &&& 2#64 = 0#64
  | 6 => Sub v 0x7f#64
  | 8 => v &&& 3#64 = 0#64
  | 9 => Sub v 0x800000000000003f#64
  | 11 => v &&& 2#64 = 0#64
  | 12 => Sub v 0x7f#64
  | 14 => v &&& 3#64 = 0#64
  | 15 => Sub v 0x800000000000003f#64
  | 17 => v >>> 60 = 0#64 ∨ v >>> 60 = 8#64
  | 18 => Sub v 0x7d#64
  | 22 => v.toNat ≤ 5
  | 23 => v.toNat ≤ 5
  | 24 => v.toNat ≤ 5
  | 25 => v.toNat ≤ 5
  | _ => True
structure OkS (c : Nat → BitVec 64) : Prop where
  at_ : ∀ i, OkC i (c i)
theorem OkS.upd {c : Nat → BitVec 64} (h : OkS c) (i : Nat) {v : BitVec 64} (hv : OkC i v) : OkS (upd c i v) := ⟨fun j => by
  unfold Go.Proofs.Ytleolldgpoeabaa.upd
  split
  · next hj => rw [hj]; exact hv
  · exact h.at_ j⟩
theorem kst_self {o : BitVec 64} (h : OkC 0 o) : kst 0#64 o = o := by
  obtain ⟨h1, h2⟩ := h
  unfold kst
  rw [if_neg h2, sub_self h1]
theorem kst_alt (o v : BitVec 64) : kst o v = if (v &&& 0x7e19aa#64) &&& 0x1800#64 = 0x1000#64 then ((v &&& 0x7e19aa#64) &&& ~~~0x1800#64) ||| (o &&& 0x1800#64) else v &&& 0x7e19aa#64 := by
  have h : (v &&& 0x7e19aa#64) &&& 0x1800#64 = v &&& 0x1800#64 := by
    rw [BitVec.and_assoc]; rfl
  rw [h]
  unfold kst repl
  split
  · apply BitVec.eq_of_getLsbD_eq; intro i hi
    simp only [BitVec.getLsbD_and, BitVec.getLsbD_or, BitVec.getLsbD_not, hi, decide_true, Bool.true_and]
    have hm : (0x1800#64).getLsbD i = true → (0x7e19aa#64).getLsbD i = true := by
      revert i; decide
    cases h1 : (0x1800#64).getLsbD i
    · simp
    · rw [hm h1]; simp
  · rfl
theorem rkst_any (o v : BitVec 64) (w : World) : Calls Try.prog 40 #[.int .u64 (u o), .int .u64 (u v)] w fun e w' => e = .returned (.int .u64 (u (kst o v))) ∧ w = w' := by
  have A : bits .and .u64 (u v) 8264106 = u (v &&& 0x7e19aa#64) := u_and v 0x7e19aa#64
  have B : (bits .and .u64 (u (v &&& 0x7e19aa#64)) 6144 == 4096) = ((v &&& 0x7e19aa#64) &&& 0x1800#64 == 0x1000#64) := by rw [show (6144 : Int) = u 0x1800#64 from rfl, show (4096 : Int) = u 0x1000#64 from rfl, u_and, u_beq]
  by_cases h : (v &&& 0x7e19aa#64) &&& 0x1800#64 = 0x1000#64
  · replace B : (bits .and .u64 (u (v &&& 0x7e19aa#64)) 6144 == 4096) = true := by rw [B]; simpa using h
    have H : Hid (bits .or .u64 (bits .andNot .u64 (u (v &&& 0x7e19aa#64)) 6144) (bits .and .u64 (u o) 6144) = u (kst o v)) := Lib.hid (by
      rw [show (6144 : Int) = u 0x1800#64 from rfl, u_andNot, u_and, u_or, kst_alt, if_pos h])
    clear h
    go_enter Try.func40, Try.ntmps40
    go_wp2
    go_ret
    exact ⟨by rw [← H.out]; rfl, rfl⟩
  · replace B : (bits .and .u64 (u (v &&& 0x7e19aa#64)) 6144 == 4096) = false := by rw [B]; simpa using h
    have H : Hid (u (v &&& 0x7e19aa#64) = u (kst o v)) := Lib.hid (by rw [kst_alt, if_neg h])
    clear h
    go_enter Try.func40, Try.ntmps40
    go_wp2
    go_ret
    exact ⟨by rw [← H.out]; rfl, rfl⟩
theorem sub_test {x m : BitVec 64} (h : Sub x m) : (bits .andNot .u64 (u x) (u m) == 0) = true := by rw [u_andNot, h]; rfl
theorem low_test {x m : BitVec 64} (h : x &&& m = 0#64) : (bits .and .u64 (u x) (u m) == 0) = true := by rw [u_and, h]; rfl
theorem sub_fall {x m : BitVec 64} (h : ¬ Sub x m) : (bits .andNot .u64 (u x) (u m) == 0) = false := by
  rw [u_andNot, show (0 : Int) = u 0#64 from rfl, u_beq]; unfold Sub at h; simpa using h
theorem low_fall {x m : BitVec 64} (h : ¬ x &&& m = 0#64) : (bits .and .u64 (u x) (u m) == 0) = false := by
  rw [u_and, show (0 : Int) = u 0#64 from rfl, u_beq]; simpa using h
theorem box_cM {w wr : World} {c : Nat → BitVec 64} (h : On (w.alloc (.cells (cV c) 26)) wr) : wr.heap[w.heap.size]? = some (.cells (cV c) 26 (0, 0)) := h.keep (heap_alloc_new _ _)
theorem okC_0 {v : BitVec 64} (h0 : kst 0#64 v = v) (h1 : ¬ v &&& 0x1800#64 = 0x1000#64) : OkC 0 v := by
  refine ⟨?_, h1⟩
  unfold kst at h0
  rw [if_neg h1] at h0
  have := sub_and v 0x7e19aa#64
  rw [h0] at this; exact this
end Go.Proofs.Ytleolldgpoeabaa
