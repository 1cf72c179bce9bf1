/- What the laws of package amo ask of words, the first test of each law, granules, and closures. Conditions: named at each. -/
import Derived.Test.YthafghechghbpaaAmoP
import Derived.Test.YthafghechghbpaaOn
import Derived.Test.YthafghechghbpaaBut
namespace Go.Proofs.Ythafghechghbpaa
open Go.RowKit

theorem gran_u (a : BitVec 64) : IntKind.u64.wrap (u a - u a % 8) = u (a - a % 8#64) := by
  rw [show u a % 8 = u (a % 8#64) from u_mod a 8#64, u_sub]
theorem granule_any (a : BitVec 64) (w : World) :
    Calls Try.prog 16 #[.int .u64 (u a)] w fun e w' => e = .returned (.int .u64 (u (a - a % 8#64))) ∧ w = w' := by
  have H : Hid (IntKind.u64.wrap (u a - u a % 8) = u (a - a % 8#64)) := Lib.hid (gran_u a)
  have h := u_nonneg a
  go_enter Try.func16, Try.ntmps16
  go_wp2
  go_ret
  exact ⟨by rw [← H.out]; rfl, rfl⟩
theorem rgranule_any (a : BitVec 64) (w : World) :
    Calls Try.prog 17 #[.int .u64 (u a)] w fun e w' => e = .returned (.int .u64 (u (a - a % 8#64))) ∧ w = w' := by
  have H : Hid (IntKind.u64.wrap (u a - u a % 8) = u (a - a % 8#64)) := Lib.hid (gran_u a)
  have h := u_nonneg a
  go_enter Try.func17, Try.ntmps17
  go_wp2
  go_ret
  exact ⟨by rw [← H.out]; rfl, rfl⟩
theorem new_08 (w : World) :
    Calls Try.prog 9 #[.int .i64 0, .int .i64 8, .int .u64 2, .int .u64 3] w fun e w' => e = .returned (.tuple #[.int .u64 5, .int .i64 0]) ∧ w = w' := by
  have h := new_any 0 8 2#64 3#64 w
  rw [show u 2#64 = 2 from rfl, show u 3#64 = 3 from rfl, show u (amV 0 8 2#64 3#64) = 5 by decide, show amE 0 8 = 0 by decide] at h
  exact h
theorem gran_15 (w : World) :
    Calls Try.prog 16 #[.int .u64 15] w fun e w' => e = .returned (.int .u64 8) ∧ w = w' := by
  have h := granule_any 15#64 w
  rw [show u 15#64 = 15 from rfl, show u (15#64 - 15#64 % 8#64) = 8 by decide] at h
  exact h
theorem awake6_yes (w : World) : Calls Try.prog 11 #[] w fun e w' => e = .returned (.bool true) ∧ w = w' := by
  go_enter Try.func11, Try.ntmps11
  go_wp2_with (first | (go_at_call 9; refine (new_08 _).mono ?_; rintro e w' ⟨rfl, rfl⟩) | (go_at_call 16; refine (gran_15 _).mono ?_; rintro e w' ⟨rfl, rfl⟩))
  go_ret
  exact ⟨rfl, rfl⟩
/-! ### twice extended -/
theorem ext_z (v : BitVec 64) (z : Int) (h : z = 1 ∨ z = 2 ∨ z = 4 ∨ z = 8) : ext v z true = sxt v (8 * z) ∧ ext v z false = zxt v (8 * z) := by
  unfold ext; rw [if_pos h, if_pos h]; exact ⟨rfl, rfl⟩
theorem sxt_low (v : BitVec 64) (n : Int) (i : Nat) (hi : (i : Int) < n) (hi2 : i < 64) : (sxt v n).getLsbD i = v.getLsbD i := by rw [sxt_bit _ _ _ hi2, if_pos hi]
theorem zxt_low (v : BitVec 64) (n : Int) (i : Nat) (hi : (i : Int) < n) : (zxt v n).getLsbD i = v.getLsbD i := by rw [zxt_bit, decide_eq_true hi, Bool.true_and]
theorem zxt_of (v x : BitVec 64) (n : Int) (h : ∀ i : Nat, (i : Int) < n → i < 64 → v.getLsbD i = x.getLsbD i) : zxt v n = zxt x n := by
  apply BitVec.eq_of_getLsbD_eq; intro i hi
  rw [zxt_bit, zxt_bit]
  by_cases c : (i : Int) < n
  · rw [h i c hi]
  · rw [decide_eq_false c]; rfl
theorem sxt_of (v x : BitVec 64) (n : Int) (h1 : 1 ≤ n) (h2 : n ≤ 64) (h : ∀ i : Nat, (i : Int) < n → i < 64 → v.getLsbD i = x.getLsbD i) : sxt v n = sxt x n := by
  apply BitVec.eq_of_getLsbD_eq; intro i hi
  rw [sxt_bit _ _ _ hi, sxt_bit _ _ _ hi]
  by_cases c : (i : Int) < n
  · rw [if_pos c, if_pos c, h i c hi]
  · rw [if_neg c, if_neg c, h (n - 1).toNat (by omega) (by omega)]
theorem ss (v : BitVec 64) (z : Int) (h : z = 1 ∨ z = 2 ∨ z = 4 ∨ z = 8) : ext (ext v z true) z true = ext v z true := by
  rw [(ext_z (ext v z true) z h).1, (ext_z v z h).1]
  exact sxt_of _ _ _ (by omega) (by omega) fun i hi h2 => sxt_low v _ i hi h2
theorem sz (v : BitVec 64) (z : Int) (h : z = 1 ∨ z = 2 ∨ z = 4 ∨ z = 8) : ext (ext v z true) z false = ext v z false := by
  rw [(ext_z (ext v z true) z h).2, (ext_z v z h).1, (ext_z v z h).2]
  exact zxt_of _ _ _ fun i hi h2 => sxt_low v _ i hi h2
theorem zs (v : BitVec 64) (z : Int) (h : z = 1 ∨ z = 2 ∨ z = 4 ∨ z = 8) : ext (ext v z false) z true = ext v z true := by
  rw [(ext_z (ext v z false) z h).1, (ext_z v z h).1, (ext_z v z h).2]
  exact sxt_of _ _ _ (by omega) (by omega) fun i hi h2 => zxt_low v _ i hi
theorem zxt_shr (v : BitVec 64) (n : Nat) : (u (zxt v n) / 2 ^ n == 0) = true := by
  rw [u_shr, show (0 : Int) = u 0 from rfl, u_beq, beq_iff_eq]
  apply BitVec.eq_of_getLsbD_eq; intro i hi
  rw [BitVec.getLsbD_ushiftRight, zxt_bit, decide_eq_false (by omega)]; simp
theorem ext_8 (v : BitVec 64) : ext v 8 true = v ∧ ext v 8 false = v := by
  obtain ⟨h1, h2⟩ := ext_z v 8 (by omega)
  rw [h1, h2]
  exact ⟨sxt_64 v, zxt_64 v⟩
theorem and3 (k : Int) : ∃ j : Int, (j = 0 ∨ j = 1 ∨ j = 2 ∨ j = 3) ∧ bits .and .i64 k 3 = j := by
  refine ⟨bits .and .i64 k 3, ?_, rfl⟩
  have h : bits .and .i64 k 3 = IntKind.i64.wrap ((BitVec.ofInt 64 k &&& 3#64).toNat : Int) := rfl
  have h2 : (BitVec.ofInt 64 k &&& 3#64).toNat ≤ 3 := by rw [BitVec.toNat_and]; exact Nat.and_le_right
  generalize (BitVec.ofInt 64 k &&& 3#64).toNat = n at h h2
  rw [h, IntWalk.i64_left, IntWalk.wrap64_in _ (by omega)]
  omega
/-! ### in either order; twice -/
theorem slt_both {n : Nat} (a b : BitVec n) (h1 : a.slt b = false) (h2 : b.slt a = false) : a = b := by
  unfold BitVec.slt at h1 h2
  simp only [decide_eq_false_iff_not] at h1 h2
  exact BitVec.eq_of_toInt_eq (by omega)
theorem ult_both {n : Nat} (a b : BitVec n) (h1 : a.ult b = false) (h2 : b.ult a = false) : a = b := by
  unfold BitVec.ult at h1 h2
  simp only [decide_eq_false_iff_not] at h1 h2
  exact BitVec.eq_of_toNat_eq (by omega)
theorem slt_not {n : Nat} (a b : BitVec n) (h1 : a.slt b = true) : b.slt a = false := by
  unfold BitVec.slt at *
  simp only [decide_eq_false_iff_not, decide_eq_true_eq] at *
  omega
theorem ult_not {n : Nat} (a b : BitVec n) (h1 : a.ult b = true) : b.ult a = false := by
  unfold BitVec.ult at *
  simp only [decide_eq_false_iff_not, decide_eq_true_eq] at *
  omega
theorem slt_self {n : Nat} (a : BitVec n) : a.slt a = false := by unfold BitVec.slt; simp
theorem ult_self {n : Nat} (a : BitVec n) : a.ult a = false := by unfold BitVec.ult; simp
theorem amB_comm {n : Nat} (f : Int) (h : f ≠ 1) (a b : BitVec n) : amB f a b = amB f b a := by
  unfold amB
  rw [if_neg h, if_neg h]
  repeat' split
  all_goals first
    | rfl
    | exact BitVec.add_comm _ _
    | exact BitVec.xor_comm _ _
    | exact BitVec.or_comm _ _
    | exact BitVec.and_comm _ _
    | (next c d => rw [slt_not _ _ c] at d; cases d)
    | (next c d => rw [ult_not _ _ c] at d; cases d)
    | (next c d => exact slt_both _ _ (by simpa using c) (by simpa using d))
    | (next c d => exact (slt_both _ _ (by simpa using c) (by simpa using d)).symm)
    | (next c d => exact ult_both _ _ (by simpa using c) (by simpa using d))
    | (next c d => exact (ult_both _ _ (by simpa using c) (by simpa using d)).symm)
theorem amB_again {n : Nat} (f : Int) (h0 : f ≠ 0) (h4 : f ≠ 4) (a b : BitVec n) : amB f (amB f a b) b = amB f a b := by
  unfold amB
  by_cases h1 : f = 1
  · rw [if_pos h1]; rw [if_pos h1]
  · simp only [if_neg h1, if_neg h0, if_neg h4]
    by_cases h8 : f = 8
    · simp only [if_pos h8]; rw [BitVec.or_assoc, BitVec.or_self]
    · by_cases h12 : f = 12
      · simp only [if_neg h8, if_pos h12]; rw [BitVec.and_assoc, BitVec.and_self]
      · simp only [if_neg h8, if_neg h12]
        by_cases h16 : f = 16
        · simp only [if_pos h16]
          cases c : a.slt b <;> simp [c, slt_self]
        · by_cases h20 : f = 20
          · simp only [if_neg h16, if_pos h20]
            cases c : a.slt b <;> simp [c, slt_self]
          · by_cases h24 : f = 24
            · simp only [if_neg h16, if_neg h20, if_pos h24]
              cases c : a.ult b <;> simp [c, ult_self]
            · by_cases h28 : f = 28
              · simp only [if_neg h16, if_neg h20, if_neg h24, if_pos h28]
                cases c : a.ult b <;> simp [c, ult_self]
              · simp only [if_neg h16, if_neg h20, if_neg h24, if_neg h28]
theorem xor_again {n : Nat} (a b : BitVec n) : amB 4 (amB 4 a b) b = a := by
  show a ^^^ b ^^^ b = a
  rw [BitVec.xor_assoc, BitVec.xor_self, BitVec.xor_zero]
theorem amV_comm (f z : Int) (h : f ≠ 1) (a b : BitVec 64) : amV f z a b = amV f z b a := by
  unfold amV amz
  rw [amB_comm f h a b, amB_comm f h (lo32 a) (lo32 b)]
theorem amV_again (f z : Int) (h0 : f ≠ 0) (h4 : f ≠ 4) (a b : BitVec 64) : amV f z (amV f z a b) b = amV f z a b := by
  unfold amV
  by_cases c : (z = 4 ∨ z = 8) ∧ amF f = true
  · simp only [if_pos c]
    unfold amz
    by_cases d : z = 8
    · simp only [if_pos d]; exact amB_again f h0 h4 a b
    · simp only [if_neg d]; rw [lo_zx, amB_again f h0 h4]
  · simp only [if_neg c]
theorem amV_back (z : Int) (h : z = 4 ∨ z = 8) (a b : BitVec 64) : amV 4 z (amV 4 z a b) b = ext a z false := by
  rw [amV_yes 4 z _ _ h rfl, amV_yes 4 z _ _ h rfl]
  rcases h with rfl | rfl
  · rw [amz_4, amz_4, lo_zx, xor_again, (ext_z a 4 (by omega)).2]; exact (zxt_32 a).symm
  · rw [amz_8, amz_8, xor_again, (ext_8 a).2]
theorem amV_top (f : Int) (a b : BitVec 64) : (u (amV f 4 a b) / 4294967296 == 0) = true := by
  have h := u_lt (amV f 4 a b)
  have : u (amV f 4 a b) < 4294967296 := by
    unfold amV
    split
    · rw [amz_4, u_zx]; exact q_lt _
    · decide
  have h0 := u_nonneg (amV f 4 a b)
  rw [beq_iff_eq]; omega
end Go.Proofs.Ythafghechghbpaa
