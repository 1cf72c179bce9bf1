/- Words of 64 bits as package alu makes them: sums, shifts, comparisons, with words of 32 bits, too. Plain lemmas, no program. Conditions: none. -/
import Derived.Test.YthafghechghbpaaHalf
namespace Go.Proofs.Ythafghechghbpaa
open Go.RowKit

/-- the amount of a shift -/
def amt (b : BitVec 64) (n : Nat) : Nat := b.toNat % n
/-- a truth as a word -/
def tr (p : Bool) : BitVec 64 := if p then 1 else 0
/-- shifted right with the sign -/
def sar (a : BitVec 64) (n : Nat) : BitVec 64 := a.sshiftRight n
/-- a word of 32 bits with its sign above -/
def s32 (v : BitVec 64) : BitVec 64 := (lo32 v).signExtend 64
/-- what Alu answers of words of 64 bits -/
def alW (f : Int) (a b : BitVec 64) : BitVec 64 :=
  if f = 0 then a + b else if f = 8 then a - b else if f = 1 then a <<< amt b 64 else if f = 5 then a >>> amt b 64
  else if f = 13 then sar a (amt b 64) else if f = 2 then tr (a.slt b) else if f = 3 then tr (a.ult b)
  else if f = 4 then a ^^^ b else if f = 6 then a ||| b else if f = 7 then a &&& b else 0
/-- .. of words of 32 bits -/
def alN (f : Int) (a b : BitVec 64) : BitVec 64 :=
  if f = 0 then s32 (a + b) else if f = 8 then s32 (a - b) else if f = 1 then s32 (a <<< amt b 32)
  else if f = 5 then s32 (zx (lo32 a) >>> amt b 32) else if f = 13 then s32 (sar (s32 a) (amt b 32)) else 0
/-- .. of both -/
def al (f : Int) (word : Bool) (a b : BitVec 64) : BitVec 64 := if word then alN f a b else alW f a b

theorem sxt_s32 (v : BitVec 64) : sxt v 32 = s32 v := by
  apply BitVec.eq_of_getLsbD_eq; intro i hi
  rw [sxt_bit _ _ _ hi]
  unfold s32 lo32
  rw [BitVec.getLsbD_signExtend, BitVec.msb_eq_getLsbD_last, BitVec.getLsbD_setWidth, BitVec.getLsbD_setWidth]
  by_cases h : i < 32
  · have : (i : Int) < 32 := by omega
    simp [h, this, hi]
  · have : ¬ (i : Int) < 32 := by omega
    simp [h, this, hi]
theorem lo32_s32 (v : BitVec 64) : lo32 (s32 v) = lo32 v := by
  unfold s32; apply BitVec.eq_of_getLsbD_eq; intro i hi
  rw [lo32_bit, BitVec.getLsbD_signExtend]; simp [hi]; intro; omega
theorem s32_s32 (v : BitVec 64) : s32 (s32 v) = s32 v := by
  show (lo32 (s32 v)).signExtend 64 = _; rw [lo32_s32]; rfl
theorem s32_of {v w : BitVec 64} (h : lo32 v = lo32 w) : s32 v = s32 w := by unfold s32; rw [h]
theorem lo_add (a b : BitVec 64) : lo32 (a + b) = lo32 a + lo32 b := by unfold lo32; exact BitVec.setWidth_add _ _ (by omega)
theorem lo_neg (a : BitVec 64) : lo32 (-a) = -lo32 a := by
  unfold lo32; apply BitVec.eq_of_toNat_eq; simp only [BitVec.toNat_setWidth, BitVec.toNat_neg]; have := a.isLt; omega
theorem lo_sub (a b : BitVec 64) : lo32 (a - b) = lo32 a - lo32 b := by
  rw [BitVec.sub_eq_add_neg, lo_add, lo_neg, ← BitVec.sub_eq_add_neg]
theorem lo_shl (a : BitVec 64) (n : Nat) : lo32 (a <<< n) = lo32 a <<< n := by
  apply BitVec.eq_of_getLsbD_eq; intro i hi
  rw [lo32_bit, BitVec.getLsbD_shiftLeft, BitVec.getLsbD_shiftLeft, lo32_bit]
  by_cases h : i < n
  · simp [h]
  · have a1 : i < 64 := by omega
    have a2 : i - n < 32 := by omega
    simp [h, hi, a1, a2]
/-- the sum, of what has its sign above -/
theorem add_s32 (a b : BitVec 64) : s32 (s32 a + b) = s32 (a + b) := s32_of (by rw [lo_add, lo32_s32, ← lo_add])
theorem sub_s32 (a b : BitVec 64) : s32 (s32 a - b) = s32 (a - b) := s32_of (by rw [lo_sub, lo32_s32, ← lo_sub])
theorem shl_s32 (a : BitVec 64) (n : Nat) : s32 (s32 a <<< n) = s32 (a <<< n) := s32_of (by rw [lo_shl, lo32_s32, ← lo_shl])
theorem amt_lt (b : BitVec 64) (n : Nat) (h : 0 < n) : amt b n < n := Nat.mod_lt _ h
theorem amt_int (b : BitVec 64) (n : Nat) : u b % (n : Int) = (amt b n : Nat) := by unfold u amt; omega
theorem amt_64_32 (v : BitVec 64) (n : Nat) (h : u v = (n : Int)) (hn : n < 64) : amt v 64 = n := by unfold u amt at *; omega
theorem u_modw (b : BitVec 64) (n : Nat) (h : n < 2 ^ 64) : u b % (n : Int) = u (b % BitVec.ofNat 64 n) := by
  unfold u; rw [BitVec.toNat_umod, BitVec.toNat_ofNat, Nat.mod_eq_of_lt h]; omega
theorem amt_mod (b : BitVec 64) : amt (b % 32#64) 64 = amt b 32 := by
  unfold amt; rw [BitVec.toNat_umod]; have : (32#64).toNat = 32 := rfl
  rw [this]; omega
theorem u_tr (p : Bool) : u (tr p) = if p then 1 else 0 := by cases p <;> rfl
theorem sg_lt (a b : BitVec 64) : decide (sg a < sg b) = a.slt b := rfl
theorem u_ltb (a b : BitVec 64) : decide (u a < u b) = a.ult b := by
  unfold u BitVec.ult; rw [decide_eq_decide]; omega
theorem sg_shr (a : BitVec 64) (n : Nat) : sg a / 2 ^ n = sg (sar a n) := by
  unfold sg sar; rw [BitVec.toInt_sshiftRight, Int.shiftRight_eq_div_pow]; simp
theorem wrap_u_sg (a : BitVec 64) : IntKind.u64.wrap (sg a) = u a := by rw [wrap_wd, wd_sg]
theorem i32_wrap (n : Int) : IntKind.i32.wrap n = (BitVec.ofInt 32 n).toInt := by
  simp [IntKind.wrap, IntKind.bits, IntKind.signed, BitVec.toInt_ofInt, Int.bmod_def]
  omega
/-- uint64(int32(v)) -/
theorem wrap_s32 (v : BitVec 64) : IntKind.u64.wrap (IntKind.i32.wrap (u v)) = u (s32 v) := by
  rw [i32_wrap, wrap_wd]
  have : BitVec.ofInt 32 (u v) = lo32 v := by unfold u lo32; rw [BitVec.ofInt_natCast]; rfl
  rw [this]; unfold wd64 s32; rfl
theorem neg_u (b : BitVec 64) : IntKind.u64.wrap (-u b) = u (-b) := by
  rw [wrap_wd]; congr 1; unfold wd64; rw [BitVec.ofInt_neg]; congr 1; exact ofInt_u b
/-- the highest bit turned, without signs -/
theorem slt_turned (a b : BitVec 64) : (a ^^^ ((1 : BitVec 64) <<< 63)).ult (b ^^^ ((1 : BitVec 64) <<< 63)) = a.slt b := by
  have hs : a.slt b = decide (a.toInt < b.toInt) := rfl
  rw [hs, BitVec.toInt_eq_toNat_cond, BitVec.toInt_eq_toNat_cond]
  have key : ∀ v : BitVec 64, (v ^^^ ((1 : BitVec 64) <<< 63)).toNat = if v.getLsbD 63 then v.toNat - 2 ^ 63 else v.toNat + 2 ^ 63 := by
    intro v
    have h1 : v ^^^ ((1 : BitVec 64) <<< 63) = v + ((1 : BitVec 64) <<< 63) := by
      apply BitVec.eq_of_toNat_eq
      have e1 : ((1 : BitVec 64) <<< 63).toNat = 2 ^ 63 := by decide
      rw [BitVec.toNat_xor, BitVec.toNat_add, e1]
      have hb : v.toNat = (v.toNat % 2 ^ 63) + 2 ^ 63 * (v.toNat / 2 ^ 63) := by omega
      have hq : v.toNat / 2 ^ 63 = 0 ∨ v.toNat / 2 ^ 63 = 1 := by have := v.isLt; omega
      apply Nat.eq_of_testBit_eq; intro i
      rw [Nat.testBit_xor, Nat.testBit_two_pow]
      rcases hq with hq | hq
      · have hlt : v.toNat < 2 ^ 63 := by omega
        rw [Nat.mod_eq_of_lt (by omega : v.toNat + 2 ^ 63 < 2 ^ 64), Nat.add_comm, ]
        rcases Nat.lt_trichotomy i 63 with h | h | h
        · rw [Nat.testBit_two_pow_add_gt h]; have : ¬ 63 = i := by omega
          simp [this]
        · subst h; rw [Nat.testBit_two_pow_add_eq, Nat.testBit_lt_two_pow hlt]; simp
        · have a1 : v.toNat.testBit i = false := Nat.testBit_lt_two_pow (Nat.lt_of_lt_of_le hlt (Nat.pow_le_pow_right (by omega) (by omega)))
          have a2 : (2 ^ 63 + v.toNat).testBit i = false := Nat.testBit_lt_two_pow (Nat.lt_of_lt_of_le (by omega : 2 ^ 63 + v.toNat < 2 ^ 64) (Nat.pow_le_pow_right (by omega) (by omega)))
          rw [a1, a2]; simp; omega
      · obtain ⟨r, hr⟩ : ∃ r, v.toNat = 2 ^ 63 + r := ⟨v.toNat - 2 ^ 63, by omega⟩
        have hlt : r < 2 ^ 63 := by have := v.isLt; omega
        rw [hr, show (2 ^ 63 + r + 2 ^ 63) % 2 ^ 64 = r by omega]
        rcases Nat.lt_trichotomy i 63 with h | h | h
        · rw [Nat.testBit_two_pow_add_gt h]; have : ¬ 63 = i := by omega
          simp [this]
        · subst h; rw [Nat.testBit_two_pow_add_eq, Nat.testBit_lt_two_pow hlt]; simp
        · have a1 : r.testBit i = false := Nat.testBit_lt_two_pow (Nat.lt_of_lt_of_le hlt (Nat.pow_le_pow_right (by omega) (by omega)))
          have a2 : (2 ^ 63 + r).testBit i = false := Nat.testBit_lt_two_pow (Nat.lt_of_lt_of_le (by omega : 2 ^ 63 + r < 2 ^ 64) (Nat.pow_le_pow_right (by omega) (by omega)))
          rw [a1, a2]; simp; omega
    have e1 : ((1 : BitVec 64) <<< 63).toNat = 2 ^ 63 := by decide
    have h2 : v.getLsbD 63 = decide (2 ^ 63 ≤ v.toNat) := by
      rw [← BitVec.testBit_toNat, Nat.testBit_eq_decide_div_mod_eq, decide_eq_decide]; have := v.isLt; omega
    rw [h1, BitVec.toNat_add, e1, h2]
    have := v.isLt
    by_cases h : 2 ^ 63 ≤ v.toNat
    · simp only [h, decide_true, if_true]; omega
    · simp only [h, decide_false]; simp; omega
  have bit : ∀ v : BitVec 64, v.getLsbD 63 = decide (2 ^ 63 ≤ v.toNat) := by
    intro v; rw [← BitVec.testBit_toNat, Nat.testBit_eq_decide_div_mod_eq, decide_eq_decide]; have := v.isLt; omega
  unfold BitVec.ult
  rw [key, key, bit, bit, decide_eq_decide]
  have := a.isLt; have := b.isLt
  by_cases h1 : 2 ^ 63 ≤ a.toNat <;> by_cases h2 : 2 ^ 63 ≤ b.toNat <;> simp only [h1, h2, decide_true, decide_false, if_true, Bool.false_eq_true, if_false] <;> (repeat' split) <;> omega
theorem u_turn (a : BitVec 64) : bits .xor .u64 (u a) 9223372036854775808 = u (a ^^^ ((1 : BitVec 64) <<< 63)) := by rw [show (9223372036854775808 : Int) = u ((1 : BitVec 64) <<< 63) by decide +kernel, u_xor]
theorem xor_ways (a b : BitVec 64) : (a ||| b) &&& ~~~(a &&& b) = a ^^^ b := by
  apply BitVec.eq_of_getLsbD_eq; intro i hi
  simp only [BitVec.getLsbD_and, BitVec.getLsbD_or, BitVec.getLsbD_not, BitVec.getLsbD_xor, hi, decide_true, Bool.true_and]
  cases a.getLsbD i <;> cases b.getLsbD i <;> rfl
theorem sxt_top (v : BitVec 64) : sxt v 64 = v := by
  apply BitVec.eq_of_getLsbD_eq; intro i hi; rw [sxt_bit _ _ _ hi, if_pos (by omega)]

/-! ### one by one, as the reference does -/
theorem up_step (a : BitVec 64) (k : Nat) : a <<< k + a <<< k = a <<< (k + 1) := by
  apply BitVec.eq_of_toNat_eq
  rw [BitVec.toNat_add, BitVec.toNat_shiftLeft, BitVec.toNat_shiftLeft, Nat.shiftLeft_eq, Nat.shiftLeft_eq, show a.toNat * 2 ^ (k + 1) = a.toNat * 2 ^ k * 2 by rw [Nat.pow_succ, Nat.mul_assoc]]
  generalize a.toNat * 2 ^ k = x
  omega
theorem down_step (a : BitVec 64) (k : Nat) : u (a >>> k) / 2 = u (a >>> (k + 1)) := by
  rw [show (2 : Int) = 2 ^ 1 from rfl, u_shr, BitVec.shiftRight_add]
/-- .. with the sign, of 64 bits -/
theorem sar_zero (a : BitVec 64) : sar a 0 = a := by unfold sar; simp
theorem sar_top (a : BitVec 64) (k : Nat) : (sar a k).getLsbD 63 = a.getLsbD 63 := by
  unfold sar; rw [BitVec.getLsbD_sshiftRight, BitVec.msb_eq_getLsbD_last]
  by_cases h : k = 0
  · subst h; simp
  · simp [show ¬ k + 63 < 64 by omega]
theorem sar_step0 (a : BitVec 64) (k : Nat) (h : a.getLsbD 63 = false) : sar a k >>> 1 = sar a (k + 1) := by
  apply BitVec.eq_of_getLsbD_eq; intro i hi
  unfold sar
  rw [BitVec.getLsbD_ushiftRight, BitVec.getLsbD_sshiftRight, BitVec.getLsbD_sshiftRight, BitVec.msb_eq_getLsbD_last, h, show k + (1 + i) = k + 1 + i by omega]
  have hi' : ¬ 64 ≤ i := by omega
  by_cases h1 : 64 ≤ 1 + i
  · have h2 : ¬ k + 1 + i < 64 := by omega
    simp [hi', h1, h2]
  · simp [hi', h1]
theorem sar_step1 (a : BitVec 64) (k : Nat) (h : a.getLsbD 63 = true) : sar a k >>> 1 ||| (1 : BitVec 64) <<< 63 = sar a (k + 1) := by
  apply BitVec.eq_of_getLsbD_eq; intro i hi
  unfold sar
  rw [BitVec.getLsbD_or, BitVec.getLsbD_ushiftRight, BitVec.getLsbD_sshiftRight, BitVec.getLsbD_sshiftRight, one_shl_bit, BitVec.msb_eq_getLsbD_last, h, show k + (1 + i) = k + 1 + i by omega]
  by_cases e : i = 63
  · subst e; simp; 
  · have hi' : ¬ 64 ≤ i := by omega
    have hi2 : ¬ 64 ≤ 1 + i := by omega
    simp [hi', hi2, e]
/-- .. of 32 -/
def sar32 (a : BitVec 64) (k : Nat) : BitVec 64 := zx ((lo32 a).sshiftRight k)
theorem sar32_zero (a : BitVec 64) : sar32 a 0 = zx (lo32 a) := by unfold sar32; simp
theorem sar32_bit (a : BitVec 64) (k i : Nat) : (sar32 a k).getLsbD i = (decide (i < 32) && if k + i < 32 then a.getLsbD (k + i) else a.getLsbD 31) := by
  unfold sar32
  rw [zx_bit, BitVec.getLsbD_sshiftRight, BitVec.msb_eq_getLsbD_last, lo32_bit, lo32_bit]
  by_cases h : i < 32
  · have : ¬ 32 ≤ i := by omega
    by_cases h2 : k + i < 32 <;> simp [this, h2, h]
  · have : 32 ≤ i := by omega
    simp [h, this]
theorem sar32_top (a : BitVec 64) (k : Nat) : (sar32 a k).getLsbD 31 = a.getLsbD 31 := by
  rw [sar32_bit]; by_cases h : k + 31 < 32
  · rw [show k + 31 = 31 by omega]; simp
  · simp [h]
theorem sar32_step0 (a : BitVec 64) (k : Nat) (h : a.getLsbD 31 = false) : sar32 a k >>> 1 = sar32 a (k + 1) := by
  apply BitVec.eq_of_getLsbD_eq; intro i hi
  rw [BitVec.getLsbD_ushiftRight, sar32_bit, sar32_bit, h, show k + (1 + i) = k + 1 + i by omega]
  by_cases h1 : 1 + i < 32
  · have h2 : i < 32 := by omega
    simp [h1, h2]
  · by_cases h2 : i < 32
    · have h3 : ¬ k + 1 + i < 32 := by omega
      simp [h1, h3]
    · simp [h1, h2]
theorem sar32_step1 (a : BitVec 64) (k : Nat) (h : a.getLsbD 31 = true) : sar32 a k >>> 1 ||| (1 : BitVec 64) <<< 31 = sar32 a (k + 1) := by
  apply BitVec.eq_of_getLsbD_eq; intro i hi
  rw [BitVec.getLsbD_or, BitVec.getLsbD_ushiftRight, sar32_bit, sar32_bit, h, one_shl_bit, show k + (1 + i) = k + 1 + i by omega]
  by_cases h1 : 1 + i < 32
  · have h2 : i < 32 := by omega
    have h4 : i ≠ 31 := by omega
    simp [h1, h2, h4]
  · by_cases h2 : i < 32
    · have h3 : ¬ k + 1 + i < 32 := by omega
      have h4 : i = 31 := by omega
      simp [h4]
    · have h4 : i ≠ 31 := by omega
      simp [h1, h2, h4]
theorem fld_lo (a : BitVec 64) : fld a 31 0 = zx (lo32 a) := by
  apply BitVec.eq_of_getLsbD_eq; intro i hi
  rw [fld_bit, zx_bit, lo32_bit]
  have : decide (Ends 31 0 ∧ (i : Int) ≤ 31 - 0) = decide (i < 32) := by rw [decide_eq_decide]; unfold Ends; omega
  rw [this]; simp
theorem lo_zx_lo (a : BitVec 64) : lo32 (zx (lo32 a)) = lo32 a := lo_zx _
/-- what the program makes of Sra, and the reference -/
theorem sar_both (a : BitVec 64) (n : Nat) (hn : n < 32) : s32 (sar (s32 a) n) = s32 (sar32 (zx (lo32 a)) n) := by
  apply s32_of
  apply BitVec.eq_of_getLsbD_eq; intro i hi
  rw [lo32_bit, lo32_bit, sar32_bit, zx_bit, zx_bit, lo32_bit, lo32_bit]
  unfold sar
  rw [BitVec.getLsbD_sshiftRight, ← sxt_s32, sxt_bit _ _ _ (by omega), BitVec.msb_eq_getLsbD_last, sxt_bit _ _ _ (by omega)]
  have e1 : ¬ 64 ≤ i := by omega
  have e2 : n + i < 64 := by omega
  by_cases h : n + i < 32
  · simp [hi, e1, e2, h]; intro; omega
  · simp [hi, e1, e2, h]; intro; omega
theorem alW_none (f : Int) (a b : BitVec 64) (h0 : f ≠ 0) (h1 : f ≠ 1) (h2 : f ≠ 2) (h3 : f ≠ 3) (h4 : f ≠ 4) (h5 : f ≠ 5) (h6 : f ≠ 6) (h7 : f ≠ 7) (h8 : f ≠ 8) (h13 : f ≠ 13) : alW f a b = 0 := by
  unfold alW; simp only [h0, h1, h2, h3, h4, h5, h6, h7, h8, h13, if_false]
theorem alN_none (f : Int) (a b : BitVec 64) (h0 : f ≠ 0) (h1 : f ≠ 1) (h5 : f ≠ 5) (h8 : f ≠ 8) (h13 : f ≠ 13) : alN f a b = 0 := by
  unfold alN; simp only [h0, h1, h5, h8, h13, if_false]
end Go.Proofs.Ythafghechghbpaa
