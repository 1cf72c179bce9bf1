/- More of words of 64 bits as package alu makes them. Plain lemmas, no program. Conditions: none. -/
import Derived.Test.YtomecgfodchegaaAluW
import Derived.IntWalk
namespace Go.Proofs.Ytomecgfodchegaa
open Go.RowKit

theorem i32_lo (v : BitVec 64) : wrap64 (wrap32 (u v % 4294967296)) = (lo32 v).toInt := by
  have h : wrap32 (u v % 4294967296) = (lo32 v).toInt := by rw [← IntWalk.i32_left, mod_lo, i32_wrap, ofInt_q]
  have h1 : (lo32 v).toInt < 2147483648 := by have := BitVec.toInt_lt (x := lo32 v); simpa using this
  have h2 : -2147483648 ≤ (lo32 v).toInt := by have := BitVec.le_toInt (x := lo32 v); simpa using this
  rw [h]; exact IntWalk.wrap64_in _ ⟨by omega, by omega⟩
theorem sg_s32 (v : BitVec 64) : sg (s32 v) = (lo32 v).toInt := by unfold sg s32; exact BitVec.toInt_signExtend_of_le (by omega)
theorem wrap64_u (v : BitVec 64) : wrap64 (u v) = sg v := by rw [← IntWalk.i64_left, wrap_sg]
theorem s32_test (v : BitVec 64) : (wrap64 (u (s32 v)) == wrap64 (wrap32 (u (s32 v) % 4294967296))) = true := by
  rw [i32_lo, wrap64_u, sg_s32, lo32_s32]; simp
/-- uint64(int64(int32(uint32(v)))) -/
theorem s32_round (v : BitVec 64) : IntKind.u64.wrap (wrap64 (wrap32 (u v % 4294967296))) = u (s32 v) := by
  rw [i32_lo, ← sg_s32, wrap_u_sg]
theorem alN_s32 (f : Int) (a b : BitVec 64) : s32 (alN f a b) = alN f a b := by
  unfold alN; repeat' split
  all_goals first | rw [s32_s32] | decide
theorem amt_lo {a b : BitVec 64} (h : lo32 a = lo32 b) : amt a 32 = amt b 32 := by
  have h := congrArg BitVec.toNat h
  unfold lo32 at h; rw [BitVec.toNat_setWidth, BitVec.toNat_setWidth] at h; unfold amt; omega
theorem alN_lo (f : Int) {a b c d : BitVec 64} (h : lo32 a = lo32 c) (k : lo32 b = lo32 d) : alN f a b = alN f c d := by
  have e0 : s32 a = s32 c := s32_of h
  unfold alN
  rw [amt_lo k, h, e0, s32_of (show lo32 (a + b) = lo32 (c + d) by rw [lo_add, lo_add, h, k]), s32_of (show lo32 (a - b) = lo32 (c - d) by rw [lo_sub, lo_sub, h, k]), s32_of (show lo32 (a <<< amt d 32) = lo32 (c <<< amt d 32) by rw [lo_shl, lo_shl, h])]
theorem lo_mix (a x : BitVec 64) : lo32 (a &&& 4294967295#64 ||| x <<< 32) = lo32 a := by
  apply BitVec.eq_of_getLsbD_eq; intro i hi
  rw [lo32_bit, lo32_bit, BitVec.getLsbD_or, BitVec.getLsbD_and, BitVec.getLsbD_shiftLeft]
  have h1 : (4294967295#64).getLsbD i = true := by
    rw [BitVec.getLsbD_ofNat, show 4294967295 = 2 ^ 32 - 1 from rfl, Nat.testBit_two_pow_sub_one]; simp [hi]; omega
  simp [h1, hi]
theorem mix_u (a x : BitVec 64) : bits BinOp.or IntKind.u64 (bits BinOp.and IntKind.u64 (u a) 4294967295) (IntKind.u64.wrap (u x * 4294967296)) = u (a &&& 4294967295#64 ||| x <<< 32) := by
  rw [show (4294967295 : Int) = u 4294967295#64 from rfl, u_and, show (4294967296 : Int) = 2 ^ 32 from rfl, u_shl, u_or]
/-- comparisons -/
theorem sl_irr (a b : BitVec 64) (h : a.slt b = true) : b.slt a = false := by
  rw [← sg_lt] at *; simp only [decide_eq_true_eq, decide_eq_false_iff_not] at *; omega
theorem ul_irr (a b : BitVec 64) (h : a.ult b = true) : b.ult a = false := by
  rw [← u_ltb] at *; simp only [decide_eq_true_eq, decide_eq_false_iff_not] at *; omega
theorem sl_eq (a b : BitVec 64) (h : a.slt b = false) (k : b.slt a = false) : a = b := by
  rw [← sg_lt] at *; simp only [decide_eq_false_iff_not] at *; unfold sg at *; exact BitVec.eq_of_toInt_eq (by omega)
theorem ul_eq (a b : BitVec 64) (h : a.ult b = false) (k : b.ult a = false) : a = b := by
  rw [← u_ltb] at *; simp only [decide_eq_false_iff_not] at *; unfold u at *; exact BitVec.eq_of_toNat_eq (by omega)
theorem sl_ne (a b : BitVec 64) (h : a.slt b = true) : (a == b) = false := by
  rw [← sg_lt] at h; simp only [decide_eq_true_eq] at h; rw [beq_eq_false_iff_ne]; rintro rfl; omega
theorem ul_ne (a b : BitVec 64) (h : a.ult b = true) : (a == b) = false := by
  rw [← u_ltb] at h; simp only [decide_eq_true_eq] at h; rw [beq_eq_false_iff_ne]; rintro rfl; omega
theorem sl_self (a : BitVec 64) : a.slt a = false := by rw [← sg_lt]; simp
theorem ul_self (a : BitVec 64) : a.ult a = false := by rw [← u_ltb]; simp
/-- shifts by numbers below 64 -/
theorem amt_small (n : BitVec 64) (h : u n < 64) : amt n 64 = (u n).toNat := by unfold amt u at *; omega
end Go.Proofs.Ytomecgfodchegaa
