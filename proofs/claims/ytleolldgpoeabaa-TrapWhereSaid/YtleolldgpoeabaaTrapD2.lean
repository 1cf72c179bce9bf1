/- Causes of small numbers, as words. Plain lemmas. Conditions: none. -/
import Derived.Test.YtleolldgpoeabaaTrapC
namespace Go.Proofs.Ytleolldgpoeabaa
open Go.RowKit
theorem low_bits {v : BitVec 64} (h : v.toNat < 16) (i : Nat) (hi : 4 ≤ i) : v.getLsbD i = false := by
  unfold BitVec.getLsbD
  exact Nat.testBit_lt_two_pow (Nat.lt_of_lt_of_le h (Nat.pow_le_pow_right (by decide) hi : 2 ^ 4 ≤ 2 ^ i))
theorem low_and63 {v : BitVec 64} (h : v.toNat < 16) : v &&& 63#64 = v := by
  apply BitVec.eq_of_toNat_eq
  rw [BitVec.toNat_and, show (63#64).toNat = 2 ^ 6 - 1 from rfl, Nat.and_two_pow_sub_one_eq_mod]
  exact Nat.mod_eq_of_lt (by omega)
theorem cau_low16 {v : BitVec 64} (h : v.toNat < 16) : cau v = v := by
  unfold cau
  rw [show (0x800000000000003f#64) = 0x8000000000000000#64 ||| 63#64 from rfl, BitVec.and_or_distrib_left, low_and63 h]
  have : v &&& 0x8000000000000000#64 = 0#64 := by
    have h2 := and_pow0 (k := 63) (low_bits h 63 (by omega))
    exact h2
  rw [this]; simp
theorem top_num (v : BitVec 64) : (0x8000000000000000#64 ||| v) &&& 63#64 = v &&& 63#64 := by
  rw [BitVec.and_comm, BitVec.and_or_distrib_left, BitVec.and_comm 63#64 v]
  simp
theorem cau_top16 {v : BitVec 64} (h : v.toNat < 16) : cau (0x8000000000000000#64 ||| v) = 0x8000000000000000#64 ||| v := by
  unfold cau
  rw [BitVec.and_comm, BitVec.and_or_distrib_left, BitVec.and_comm _ v]
  have := cau_low16 h
  unfold cau at this
  rw [this]; rfl
theorem top_set (v : BitVec 64) : (0x8000000000000000#64 ||| v).getLsbD 63 = true := by
  rw [BitVec.getLsbD_or, show (0x8000000000000000#64).getLsbD 63 = true from by decide]; rfl
end Go.Proofs.Ytleolldgpoeabaa
