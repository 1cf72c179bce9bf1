/- Words of 32 bits: how the model's integers, shifts and bit operations on uint32 read as words of 32 bits, and as words of 64. Plain lemmas, no program. Conditions: none. -/
import Derived.Test.YtleolldgpoeabaaWord
namespace Go.Proofs.Ytleolldgpoeabaa
open Go.RowKit

/-- a word of 32 bits as the model's number -/
def q (v : BitVec 32) : Int := (v.toNat : Int)
/-- .. as a word of 64 -/
def zx (v : BitVec 32) : BitVec 64 := v.setWidth 64
/-- the low half of a word -/
def lo32 (v : BitVec 64) : BitVec 32 := v.setWidth 32
/-- an int as a word -/
def wd64 (n : Int) : BitVec 64 := BitVec.ofInt 64 n
theorem q_nonneg (v : BitVec 32) : 0 ≤ q v := by unfold q; omega
theorem q_lt (v : BitVec 32) : q v < 2 ^ 32 := by unfold q; have := v.isLt; omega
theorem q_inj {a b : BitVec 32} : q a = q b ↔ a = b := by
  unfold q; constructor
  · intro h; exact BitVec.eq_of_toNat_eq (by omega)
  · rintro rfl; rfl
theorem q_beq (a b : BitVec 32) : (q a == q b) = (a == b) := by
  rw [Bool.eq_iff_iff]; simp [q_inj]
theorem q_of {a : Int} (h : (Lit.int .u32 a).wf = true) : ∃ v, a = q v := by
  simp [Lit.wf, IntKind.bits, IntKind.signed, IntKind.min, IntKind.max] at h
  refine ⟨BitVec.ofNat 32 a.toNat, ?_⟩
  unfold q
  rw [BitVec.toNat_ofNat]
  omega
theorem q_wf (v : BitVec 32) : (Lit.int .u32 (q v)).wf = true := by
  have h1 := q_nonneg v; have h2 := q_lt v
  simp [Lit.wf, IntKind.bits, IntKind.signed, IntKind.min, IntKind.max]; omega
theorem ofInt_q (v : BitVec 32) : BitVec.ofInt 32 (q v) = v := by
  unfold q; rw [BitVec.ofInt_natCast, BitVec.ofNat_toNat, BitVec.setWidth_eq]
theorem wrap32_u32 (n : Int) : IntKind.u32.wrap n = n % 4294967296 := by
  simp [IntKind.wrap, IntKind.bits, IntKind.signed]
theorem wrap_q (v : BitVec 32) : IntKind.u32.wrap (q v) = q v := by
  have h1 := q_nonneg v; have h2 := q_lt v
  rw [wrap32_u32]; omega
theorem q_ofInt (n : Int) : IntKind.u32.wrap n = q (BitVec.ofInt 32 n) := by
  unfold q; rw [wrap32_u32, BitVec.toNat_ofInt]; omega
theorem q_zx (v : BitVec 32) : q v = u (zx v) := by
  unfold q u zx; rw [BitVec.toNat_setWidth, Nat.mod_eq_of_lt (by have := v.isLt; omega)]
theorem wrap_lo (v : BitVec 64) : IntKind.u32.wrap (u v) = q (lo32 v) := by
  unfold q u lo32; rw [wrap32_u32, BitVec.toNat_setWidth]; omega
theorem q_or (a b : BitVec 32) : bits .or .u32 (q a) (q b) = q (a ||| b) := by
  show IntKind.u32.wrap ((BitVec.ofInt 32 (q a) ||| BitVec.ofInt 32 (q b)).toNat : Int) = _
  rw [ofInt_q, ofInt_q]; exact wrap_q _
theorem q_and (a b : BitVec 32) : bits .and .u32 (q a) (q b) = q (a &&& b) := by
  show IntKind.u32.wrap ((BitVec.ofInt 32 (q a) &&& BitVec.ofInt 32 (q b)).toNat : Int) = _
  rw [ofInt_q, ofInt_q]; exact wrap_q _
theorem q_xor (a b : BitVec 32) : bits .xor .u32 (q a) (q b) = q (a ^^^ b) := by
  show IntKind.u32.wrap ((BitVec.ofInt 32 (q a) ^^^ BitVec.ofInt 32 (q b)).toNat : Int) = _
  rw [ofInt_q, ofInt_q]; exact wrap_q _
theorem q_andNot (a b : BitVec 32) : bits .andNot .u32 (q a) (q b) = q (a &&& ~~~b) := by
  show IntKind.u32.wrap ((BitVec.ofInt 32 (q a) &&& ~~~BitVec.ofInt 32 (q b)).toNat : Int) = _
  rw [ofInt_q, ofInt_q]; exact wrap_q _
theorem q_shr (a : BitVec 32) (n : Nat) : q a / 2 ^ n = q (a >>> n) := by
  unfold q; rw [BitVec.toNat_ushiftRight, Nat.shiftRight_eq_div_pow]; simp
theorem q_shl (a : BitVec 32) (n : Nat) : IntKind.u32.wrap (q a * 2 ^ n) = q (a <<< n) := by
  unfold q; rw [BitVec.toNat_shiftLeft, Nat.shiftLeft_eq, wrap32_u32]; simp
theorem q_one_shl (n : Nat) : IntKind.u32.wrap (1 * 2 ^ n) = q ((1 : BitVec 32) <<< n) := q_shl 1 n
theorem q_zero : (0 : Int) = q 0 := rfl
theorem q_one : (1 : Int) = q 1 := rfl

theorem zx_bit (v : BitVec 32) (i : Nat) : (zx v).getLsbD i = v.getLsbD i := by
  unfold zx; rw [BitVec.getLsbD_setWidth]
  by_cases h : i < 64
  · simp [h]
  · rw [BitVec.getLsbD_of_ge v _ (by omega)]; simp
theorem lo32_bit (v : BitVec 64) (i : Nat) : (lo32 v).getLsbD i = (decide (i < 32) && v.getLsbD i) := by
  unfold lo32; rw [BitVec.getLsbD_setWidth]
theorem zx_lo (v : BitVec 64) (h : ∀ i, 32 ≤ i → v.getLsbD i = false) : zx (lo32 v) = v := by
  apply BitVec.eq_of_getLsbD_eq; intro i _
  rw [zx_bit, lo32_bit]
  by_cases e : i < 32
  · simp [e]
  · rw [h i (by omega)]; simp
theorem lo_zx (v : BitVec 32) : lo32 (zx v) = v := by
  apply BitVec.eq_of_getLsbD_eq; intro i hi
  rw [lo32_bit, zx_bit]; simp [hi]

/-! ### an int as a word -/
theorem wrap_wd (n : Int) : IntKind.u64.wrap n = u (wd64 n) := wrap_ofInt n
/-- the number that a word is, with its sign -/
def sg (v : BitVec 64) : Int := v.toInt
theorem i64_wrap (n : Int) : IntKind.i64.wrap n = (BitVec.ofInt 64 n).toInt := by
  simp [IntKind.wrap, IntKind.bits, IntKind.signed, BitVec.toInt_ofInt, Int.bmod_def]
  omega
theorem wrap_sg (v : BitVec 64) : IntKind.i64.wrap (u v) = sg v := by
  rw [i64_wrap, ofInt_u]; rfl
theorem wd_sg (v : BitVec 64) : wd64 (sg v) = v := BitVec.ofInt_toInt
theorem sg_wd (n : Int) (h1 : -9223372036854775808 ≤ n) (h2 : n ≤ 9223372036854775807) : sg (wd64 n) = n := by
  unfold sg wd64; rw [BitVec.toInt_ofInt, Int.bmod_def]; omega
theorem sg_small (v : BitVec 64) (h : u v < 9223372036854775808) : sg v = u v := by
  unfold sg u at *; rw [BitVec.toInt_eq_toNat_cond]; split <;> omega
theorem wd_small (n : Int) (h1 : 0 ≤ n) (h2 : n < 18446744073709551616) : u (wd64 n) = n := by
  unfold u wd64; rw [BitVec.toNat_ofInt]; omega
theorem wrap_zx (v : BitVec 32) : IntKind.u64.wrap (q v) = u (zx v) := by rw [q_zx, wrap_u]
theorem mod_lo (v : BitVec 64) : u v % 4294967296 = q (lo32 v) := by rw [← wrap_lo, wrap32_u32]
end Go.Proofs.Ytleolldgpoeabaa
