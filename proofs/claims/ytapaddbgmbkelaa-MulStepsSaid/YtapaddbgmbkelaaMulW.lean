/- Words of 64 bits as package muldiv makes them: products of 128 bits, quotients, remainders. Plain lemmas, no program. Conditions: none. -/
import Derived.Test.YtapaddbgmbkelaaAluW
namespace Go.Proofs.Ytapaddbgmbkelaa
open Go.RowKit

/-- the high half of the product without signs -/
def mhu (a b : BitVec 64) : BitVec 64 := BitVec.ofNat 64 (a.toNat * b.toNat / 2 ^ 64)
/-- by how much it is too great, if a has a sign -/
def exc (a b : BitVec 64) : BitVec 64 := if a.getLsbD 63 then b else 0
/-- results of 64 bits -/
def mW (f : Int) (a b : BitVec 64) : BitVec 64 :=
  if f = 0 then a * b else if f = 1 then mhu a b - exc a b - exc b a else if f = 2 then mhu a b - exc a b else if f = 3 then mhu a b
  else if f = 4 then (if b = 0 then BitVec.allOnes 64 else a.sdiv b) else if f = 5 then (if b = 0 then BitVec.allOnes 64 else a / b)
  else if f = 6 then (if b = 0 then a else a.srem b) else if f = 7 then (if b = 0 then a else a % b) else 0
/-- a word without its high half -/
def z32 (v : BitVec 64) : BitVec 64 := zx (lo32 v)
/-- .. of 32 bits -/
def mN (f : Int) (a b : BitVec 64) : BitVec 64 :=
  if f = 0 ∨ f = 4 ∨ f = 6 then s32 (mW f (s32 a) (s32 b)) else if f = 5 ∨ f = 7 then s32 (mW f (z32 a) (z32 b)) else 0
/-- .. of both -/
def mres (f : Int) (word : Bool) (a b : BitVec 64) : BitVec 64 := if word then mN f a b else mW f a b

theorem mW_none (f : Int) (a b : BitVec 64) (h : ¬ (0 ≤ f ∧ f ≤ 7)) : mW f a b = 0 := by
  unfold mW
  rw [if_neg (by omega), if_neg (by omega), if_neg (by omega), if_neg (by omega), if_neg (by omega), if_neg (by omega), if_neg (by omega), if_neg (by omega)]
theorem zxt_z32 (v : BitVec 64) : zxt v 32 = z32 v := by
  apply BitVec.eq_of_getLsbD_eq; intro i hi
  unfold z32
  rw [zxt_bit, zx_bit, lo32_bit]
  have : decide ((i : Int) < 32) = decide (i < 32) := by rw [decide_eq_decide]; omega
  rw [this]

/-! ### halves -/
theorem mod_z32 (v : BitVec 64) : IntKind.u64.wrap (u v % 4294967296) = u (z32 v) := by rw [mod_lo, wrap_zx]; rfl
theorem z32_nat (v : BitVec 64) : (z32 v).toNat = v.toNat % 2 ^ 32 := by
  unfold z32 zx lo32
  rw [BitVec.toNat_setWidth, BitVec.toNat_setWidth]; omega
theorem shr32_nat (v : BitVec 64) : (v >>> 32).toNat = v.toNat / 2 ^ 32 := by
  rw [BitVec.toNat_ushiftRight, Nat.shiftRight_eq_div_pow]
theorem prod_lt {x y : Nat} (hx : x < 2 ^ 32) (hy : y < 2 ^ 32) : x * y ≤ 18446744065119617025 := by
  have := Nat.mul_le_mul (Nat.le_of_lt_succ (show x < 4294967295 + 1 by omega)) (Nat.le_of_lt_succ (show y < 4294967295 + 1 by omega)); omega
/-- the high half out of four products of halves -/
theorem high_parts (a b : BitVec 64) :
    (a >>> 32) * (b >>> 32) + ((a >>> 32) * z32 b + (z32 a * z32 b) >>> 32) >>> 32 + (z32 a * (b >>> 32) + z32 ((a >>> 32) * z32 b + (z32 a * z32 b) >>> 32)) >>> 32 = mhu a b := by
  apply BitVec.eq_of_toNat_eq
  have ha : a.toNat = a.toNat / 2 ^ 32 * 2 ^ 32 + a.toNat % 2 ^ 32 := by omega
  have hb : b.toNat = b.toNat / 2 ^ 32 * 2 ^ 32 + b.toNat % 2 ^ 32 := by omega
  have a1 := a.isLt
  have b1 := b.isLt
  obtain ⟨x, hx⟩ : ∃ x, a.toNat / 2 ^ 32 = x := ⟨_, rfl⟩
  obtain ⟨y, hy⟩ : ∃ y, a.toNat % 2 ^ 32 = y := ⟨_, rfl⟩
  obtain ⟨s, hs⟩ : ∃ s, b.toNat / 2 ^ 32 = s := ⟨_, rfl⟩
  obtain ⟨t, ht⟩ : ∃ t, b.toNat % 2 ^ 32 = t := ⟨_, rfl⟩
  have p0 := prod_lt (x := y) (y := t) (by omega) (by omega)
  have p1 := prod_lt (x := x) (y := t) (by omega) (by omega)
  have p2 := prod_lt (x := y) (y := s) (by omega) (by omega)
  have p3 := prod_lt (x := x) (y := s) (by omega) (by omega)
  have hP : a.toNat * b.toNat = x * s * 2 ^ 64 + (x * t + y * s) * 2 ^ 32 + y * t := by
    rw [ha, hb, hx, hy, hs, ht, Nat.add_mul, Nat.mul_add, Nat.mul_add]
    rw [show x * 2 ^ 32 * (s * 2 ^ 32) = x * s * 2 ^ 64 by rw [Nat.mul_mul_mul_comm]]
    rw [show x * 2 ^ 32 * t = x * t * 2 ^ 32 by rw [Nat.mul_right_comm], show y * (s * 2 ^ 32) = y * s * 2 ^ 32 by rw [Nat.mul_assoc]]
    omega
  unfold mhu
  simp only [BitVec.toNat_add, BitVec.toNat_mul, shr32_nat, z32_nat, BitVec.toNat_ofNat, hx, hy, hs, ht, hP]
  generalize y * t = k0 at *
  generalize x * t = k1 at *
  generalize y * s = k2 at *
  generalize x * s = k3 at *
  omega

/-! ### words of 128 bits -/
def hiW (x : BitVec 128) : BitVec 64 := (x >>> 64).setWidth 64
def loW (x : BitVec 128) : BitVec 64 := x.setWidth 64
theorem hiW_nat (x : BitVec 128) : (hiW x).toNat = x.toNat / 2 ^ 64 := by
  unfold hiW; rw [BitVec.toNat_setWidth, BitVec.toNat_ushiftRight, Nat.shiftRight_eq_div_pow]; have := x.isLt; omega
theorem loW_nat (x : BitVec 128) : (loW x).toNat = x.toNat % 2 ^ 64 := by
  unfold loW; rw [BitVec.toNat_setWidth]
theorem loW_add (x y : BitVec 128) : loW x + loW y = loW (x + y) := by
  apply BitVec.eq_of_toNat_eq; rw [BitVec.toNat_add, loW_nat, loW_nat, loW_nat, BitVec.toNat_add]; omega
theorem hiW_add (x y : BitVec 128) (h : decide (u (loW (x + y)) < u (loW x)) = false) : hiW x + hiW y = hiW (x + y) := by
  have h : ¬ u (loW (x + y)) < u (loW x) := by simpa using h
  unfold u at h
  apply BitVec.eq_of_toNat_eq
  rw [loW_nat, loW_nat, BitVec.toNat_add] at h
  rw [BitVec.toNat_add, hiW_nat, hiW_nat, hiW_nat, BitVec.toNat_add]
  have := x.isLt; have := y.isLt
  omega
theorem hiW_carry (x y : BitVec 128) (h : decide (u (loW (x + y)) < u (loW x)) = true) : hiW x + hiW y + 1 = hiW (x + y) := by
  have h : u (loW (x + y)) < u (loW x) := by simpa using h
  unfold u at h
  apply BitVec.eq_of_toNat_eq
  rw [loW_nat, loW_nat, BitVec.toNat_add] at h
  rw [BitVec.toNat_add, BitVec.toNat_add, hiW_nat, hiW_nat, hiW_nat, BitVec.toNat_add, show (1 : BitVec 64).toNat = 1 from rfl]
  have := x.isLt; have := y.isLt
  omega
theorem twice_shl (x : BitVec 128) (k : Nat) : x <<< k + x <<< k = x <<< (k + 1) := by
  apply BitVec.eq_of_toNat_eq
  rw [BitVec.toNat_add, BitVec.toNat_shiftLeft, BitVec.toNat_shiftLeft, Nat.shiftLeft_eq, Nat.shiftLeft_eq, show x.toNat * 2 ^ (k + 1) = x.toNat * 2 ^ k * 2 by rw [Nat.pow_succ, Nat.mul_assoc]]
  generalize x.toNat * 2 ^ k = z
  omega
/-- the product with the k lowest bits -/
def part (x y : BitVec 128) : Nat → BitVec 128
  | 0 => 0
  | k + 1 => if y.getLsbD k then part x y k + x <<< k else part x y k
theorem part_nat (x y : BitVec 128) (k : Nat) : (part x y k).toNat = x.toNat * (y.toNat % 2 ^ k) % 2 ^ 128 := by
  induction k with
  | zero => simp [part, Nat.mod_one]
  | succ k ih =>
    have hm : y.toNat % 2 ^ (k + 1) = y.toNat % 2 ^ k + 2 ^ k * (y.toNat / 2 ^ k % 2) := by rw [Nat.pow_succ, Nat.mod_mul]
    have hb : y.getLsbD k = decide (y.toNat / 2 ^ k % 2 = 1) := by rw [← BitVec.testBit_toNat, Nat.testBit_eq_decide_div_mod_eq]
    unfold part
    rw [hb, hm]
    by_cases h : y.toNat / 2 ^ k % 2 = 1
    · rw [if_pos (by simpa using h), h, Nat.mul_one, Nat.mul_add, BitVec.toNat_add, ih, BitVec.toNat_shiftLeft, Nat.shiftLeft_eq]
      generalize x.toNat * (y.toNat % 2 ^ k) = p
      generalize x.toNat * 2 ^ k = q
      omega
    · have h0 : y.toNat / 2 ^ k % 2 = 0 := by omega
      rw [if_neg (by simpa using h), h0, Nat.mul_zero, Nat.add_zero, ih]
theorem part_all (x y : BitVec 128) : part x y 128 = x * y := by
  apply BitVec.eq_of_toNat_eq
  rw [part_nat, BitVec.toNat_mul, Nat.mod_eq_of_lt y.isLt]
theorem bit_low (y : BitVec 128) (k : Nat) (hk : k < 64) : (loW y).getLsbD k = y.getLsbD k := by
  unfold loW; rw [BitVec.getLsbD_setWidth]; simp [hk]
theorem bit_high (y : BitVec 128) (k : Nat) (hk : 64 ≤ k) (h2 : k < 128) : (hiW y).getLsbD (k - 64) = y.getLsbD k := by
  unfold hiW; rw [BitVec.getLsbD_setWidth, BitVec.getLsbD_ushiftRight, show 64 + (k - 64) = k by omega]
  have : decide (k - 64 < 64) = true := by simp; omega
  rw [this, Bool.true_and]
/-- a word as one of 128 bits -/
def wideU (a : BitVec 64) : BitVec 128 := a.setWidth 128
def wideS (a : BitVec 64) : BitVec 128 := if a.getLsbD 63 then wideU a + BitVec.ofNat 128 (2 ^ 128 - 2 ^ 64) else wideU a
theorem wideU_nat (a : BitVec 64) : (wideU a).toNat = a.toNat := by unfold wideU; rw [BitVec.toNat_setWidth]; have := a.isLt; omega
theorem wideS_nat (a : BitVec 64) : (wideS a).toNat = a.toNat + if a.getLsbD 63 then 2 ^ 128 - 2 ^ 64 else 0 := by
  unfold wideS; have := a.isLt
  by_cases h : a.getLsbD 63
  · rw [if_pos h, if_pos h, BitVec.toNat_add, wideU_nat, BitVec.toNat_ofNat]; omega
  · rw [if_neg h, if_neg h, wideU_nat]; omega
theorem loW_wideU (a : BitVec 64) : loW (wideU a) = a := by
  apply BitVec.eq_of_toNat_eq; rw [loW_nat, wideU_nat]; have := a.isLt; omega
theorem hiW_wideU (a : BitVec 64) : hiW (wideU a) = 0 := by
  apply BitVec.eq_of_toNat_eq; rw [hiW_nat, wideU_nat]; have := a.isLt; show _ = 0; omega
theorem loW_wideS (a : BitVec 64) : loW (wideS a) = a := by
  apply BitVec.eq_of_toNat_eq; rw [loW_nat, wideS_nat]; have := a.isLt; split <;> omega
theorem hiW_wideS (a : BitVec 64) (h : a.getLsbD 63 = true) : hiW (wideS a) = BitVec.allOnes 64 := by
  apply BitVec.eq_of_toNat_eq; rw [hiW_nat, wideS_nat, if_pos h, BitVec.toNat_allOnes]; have := a.isLt; omega
theorem wideS_pos (a : BitVec 64) (h : a.getLsbD 63 = false) : wideS a = wideU a := by unfold wideS; rw [h]; rfl
theorem lo_prod (a b : BitVec 64) : loW (wideU a * wideU b) = a * b := by
  apply BitVec.eq_of_toNat_eq; rw [loW_nat, BitVec.toNat_mul, wideU_nat, wideU_nat, BitVec.toNat_mul]; omega
theorem full_lt (a b : BitVec 64) : a.toNat * b.toNat < 2 ^ 128 := by
  have h1 := a.isLt; have h2 := b.isLt
  have := Nat.mul_le_mul (Nat.le_of_lt_succ (show a.toNat < 18446744073709551615 + 1 by omega)) (Nat.le_of_lt_succ (show b.toNat < 18446744073709551615 + 1 by omega)); omega
theorem hi_uu (a b : BitVec 64) : hiW (wideU a * wideU b) = mhu a b := by
  apply BitVec.eq_of_toNat_eq; rw [hiW_nat, BitVec.toNat_mul, wideU_nat, wideU_nat]; unfold mhu; rw [BitVec.toNat_ofNat]; have := full_lt a b; omega
theorem exc_nat (a b : BitVec 64) : (exc a b).toNat = if a.getLsbD 63 then b.toNat else 0 := by unfold exc; split <;> rfl
theorem hi_su (a b : BitVec 64) : hiW (wideS a * wideU b) = mhu a b - exc a b := by
  apply BitVec.eq_of_toNat_eq
  rw [hiW_nat, BitVec.toNat_mul, wideS_nat, wideU_nat, BitVec.toNat_sub, exc_nat, Nat.add_mul]
  unfold mhu; rw [BitVec.toNat_ofNat]
  have h := full_lt a b; have h2 := b.isLt
  generalize a.toNat * b.toNat = p at *
  cases a.getLsbD 63
  · simp only [Bool.false_eq_true, if_false, Nat.zero_mul]; omega
  · simp only [if_true]; omega
theorem hi_ss (a b : BitVec 64) : hiW (wideS a * wideS b) = mhu a b - exc a b - exc b a := by
  apply BitVec.eq_of_toNat_eq
  rw [hiW_nat, BitVec.toNat_mul, wideS_nat, wideS_nat, BitVec.toNat_sub, BitVec.toNat_sub, exc_nat, exc_nat, Nat.add_mul, Nat.mul_add, Nat.mul_add]
  unfold mhu; rw [BitVec.toNat_ofNat]
  have h := full_lt a b; have h1 := a.isLt; have h2 := b.isLt
  generalize a.toNat * b.toNat = p at *
  cases a.getLsbD 63 <;> cases b.getLsbD 63
  all_goals simp only [Bool.false_eq_true, if_false, if_true, Nat.zero_mul, Nat.mul_zero]; omega

/-! ### quotients -/
theorem top_test (a : BitVec 64) : (u (a >>> 63) == 1) = a.getLsbD 63 := by
  have h := and1_test a 63
  have e : a >>> 63 &&& (1 : BitVec 64) = a >>> 63 := by
    apply BitVec.eq_of_getLsbD_eq; intro i hi
    rw [BitVec.getLsbD_and, BitVec.getLsbD_ushiftRight, show (1 : BitVec 64) = BitVec.ofNat 64 1 from rfl, BitVec.getLsbD_ofNat]
    by_cases e : i = 0
    · subst e; simp
    · rw [BitVec.getLsbD_of_ge _ _ (by omega)]; simp
  rwa [e] at h
theorem msb_top (a : BitVec 64) : a.msb = a.getLsbD 63 := by rw [BitVec.msb_eq_getLsbD_last]
theorem top_sg (a : BitVec 64) : decide (sg a < 0) = a.getLsbD 63 := by
  rw [← msb_top, BitVec.msb_eq_toInt]; rfl
/-- a word without its sign -/
def mag (a : BitVec 64) : BitVec 64 := if a.getLsbD 63 then -a else a
theorem sdiv_mag (a b : BitVec 64) : a.sdiv b = if (a.getLsbD 63 != b.getLsbD 63) then -(mag a / mag b) else mag a / mag b := by
  rw [BitVec.sdiv_eq, msb_top, msb_top]; unfold mag
  cases a.getLsbD 63 <;> cases b.getLsbD 63 <;> rfl
theorem srem_mag (a b : BitVec 64) : a.srem b = if a.getLsbD 63 then -(mag a % mag b) else mag a % mag b := by
  rw [BitVec.srem_eq, msb_top, msb_top]; unfold mag
  cases a.getLsbD 63 <;> cases b.getLsbD 63 <;> rfl
theorem bmod_ofInt (n : Int) : BitVec.ofInt 64 (n.bmod (2 ^ 64)) = BitVec.ofInt 64 n := by
  apply BitVec.eq_of_toInt_eq; rw [BitVec.toInt_ofInt, BitVec.toInt_ofInt, Int.bmod_bmod]
theorem wd_toInt (x : BitVec 64) : wd64 x.toInt = x := BitVec.ofInt_toInt
/-- uint64(int64(a) / int64(b)) -/
theorem quo_sg (a b : BitVec 64) : IntKind.u64.wrap (wrap64 ((sg a).tdiv (sg b))) = u (a.sdiv b) := by
  rw [← IntWalk.i64_left, i64_wrap, wrap_wd, wd_toInt]
  congr 1
  apply BitVec.eq_of_toInt_eq
  rw [BitVec.toInt_sdiv, BitVec.toInt_ofInt]; rfl
theorem rem_sg (a b : BitVec 64) : IntKind.u64.wrap ((sg a).tmod (sg b)) = u (a.srem b) := by
  rw [show sg a = a.toInt from rfl, show sg b = b.toInt from rfl, ← BitVec.toInt_srem, wrap_wd, wd_toInt]
end Go.Proofs.Ytapaddbgmbkelaa
