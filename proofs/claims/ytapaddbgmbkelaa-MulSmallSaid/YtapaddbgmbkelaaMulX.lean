/- What products and quotients of numbers of 32 bits are, as Go's own operations make them. Plain lemmas, no program. Conditions: none. -/
import Derived.Test.YtapaddbgmbkelaaMulW
import Derived.IntWalk
namespace Go.Proofs.Ytapaddbgmbkelaa
open Go.RowKit

theorem mW_div (a b : BitVec 64) (h : ¬ b = 0) : mW 4 a b = a.sdiv b := by show (if b = 0 then _ else _) = _; rw [if_neg h]
theorem mW_divu (a b : BitVec 64) (h : ¬ b = 0) : mW 5 a b = a / b := by show (if b = 0 then _ else _) = _; rw [if_neg h]
theorem mW_rem (a b : BitVec 64) (h : ¬ b = 0) : mW 6 a b = a.srem b := by show (if b = 0 then _ else _) = _; rw [if_neg h]
theorem mW_remu (a b : BitVec 64) (h : ¬ b = 0) : mW 7 a b = a % b := by show (if b = 0 then _ else _) = _; rw [if_neg h]
theorem mW_div0 (a b : BitVec 64) (h : b = 0) : mW 4 a b = BitVec.allOnes 64 := by show (if b = 0 then _ else _) = _; rw [if_pos h]
theorem mW_rem0 (a b : BitVec 64) (h : b = 0) : mW 6 a b = a := by show (if b = 0 then _ else _) = _; rw [if_pos h]
theorem mr_4 (a b : BitVec 64) : mres 4 false a b = mW 4 a b := rfl
theorem mr_6 (a b : BitVec 64) : mres 6 false a b = mW 6 a b := rfl
theorem mr_4w (a b : BitVec 64) : mres 4 true a b = s32 (mW 4 (s32 a) (s32 b)) := rfl
theorem mr_5w (a b : BitVec 64) : mres 5 true a b = s32 (mW 5 (z32 a) (z32 b)) := rfl
theorem mr_6w (a b : BitVec 64) : mres 6 true a b = s32 (mW 6 (s32 a) (s32 b)) := rfl
theorem mr_7w (a b : BitVec 64) : mres 7 true a b = s32 (mW 7 (z32 a) (z32 b)) := rfl
theorem w64_any (n : Int) : IntKind.u64.wrap (wrap64 n) = u (wd64 n) := by
  rw [← IntWalk.i64_left, i64_wrap, wrap_wd, wd_toInt]; rfl
theorem w32_any (n : Int) : IntKind.u64.wrap (wrap64 (wrap32 n)) = u ((BitVec.ofInt 32 n).signExtend 64) := by
  rw [← IntWalk.i32_left, i32_wrap, w64_any]; rfl
theorem lo_wd (n : Int) : lo32 (wd64 n) = BitVec.ofInt 32 n := by
  unfold lo32 wd64; apply BitVec.eq_of_toNat_eq
  rw [BitVec.toNat_setWidth, BitVec.toNat_ofInt, BitVec.toNat_ofInt]; omega
theorem lo_mul (x y : BitVec 64) : lo32 (x * y) = lo32 x * lo32 y := by unfold lo32; exact BitVec.setWidth_mul _ _ (by omega)
theorem s32_wd (n : Int) (h1 : -2147483648 ≤ n) (h2 : n ≤ 2147483647) : s32 (wd64 n) = wd64 n := by
  unfold s32; rw [lo_wd]
  apply BitVec.eq_of_toInt_eq
  unfold wd64
  rw [BitVec.toInt_signExtend, BitVec.toInt_ofInt, BitVec.toInt_ofInt]
  rw [show min 64 32 = 32 from rfl, Int.bmod_bmod]
  rw [Int.bmod_eq_of_le (by omega) (by omega), Int.bmod_eq_of_le (by omega) (by omega)]
theorem sg_wd32 (n : Int) (h1 : -2147483648 ≤ n) (h2 : n ≤ 2147483647) : sg (wd64 n) = n := sg_wd n (by omega) (by omega)
theorem small_mul (a b : Int) : (u (mres 0 false (wd64 a) (wd64 b)) != IntKind.u64.wrap (wrap64 (a * b))) = false := by
  rw [w64_any]
  have : mres 0 false (wd64 a) (wd64 b) = wd64 (a * b) := by show wd64 a * wd64 b = _; unfold wd64; rw [BitVec.ofInt_mul]
  rw [this]; simp
theorem small_mulw (a b : Int) : (u (mres 0 true (wd64 a) (wd64 b)) != IntKind.u64.wrap (wrap64 (wrap32 (a * b)))) = false := by
  rw [w32_any]
  have : mres 0 true (wd64 a) (wd64 b) = (BitVec.ofInt 32 (a * b)).signExtend 64 := by
    show s32 (s32 (wd64 a) * s32 (wd64 b)) = _
    show (lo32 (s32 (wd64 a) * s32 (wd64 b))).signExtend 64 = _
    rw [lo_mul, lo32_s32, lo32_s32, lo_wd, lo_wd, BitVec.ofInt_mul]
  rw [this]; simp
theorem small_div0 (a : Int) : (u (mres 4 true (wd64 a) (wd64 0)) == 18446744073709551615) = true := by
  have : mres 4 true (wd64 a) (wd64 0) = BitVec.allOnes 64 := by
    rw [mr_4w, mW_div0 _ _ (by decide)]; decide
  rw [this, ← u_ones]; rfl
theorem small_rem0 (a : Int) (h1 : -2147483648 ≤ a) (h2 : a ≤ 2147483647) : (u (mres 6 true (wd64 a) (wd64 0)) == u (wd64 a)) = true := by
  have : mres 6 true (wd64 a) (wd64 0) = wd64 a := by
    rw [mr_6w, mW_rem0 _ _ (by decide), s32_s32, s32_wd a h1 h2]
  rw [this]; simp
theorem wd_ne (b : Int) (h1 : -2147483648 ≤ b) (h2 : b ≤ 2147483647) (h : ¬ b = 0) : ¬ wd64 b = 0 := by
  intro e; have := sg_wd32 b h1 h2; rw [e] at this; exact h (this.symm.trans rfl)
theorem small_div (a b : Int) (a1 : -2147483648 ≤ a) (a2 : a ≤ 2147483647) (b1 : -2147483648 ≤ b) (b2 : b ≤ 2147483647) (h : ¬ b = 0) : (u (mres 4 false (wd64 a) (wd64 b)) != IntKind.u64.wrap (wrap64 (a.tdiv b))) = false := by
  have e := quo_sg (wd64 a) (wd64 b)
  rw [sg_wd32 a a1 a2, sg_wd32 b b1 b2] at e
  rw [e, show mres 4 false (wd64 a) (wd64 b) = (wd64 a).sdiv (wd64 b) by first | rw [mr_4, mW_div _ _ (wd_ne b b1 b2 h)] | rw [mr_6, mW_rem _ _ (wd_ne b b1 b2 h)]]; simp
theorem small_rem (a b : Int) (a1 : -2147483648 ≤ a) (a2 : a ≤ 2147483647) (b1 : -2147483648 ≤ b) (b2 : b ≤ 2147483647) (h : ¬ b = 0) : (u (mres 6 false (wd64 a) (wd64 b)) != IntKind.u64.wrap (a.tmod b)) = false := by
  have e := rem_sg (wd64 a) (wd64 b)
  rw [sg_wd32 a a1 a2, sg_wd32 b b1 b2] at e
  rw [e, show mres 6 false (wd64 a) (wd64 b) = (wd64 a).srem (wd64 b) by first | rw [mr_4, mW_div _ _ (wd_ne b b1 b2 h)] | rw [mr_6, mW_rem _ _ (wd_ne b b1 b2 h)]]; simp
theorem z32_wd (n : Int) : n % 4294967296 = u (z32 (wd64 n)) := by
  unfold u z32 zx; rw [lo_wd, BitVec.toNat_setWidth, BitVec.toNat_ofInt]; omega
theorem w32_u (v : BitVec 64) : IntKind.u64.wrap (wrap64 (wrap32 (u v))) = u (s32 v) := by
  rw [w32_any]; unfold s32 u lo32; rw [BitVec.ofInt_natCast]; rfl
theorem small_divu (a b : Int) (h : ¬ b % 4294967296 = 0) : (u (mres 5 true (wd64 a) (wd64 b)) == IntKind.u64.wrap (wrap64 (wrap32 ((a % 4294967296) / (b % 4294967296))))) = true := by
  rw [z32_wd a, z32_wd b, u_div, w32_u]
  have hz : ¬ z32 (wd64 b) = 0 := by intro e; apply h; rw [z32_wd b, e]; rfl
  rw [show mres 5 true (wd64 a) (wd64 b) = s32 (z32 (wd64 a) / z32 (wd64 b)) by first | rw [mr_5w, mW_divu _ _ hz] | rw [mr_7w, mW_remu _ _ hz]]; simp
theorem small_remu (a b : Int) (h : ¬ b % 4294967296 = 0) : (u (mres 7 true (wd64 a) (wd64 b)) == IntKind.u64.wrap (wrap64 (wrap32 ((a % 4294967296) % (b % 4294967296))))) = true := by
  rw [z32_wd a, z32_wd b, u_mod, w32_u]
  have hz : ¬ z32 (wd64 b) = 0 := by intro e; apply h; rw [z32_wd b, e]; rfl
  rw [show mres 7 true (wd64 a) (wd64 b) = s32 (z32 (wd64 a) % z32 (wd64 b)) by first | rw [mr_5w, mW_divu _ _ hz] | rw [mr_7w, mW_remu _ _ hz]]; simp
end Go.Proofs.Ytapaddbgmbkelaa
