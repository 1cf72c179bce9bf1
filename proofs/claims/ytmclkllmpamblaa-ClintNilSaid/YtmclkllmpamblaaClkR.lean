/- What each call of layer 11's reference comes to, and the law's first test. Conditions: named at each. -/
import Derived.Test.YtmclkllmpamblaaClk
import Derived.Test.YtmclkllmpamblaaRet
namespace Go.Proofs.Ytmclkllmpamblaa
open Go.RowKit
set_option linter.unusedVariables false
set_option maxRecDepth 100000

/-- what the reference has -/
abbrev rcV (b : Bool) (c t : BitVec 64) : Value := .agg #[.bool b, .int .u64 (u t), .int .u64 (u c)]
theorem rnew_clk (w : World) : Calls Try.prog 8 #[] w fun e w' => e = .returned (rcV false (BitVec.allOnes 64) 0) ∧ On w w' := by
  go_enter Try.func8, Try.ntmps8
  go_wp2
  exact ret_row _ rfl rfl Try.underlying27 rfl (by kernel_rfl) rfl (blk_new _ _) ⟨by rw [rcV, ← u_ones]; rfl, (On.refl w).alloc _⟩
theorem rlines_any (b : Bool) (c t : BitVec 64) (w : World) : Calls Try.prog 17 #[rcV b c t] w fun e w' => e = .returned (.int .u64 (lnV b c t)) ∧ On w w' := by
  unfold rcV
  by_cases hc : u c ≤ u t
  · have E := Lib.hid (lnV_up (b := b) hc)
    cases b <;> (
      simp only [Bool.false_eq_true, if_false, if_true] at E
      go_enter Try.func17, Try.ntmps17
      go_wp2
      go_ret
      exact ⟨by rw [E.out]; rfl, (On.refl w).alloc _⟩)
  · have E := Lib.hid (lnV_down (b := b) hc)
    have hc2 : u t < u c := by omega
    cases b <;> (
      simp only [Bool.false_eq_true, if_false, if_true] at E
      go_enter Try.func17, Try.ntmps17
      go_wp2
      go_ret
      exact ⟨by rw [E.out]; rfl, (On.refl w).alloc _⟩)
theorem rread_clk (b : Bool) (c t : BitVec 64) {o s : Int} {r : Option Nat} (hr : Reg o s r) (w : World) : Calls Try.prog 11 #[rcV b c t, .int .u64 o, .int .i64 s] w fun e w' => e = .returned (.tuple #[.int .u64 (rgV b c t r), .int .i64 (rgE r)]) ∧ On w w' := by
  unfold rcV
  cases hr with
  | soft =>
    cases b <;> (
      go_enter Try.func11, Try.ntmps11
      go_wp2
      go_ret2
      exact ⟨rfl, (On.refl w).alloc _⟩)
  | cmp =>
    go_enter Try.func11, Try.ntmps11
    go_wp2
    go_ret2
    exact ⟨rfl, (On.refl w).alloc _⟩
  | time =>
    go_enter Try.func11, Try.ntmps11
    go_wp2
    go_ret2
    exact ⟨rfl, (On.refl w).alloc _⟩
  | far _ _ h0 h1 h2 =>
    have k0 : ¬ o = 0 := by simpa using h0
    have k1 : ¬ o = 16384 := by simpa using h1
    have k2 : ¬ o = 49144 := by simpa using h2
    go_enter Try.func11, Try.ntmps11
    go_wp2
    go_ret2
    exact ⟨rfl, (On.refl w).alloc _⟩
  | size0 _ hs =>
    have k0 : ¬ s = 4 := by simpa using hs
    go_enter Try.func11, Try.ntmps11
    go_wp2
    go_ret2
    exact ⟨rfl, (On.refl w).alloc _⟩
  | size1 _ hs =>
    have k0 : ¬ s = 8 := by simpa using hs
    go_enter Try.func11, Try.ntmps11
    go_wp2
    go_ret2
    exact ⟨rfl, (On.refl w).alloc _⟩
  | size2 _ hs =>
    have k0 : ¬ s = 8 := by simpa using hs
    go_enter Try.func11, Try.ntmps11
    go_wp2
    go_ret2
    exact ⟨rfl, (On.refl w).alloc _⟩
theorem mod_two (v : BitVec 64) : ((u v).tmod 2 == 1) = v.getLsbD 0 := by
  rw [Int.tmod_eq_emod_of_nonneg (u_nonneg v)]
  have hb : v.getLsbD 0 = decide (v.toNat % 2 = 1) := by rw [Bool.eq_iff_iff]; simp [BitVec.getLsbD, Nat.testBit]
  rw [hb]
  unfold u
  by_cases h : v.toNat % 2 = 1
  · simp [h]; omega
  · simp [h]; omega
set_option maxHeartbeats 1000000 in
theorem rwrite_clk (b : Bool) (c t : BitVec 64) {o s : Int} {r : Option Nat} (hr : Reg o s r) (v : BitVec 64) (w : World) : Calls Try.prog 12 #[rcV b c t, .int .u64 o, .int .i64 s, .int .u64 (u v)] w fun e w' => e = .returned (.tuple #[rcV (wB b r v) (wC c r v) (wT t r v), .int .i64 (rgE r)]) ∧ On w w' := by
  unfold rcV
  have hm := mod_two v
  obtain ⟨x, hx⟩ : ∃ x, v.getLsbD 0 = x := ⟨_, rfl⟩
  rw [hx] at hm
  have HX := Lib.hid hx
  clear hx
  cases hr with
  | soft =>
    go_enter Try.func12, Try.ntmps12
    go_wp2
    rw [← HX.out]
    exact ret_row1 _ rfl rfl Try.underlying27 rfl (by kernel_rfl) rfl blk_next ⟨rfl, (((On.refl w).alloc _).alloc _)⟩
  | cmp =>
    go_enter Try.func12, Try.ntmps12
    go_wp2
    exact ret_row1 _ rfl rfl Try.underlying27 rfl (by kernel_rfl) rfl blk_next ⟨rfl, (((On.refl w).alloc _).alloc _)⟩
  | time =>
    go_enter Try.func12, Try.ntmps12
    go_wp2
    exact ret_row1 _ rfl rfl Try.underlying27 rfl (by kernel_rfl) rfl blk_next ⟨rfl, (((On.refl w).alloc _).alloc _)⟩
  | far _ _ h0 h1 h2 =>
    have k0 : ¬ o = 0 := by simpa using h0
    have k1 : ¬ o = 16384 := by simpa using h1
    have k2 : ¬ o = 49144 := by simpa using h2
    go_enter Try.func12, Try.ntmps12
    go_wp2
    exact ret_row1 _ rfl rfl Try.underlying27 rfl (by kernel_rfl) rfl blk_next ⟨rfl, (((On.refl w).alloc _).alloc _)⟩
  | size0 _ hs =>
    have k0 : ¬ s = 4 := by simpa using hs
    go_enter Try.func12, Try.ntmps12
    go_wp2
    exact ret_row1 _ rfl rfl Try.underlying27 rfl (by kernel_rfl) rfl blk_next ⟨rfl, (((On.refl w).alloc _).alloc _)⟩
  | size1 _ hs =>
    have k0 : ¬ s = 8 := by simpa using hs
    go_enter Try.func12, Try.ntmps12
    go_wp2
    exact ret_row1 _ rfl rfl Try.underlying27 rfl (by kernel_rfl) rfl blk_next ⟨rfl, (((On.refl w).alloc _).alloc _)⟩
  | size2 _ hs =>
    have k0 : ¬ s = 8 := by simpa using hs
    go_enter Try.func12, Try.ntmps12
    go_wp2
    exact ret_row1 _ rfl rfl Try.underlying27 rfl (by kernel_rfl) rfl blk_next ⟨rfl, (((On.refl w).alloc _).alloc _)⟩
theorem lnV_first : lnV true (BitVec.allOnes 64) 0 = 8 := by decide
theorem awake_clk (w : World) : Calls Try.prog 9 #[] w fun e w' => e = .returned (.bool true) ∧ On w w' := by
  go_enter Try.func9, Try.ntmps9
  go_wp2_with fail
  refine (new_clk _).mono ?_
  rintro e w1 ⟨rfl, k1, h1⟩
  have K := Lib.hid k1
  have HB : Hid (On w w1) := Lib.hid h1
  clear k1 h1
  go_wp2_with fail
  refine (write_clk K.out .soft 1).mono ?_
  rintro e w2 ⟨rfl, k2, h2⟩
  have K2 : Hid (CkAt w.heap.size true (BitVec.allOnes 64) 0 w2) := Lib.hid k2
  have HB : Hid (On w w2) := Lib.hid (But.below HB.out (Nat.le_refl _) HB.out.size h2)
  clear k2 h2 K
  go_wp2_with fail
  refine (lines_any K2.out).mono ?_
  rw [lnV_first]
  rintro e w3 ⟨rfl, h3⟩
  have HB : Hid (On w w3) := Lib.hid (HB.out.trans h3)
  clear h3
  go_wp2
  go_ret
  exact ⟨rfl, HB.out⟩
/-- what 'int(uint(x) % m)' is -/
theorem ticks_of (x m : Int) (h1 : 1 ≤ m) (h2 : m ≤ 1000) : ∃ n : Nat, wrap64 ((IntKind.u64.wrap x).tmod m) = (n : Int) ∧ (n : Int) < m ∧ IntKind.u64.wrap (n : Int) = (n : Int) := by
  rw [wrap_ofInt, Int.tmod_eq_emod_of_nonneg (u_nonneg _)]
  generalize u (BitVec.ofInt 64 x) = y
  have hb : 0 ≤ y % m ∧ y % m < m := ⟨Int.emod_nonneg _ (by omega), Int.emod_lt_of_pos _ (by omega)⟩
  generalize y % m = z at hb ⊢
  refine ⟨z.toNat, ?_, by omega, ?_⟩
  · unfold wrap64; omega
  · simp [IntKind.wrap, IntKind.bits, IntKind.signed]; omega
theorem lnV_ones (s : Bool) (x : BitVec 64) : (u x = 18446744073709551615 ∧ lnV s (BitVec.allOnes 64) x = if s then 136 else 128) ∨ ((u x == 18446744073709551615) = false ∧ lnV s (BitVec.allOnes 64) x = if s then 8 else 0) := by
  have h1 := u_ones
  have h2 := u_lt x
  by_cases h : u x = 18446744073709551615
  · exact .inl ⟨h, lnV_up (by omega)⟩
  · exact .inr ⟨by simpa using h, lnV_down (by omega)⟩
/-- no round within so few from so low -/
theorem u_near {a : BitVec 64} (ha : u a ≤ 9223372036854775808) {k : Nat} (hk : k ≤ 1000) : u (a + BitVec.ofNat 64 k) = u a + k := by
  unfold u at *
  rw [BitVec.toNat_add, BitVec.toNat_ofNat]
  omega
theorem lnV_off {a : BitVec 64} (ha : u a ≤ 9223372036854775808) {k n : Nat} (hn : n ≤ 1000) (hk : k < n) : lnV false (a + BitVec.ofNat 64 n) (a + BitVec.ofNat 64 k) = 0 := by
  rw [lnV_down (by rw [u_near ha hn, u_near ha (by omega)]; omega)]; rfl
theorem lnV_on (c : BitVec 64) : lnV false c c = 128 := by rw [lnV_up (Int.le_refl _)]; rfl
theorem nat_succ (a : BitVec 64) (k : Nat) : a + BitVec.ofNat 64 k + 1 = a + BitVec.ofNat 64 (k + 1) := by
  rw [BitVec.add_assoc, show BitVec.ofNat 64 k + 1 = BitVec.ofNat 64 (k + 1) from (BitVec.ofNat_add k 1).symm]
end Go.Proofs.Ytmclkllmpamblaa
