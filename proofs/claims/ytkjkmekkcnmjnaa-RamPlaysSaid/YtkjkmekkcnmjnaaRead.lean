/- What Word of package bits, and of its reference, come to over bytes that can be read. Conditions: named at each. -/
import Derived.Test.YtkjkmekkcnmjnaaCalls
namespace Go.Proofs.Ytkjkmekkcnmjnaa
open Go.RowKit

/-- a slice of bytes that reads as these numbers -/
def RB (w : World) (s : Value) (zs : List Int) : Prop :=
  (∃ a c, s = .slice a 0 c ∧ zs = [] ∧ (a = none → c = 0)) ∨ ∃ b off c, s = .slice (some ⟨b, off, none⟩) zs.length c ∧ 0 < zs.length ∧ zs.length ≤ c ∧ (c : Int) ≤ 9223372036854775807 ∧ ∀ k, k < zs.length → w.cell? ⟨b, off + k, none⟩ = some (.int .u8 (zs.getD k 0))
/-- numbers that are bytes -/
def Byte (zs : List Int) : Prop := ∀ k, 0 ≤ zs.getD k 0 ∧ zs.getD k 0 < 256
/-- byte k as a word -/
def bv (zs : List Int) (k : Nat) : BitVec 64 := BitVec.ofInt 64 (zs.getD k 0)
theorem u_bv {zs : List Int} (h : Byte zs) (k : Nat) : zs.getD k 0 = u (bv zs k) := by
  have := h k
  unfold bv; rw [← wrap_ofInt, IntKind.wrap_u64]; omega
theorem bv_bit {zs : List Int} (h : Byte zs) (k j : Nat) (hj : 8 ≤ j) : (bv zs k).getLsbD j = false := by
  have h1 := h k
  have h2 : (bv zs k).toNat < 2 ^ 8 := by
    have := u_bv h k
    unfold u at this; omega
  exact Nat.testBit_lt_two_pow (Nat.lt_of_lt_of_le h2 (Nat.pow_le_pow_right (by omega) hj))
/-- the number of the first k bytes -/
def wordTo (zs : List Int) : Nat → BitVec 64
  | 0 => 0
  | k + 1 => wordTo zs k ||| bv zs k <<< (8 * k)
theorem wordTo_succ (zs : List Int) (k : Nat) : wordTo zs (k + 1) = wordTo zs k ||| bv zs k <<< (8 * k) := rfl
def wordOf (zs : List Int) : BitVec 64 := wordTo zs (min zs.length 8)
theorem wordTo_bit {zs : List Int} (h : Byte zs) (m j : Nat) (hj : j < 64) : (wordTo zs m).getLsbD j = (decide (j < 8 * m) && (bv zs (j / 8)).getLsbD (j % 8)) := by
  induction m with
  | zero => simp [wordTo]
  | succ m ih =>
    rw [wordTo_succ, BitVec.getLsbD_or, ih, BitVec.getLsbD_shiftLeft, decide_eq_true hj, Bool.true_and]
    by_cases h1 : j < 8 * m
    · rw [decide_eq_true h1, decide_eq_true (show j < 8 * (m + 1) by omega)]; simp
    · rw [decide_eq_false h1]
      by_cases h2 : j < 8 * (m + 1)
      · rw [decide_eq_true h2, show j / 8 = m by omega, show j - 8 * m = j % 8 by omega]; simp
      · rw [decide_eq_false h2, bv_bit h m _ (by omega)]; simp
/-- what the code's loop carries -/
def WordAt (zs : List Int) (m : Nat) (t i : Value) : Prop := ∃ k : Nat, k ≤ m ∧ i = .int .i64 k ∧ t = .int .u64 (u (wordTo zs k))
theorem word_round {zs : List Int} (m k : Nat) (hk : k < m) (n i : Int) (hi : i = ((k + 1 : Nat) : Int)) (hn : n = u (wordTo zs (k + 1))) : WordAt zs m (.int .u64 n) (.int .i64 i) := ⟨k + 1, by omega, by rw [hi], by rw [hn]⟩
theorem nat_hid {l : List Int} : ∃ n, Hid (l.length = n) := ⟨_, rfl⟩
theorem word_any (s : Value) (zs : List Int) (w : World) (hs : RB w s zs) (hz : Byte zs) :
    Calls Try.prog 25 #[s] w fun e w' => e = .returned (.int .u64 (u (wordOf zs))) ∧ w = w' := by
  rcases hs with ⟨a, c, rfl, rfl, _⟩ | ⟨b, off, c, rfl, hp, hlc, hc63, hcell⟩
  · have He : Hid (u (wordOf []) = 0) := Lib.hid rfl
    go_enter Try.func25, Try.ntmps25
    go_wp2_with fail
    go_loop [3, 4, 8] (fun t _ i => t = .int .u64 0 ∧ i = .int .i64 0) (fun _ _ _ => 0)
    case atStart => exact ⟨rfl, rfl⟩
    case round =>
      obtain ⟨rfl, rfl⟩ := hrel
      go_wp2_with fail
      go_ret
      exact ⟨by rw [He.out]; rfl, rfl⟩
  · have Hcell := Lib.hid hcell
    have Hz := Lib.hid hz
    clear hcell hz
    obtain ⟨l, hl⟩ : ∃ l, zs.length = l := ⟨_, rfl⟩
    rw [hl] at hp hlc ⊢
    have Hl := Lib.hid hl
    clear hl
    by_cases h8 : l ≤ 8
    · have Hm : Hid (wordOf zs = wordTo zs l) := Lib.hid (by unfold wordOf; rw [Hl.out, Nat.min_eq_left h8])
      go_enter Try.func25, Try.ntmps25
      go_wp2_with fail
      go_loop [3, 4, 8] (fun t _ i => WordAt zs l t i) (fun _ _ i => (l - intOf i).toNat)
      case atStart => exact ⟨0, by omega, rfl, rfl⟩
      case round =>
        obtain ⟨k, hk, rfl, rfl⟩ := hrel
        by_cases hlt : k < l
        · have hc := Hcell.out k (by rw [Hl.out]; exact hlt)
          have hz0 := (Hz.out k).1
          have hz1 := (Hz.out k).2
          have hzz := u_bv Hz.out k
          obtain ⟨z, hz⟩ : ∃ z, zs.getD k 0 = z := ⟨_, rfl⟩
          rw [hz] at hc hz0 hz1 hzz
          have HZ := Lib.hid hz
          have HZZ := Lib.hid hzz
          clear hz hzz
          go_wp2_with fail
          go_round
          case rel => exact word_round l k hlt _ _ (by omega) (by rw [HZZ.out, u_shl, u_or, wordTo_succ, Nat.mul_comm])
          case measure => simp [intOf]; omega
        · have He : Hid (k = l) := Lib.hid (by omega)
          go_wp2_with fail
          go_ret
          exact ⟨by rw [Hm.out, He.out]; rfl, rfl⟩
    · have Hm : Hid (wordOf zs = wordTo zs 8) := Lib.hid (by unfold wordOf; rw [Hl.out, Nat.min_eq_right (by omega)])
      have h9 : 8 < l := by omega
      clear h8
      go_enter Try.func25, Try.ntmps25
      go_wp2_with fail
      go_loop [3, 4, 8] (fun t _ i => WordAt zs 8 t i) (fun _ _ i => (8 - intOf i).toNat)
      case atStart => exact ⟨0, by omega, rfl, rfl⟩
      case round =>
        obtain ⟨k, hk, rfl, rfl⟩ := hrel
        by_cases hlt : k < 8
        · have hc := Hcell.out k (by rw [Hl.out]; omega)
          have hz0 := (Hz.out k).1
          have hz1 := (Hz.out k).2
          have hzz := u_bv Hz.out k
          obtain ⟨z, hz⟩ : ∃ z, zs.getD k 0 = z := ⟨_, rfl⟩
          rw [hz] at hc hz0 hz1 hzz
          have HZ := Lib.hid hz
          have HZZ := Lib.hid hzz
          clear hz hzz
          go_wp2_with fail
          go_round
          case rel => exact word_round 8 k hlt _ _ (by omega) (by rw [HZZ.out, u_shl, u_or, wordTo_succ, Nat.mul_comm])
          case measure => simp [intOf]; omega
        · have He : Hid (k = 8) := Lib.hid (by omega)
          go_wp2_with fail
          go_ret
          exact ⟨by rw [Hm.out, He.out]; rfl, rfl⟩

/-- what the reference's loop carries: from byte k on -/
def DownAt (zs : List Int) (m : Nat) (t i : Value) : Prop := ∃ k : Int, -1 ≤ k ∧ k < m ∧ i = .int .i64 k ∧ t = .int .u64 (u (wordTo zs m >>> (8 * (k + 1).toNat)))
theorem shl8_add (a b : BitVec 64) (hb : ∀ j, 8 ≤ j → b.getLsbD j = false) : a <<< 8 + b = a <<< 8 ||| b := by
  refine BitVec.add_eq_or_of_and_eq_zero _ _ ?_
  apply BitVec.eq_of_getLsbD_eq; intro j hj
  rw [BitVec.getLsbD_and, BitVec.getLsbD_shiftLeft]
  by_cases h : j < 8
  · rw [decide_eq_true h]; simp
  · rw [hb j (by omega)]; simp
theorem down_step {zs : List Int} (h : Byte zs) (m k : Nat) (hk : k < m) (hm : m ≤ 8) : wordTo zs m >>> (8 * (k + 1)) <<< 8 + bv zs k = wordTo zs m >>> (8 * k) := by
  rw [shl8_add _ _ (bv_bit h k)]
  apply BitVec.eq_of_getLsbD_eq; intro j hj
  rw [BitVec.getLsbD_or, BitVec.getLsbD_shiftLeft, BitVec.getLsbD_ushiftRight, BitVec.getLsbD_ushiftRight, decide_eq_true hj, Bool.true_and]
  by_cases h8 : j < 8
  · rw [decide_eq_true h8]
    simp only [Bool.not_true, Bool.false_and, Bool.false_or]
    rw [wordTo_bit h m _ (by omega), decide_eq_true (show 8 * k + j < 8 * m by omega), show (8 * k + j) / 8 = k by omega, show (8 * k + j) % 8 = j by omega]; simp
  · rw [decide_eq_false h8, bv_bit h k j (by omega), show 8 * (k + 1) + (j - 8) = 8 * k + j by omega]; simp
theorem down_round {zs : List Int} (h : Byte zs) (m : Nat) (hm : m ≤ 8) (k : Int) (h0 : 0 ≤ k) (hk : k < m) (z : Int) (hz : z = u (bv zs k.toNat)) (n : Int)
    (hn : n = IntKind.u64.wrap (IntKind.u64.wrap (u (wordTo zs m >>> (8 * (k + 1).toNat)) * 256) + z)) : DownAt zs m (.int .u64 n) (.int .i64 (k - 1)) := by
  refine ⟨k - 1, by omega, by omega, rfl, ?_⟩
  rw [hn, hz, show (256 : Int) = 2 ^ 8 from rfl, u_shl, u_add, show (k + 1).toNat = k.toNat + 1 by omega, down_step h m k.toNat (by omega) hm, show (k - 1 + 1).toNat = k.toNat by omega]
theorem down_start (zs : List Int) (h : Byte zs) (m : Nat) : wordTo zs m >>> (8 * m) = 0 := by
  apply BitVec.eq_of_getLsbD_eq; intro j hj
  rw [BitVec.getLsbD_ushiftRight]
  by_cases h1 : 8 * m + j < 64
  · rw [wordTo_bit h m _ h1, decide_eq_false (show ¬ 8 * m + j < 8 * m by omega)]; simp
  · rw [BitVec.getLsbD_of_ge _ _ (by omega)]; simp
theorem ref_word_any (s : Value) (zs : List Int) (w : World) (hs : RB w s zs) (hz : Byte zs) :
    Calls Try.prog 47 #[s] w fun e w' => e = .returned (.int .u64 (u (wordOf zs))) ∧ w = w' := by
  rcases hs with ⟨a, c, rfl, rfl, _⟩ | ⟨b, off, c, rfl, hp, hlc, hc63, hcell⟩
  · have He : Hid (u (wordOf []) = 0) := Lib.hid rfl
    go_enter Try.func47, Try.ntmps47
    go_wp2_with fail
    go_loop [3, 4] (fun t i => t = .int .u64 0 ∧ i = .int .i64 (-1)) (fun _ _ => 0)
    case atStart => exact ⟨rfl, rfl⟩
    case round =>
      obtain ⟨rfl, rfl⟩ := hrel
      go_wp2_with fail
      go_ret
      exact ⟨by rw [He.out]; rfl, rfl⟩
  · have Hcell := Lib.hid hcell
    have Hz := Lib.hid hz
    clear hcell hz
    obtain ⟨l, hl⟩ : ∃ l, zs.length = l := ⟨_, rfl⟩
    rw [hl] at hp hlc ⊢
    have Hl := Lib.hid hl
    clear hl
    by_cases h8 : l ≤ 8
    · have Hm : Hid (wordOf zs = wordTo zs l) := Lib.hid (by unfold wordOf; rw [Hl.out, Nat.min_eq_left h8])
      have Hst : Hid (wordTo zs l >>> (8 * l) = 0) := Lib.hid (down_start zs Hz.out l)
      go_enter Try.func47, Try.ntmps47
      go_wp2_with fail
      go_loop [3, 4] (fun t i => DownAt zs l t i) (fun _ i => (intOf i + 1).toNat)
      case atStart => exact ⟨l - 1, by omega, by omega, rfl, by rw [show ((l : Int) - 1 + 1).toNat = l by omega, Hst.out]; rfl⟩
      case round =>
        obtain ⟨k, hk0, hk, rfl, rfl⟩ := hrel
        by_cases hlt : 0 ≤ k
        · have hc := Hcell.out k.toNat (by rw [Hl.out]; omega)
          have hz0 := (Hz.out k.toNat).1
          have hz1 := (Hz.out k.toNat).2
          have hzz := u_bv Hz.out k.toNat
          obtain ⟨z, hz⟩ : ∃ z, zs.getD k.toNat 0 = z := ⟨_, rfl⟩
          rw [hz] at hc hz0 hz1 hzz
          have HZ := Lib.hid hz
          have HZZ := Lib.hid hzz
          clear hz hzz
          go_wp2_with fail
          go_round
          case rel => exact down_round Hz.out l h8 k hlt hk z HZZ.out _ rfl
          case measure => simp [intOf]; omega
        · have He : Hid ((8 * (k + 1).toNat) = 0) := Lib.hid (by omega)
          go_wp2_with fail
          go_ret
          exact ⟨by rw [Hm.out, He.out, BitVec.ushiftRight_zero]; rfl, rfl⟩
    · have Hm : Hid (wordOf zs = wordTo zs 8) := Lib.hid (by unfold wordOf; rw [Hl.out, Nat.min_eq_right (by omega)])
      have Hst : Hid (wordTo zs 8 >>> (8 * 8) = 0) := Lib.hid (down_start zs Hz.out 8)
      have h9 : 8 < l := by omega
      clear h8
      go_enter Try.func47, Try.ntmps47
      go_wp2_with fail
      go_loop [3, 4] (fun t i => DownAt zs 8 t i) (fun _ i => (intOf i + 1).toNat)
      case atStart => exact ⟨7, by omega, by omega, rfl, by rw [show ((7 : Int) + 1).toNat = 8 by omega, Hst.out]; rfl⟩
      case round =>
        obtain ⟨k, hk0, hk, rfl, rfl⟩ := hrel
        by_cases hlt : 0 ≤ k
        · have hc := Hcell.out k.toNat (by rw [Hl.out]; omega)
          have hz0 := (Hz.out k.toNat).1
          have hz1 := (Hz.out k.toNat).2
          have hzz := u_bv Hz.out k.toNat
          obtain ⟨z, hz⟩ : ∃ z, zs.getD k.toNat 0 = z := ⟨_, rfl⟩
          rw [hz] at hc hz0 hz1 hzz
          have HZ := Lib.hid hz
          have HZZ := Lib.hid hzz
          clear hz hzz
          go_wp2_with fail
          go_round
          case rel => exact down_round Hz.out 8 (by omega) k hlt hk z HZZ.out _ rfl
          case measure => simp [intOf]; omega
        · have He : Hid ((8 * (k + 1).toNat) = 0) := Lib.hid (by omega)
          go_wp2_with fail
          go_ret
          exact ⟨by rw [Hm.out, He.out, BitVec.ushiftRight_zero]; rfl, rfl⟩
end Go.Proofs.Ytkjkmekkcnmjnaa
