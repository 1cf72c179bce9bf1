/- Words of 64 bits: how the model's integers, shifts and bit operations on uint64 read as words of 64 bits. Plain lemmas, no program. Conditions: none. -/
import Derived.WalkKit
namespace Go.Proofs.Ytmclkllmpamblaa
open Go.RowKit

/-- a word as the model's number -/
def u (v : BitVec 64) : Int := (v.toNat : Int)

theorem u_nonneg (v : BitVec 64) : 0 ≤ u v := by unfold u; omega
theorem u_lt (v : BitVec 64) : u v < 2 ^ 64 := by unfold u; have := v.isLt; omega
theorem u_inj {a b : BitVec 64} : u a = u b ↔ a = b := by
  unfold u; constructor
  · intro h; exact BitVec.eq_of_toNat_eq (by omega)
  · rintro rfl; rfl
theorem u_beq (a b : BitVec 64) : (u a == u b) = (a == b) := by
  rw [Bool.eq_iff_iff]; simp [u_inj]
theorem u_of {a : Int} (h : (Lit.int .u64 a).wf = true) : ∃ v, a = u v := by
  simp [Lit.wf, IntKind.bits, IntKind.signed, IntKind.min, IntKind.max] at h
  refine ⟨BitVec.ofNat 64 a.toNat, ?_⟩
  unfold u
  rw [BitVec.toNat_ofNat]
  omega
theorem u_wf (v : BitVec 64) : (Lit.int .u64 (u v)).wf = true := by
  have h1 := u_nonneg v; have h2 := u_lt v
  simp [Lit.wf, IntKind.bits, IntKind.signed, IntKind.min, IntKind.max]; omega
theorem ofInt_u (v : BitVec 64) : BitVec.ofInt 64 (u v) = v := by
  unfold u; rw [BitVec.ofInt_natCast, BitVec.ofNat_toNat, BitVec.setWidth_eq]
theorem wrap_u (v : BitVec 64) : IntKind.u64.wrap (u v) = u v := by
  have h1 := u_nonneg v; have h2 := u_lt v
  rw [IntKind.wrap_u64]; omega
theorem wrap_ofInt (n : Int) : IntKind.u64.wrap n = u (BitVec.ofInt 64 n) := by
  unfold u; rw [IntKind.wrap_u64, BitVec.toNat_ofInt]; omega
theorem u_and (a b : BitVec 64) : bits .and .u64 (u a) (u b) = u (a &&& b) := by
  show IntKind.u64.wrap ((BitVec.ofInt 64 (u a) &&& BitVec.ofInt 64 (u b)).toNat : Int) = _
  rw [ofInt_u, ofInt_u]; exact wrap_u _
theorem u_or (a b : BitVec 64) : bits .or .u64 (u a) (u b) = u (a ||| b) := by
  show IntKind.u64.wrap ((BitVec.ofInt 64 (u a) ||| BitVec.ofInt 64 (u b)).toNat : Int) = _
  rw [ofInt_u, ofInt_u]; exact wrap_u _
theorem u_xor (a b : BitVec 64) : bits .xor .u64 (u a) (u b) = u (a ^^^ b) := by
  show IntKind.u64.wrap ((BitVec.ofInt 64 (u a) ^^^ BitVec.ofInt 64 (u b)).toNat : Int) = _
  rw [ofInt_u, ofInt_u]; exact wrap_u _
theorem u_andNot (a b : BitVec 64) : bits .andNot .u64 (u a) (u b) = u (a &&& ~~~b) := by
  show IntKind.u64.wrap ((BitVec.ofInt 64 (u a) &&& ~~~BitVec.ofInt 64 (u b)).toNat : Int) = _
  rw [ofInt_u, ofInt_u]; exact wrap_u _
theorem u_shr (a : BitVec 64) (n : Nat) : u a / 2 ^ n = u (a >>> n) := by
  unfold u; rw [BitVec.toNat_ushiftRight, Nat.shiftRight_eq_div_pow]; simp
theorem u_shl (a : BitVec 64) (n : Nat) : IntKind.u64.wrap (u a * 2 ^ n) = u (a <<< n) := by
  unfold u; rw [BitVec.toNat_shiftLeft, Nat.shiftLeft_eq, IntKind.wrap_u64]; simp
theorem u_shl2 (a : BitVec 64) : IntKind.u64.wrap (u a * 2) = u (a <<< 1) := u_shl a 1
theorem u_add (a b : BitVec 64) : IntKind.u64.wrap (u a + u b) = u (a + b) := by
  unfold u; rw [BitVec.toNat_add, IntKind.wrap_u64]; simp
theorem u_mul (a b : BitVec 64) : IntKind.u64.wrap (u a * u b) = u (a * b) := by
  unfold u; rw [BitVec.toNat_mul, IntKind.wrap_u64]; simp
theorem u_sub (a b : BitVec 64) : IntKind.u64.wrap (u a - u b) = u (a - b) := by
  unfold u; rw [BitVec.toNat_sub, IntKind.wrap_u64]; have := a.isLt; have := b.isLt; simp; omega
theorem u_mod (a b : BitVec 64) : u a % u b = u (a % b) := by
  unfold u; rw [BitVec.toNat_umod]; simp
theorem u_div (a b : BitVec 64) : u a / u b = u (a / b) := by
  unfold u; rw [BitVec.toNat_udiv]; simp
theorem u_zero : (0 : Int) = u 0 := rfl
theorem u_one : (1 : Int) = u 1 := rfl
theorem u_ones : (18446744073709551615 : Int) = u (BitVec.allOnes 64) := by decide +kernel
theorem u_top : (9223372036854775808 : Int) = u (1 <<< 63) := by decide +kernel
theorem u_lt_iff (a b : BitVec 64) : u a < u b ↔ a < b := by unfold u; rw [BitVec.lt_def]; omega
theorem u_le_iff (a b : BitVec 64) : u a ≤ u b ↔ a ≤ b := by unfold u; rw [BitVec.le_def]; omega

theorem u_and1 (a : BitVec 64) : bits .and .u64 (u a) 1 = u (a &&& 1) := u_and a 1
theorem u_and255 (a : BitVec 64) : bits .and .u64 (u a) 255 = u (a &&& 255) := u_and a 255
theorem u_one_shl (n : Nat) : IntKind.u64.wrap (1 * 2 ^ n) = u ((1 : BitVec 64) <<< n) := u_shl 1 n
theorem u_ones_shl (n : Nat) : IntKind.u64.wrap (18446744073709551615 * 2 ^ n) = u (BitVec.allOnes 64 <<< n) := by rw [u_ones]; exact u_shl _ n
theorem u_ones_shr (n : Nat) : (18446744073709551615 : Int) / 2 ^ n = u (BitVec.allOnes 64 >>> n) := by rw [u_ones]; exact u_shr _ n
theorem u_top_shr (n : Nat) : (9223372036854775808 : Int) / (2 : Int) ^ n = u ((1 : BitVec 64) <<< 63 >>> n) := by rw [u_top]; exact u_shr _ n
theorem and1_bit (v : BitVec 64) (k : Nat) : v >>> k &&& 1 = if v.getLsbD k then 1 else 0 := by
  apply BitVec.eq_of_getLsbD_eq; intro i hi
  rw [BitVec.getLsbD_and, BitVec.getLsbD_ushiftRight, show (1 : BitVec 64) = BitVec.ofNat 64 1 from rfl, BitVec.getLsbD_ofNat]
  rcases Nat.eq_zero_or_pos i with rfl | hp
  · rw [Nat.add_zero]
    cases v.getLsbD k <;> simp
  · have h1 : Nat.testBit 1 i = false := by
      have := Nat.testBit_two_pow_of_ne (n := 0) (m := i) (by omega)
      simpa using this
    have hz : ¬ i = 0 := by omega
    cases v.getLsbD k <;> simp [h1, hz]
theorem and1_test (v : BitVec 64) (k : Nat) : (u (v >>> k &&& 1) == 1) = v.getLsbD k := by
  rw [and1_bit, show (1 : Int) = u 1 from rfl, u_beq]; cases v.getLsbD k <;> decide
theorem and1_val (v : BitVec 64) (k : Nat) : u (v >>> k &&& 1) = ((v.getLsbD k).toNat : Int) := by
  rw [and1_bit]; cases v.getLsbD k <;> decide
theorem one_shl_bit (k i : Nat) : ((1 : BitVec 64) <<< k).getLsbD i = (decide (i = k) && decide (i < 64)) := by
  rw [BitVec.getLsbD_shiftLeft, show (1 : BitVec 64) = BitVec.ofNat 64 1 from rfl, BitVec.getLsbD_ofNat]
  rcases Nat.lt_trichotomy i k with h | h | h
  · have : decide (i = k) = false := by simp; omega
    simp [h, this]
  · subst h; simp
  · have h1 : Nat.testBit 1 (i - k) = false := by
      have := Nat.testBit_two_pow_of_ne (n := 0) (m := i - k) (by omega)
      simpa using this
    have : decide (i = k) = false := by simp; omega
    simp [h1, this]
theorem and_one_shl (v : BitVec 64) (k : Nat) (hk : k < 64) : (u (v &&& (1 : BitVec 64) <<< k) == 0) = !v.getLsbD k := by
  rw [show (0 : Int) = u 0 from rfl, u_beq, Bool.eq_iff_iff]
  simp only [beq_iff_eq, Bool.not_eq_true']
  constructor
  · intro h
    have := congrArg (fun x => x.getLsbD k) h
    simp only [BitVec.getLsbD_and, one_shl_bit, hk, decide_true, Bool.and_true] at this
    simpa using this
  · intro h
    apply BitVec.eq_of_getLsbD_eq; intro i hi
    rw [BitVec.getLsbD_and, one_shl_bit]
    by_cases e : i = k
    · subst e; simp only [h, Bool.false_and]; simp
    · simp [e]
theorem top_shr (k : Nat) (hk : k < 64) : (1 : BitVec 64) <<< 63 >>> k = (1 : BitVec 64) <<< (63 - k) := by
  apply BitVec.eq_of_getLsbD_eq; intro i hi
  rw [BitVec.getLsbD_ushiftRight, one_shl_bit, one_shl_bit, Bool.eq_iff_iff]; simp; omega

/-! ### the bits of a field -/

/-- the mask of the n lowest bits -/
def low (n : Nat) : BitVec 64 := BitVec.allOnes 64 >>> (64 - n)
theorem low_bit (n i : Nat) : (low n).getLsbD i = decide (i < n ∧ i < 64) := by
  unfold low; rw [BitVec.getLsbD_ushiftRight, BitVec.getLsbD_allOnes]
  rw [Bool.eq_iff_iff]; simp; omega

/-- are they the ends of a field? -/
def Ends (hi lo : Int) : Prop := 0 ≤ lo ∧ lo ≤ hi ∧ hi < 64
instance (hi lo : Int) : Decidable (Ends hi lo) := by unfold Ends; infer_instance
/-- .. as a test -/
def ends (hi lo : Int) : Bool := decide (Ends hi lo)
theorem ends_true {hi lo : Int} (h : Ends hi lo) : ends hi lo = true := by unfold ends; simpa using h
theorem ends_false {hi lo : Int} (h : ¬ Ends hi lo) : ends hi lo = false := by unfold ends; simpa using h

def fld (v : BitVec 64) (hi lo : Int) : BitVec 64 := if Ends hi lo then v >>> lo.toNat &&& low (hi - lo + 1).toNat else 0
def put (v : BitVec 64) (hi lo : Int) (x : BitVec 64) : BitVec 64 :=
  if Ends hi lo then v &&& ~~~(low (hi - lo + 1).toNat <<< lo.toNat) ||| x <<< lo.toNat &&& low (hi - lo + 1).toNat <<< lo.toNat else v
def zxt (v : BitVec 64) (n : Int) : BitVec 64 := if n < 1 then 0 else if 64 ≤ n then v else v &&& low n.toNat
def sxt (v : BitVec 64) (n : Int) : BitVec 64 :=
  if 1 ≤ n ∧ n < 64 ∧ v.getLsbD (n - 1).toNat = true then zxt v n ||| BitVec.allOnes 64 <<< n.toNat else zxt v n

theorem fld_bit (v : BitVec 64) (hi lo : Int) (i : Nat) : (fld v hi lo).getLsbD i = (decide (Ends hi lo ∧ (i : Int) ≤ hi - lo) && v.getLsbD (lo.toNat + i)) := by
  unfold fld
  by_cases h : Ends hi lo
  · have h' := h; unfold Ends at h'
    rw [if_pos h, BitVec.getLsbD_and, BitVec.getLsbD_ushiftRight, low_bit, Bool.and_comm]
    congr 1
    rw [Bool.eq_iff_iff]; simp [h]; omega
  · rw [if_neg h]; simp [h]
theorem put_bit (v : BitVec 64) (hi lo : Int) (x : BitVec 64) (i : Nat) :
    (put v hi lo x).getLsbD i = if Ends hi lo ∧ lo ≤ (i : Int) ∧ (i : Int) ≤ hi then x.getLsbD (i - lo.toNat) else v.getLsbD i := by
  unfold put
  by_cases h : Ends hi lo
  · have h' := h; unfold Ends at h'
    rw [if_pos h]
    by_cases hi64 : i < 64
    · simp only [BitVec.getLsbD_or, BitVec.getLsbD_and, BitVec.getLsbD_not, BitVec.getLsbD_shiftLeft, low_bit]
      by_cases hin : lo ≤ (i : Int) ∧ (i : Int) ≤ hi
      · rw [if_pos ⟨h, hin⟩]
        have a1 : decide (i < lo.toNat) = false := by simp; omega
        have a2 : decide (i - lo.toNat < (hi - lo + 1).toNat ∧ i - lo.toNat < 64) = true := by simp; omega
        simp only [a1, a2, hi64, decide_true, Bool.not_false, Bool.and_true, Bool.true_and, Bool.not_true, Bool.and_false, Bool.false_or]
      · rw [if_neg (fun hh => hin hh.2)]
        by_cases hl : i < lo.toNat
        · simp [hl, hi64]
        · have a2 : decide (i - lo.toNat < (hi - lo + 1).toNat ∧ i - lo.toNat < 64) = false := by simp; omega
          simp only [a2, Bool.and_false, Bool.not_false, Bool.and_true, Bool.or_false]
          simp [hi64]
    · rw [BitVec.getLsbD_of_ge _ _ (by omega), if_neg (by omega), BitVec.getLsbD_of_ge _ _ (by omega)]
  · rw [if_neg h, if_neg (fun hh => h hh.1)]
theorem zxt_bit (v : BitVec 64) (n : Int) (i : Nat) : (zxt v n).getLsbD i = (decide ((i : Int) < n) && v.getLsbD i) := by
  unfold zxt
  by_cases h1 : n < 1
  · rw [if_pos h1]; have : decide ((i : Int) < n) = false := by simp; omega
    simp [this]
  · rw [if_neg h1]
    by_cases h2 : 64 ≤ n
    · rw [if_pos h2]
      by_cases hi : i < 64
      · have : decide ((i : Int) < n) = true := by simp; omega
        simp [this]
      · rw [BitVec.getLsbD_of_ge _ _ (by omega)]; simp
    · rw [if_neg h2, BitVec.getLsbD_and, low_bit, Bool.and_comm]
      congr 1
      rw [Bool.eq_iff_iff]; simp; omega
theorem sxt_bit (v : BitVec 64) (n : Int) (i : Nat) (hi : i < 64) : (sxt v n).getLsbD i = if (i : Int) < n then v.getLsbD i else (decide (1 ≤ n) && v.getLsbD (n - 1).toNat) := by
  unfold sxt
  by_cases h : 1 ≤ n ∧ n < 64 ∧ v.getLsbD (n - 1).toNat = true
  · rw [if_pos h, BitVec.getLsbD_or, zxt_bit, BitVec.getLsbD_shiftLeft, BitVec.getLsbD_allOnes]
    by_cases hin : (i : Int) < n
    · rw [if_pos hin]
      have a0 : decide ((i : Int) < n) = true := by simp; omega
      have a1 : decide (i < n.toNat) = true := by simp; omega
      simp only [a0, a1, Bool.true_and, Bool.not_true, Bool.and_false, Bool.false_and, Bool.or_false]
    · rw [if_neg hin]
      have a0 : decide ((i : Int) < n) = false := by simp; omega
      have a1 : decide (i < n.toNat) = false := by simp; omega
      have a2 : decide (1 ≤ n) = true := by simp; omega
      have a3 : decide (i - n.toNat < 64) = true := by simp; omega
      simp only [a0, a1, a2, a3, h.2.2, hi, decide_true, Bool.true_and, Bool.not_false, Bool.false_and, Bool.false_or]
  · rw [if_neg h, zxt_bit]
    by_cases hin : (i : Int) < n
    · rw [if_pos hin]; simp [hin]
    · rw [if_neg hin]
      have hf : decide ((i : Int) < n) = false := by simp; omega
      rw [hf, Bool.false_and]
      by_cases h1 : 1 ≤ n
      · have : v.getLsbD (n - 1).toNat = false := by
          cases hv : v.getLsbD (n - 1).toNat
          · rfl
          · exact absurd ⟨h1, by omega, hv⟩ h
        rw [this]; simp
      · simp [h1]

/-- how many of the k lowest bits are set -/
def cnt (v : BitVec 64) : Nat → Nat
  | 0 => 0
  | k + 1 => cnt v k + (v.getLsbD k).toNat
theorem cnt_le (v : BitVec 64) (k : Nat) : cnt v k ≤ k := by
  induction k with
  | zero => simp [cnt]
  | succ k ih => simp only [cnt]; have : (v.getLsbD k).toNat ≤ 1 := Bool.toNat_le _; omega
theorem cnt_not (v : BitVec 64) (k : Nat) (hk : k ≤ 64) : cnt v k + cnt (~~~v) k = k := by
  induction k with
  | zero => simp [cnt]
  | succ k ih =>
    have := ih (by omega)
    simp only [cnt, BitVec.getLsbD_not]
    have hd : decide (k < 64) = true := by simp; omega
    rw [hd]
    cases v.getLsbD k <;> simp <;> omega
theorem cnt_drop (v : BitVec 64) (l : Nat) (hv : v.getLsbD l = true) (k : Nat) (hk : k ≤ 64) :
    cnt (v &&& ~~~((1 : BitVec 64) <<< l)) k + (if l < k then 1 else 0) = cnt v k := by
  induction k with
  | zero => simp [cnt]
  | succ k ih =>
    have h := ih (by omega)
    have hb : (v &&& ~~~((1 : BitVec 64) <<< l)).getLsbD k = (v.getLsbD k && !decide (k = l)) := by
      have hk64 : k < 64 := by omega
      rw [BitVec.getLsbD_and, BitVec.getLsbD_not, BitVec.getLsbD_shiftLeft, show (1 : BitVec 64) = BitVec.ofNat 64 1 from rfl, BitVec.getLsbD_ofNat]
      by_cases e : k = l
      · subst e; simp [hk64]
      · rcases Nat.lt_or_ge k l with hl | hl
        · simp [hk64, hl, e]
        · have hne : k - l ≠ 0 := by omega
          have h1 : Nat.testBit 1 (k - l) = false := by
            have := Nat.testBit_two_pow_of_ne (n := 0) (m := k - l) (by omega)
            simpa using this
          simp [hk64, e, h1]
    simp only [cnt]
    rw [hb]
    by_cases e : k = l
    · subst e; rw [hv]; simp only [Nat.lt_irrefl, if_false, Nat.add_zero] at h; simp; omega
    · by_cases hl : l < k
      · rw [if_pos hl] at h; rw [if_pos (by omega)]; simp only [e, decide_false, Bool.not_false, Bool.and_true]; omega
      · rw [if_neg hl] at h; rw [if_neg (by omega)]; simp only [e, decide_false, Bool.not_false, Bool.and_true]; omega

/-- no bit below i is set -/
def NoneBelow (v : BitVec 64) (i : Nat) : Prop := ∀ j, j < i → v.getLsbD j = false
/-- no bit from i on is set -/
def NoneFrom (v : BitVec 64) (i : Nat) : Prop := ∀ j, i ≤ j → v.getLsbD j = false
theorem NoneBelow.zero (v : BitVec 64) : NoneBelow v 0 := fun _ h => absurd h (by omega)
theorem NoneFrom.top (v : BitVec 64) : NoneFrom v 64 := fun _ h => BitVec.getLsbD_of_ge _ _ h
theorem NoneBelow.succ {v : BitVec 64} {i : Nat} (h : NoneBelow v i) (hv : v.getLsbD i = false) : NoneBelow v (i + 1) := fun j hj => by
  rcases Nat.lt_or_ge j i with a | a
  · exact h j a
  · obtain rfl : j = i := by omega
    exact hv
theorem NoneFrom.pred {v : BitVec 64} {i : Nat} (h : NoneFrom v (i + 1)) (hv : v.getLsbD i = false) : NoneFrom v i := fun j hj => by
  rcases Nat.lt_or_ge i j with a | a
  · exact h j a
  · obtain rfl : j = i := by omega
    exact hv
theorem NoneBelow.all {v : BitVec 64} (h : NoneBelow v 64) : v = 0 := BitVec.eq_of_getLsbD_eq fun i hi => by rw [h i hi]; simp
theorem NoneFrom.all {v : BitVec 64} (h : NoneFrom v 0) : v = 0 := BitVec.eq_of_getLsbD_eq fun i hi => by rw [h i (by omega)]; simp

open Classical in
/-- the lowest bit that is set; 0, if none is -/
noncomputable def lowest (v : BitVec 64) : Nat := if h : ∃ i, NoneBelow v i ∧ v.getLsbD i = true then h.choose else 0
open Classical in
/-- the highest bit that is set; 0, if none is -/
noncomputable def highest (v : BitVec 64) : Nat := if h : ∃ i, NoneFrom v (i + 1) ∧ v.getLsbD i = true then h.choose else 0
theorem lowest_of {v : BitVec 64} {i : Nat} (h : NoneBelow v i) (hv : v.getLsbD i = true) : lowest v = i := by
  have hex : ∃ i, NoneBelow v i ∧ v.getLsbD i = true := ⟨i, h, hv⟩
  unfold lowest; rw [dif_pos hex]
  obtain ⟨h1, h2⟩ := hex.choose_spec
  rcases Nat.lt_trichotomy hex.choose i with a | a | a
  · rw [h _ a] at h2; exact absurd h2 (by simp)
  · exact a
  · rw [h1 _ a] at hv; exact absurd hv (by simp)
theorem highest_of {v : BitVec 64} {i : Nat} (h : NoneFrom v (i + 1)) (hv : v.getLsbD i = true) : highest v = i := by
  have hex : ∃ i, NoneFrom v (i + 1) ∧ v.getLsbD i = true := ⟨i, h, hv⟩
  unfold highest; rw [dif_pos hex]
  obtain ⟨h1, h2⟩ := hex.choose_spec
  rcases Nat.lt_trichotomy hex.choose i with a | a | a
  · rw [h1 _ a] at hv; exact absurd hv (by simp)
  · exact a
  · rw [h _ a] at h2; exact absurd h2 (by simp)
theorem lowest_zero : lowest 0 = 0 := by
  unfold lowest; rw [dif_neg]; rintro ⟨i, _, h⟩; simp at h
theorem highest_zero : highest 0 = 0 := by
  unfold highest; rw [dif_neg]; rintro ⟨i, _, h⟩; simp at h
theorem lt_of_bit {v : BitVec 64} {i : Nat} (h : v.getLsbD i = true) : i < 64 := by
  rcases Nat.lt_or_ge i 64 with a | a
  · exact a
  · rw [BitVec.getLsbD_of_ge _ _ a] at h; exact absurd h (by simp)
theorem low_search (v : BitVec 64) : ∀ n i, i + n = 64 → NoneBelow v i → v ≠ 0 → ∃ i, NoneBelow v i ∧ v.getLsbD i = true
  | 0, i, h, hb, hne => absurd ((show i = 64 by omega) ▸ hb).all hne
  | n + 1, i, h, hb, hne => by
    cases hv : v.getLsbD i
    · exact low_search v n (i + 1) (by omega) (hb.succ hv) hne
    · exact ⟨i, hb, hv⟩
theorem high_search (v : BitVec 64) : ∀ n, NoneFrom v n → v ≠ 0 → ∃ i, NoneFrom v (i + 1) ∧ v.getLsbD i = true
  | 0, hb, hne => absurd hb.all hne
  | n + 1, hb, hne => by
    cases hv : v.getLsbD n
    · exact high_search v n (hb.pred hv) hne
    · exact ⟨n, hb, hv⟩
theorem lowest_spec {v : BitVec 64} (hne : v ≠ 0) : NoneBelow v (lowest v) ∧ v.getLsbD (lowest v) = true := by
  obtain ⟨i, h, hv⟩ := low_search v 64 0 rfl (NoneBelow.zero v) hne
  rw [lowest_of h hv]; exact ⟨h, hv⟩
theorem highest_spec {v : BitVec 64} (hne : v ≠ 0) : NoneFrom v (highest v + 1) ∧ v.getLsbD (highest v) = true := by
  obtain ⟨i, h, hv⟩ := high_search v 64 (NoneFrom.top v) hne
  rw [highest_of h hv]; exact ⟨h, hv⟩
theorem lowest_lt (v : BitVec 64) : lowest v < 64 := by
  by_cases h : v = 0
  · subst h; rw [lowest_zero]; omega
  · exact lt_of_bit (lowest_spec h).2
theorem highest_lt (v : BitVec 64) : highest v < 64 := by
  by_cases h : v = 0
  · subst h; rw [highest_zero]; omega
  · exact lt_of_bit (highest_spec h).2

/-! ### what the loops of the reference carry -/
theorem fld_none (v : BitVec 64) (hi lo : Int) (h : ¬ Ends hi lo) : fld v hi lo = 0 := by unfold fld; rw [if_neg h]
theorem put_none (v : BitVec 64) (hi lo : Int) (x : BitVec 64) (h : ¬ Ends hi lo) : put v hi lo x = v := by unfold put; rw [if_neg h]
theorem shl1_add1 (a : BitVec 64) : a <<< 1 + (1 : BitVec 64) = a <<< 1 ||| (1 : BitVec 64) := by
  refine BitVec.add_eq_or_of_and_eq_zero _ _ ?_
  apply BitVec.eq_of_getLsbD_eq; intro i hi
  rw [BitVec.getLsbD_and, BitVec.getLsbD_shiftLeft, show (1 : BitVec 64) = BitVec.ofNat 64 1 from rfl, BitVec.getLsbD_ofNat]
  rcases Nat.eq_zero_or_pos i with rfl | hp
  · simp
  · have h1 : Nat.testBit 1 i = false := by
      have := Nat.testBit_two_pow_of_ne (n := 0) (m := i) (by omega)
      simpa using this
    rw [h1]; simp
theorem one_bit (i : Nat) : (1 : BitVec 64).getLsbD i = decide (i = 0) := by
  rw [show (1 : BitVec 64) = BitVec.ofNat 64 1 from rfl, BitVec.getLsbD_ofNat]
  rcases Nat.eq_zero_or_pos i with rfl | hp
  · simp
  · have h1 : Nat.testBit 1 i = false := by
      have := Nat.testBit_two_pow_of_ne (n := 0) (m := i) (by omega)
      simpa using this
    have hz : decide (i = 0) = false := by simp; omega
    rw [h1, hz]; simp
theorem fld_step (v : BitVec 64) (hi lo : Int) (h : Ends hi lo) :
    fld v hi lo = if v.getLsbD lo.toNat then fld v hi (lo + 1) <<< 1 + (1 : BitVec 64) else fld v hi (lo + 1) <<< 1 := by
  have h' := h; unfold Ends at h'
  have key : ∀ i, i < 64 → i ≠ 0 → (fld v hi lo).getLsbD i = (fld v hi (lo + 1) <<< 1).getLsbD i := by
    intro i hi64 h0
    rw [fld_bit, BitVec.getLsbD_shiftLeft, fld_bit]
    have e1 : decide (i < 64) = true := by simpa using hi64
    have e2 : decide (i < 1) = false := by simp; omega
    rw [e1, e2, show (lo + 1).toNat + (i - 1) = lo.toNat + i by omega]
    have e3 : decide (Ends hi lo ∧ (i : Int) ≤ hi - lo) = decide (Ends hi (lo + 1) ∧ ((i - 1 : Nat) : Int) ≤ hi - (lo + 1)) := by
      rw [decide_eq_decide]; unfold Ends; omega
    rw [e3]; simp
  have k0 : (fld v hi lo).getLsbD 0 = v.getLsbD lo.toNat := by
    rw [fld_bit, Nat.add_zero]
    have : decide (Ends hi lo ∧ ((0 : Nat) : Int) ≤ hi - lo) = true := by simp [h]; omega
    rw [this, Bool.true_and]
  apply BitVec.eq_of_getLsbD_eq; intro i hi64
  by_cases h0 : i = 0
  · subst h0; rw [k0]
    cases hv : v.getLsbD lo.toNat
    · simp
    · rw [if_pos rfl, shl1_add1, BitVec.getLsbD_or, one_bit]; simp
  · rw [key i hi64 h0]
    cases hv : v.getLsbD lo.toNat
    · simp
    · rw [if_pos rfl, shl1_add1, BitVec.getLsbD_or, one_bit]; simp [h0]
theorem put_step (v : BitVec 64) (hi lo : Int) (x : BitVec 64) (h : Ends hi lo) :
    put v hi lo x = if x.getLsbD (hi - lo).toNat then put v (hi - 1) lo x &&& ~~~((1 : BitVec 64) <<< hi.toNat) ||| (1 : BitVec 64) <<< hi.toNat else put v (hi - 1) lo x &&& ~~~((1 : BitVec 64) <<< hi.toNat) := by
  have h' := h; unfold Ends at h'
  apply BitVec.eq_of_getLsbD_eq; intro i hi64
  have hL := put_bit v hi lo x i
  have hR := put_bit v (hi - 1) lo x i
  have ex : ∀ (c : Bool) (a b : BitVec 64), (if c = true then a else b).getLsbD i = if c = true then a.getLsbD i else b.getLsbD i := by intro c a b; cases c <;> rfl
  rw [ex, hL, BitVec.getLsbD_or, BitVec.getLsbD_and, BitVec.getLsbD_not, one_shl_bit, hR]
  have e64 : decide (i < 64) = true := by simpa using hi64
  rw [e64]
  by_cases he : (i : Int) = hi
  · have e1 : decide (i = hi.toNat) = true := by simp; omega
    rw [if_pos ⟨h, by omega, by omega⟩, e1, show (hi - lo).toNat = i - lo.toNat by omega]
    cases x.getLsbD (i - lo.toNat) <;> simp
  · have e1 : decide (i = hi.toNat) = false := by simp; omega
    have e2 : (Ends hi lo ∧ lo ≤ (i : Int) ∧ (i : Int) ≤ hi) ↔ (Ends (hi - 1) lo ∧ lo ≤ (i : Int) ∧ (i : Int) ≤ hi - 1) := by unfold Ends; omega
    rw [e1]
    by_cases e3 : Ends (hi - 1) lo ∧ lo ≤ (i : Int) ∧ (i : Int) ≤ hi - 1
    · rw [if_pos (e2.2 e3), if_pos e3]; simp
    · rw [if_neg (fun h => e3 (e2.1 h)), if_neg e3]; simp
theorem fld_zxt (v : BitVec 64) (n : Int) (h1 : 1 ≤ n) (h2 : n ≤ 64) : fld v (n - 1) 0 = zxt v n := by
  apply BitVec.eq_of_getLsbD_eq; intro i hi64
  rw [fld_bit, zxt_bit]
  have : decide (Ends (n - 1) 0 ∧ (i : Int) ≤ n - 1 - 0) = decide ((i : Int) < n) := by rw [decide_eq_decide]; unfold Ends; omega
  rw [this]; simp
/-- a sign-extended word as far as bit k -/
def sxtTo (v : BitVec 64) (n k : Int) : BitVec 64 := zxt (sxt v n) k
theorem sxtTo_n (v : BitVec 64) (n : Int) : sxtTo v n n = zxt v n := by
  apply BitVec.eq_of_getLsbD_eq; intro i hi64
  unfold sxtTo
  rw [zxt_bit, zxt_bit, sxt_bit _ _ _ hi64]
  by_cases h : (i : Int) < n
  · rw [if_pos h]
  · simp [h]
theorem sxtTo_64 (v : BitVec 64) (n : Int) : sxtTo v n 64 = sxt v n := by
  apply BitVec.eq_of_getLsbD_eq; intro i hi64
  unfold sxtTo
  rw [zxt_bit]
  have : decide ((i : Int) < 64) = true := by simp; omega
  rw [this]; simp
theorem sxtTo_step (v : BitVec 64) (n k : Int) (h1 : 1 ≤ n) (h2 : n ≤ k) (hv : v.getLsbD (n - 1).toNat = true) :
    sxtTo v n (k + 1) = sxtTo v n k ||| (1 : BitVec 64) <<< k.toNat := by
  apply BitVec.eq_of_getLsbD_eq; intro i hi64
  unfold sxtTo
  rw [BitVec.getLsbD_or, one_shl_bit, zxt_bit, zxt_bit, sxt_bit _ _ _ hi64]
  have e64 : decide (i < 64) = true := by simpa using hi64
  rw [e64, Bool.and_true]
  by_cases he : (i : Int) = k
  · have a1 : decide (i = k.toNat) = true := by simp; omega
    have a2 : decide ((i : Int) < k + 1) = true := by simp; omega
    have a3 : decide (1 ≤ n) = true := by simpa using h1
    rw [if_neg (by omega), a1, a2, a3, hv]; simp
  · have a1 : decide (i = k.toNat) = false := by simp; omega
    have a2 : decide ((i : Int) < k + 1) = decide ((i : Int) < k) := by rw [decide_eq_decide]; omega
    rw [a1, a2]; simp
theorem sxt_plain (v : BitVec 64) (n : Int) (hv : v.getLsbD (n - 1).toNat = false) : sxt v n = zxt v n := by
  unfold sxt; rw [if_neg (by rw [hv]; simp)]
end Go.Proofs.Ytmclkllmpamblaa
