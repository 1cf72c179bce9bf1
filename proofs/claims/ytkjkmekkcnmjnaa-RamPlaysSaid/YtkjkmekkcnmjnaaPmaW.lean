/- The map of addresses: which region an address is in, how far from its beginning. Plain lemmas, no program. Conditions: none. -/
import Derived.Test.YtkjkmekkcnmjnaaOn
import Derived.Test.YtkjkmekkcnmjnaaWord
namespace Go.Proofs.Ytkjkmekkcnmjnaa
open Go.RowKit

/-- a number of pages as it counts -/
def pgN (p : Int) : Int := max 4 (min p 256)
theorem pgN_in (p : Int) : 4 ≤ pgN p ∧ pgN p ≤ 256 := by unfold pgN; omega
/-- where region k begins -/
def rgB : Nat → Int
  | 1 => 4096 | 2 => 33554432 | 3 => 201326592 | 4 => 268435456 | 5 => 2147483648 | _ => 0
/-- how many bytes it has -/
def rgS (p : Int) : Nat → Int
  | 1 => 4096 | 2 => 65536 | 3 => 4194304 | 4 => 4096 | 5 => pgN p * 4096 | _ => 0
theorem rg_in (p : Int) (k : Nat) : 0 ≤ rgB k ∧ 0 ≤ rgS p k ∧ rgB k + rgS p k ≤ 2148532224 := by
  have := pgN_in p
  match k with
  | 0 => simp [rgB, rgS]
  | 1 => simp [rgB, rgS]
  | 2 => simp [rgB, rgS]
  | 3 => simp [rgB, rgS]
  | 4 => simp [rgB, rgS]
  | 5 => simp only [rgB, rgS]; omega
  | n + 6 => simp [rgB, rgS]
def inR (p : Int) (a : BitVec 64) (k : Nat) : Bool := decide (rgB k ≤ u a ∧ u a < rgB k + rgS p k)
def regA (p : Int) (a : BitVec 64) : Nat := if inR p a 1 then 1 else if inR p a 2 then 2 else if inR p a 3 then 3 else if inR p a 4 then 4 else if inR p a 5 then 5 else 0
def offA (p : Int) (a : BitVec 64) : Int := if regA p a = 0 then 0 else u a - rgB (regA p a)
theorem regA_le (p : Int) (a : BitVec 64) : regA p a ≤ 5 := by unfold regA; split <;> (try split) <;> (try split) <;> (try split) <;> (try split) <;> omega
/-- none ahead of it -/
def noneTo (p : Int) (a : BitVec 64) (k : Nat) : Prop := ∀ j, 1 ≤ j → j ≤ k → inR p a j = false
theorem noneTo_zero (p : Int) (a : BitVec 64) : noneTo p a 0 := fun _ h1 h2 => by omega
theorem noneTo_next {p : Int} {a : BitVec 64} {k : Nat} (h : noneTo p a k) (hk : inR p a (k + 1) = false) : noneTo p a (k + 1) := fun j h1 h2 => by
  rcases Nat.lt_or_ge k j with h3 | h3
  · rw [show j = k + 1 by omega]; exact hk
  · exact h j h1 h3
theorem regA_of {p : Int} {a : BitVec 64} {k : Nat} (hk : k < 5) (h : noneTo p a k) (hi : inR p a (k + 1) = true) : regA p a = k + 1 := by
  unfold regA
  have h6 : k = 0 ∨ k = 1 ∨ k = 2 ∨ k = 3 ∨ k = 4 := by omega
  rcases h6 with rfl | rfl | rfl | rfl | rfl
  · simp [hi]
  · simp [hi, h 1 (by omega) (by omega)]
  · simp [hi, h 1 (by omega) (by omega), h 2 (by omega) (by omega)]
  · simp [hi, h 1 (by omega) (by omega), h 2 (by omega) (by omega), h 3 (by omega) (by omega)]
  · simp [hi, h 1 (by omega) (by omega), h 2 (by omega) (by omega), h 3 (by omega) (by omega), h 4 (by omega) (by omega)]
theorem regA_none {p : Int} {a : BitVec 64} (h : noneTo p a 5) : regA p a = 0 := by
  unfold regA
  simp [h 1 (by omega) (by omega), h 2 (by omega) (by omega), h 3 (by omega) (by omega), h 4 (by omega) (by omega), h 5 (by omega) (by omega)]
theorem inR_true {p : Int} {a : BitVec 64} {k : Nat} (h : inR p a k = true) : rgB k ≤ u a ∧ u a < rgB k + rgS p k := by unfold inR at h; simpa using h
theorem inR_false {p : Int} {a : BitVec 64} {k : Nat} (h : inR p a k = false) : ¬ (rgB k ≤ u a ∧ u a < rgB k + rgS p k) := by unfold inR at h; simpa using h
theorem wrap_in (n : Int) (h0 : 0 ≤ n) (h1 : n < 18446744073709551616) : IntKind.u64.wrap n = n := by
  rw [wrap_ofInt]; unfold u; rw [BitVec.toNat_ofInt]; omega
theorem wrap_neg (n : Int) (h0 : n < 0) (h1 : -18446744073709551616 ≤ n) : IntKind.u64.wrap n = n + 18446744073709551616 := by
  rw [wrap_ofInt]; unfold u; rw [BitVec.toNat_ofInt]; omega
/-- the difference, going round, is less than the size just in the region -/
theorem in_test (p : Int) (a : BitVec 64) (k : Nat) : (IntKind.u64.wrap (u a - rgB k) < rgS p k) ↔ inR p a k = true := by
  have h1 := rg_in p k
  have h2 := u_nonneg a
  have h3 := u_lt a
  by_cases hle : rgB k ≤ u a
  · rw [wrap_in _ (by omega) (by omega)]
    unfold inR; simp; omega
  · rw [wrap_neg _ (by omega) (by omega)]
    unfold inR; simp; omega
/-- the region's bytes -/
theorem regA_in {p : Int} {a : BitVec 64} (h : regA p a ≠ 0) : rgB (regA p a) ≤ u a ∧ u a < rgB (regA p a) + rgS p (regA p a) := by
  unfold regA at *
  by_cases h1 : inR p a 1 = true
  · rw [if_pos h1]; exact inR_true h1
  by_cases h2 : inR p a 2 = true
  · rw [if_neg h1, if_pos h2]; exact inR_true h2
  by_cases h3 : inR p a 3 = true
  · rw [if_neg h1, if_neg h2, if_pos h3]; exact inR_true h3
  by_cases h4 : inR p a 4 = true
  · rw [if_neg h1, if_neg h2, if_neg h3, if_pos h4]; exact inR_true h4
  by_cases h5 : inR p a 5 = true
  · rw [if_neg h1, if_neg h2, if_neg h3, if_neg h4, if_pos h5]; exact inR_true h5
  · rw [if_neg h1, if_neg h2, if_neg h3, if_neg h4, if_neg h5] at h; exact absurd rfl h
/-- no address is in two -/
theorem regA_uniq {p : Int} {a : BitVec 64} {k : Nat} (hk : k ≤ 5) (h : rgB k ≤ u a ∧ u a < rgB k + rgS p k) : regA p a = k := by
  have hp := pgN_in p
  have hz : k ≠ 0 := by rintro rfl; simp [rgB, rgS] at h; omega
  have hi : inR p a k = true := by unfold inR; simpa using h
  have n : noneTo p a (k - 1) := fun j h1 h2 => by
    cases hj : inR p a j
    · rfl
    · exfalso
      have := inR_true hj
      have e : ∀ m : Nat, 1 ≤ m → m ≤ 5 → m = 1 ∨ m = 2 ∨ m = 3 ∨ m = 4 ∨ m = 5 := by omega
      rcases e k (by omega) hk with rfl | rfl | rfl | rfl | rfl <;> rcases e j h1 (by omega) with rfl | rfl | rfl | rfl | rfl <;> simp only [rgB, rgS] at * <;> omega
  have := regA_of (k := k - 1) (by omega) n (by rw [show k - 1 + 1 = k by omega]; exact hi)
  omega
theorem offA_in (p : Int) (a : BitVec 64) : 0 ≤ offA p a ∧ (regA p a ≠ 0 → offA p a < rgS p (regA p a)) ∧ (regA p a = 0 → offA p a = 0) := by
  unfold offA
  by_cases h : regA p a = 0
  · rw [if_pos h]; exact ⟨by omega, fun k => absurd h k, fun _ => rfl⟩
  · rw [if_neg h]
    have := regA_in h
    exact ⟨by omega, fun _ => by omega, fun k => absurd k h⟩
/-- may an access of that size be there -/
def sizeOk (s : Int) : Bool := s == 1 || s == 2 || s == 4 || s == 8
def kindOk (r : Nat) (k : Int) : Bool := if k = 0 then r == 1 || r == 5 else if k = 1 then true else if k = 2 then !(r == 1) else false
def holdsA (p : Int) (a : BitVec 64) (s : Int) : Bool := sizeOk s && decide (offA p a + s ≤ rgS p (regA p a))
def mayA (p : Int) (a : BitVec 64) (s k : Int) (at0 : Bool) : Bool := holdsA p a s && kindOk (regA p a) k && (!at0 || regA p a == 5)
theorem holdsA_none {p : Int} {a : BitVec 64} {s : Int} (h : regA p a = 0) : holdsA p a s = false := by
  unfold holdsA sizeOk
  rw [h, (offA_in p a).2.2 h]
  cases hs : (s == 1 || s == 2 || s == 4 || s == 8)
  · rfl
  · simp at hs; simp [rgS]; omega
end Go.Proofs.Ytkjkmekkcnmjnaa
