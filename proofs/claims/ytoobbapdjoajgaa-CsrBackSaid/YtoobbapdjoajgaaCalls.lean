/- What each call of package bits, and of its reference, comes to, as words of 64 bits. Conditions: named at each. -/
import Derived.Test.YtoobbapdjoajgaaWord
import Derived.Test.YtoobbapdjoajgaaRows
import Derived.WalkKit
import Derived.ProofKit
import Derived.Lib.Hide
import Derived.BigQuiet
import Derived.Deep.QuietTactic
namespace Go.Proofs.Ytoobbapdjoajgaa
open Go.RowKit

/-! ### Field -/
/-! ### Put -/
/-! ### Zext, Sext, Aligned -/
theorem shr_test (v : BitVec 64) (n : Int) (h1 : 1 ≤ n) (h2 : n < 64) : (u (zxt v n) / 2 ^ (n - 1).toNat == 0) = !v.getLsbD (n - 1).toNat := by
  rw [u_shr, show (0 : Int) = u 0 from rfl, u_beq, Bool.eq_iff_iff]
  simp only [beq_iff_eq, Bool.not_eq_true']
  constructor
  · intro h
    have := congrArg (fun x => x.getLsbD 0) h
    simp only [BitVec.getLsbD_ushiftRight, zxt_bit] at this
    have e : decide ((((n - 1).toNat + 0 : Nat) : Int) < n) = true := decide_eq_true (by omega)
    rw [e, Bool.true_and] at this
    simpa using this
  · intro h
    apply BitVec.eq_of_getLsbD_eq; intro i hi
    rw [BitVec.getLsbD_ushiftRight, zxt_bit]
    by_cases e : i = 0
    · subst e; rw [Nat.add_zero, h]; simp
    · have e : decide ((((n - 1).toNat + i : Nat) : Int) < n) = false := by simp; omega
      rw [e]; simp
/-- is a word a multiple of n? -/
def mult (v : BitVec 64) (n : Int) : Bool := decide (1 ≤ n) && u v % n == 0
end Go.Proofs.Ytoobbapdjoajgaa
