/- What each call of package bits, and of its reference, comes to, as words of 64 bits. Conditions: named at each. -/
import Derived.Test.YtkjkmekkcnmjnaaWord
import Derived.Test.YtkjkmekkcnmjnaaRows
import Derived.WalkKit
import Derived.ProofKit
import Derived.Lib.Hide
import Derived.BigQuiet
import Derived.Deep.QuietTactic
namespace Go.Proofs.Ytkjkmekkcnmjnaa
open Go.RowKit

theorem may_yes (hi lo : Int) (h : Ends hi lo) (w : World) :
    Calls Try.prog 58 #[.int .i64 hi, .int .i64 lo] w fun e w' => e = .returned (.bool true) ∧ w = w' := by
  obtain ⟨h1, h2, h3⟩ := h
  go_enter Try.func58, Try.ntmps58
  go_wp2
  go_ret
  exact ⟨by simp; omega, rfl⟩
theorem may_no (hi lo : Int) (h : ¬ Ends hi lo) (w : World) :
    Calls Try.prog 58 #[.int .i64 hi, .int .i64 lo] w fun e w' => e = .returned (.bool false) ∧ w = w' := by
  by_cases h1 : 0 ≤ lo
  · by_cases h2 : lo ≤ hi
    · have h3 : ¬ hi < 64 := fun h3 => h ⟨h1, h2, h3⟩
      clear h
      go_enter Try.func58, Try.ntmps58
      go_wp2
      go_ret
      exact ⟨by simp; omega, rfl⟩
    · clear h
      go_enter Try.func58, Try.ntmps58
      go_wp2
      go_ret
      exact ⟨rfl, rfl⟩
  · clear h
    go_enter Try.func58, Try.ntmps58
    go_wp2
    go_ret
    exact ⟨rfl, rfl⟩

theorem bit_any (v : BitVec 64) (k : Int) (h0 : 0 ≤ k) (h1 : k < 64) (w : World) :
    Calls Try.prog 59 #[.int .u64 (u v), .int .i64 k] w fun e w' => e = .returned (.bool (v.getLsbD k.toNat)) ∧ w = w' := by
  have H : Hid ((bits BinOp.and IntKind.u64 (u v / 2 ^ k.toNat) 1 == 1) = v.getLsbD k.toNat) := Lib.hid (by rw [u_shr, u_and1, and1_test])
  have hu := u_nonneg v
  go_enter Try.func59, Try.ntmps59
  go_wp2
  go_ret
  exact ⟨by rw [← H.out]; rfl, rfl⟩
theorem bit_yes (v : BitVec 64) (k : Int) (h0 : 0 ≤ k) (h1 : k < 64) (h : v.getLsbD k.toNat = true) (w : World) :
    Calls Try.prog 59 #[.int .u64 (u v), .int .i64 k] w fun e w' => e = .returned (.bool true) ∧ w = w' := by
  rw [← h]; exact bit_any v k h0 h1 w
theorem bit_no (v : BitVec 64) (k : Int) (h0 : 0 ≤ k) (h1 : k < 64) (h : v.getLsbD k.toNat = false) (w : World) :
    Calls Try.prog 59 #[.int .u64 (u v), .int .i64 k] w fun e w' => e = .returned (.bool false) ∧ w = w' := by
  rw [← h]; exact bit_any v k h0 h1 w

/-! ### Field -/
/-! ### Put -/
/-! ### Zext, Sext, Aligned -/
theorem shr_test (v : BitVec 64) (n : Int) (h1 : 1 ≤ n) (h2 : n < 64) : (u (zxt v n) / 2 ^ (n - 1).toNat == 0) = !v.getLsbD (n - 1).toNat := by
  rw [u_shr, show (0 : Int) = u 0 from rfl, u_beq, Bool.eq_iff_iff]
  simp only [beq_iff_eq, Bool.not_eq_true']
  constructor
  · intro h
    have := congrArg (fun x => x.getLsbD 0) h
    simp only [BitVec.getLsbD_ushiftRight, zxt_bit] at this
    have e : decide ((((n - 1).toNat + 0 : Nat) : Int) < n) = true := decide_eq_true (by omega)
    rw [e, Bool.true_and] at this
    simpa using this
  · intro h
    apply BitVec.eq_of_getLsbD_eq; intro i hi
    rw [BitVec.getLsbD_ushiftRight, zxt_bit]
    by_cases e : i = 0
    · subst e; rw [Nat.add_zero, h]; simp
    · have e : decide ((((n - 1).toNat + i : Nat) : Int) < n) = false := by simp; omega
      rw [e]; simp
/-- is a word a multiple of n? -/
def mult (v : BitVec 64) (n : Int) : Bool := decide (1 ≤ n) && u v % n == 0
theorem aligned_any (v : BitVec 64) (n : Int) (hn : n ≤ 9223372036854775807) (w : World) :
    Calls Try.prog 40 #[.int .u64 (u v), .int .i64 n] w fun e w' => e = .returned (.bool (mult v n)) ∧ w = w' := by
  have hu := u_nonneg v
  by_cases h1 : 1 ≤ n
  · have hf : mult v n = (u v % n == 0) := by unfold mult; simp [h1]
    have Hf := Lib.hid hf
    clear hf
    go_enter Try.func40, Try.ntmps40
    go_wp2
    go_ret
    exact ⟨by rw [Hf.out]; rfl, rfl⟩
  · have hf : mult v n = false := by unfold mult; simp [h1]
    have Hf := Lib.hid hf
    clear hf
    go_enter Try.func40, Try.ntmps40
    go_wp2
    go_ret
    exact ⟨by rw [Hf.out]; rfl, rfl⟩
end Go.Proofs.Ytkjkmekkcnmjnaa
