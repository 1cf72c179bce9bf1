/- What each call of package bits, and of its reference, comes to, as words of 64 bits. Conditions: named at each. -/
import Derived.Test.YthafghechghbpaaWord
import Derived.Test.YthafghechghbpaaRows
import Derived.WalkKit
import Derived.ProofKit
import Derived.Lib.Hide
import Derived.BigQuiet
import Derived.Deep.QuietTactic
namespace Go.Proofs.Ythafghechghbpaa
open Go.RowKit

theorem lowest_any (n : Int) (h1 : 1 ≤ n) (h2 : n ≤ 64) (w : World) :
    Calls Try.prog 31 #[.int .i64 n] w fun e w' => e = .returned (.int .u64 (u (low n.toNat))) ∧ w = w' := by
  have H : Hid ((18446744073709551615 : Int) / 2 ^ (64 - n).toNat = u (low n.toNat)) := Lib.hid (by rw [u_ones_shr, show (64 - n).toNat = 64 - n.toNat by omega]; rfl)
  go_enter Try.func31, Try.ntmps31
  go_wp2
  go_ret
  exact ⟨by rw [← H.out]; rfl, rfl⟩

theorem may_yes (hi lo : Int) (h : Ends hi lo) (w : World) :
    Calls Try.prog 32 #[.int .i64 hi, .int .i64 lo] w fun e w' => e = .returned (.bool true) ∧ w = w' := by
  obtain ⟨h1, h2, h3⟩ := h
  go_enter Try.func32, Try.ntmps32
  go_wp2
  go_ret
  exact ⟨by simp; omega, rfl⟩
theorem may_no (hi lo : Int) (h : ¬ Ends hi lo) (w : World) :
    Calls Try.prog 32 #[.int .i64 hi, .int .i64 lo] w fun e w' => e = .returned (.bool false) ∧ w = w' := by
  by_cases h1 : 0 ≤ lo
  · by_cases h2 : lo ≤ hi
    · have h3 : ¬ hi < 64 := fun h3 => h ⟨h1, h2, h3⟩
      clear h
      go_enter Try.func32, Try.ntmps32
      go_wp2
      go_ret
      exact ⟨by simp; omega, rfl⟩
    · clear h
      go_enter Try.func32, Try.ntmps32
      go_wp2
      go_ret
      exact ⟨rfl, rfl⟩
  · clear h
    go_enter Try.func32, Try.ntmps32
    go_wp2
    go_ret
    exact ⟨rfl, rfl⟩

theorem bit_any (v : BitVec 64) (k : Int) (h0 : 0 ≤ k) (h1 : k < 64) (w : World) :
    Calls Try.prog 30 #[.int .u64 (u v), .int .i64 k] w fun e w' => e = .returned (.bool (v.getLsbD k.toNat)) ∧ w = w' := by
  have H : Hid ((bits BinOp.and IntKind.u64 (u v / 2 ^ k.toNat) 1 == 1) = v.getLsbD k.toNat) := Lib.hid (by rw [u_shr, u_and1, and1_test])
  have hu := u_nonneg v
  go_enter Try.func30, Try.ntmps30
  go_wp2
  go_ret
  exact ⟨by rw [← H.out]; rfl, rfl⟩
theorem bit_yes (v : BitVec 64) (k : Int) (h0 : 0 ≤ k) (h1 : k < 64) (h : v.getLsbD k.toNat = true) (w : World) :
    Calls Try.prog 30 #[.int .u64 (u v), .int .i64 k] w fun e w' => e = .returned (.bool true) ∧ w = w' := by
  rw [← h]; exact bit_any v k h0 h1 w
theorem bit_no (v : BitVec 64) (k : Int) (h0 : 0 ≤ k) (h1 : k < 64) (h : v.getLsbD k.toNat = false) (w : World) :
    Calls Try.prog 30 #[.int .u64 (u v), .int .i64 k] w fun e w' => e = .returned (.bool false) ∧ w = w' := by
  rw [← h]; exact bit_any v k h0 h1 w

/-! ### Field -/
/-! ### Put -/
/-! ### Zext, Sext, Aligned -/
theorem zext_any (v : BitVec 64) (n : Int) (w : World) :
    Calls Try.prog 28 #[.int .u64 (u v), .int .i64 n] w fun e w' => e = .returned (.int .u64 (u (zxt v n))) ∧ w = w' := by
  by_cases h1 : n < 1
  · have hf : zxt v n = 0 := by unfold zxt; rw [if_pos h1]
    have Hf := Lib.hid hf
    clear hf
    go_enter Try.func28, Try.ntmps28
    go_wp2
    go_ret
    exact ⟨by rw [Hf.out]; rfl, rfl⟩
  · by_cases h2 : 64 ≤ n
    · have hf : zxt v n = v := by unfold zxt; rw [if_neg h1, if_pos h2]
      have Hf := Lib.hid hf
      clear hf
      go_enter Try.func28, Try.ntmps28
      go_wp2
      go_ret
      exact ⟨by rw [Hf.out]; rfl, rfl⟩
    · have hf : zxt v n = v &&& low n.toNat := by unfold zxt; rw [if_neg h1, if_neg h2]
      have Hf : Hid (bits BinOp.and IntKind.u64 (u v) (u (low n.toNat)) = u (zxt v n)) := Lib.hid (by rw [hf, u_and])
      clear hf
      go_enter Try.func28, Try.ntmps28
      go_wp2_with (go_at_call 31; refine (lowest_any _ (by omega) (by omega) _).mono ?_; rintro e w' ⟨rfl, rfl⟩)
      go_ret
      exact ⟨by rw [← Hf.out]; rfl, rfl⟩
theorem shr_test (v : BitVec 64) (n : Int) (h1 : 1 ≤ n) (h2 : n < 64) : (u (zxt v n) / 2 ^ (n - 1).toNat == 0) = !v.getLsbD (n - 1).toNat := by
  rw [u_shr, show (0 : Int) = u 0 from rfl, u_beq, Bool.eq_iff_iff]
  simp only [beq_iff_eq, Bool.not_eq_true']
  constructor
  · intro h
    have := congrArg (fun x => x.getLsbD 0) h
    simp only [BitVec.getLsbD_ushiftRight, zxt_bit] at this
    have e : decide ((((n - 1).toNat + 0 : Nat) : Int) < n) = true := decide_eq_true (by omega)
    rw [e, Bool.true_and] at this
    simpa using this
  · intro h
    apply BitVec.eq_of_getLsbD_eq; intro i hi
    rw [BitVec.getLsbD_ushiftRight, zxt_bit]
    by_cases e : i = 0
    · subst e; rw [Nat.add_zero, h]; simp
    · have e : decide ((((n - 1).toNat + i : Nat) : Int) < n) = false := by simp; omega
      rw [e]; simp
theorem sext_any (v : BitVec 64) (n : Int) (w : World) :
    Calls Try.prog 27 #[.int .u64 (u v), .int .i64 n] w fun e w' => e = .returned (.int .u64 (u (sxt v n))) ∧ w = w' := by
  by_cases h : 1 ≤ n ∧ n < 64
  · obtain ⟨h1, h2⟩ := h
    cases hv : v.getLsbD (n - 1).toNat
    · have hf : sxt v n = zxt v n := by unfold sxt; rw [if_neg (by rw [hv]; simp)]
      have ht : (u (zxt v n) / 2 ^ (n.toNat - 1) == 0) = true := by rw [show n.toNat - 1 = (n - 1).toNat by omega, shr_test v n h1 h2, hv]; rfl
      have e1 : decide (n < 1) = false := by simp; omega
      have e2 : decide (64 ≤ n) = false := by simp; omega
      have Hf := Lib.hid hf
      clear hf hv
      go_enter Try.func27, Try.ntmps27
      go_wp2_with (go_at_call 28; refine (zext_any _ _ _).mono ?_; rintro e w' ⟨rfl, rfl⟩)
      go_ret
      exact ⟨by rw [Hf.out]; rfl, rfl⟩
    · have hf : sxt v n = zxt v n ||| BitVec.allOnes 64 <<< n.toNat := by unfold sxt; rw [if_pos ⟨h1, h2, hv⟩]
      have ht : (u (zxt v n) / 2 ^ (n.toNat - 1) == 0) = false := by rw [show n.toNat - 1 = (n - 1).toNat by omega, shr_test v n h1 h2, hv]; rfl
      have e1 : decide (n < 1) = false := by simp; omega
      have e2 : decide (64 ≤ n) = false := by simp; omega
      have Hf := Lib.hid hf
      clear hf hv
      go_enter Try.func27, Try.ntmps27
      go_wp2_with (go_at_call 28; refine (zext_any _ _ _).mono ?_; rintro e w' ⟨rfl, rfl⟩)
      go_ret
      refine ⟨?_, rfl⟩
      rw [Hf.out, ← u_or, ← u_ones_shl]
      rfl
  · have hf : sxt v n = zxt v n := by unfold sxt; rw [if_neg (fun hh => h ⟨hh.1, hh.2.1⟩)]
    have Hf := Lib.hid hf
    clear hf
    by_cases h1 : n < 1
    · clear h
      have e1 : decide (n < 1) = true := by simp; omega
      go_enter Try.func27, Try.ntmps27
      go_wp2_with (go_at_call 28; refine (zext_any _ _ _).mono ?_; rintro e w' ⟨rfl, rfl⟩)
      go_ret
      exact ⟨by rw [Hf.out]; rfl, rfl⟩
    · have h2 : 64 ≤ n := by omega
      clear h
      have e1 : decide (n < 1) = false := by simp; omega
      have e2 : decide (64 ≤ n) = true := by simp; omega
      go_enter Try.func27, Try.ntmps27
      go_wp2_with (go_at_call 28; refine (zext_any _ _ _).mono ?_; rintro e w' ⟨rfl, rfl⟩)
      go_ret
      exact ⟨by rw [Hf.out]; rfl, rfl⟩
/-- is a word a multiple of n? -/
def mult (v : BitVec 64) (n : Int) : Bool := decide (1 ≤ n) && u v % n == 0
end Go.Proofs.Ythafghechghbpaa
