/- What each call of the reference of package alu comes to, as words of 64 bits. Conditions: named at each. -/
import Derived.Test.YtomecgfodchegaaAluP
import Derived.Test.YtomecgfodchegaaLoops
namespace Go.Proofs.Ytomecgfodchegaa
open Go.RowKit

/-- halved -/
theorem half_u (x : BitVec 64) : IntKind.u64.wrap ((u x).tdiv 2) = u (x >>> 1) := by
  have h0 := u_nonneg x; have h1 := u_lt x
  rw [Int.tdiv_eq_ediv_of_nonneg h0, show (2 : Int) = 2 ^ 1 from rfl, u_shr, wrap_u]
theorem rone_any (p : Bool) (w : World) :
    Calls Try.prog 23 #[.bool p] w fun e w' => e = .returned (.int .u64 (u (tr p))) ∧ w = w' := by
  cases p
  all_goals
    go_enter Try.func23, Try.ntmps23
    go_wp2
    go_ret
    exact ⟨rfl, rfl⟩
theorem rless_any (a b : BitVec 64) (w : World) :
    Calls Try.prog 24 #[.int .u64 (u a), .int .u64 (u b)] w fun e w' => e = .returned (.bool (a.slt b)) ∧ w = w' := by
  have H : Hid (decide (bits BinOp.xor IntKind.u64 (u a) 9223372036854775808 < bits BinOp.xor IntKind.u64 (u b) 9223372036854775808) = a.slt b) := Lib.hid (by rw [u_turn, u_turn, u_ltb, slt_turned])
  go_enter Try.func24, Try.ntmps24
  go_wp2
  go_ret
  exact ⟨by rw [← H.out]; rfl, rfl⟩
/-- what the loop of up carries -/
def UpAt (a : BitVec 64) (n : Nat) (t i : Value) : Prop := ∃ k : Nat, k ≤ n ∧ i = .int .i64 k ∧ t = .int .u64 (u (a <<< k))
theorem up_any (a : BitVec 64) (n : Nat) (hn : n < 64) (w : World) :
    Calls Try.prog 21 #[.int .u64 (u a), .int .i64 n] w fun e w' => e = .returned (.int .u64 (u (a <<< n))) ∧ w = w' := by
  go_enter Try.func21, Try.ntmps21
  go_wp2_with fail
  go_loop [0, 5] (fun t i => UpAt a n t i) (fun _ i => (n - intOf i).toNat)
  case atStart => exact ⟨0, by omega, rfl, by simp⟩
  case round =>
    obtain ⟨k, hk, rfl, rfl⟩ := hrel
    by_cases hlt : k < n
    · go_wp2
      go_round
      case rel => exact ⟨k + 1, by omega, by go_num, by rw [u_add, up_step]⟩
      case measure => simp [intOf]; omega
    · have He : Hid (k = n) := Lib.hid (by omega)
      go_wp2
      go_ret
      exact ⟨by rw [← He.out]; rfl, rfl⟩
/-- what the loop of down carries, without the sign -/
def DownAt (a : BitVec 64) (n : Nat) (t i : Value) : Prop := ∃ k : Nat, k ≤ n ∧ i = .int .i64 k ∧ t = .int .u64 (u (a >>> k))
theorem down_plain (a : BitVec 64) (n : Nat) (hn : n < 64) (B : Int) (hB : B = 32 ∨ B = 64) (w : World) :
    Calls Try.prog 22 #[.int .u64 (u a), .int .i64 n, .int .i64 B, .bool false] w fun e w' => e = .returned (.int .u64 (u (a >>> n))) ∧ w = w' := by
  rcases hB with rfl | rfl
  all_goals
    go_enter Try.func22, Try.ntmps22
    go_wp2_with fail
    go_loop [0, 9] (fun t i => DownAt a n t i) (fun _ i => (n - intOf i).toNat)
    case atStart => exact ⟨0, by omega, rfl, by simp⟩
    case round =>
      obtain ⟨k, hk, rfl, rfl⟩ := hrel
      have hu := u_nonneg (a >>> k)
      by_cases hlt : k < n
      · go_wp2_with (go_at_call 20; refine (ref_field_any _ _ _ _).mono ?_; rintro e w' ⟨rfl, rfl⟩)
        go_round
        case rel => exact ⟨k + 1, by omega, by go_num, by rw [half_u, ← BitVec.shiftRight_add]⟩
        case measure => simp [intOf]; omega
      · have He : Hid (k = n) := Lib.hid (by omega)
        go_wp2
        go_ret
        exact ⟨by rw [← He.out]; rfl, rfl⟩
theorem top_is1 (v : BitVec 64) (j : Int) (h0 : 0 ≤ j) (h1 : j < 64) : (u (fld v j j) == 1) = v.getLsbD j.toNat := by
  have : fld v j j = v >>> j.toNat &&& 1 := by
    apply BitVec.eq_of_getLsbD_eq; intro i hi
    rw [fld_bit, BitVec.getLsbD_and, BitVec.getLsbD_ushiftRight, one_bit]
    have : decide (Ends j j ∧ (i : Int) ≤ j - j) = decide (i = 0) := by rw [decide_eq_decide]; unfold Ends; omega
    rw [this, Bool.and_comm]
  rw [this, and1_test]
/-- .. with the sign -/
def SarAt (f : Nat → BitVec 64) (n : Nat) (t i : Value) : Prop := ∃ k : Nat, k ≤ n ∧ i = .int .i64 k ∧ t = .int .u64 (u (f k))
theorem down_64 (a : BitVec 64) (n : Nat) (hn : n < 64) (w : World) :
    Calls Try.prog 22 #[.int .u64 (u a), .int .i64 n, .int .i64 64, .bool true] w fun e w' => e = .returned (.int .u64 (u (sar a n))) ∧ w = w' := by
  have HT : Hid (∀ k, (u (fld (sar a k) 63 63) == 1) = a.getLsbD 63) := Lib.hid (fun k => by rw [top_is1 _ 63 (by omega) (by omega)]; exact sar_top a k)
  have H0 : Hid (u a = u (sar a 0)) := Lib.hid (by rw [sar_zero])
  cases hb : a.getLsbD 63
  · have HS : Hid (∀ k, IntKind.u64.wrap ((u (sar a k)).tdiv 2) = u (sar a (k + 1))) := Lib.hid (fun k => by rw [half_u, sar_step0 a k hb])
    have Hb := Lib.hid hb
    clear hb
    go_enter Try.func22, Try.ntmps22
    go_wp2_with fail
    go_loop [0, 9] (fun t i => SarAt (sar a) n t i) (fun _ i => (n - intOf i).toNat)
    case atStart => exact ⟨0, by omega, rfl, by rw [← H0.out]⟩
    case round =>
      obtain ⟨k, hk, rfl, rfl⟩ := hrel
      have hu := u_nonneg (sar a k)
      have ht : (u (fld (sar a k) 63 63) == 1) = false := by rw [HT.out, Hb.out]
      by_cases hlt : k < n
      · go_wp2_with (go_at_call 20; refine (ref_field_any _ _ _ _).mono ?_; rintro e w' ⟨rfl, rfl⟩)
        go_round
        case rel => exact ⟨k + 1, by omega, by go_num, by rw [HS.out]⟩
        case measure => simp [intOf]; omega
      · have He : Hid (k = n) := Lib.hid (by omega)
        go_wp2
        go_ret
        exact ⟨by rw [← He.out]; rfl, rfl⟩
  · have HS : Hid (∀ k, bits BinOp.or IntKind.u64 (IntKind.u64.wrap ((u (sar a k)).tdiv 2)) (u ((1 : BitVec 64) <<< 63)) = u (sar a (k + 1))) := Lib.hid (fun k => by rw [half_u, u_or, sar_step1 a k hb])
    have Hb := Lib.hid hb
    clear hb
    go_enter Try.func22, Try.ntmps22
    go_wp2_with fail
    go_loop [0, 9] (fun t i => SarAt (sar a) n t i) (fun _ i => (n - intOf i).toNat)
    case atStart => exact ⟨0, by omega, rfl, by rw [← H0.out]⟩
    case round =>
      obtain ⟨k, hk, rfl, rfl⟩ := hrel
      have hu := u_nonneg (sar a k)
      have ht : (u (fld (sar a k) 63 63) == 1) = true := by rw [HT.out, Hb.out]
      by_cases hlt : k < n
      · go_wp2_with (go_at_call 20; refine (ref_field_any _ _ _ _).mono ?_; rintro e w' ⟨rfl, rfl⟩)
        go_round
        case rel => exact ⟨k + 1, by omega, by go_num, by rw [← HS.out]; rfl⟩
        case measure => simp [intOf]; omega
      · have He : Hid (k = n) := Lib.hid (by omega)
        go_wp2
        go_ret
        exact ⟨by rw [← He.out]; rfl, rfl⟩
theorem down_32 (a : BitVec 64) (n : Nat) (hn : n < 32) (w : World) :
    Calls Try.prog 22 #[.int .u64 (u (zx (lo32 a))), .int .i64 n, .int .i64 32, .bool true] w fun e w' => e = .returned (.int .u64 (u (sar32 a n))) ∧ w = w' := by
  have HT : Hid (∀ k, (u (fld (sar32 a k) 31 31) == 1) = a.getLsbD 31) := Lib.hid (fun k => by rw [top_is1 _ 31 (by omega) (by omega)]; exact sar32_top a k)
  have H0 : Hid (u (zx (lo32 a)) = u (sar32 a 0)) := Lib.hid (by rw [sar32_zero])
  cases hb : a.getLsbD 31
  · have HS : Hid (∀ k, IntKind.u64.wrap ((u (sar32 a k)).tdiv 2) = u (sar32 a (k + 1))) := Lib.hid (fun k => by rw [half_u, sar32_step0 a k hb])
    have Hb := Lib.hid hb
    clear hb
    go_enter Try.func22, Try.ntmps22
    go_wp2_with fail
    go_loop [0, 9] (fun t i => SarAt (sar32 a) n t i) (fun _ i => (n - intOf i).toNat)
    case atStart => exact ⟨0, by omega, rfl, by rw [← H0.out]⟩
    case round =>
      obtain ⟨k, hk, rfl, rfl⟩ := hrel
      have hu := u_nonneg (sar32 a k)
      have ht : (u (fld (sar32 a k) 31 31) == 1) = false := by rw [HT.out, Hb.out]
      by_cases hlt : k < n
      · go_wp2_with (go_at_call 20; refine (ref_field_any _ _ _ _).mono ?_; rintro e w' ⟨rfl, rfl⟩)
        go_round
        case rel => exact ⟨k + 1, by omega, by go_num, by rw [HS.out]⟩
        case measure => simp [intOf]; omega
      · have He : Hid (k = n) := Lib.hid (by omega)
        go_wp2
        go_ret
        exact ⟨by rw [← He.out]; rfl, rfl⟩
  · have HS : Hid (∀ k, bits BinOp.or IntKind.u64 (IntKind.u64.wrap ((u (sar32 a k)).tdiv 2)) (u ((1 : BitVec 64) <<< 31)) = u (sar32 a (k + 1))) := Lib.hid (fun k => by rw [half_u, u_or, sar32_step1 a k hb])
    have Hb := Lib.hid hb
    clear hb
    go_enter Try.func22, Try.ntmps22
    go_wp2_with fail
    go_loop [0, 9] (fun t i => SarAt (sar32 a) n t i) (fun _ i => (n - intOf i).toNat)
    case atStart => exact ⟨0, by omega, rfl, by rw [← H0.out]⟩
    case round =>
      obtain ⟨k, hk, rfl, rfl⟩ := hrel
      have hu := u_nonneg (sar32 a k)
      have ht : (u (fld (sar32 a k) 31 31) == 1) = true := by rw [HT.out, Hb.out]
      by_cases hlt : k < n
      · go_wp2_with (go_at_call 20; refine (ref_field_any _ _ _ _).mono ?_; rintro e w' ⟨rfl, rfl⟩)
        go_round
        case rel => exact ⟨k + 1, by omega, by go_num, by rw [← HS.out]; rfl⟩
        case measure => simp [intOf]; omega
      · have He : Hid (k = n) := Lib.hid (by omega)
        go_wp2
        go_ret
        exact ⟨by rw [← He.out]; rfl, rfl⟩
end Go.Proofs.Ytomecgfodchegaa
