/- What the reference's Alu, Branch and Target come to, and package alu's Target, as words of 64 bits; the laws' first test. Conditions: none. -/
import Derived.Test.YtomecgfodchegaaAluR
import Derived.BigQuiet
import Derived.Deep.QuietTactic
import Derived.Below
namespace Go.Proofs.Ytomecgfodchegaa
open Go.RowKit

theorem up_64 (a b : BitVec 64) (w : World) :
    Calls Try.prog 21 #[.int .u64 (u a), .int .i64 (u b % 64)] w fun e w' => e = .returned (.int .u64 (u (a <<< amt b 64))) ∧ w = w' := by
  rw [show u b % 64 = ((amt b 64 : Nat) : Int) from amt_int b 64]; exact up_any a _ (amt_lt b 64 (by omega)) w
theorem up_32 (a b : BitVec 64) (w : World) :
    Calls Try.prog 21 #[.int .u64 (u (fld a 31 0)), .int .i64 (u b % 32)] w fun e w' => e = .returned (.int .u64 (u (zx (lo32 a) <<< amt b 32))) ∧ w = w' := by
  rw [show u b % 32 = ((amt b 32 : Nat) : Int) from amt_int b 32, fld_lo]; exact up_any _ _ (by have := amt_lt b 32 (by omega); omega) w
theorem srl_64 (a b : BitVec 64) (w : World) :
    Calls Try.prog 22 #[.int .u64 (u a), .int .i64 (u b % 64), .int .i64 64, .bool false] w fun e w' => e = .returned (.int .u64 (u (a >>> amt b 64))) ∧ w = w' := by
  rw [show u b % 64 = ((amt b 64 : Nat) : Int) from amt_int b 64]; exact down_plain a _ (amt_lt b 64 (by omega)) 64 (.inr rfl) w
theorem srl_32 (a b : BitVec 64) (w : World) :
    Calls Try.prog 22 #[.int .u64 (u (fld a 31 0)), .int .i64 (u b % 32), .int .i64 32, .bool false] w fun e w' => e = .returned (.int .u64 (u (zx (lo32 a) >>> amt b 32))) ∧ w = w' := by
  rw [show u b % 32 = ((amt b 32 : Nat) : Int) from amt_int b 32, fld_lo]; exact down_plain _ _ (by have := amt_lt b 32 (by omega); omega) 32 (.inl rfl) w
theorem sra_64 (a b : BitVec 64) (w : World) :
    Calls Try.prog 22 #[.int .u64 (u a), .int .i64 (u b % 64), .int .i64 64, .bool true] w fun e w' => e = .returned (.int .u64 (u (sar a (amt b 64)))) ∧ w = w' := by
  rw [show u b % 64 = ((amt b 64 : Nat) : Int) from amt_int b 64]; exact down_64 a _ (amt_lt b 64 (by omega)) w
theorem sra_32 (a b : BitVec 64) (w : World) :
    Calls Try.prog 22 #[.int .u64 (u (fld a 31 0)), .int .i64 (u b % 32), .int .i64 32, .bool true] w fun e w' => e = .returned (.int .u64 (u (sar32 a (amt b 32)))) ∧ w = w' := by
  rw [show u b % 32 = ((amt b 32 : Nat) : Int) from amt_int b 32, fld_lo]; exact down_32 _ _ (amt_lt b 32 (by omega)) w
theorem rsext_64 (v : BitVec 64) (w : World) :
    Calls Try.prog 25 #[.int .u64 (u v), .int .i64 64] w fun e w' => e = .returned (.int .u64 (u v)) ∧ w = w' := by
  have := ref_sext_any v 64 w; rwa [sxt_top] at this
theorem rsext_32 (v : BitVec 64) (w : World) :
    Calls Try.prog 25 #[.int .u64 (u v), .int .i64 32] w fun e w' => e = .returned (.int .u64 (u (s32 v))) ∧ w = w' := by
  have := ref_sext_any v 32 w; rwa [sxt_s32] at this
theorem lo_fld (a : BitVec 64) : lo32 (fld a 31 0) = lo32 a := by rw [fld_lo, lo_zx]
theorem ralu_0 (a b : BitVec 64) (w : World) :
    Calls Try.prog 13 #[.int .i64 0, .bool false, .int .u64 (u a), .int .u64 (u b)] w fun e w' => e = .returned (.int .u64 (u (al 0 false a b))) ∧ w = w' := by
  have hb := u_nonneg b
  have H : Hid (IntKind.u64.wrap (u a + u b) = u (al 0 false a b)) := Lib.hid (by rw [u_add]; rfl)
  go_enter Try.func13, Try.ntmps13
  go_wp2_with fail
  rw [H.out]
  refine (rsext_64 _ _).mono ?_
  rintro e w' ⟨rfl, rfl⟩
  go_wp2
  go_ret
  exact ⟨rfl, rfl⟩
theorem ralu_0w (a b : BitVec 64) (w : World) :
    Calls Try.prog 13 #[.int .i64 0, .bool true, .int .u64 (u a), .int .u64 (u b)] w fun e w' => e = .returned (.int .u64 (u (al 0 true a b))) ∧ w = w' := by
  have hb := u_nonneg b
  have H : Hid (IntKind.u64.wrap (u (fld a 31 0) + u b) = u (fld a 31 0 + b) ∧ s32 (fld a 31 0 + b) = al 0 true a b) := Lib.hid (⟨u_add _ _, s32_of (by rw [lo_add, lo_fld, ← lo_add])⟩)
  go_enter Try.func13, Try.ntmps13
  go_wp2_with (go_at_call 20; refine (ref_field_any _ _ _ _).mono ?_; rintro e w' ⟨rfl, rfl⟩)
  rw [H.out.1]
  refine (rsext_32 _ _).mono ?_
  rintro e w' ⟨rfl, rfl⟩
  go_wp2
  go_ret
  exact ⟨by rw [← H.out.2]; rfl, rfl⟩
theorem ralu_8 (a b : BitVec 64) (w : World) :
    Calls Try.prog 13 #[.int .i64 8, .bool false, .int .u64 (u a), .int .u64 (u b)] w fun e w' => e = .returned (.int .u64 (u (al 8 false a b))) ∧ w = w' := by
  have hb := u_nonneg b
  have H : Hid (IntKind.u64.wrap (u a - u b) = u (al 8 false a b)) := Lib.hid (by rw [u_sub]; rfl)
  go_enter Try.func13, Try.ntmps13
  go_wp2_with fail
  rw [H.out]
  refine (rsext_64 _ _).mono ?_
  rintro e w' ⟨rfl, rfl⟩
  go_wp2
  go_ret
  exact ⟨rfl, rfl⟩
theorem ralu_8w (a b : BitVec 64) (w : World) :
    Calls Try.prog 13 #[.int .i64 8, .bool true, .int .u64 (u a), .int .u64 (u b)] w fun e w' => e = .returned (.int .u64 (u (al 8 true a b))) ∧ w = w' := by
  have hb := u_nonneg b
  have H : Hid (IntKind.u64.wrap (u (fld a 31 0) - u b) = u (fld a 31 0 - b) ∧ s32 (fld a 31 0 - b) = al 8 true a b) := Lib.hid (⟨u_sub _ _, s32_of (by rw [lo_sub, lo_fld, ← lo_sub])⟩)
  go_enter Try.func13, Try.ntmps13
  go_wp2_with (go_at_call 20; refine (ref_field_any _ _ _ _).mono ?_; rintro e w' ⟨rfl, rfl⟩)
  rw [H.out.1]
  refine (rsext_32 _ _).mono ?_
  rintro e w' ⟨rfl, rfl⟩
  go_wp2
  go_ret
  exact ⟨by rw [← H.out.2]; rfl, rfl⟩
theorem ralu_1 (a b : BitVec 64) (w : World) :
    Calls Try.prog 13 #[.int .i64 1, .bool false, .int .u64 (u a), .int .u64 (u b)] w fun e w' => e = .returned (.int .u64 (u (al 1 false a b))) ∧ w = w' := by
  have hb := u_nonneg b
  go_enter Try.func13, Try.ntmps13
  go_wp2_with (first | (go_at_call 21; refine (up_64 _ _ _).mono ?_; rintro e w' ⟨rfl, rfl⟩) | (go_at_call 25; refine (rsext_64 _ _).mono ?_; rintro e w' ⟨rfl, rfl⟩))
  go_ret
  exact ⟨rfl, rfl⟩
theorem ralu_1w (a b : BitVec 64) (w : World) :
    Calls Try.prog 13 #[.int .i64 1, .bool true, .int .u64 (u a), .int .u64 (u b)] w fun e w' => e = .returned (.int .u64 (u (al 1 true a b))) ∧ w = w' := by
  have hb := u_nonneg b
  have H : Hid (s32 (zx (lo32 a) <<< amt b 32) = al 1 true a b) := Lib.hid (s32_of (by rw [lo_shl, lo_zx, ← lo_shl]))
  go_enter Try.func13, Try.ntmps13
  go_wp2_with (first | (go_at_call 20; refine (ref_field_any _ _ _ _).mono ?_; rintro e w' ⟨rfl, rfl⟩) | (go_at_call 21; refine (up_32 _ _ _).mono ?_; rintro e w' ⟨rfl, rfl⟩) | (go_at_call 25; refine (rsext_32 _ _).mono ?_; rintro e w' ⟨rfl, rfl⟩))
  go_ret
  exact ⟨by rw [← H.out]; rfl, rfl⟩
theorem ralu_5 (a b : BitVec 64) (w : World) :
    Calls Try.prog 13 #[.int .i64 5, .bool false, .int .u64 (u a), .int .u64 (u b)] w fun e w' => e = .returned (.int .u64 (u (al 5 false a b))) ∧ w = w' := by
  have hb := u_nonneg b
  go_enter Try.func13, Try.ntmps13
  go_wp2_with (first | (go_at_call 22; refine (srl_64 _ _ _).mono ?_; rintro e w' ⟨rfl, rfl⟩) | (go_at_call 25; refine (rsext_64 _ _).mono ?_; rintro e w' ⟨rfl, rfl⟩))
  go_ret
  exact ⟨rfl, rfl⟩
theorem ralu_5w (a b : BitVec 64) (w : World) :
    Calls Try.prog 13 #[.int .i64 5, .bool true, .int .u64 (u a), .int .u64 (u b)] w fun e w' => e = .returned (.int .u64 (u (al 5 true a b))) ∧ w = w' := by
  have hb := u_nonneg b
  go_enter Try.func13, Try.ntmps13
  go_wp2_with (first | (go_at_call 20; refine (ref_field_any _ _ _ _).mono ?_; rintro e w' ⟨rfl, rfl⟩) | (go_at_call 22; refine (srl_32 _ _ _).mono ?_; rintro e w' ⟨rfl, rfl⟩) | (go_at_call 25; refine (rsext_32 _ _).mono ?_; rintro e w' ⟨rfl, rfl⟩))
  go_ret
  exact ⟨rfl, rfl⟩
theorem ralu_13 (a b : BitVec 64) (w : World) :
    Calls Try.prog 13 #[.int .i64 13, .bool false, .int .u64 (u a), .int .u64 (u b)] w fun e w' => e = .returned (.int .u64 (u (al 13 false a b))) ∧ w = w' := by
  have hb := u_nonneg b
  go_enter Try.func13, Try.ntmps13
  go_wp2_with (first | (go_at_call 22; refine (sra_64 _ _ _).mono ?_; rintro e w' ⟨rfl, rfl⟩) | (go_at_call 25; refine (rsext_64 _ _).mono ?_; rintro e w' ⟨rfl, rfl⟩))
  go_ret
  exact ⟨rfl, rfl⟩
theorem ralu_13w (a b : BitVec 64) (w : World) :
    Calls Try.prog 13 #[.int .i64 13, .bool true, .int .u64 (u a), .int .u64 (u b)] w fun e w' => e = .returned (.int .u64 (u (al 13 true a b))) ∧ w = w' := by
  have hb := u_nonneg b
  have H : Hid (s32 (sar32 a (amt b 32)) = al 13 true a b) := Lib.hid (by show _ = s32 (sar (s32 a) (amt b 32)); rw [sar_both _ _ (amt_lt b 32 (by omega))]; unfold sar32; rw [lo_zx_lo])
  go_enter Try.func13, Try.ntmps13
  go_wp2_with (first | (go_at_call 20; refine (ref_field_any _ _ _ _).mono ?_; rintro e w' ⟨rfl, rfl⟩) | (go_at_call 22; refine (sra_32 _ _ _).mono ?_; rintro e w' ⟨rfl, rfl⟩) | (go_at_call 25; refine (rsext_32 _ _).mono ?_; rintro e w' ⟨rfl, rfl⟩))
  go_ret
  exact ⟨by rw [← H.out]; rfl, rfl⟩
theorem ralu_2 (a b : BitVec 64) (w : World) :
    Calls Try.prog 13 #[.int .i64 2, .bool false, .int .u64 (u a), .int .u64 (u b)] w fun e w' => e = .returned (.int .u64 (u (al 2 false a b))) ∧ w = w' := by
  have hb := u_nonneg b
  go_enter Try.func13, Try.ntmps13
  go_wp2_with (first | (go_at_call 24; refine (rless_any _ _ _).mono ?_; rintro e w' ⟨rfl, rfl⟩) | (go_at_call 23; refine (rone_any _ _).mono ?_; rintro e w' ⟨rfl, rfl⟩) | (go_at_call 25; refine (rsext_64 _ _).mono ?_; rintro e w' ⟨rfl, rfl⟩))
  go_ret
  exact ⟨rfl, rfl⟩
theorem ralu_3 (a b : BitVec 64) (w : World) :
    Calls Try.prog 13 #[.int .i64 3, .bool false, .int .u64 (u a), .int .u64 (u b)] w fun e w' => e = .returned (.int .u64 (u (al 3 false a b))) ∧ w = w' := by
  have hb := u_nonneg b
  have H : Hid (decide (u a < u b) = a.ult b) := Lib.hid (u_ltb a b)
  go_enter Try.func13, Try.ntmps13
  go_wp2_with fail
  rw [H.out]
  refine (rone_any _ _).mono ?_
  rintro e w' ⟨rfl, rfl⟩
  go_wp2_with (go_at_call 25; refine (rsext_64 _ _).mono ?_; rintro e w' ⟨rfl, rfl⟩)
  go_ret
  exact ⟨rfl, rfl⟩
theorem ralu_4 (a b : BitVec 64) (w : World) :
    Calls Try.prog 13 #[.int .i64 4, .bool false, .int .u64 (u a), .int .u64 (u b)] w fun e w' => e = .returned (.int .u64 (u (al 4 false a b))) ∧ w = w' := by
  have hb := u_nonneg b
  have H : Hid (bits BinOp.andNot IntKind.u64 (bits BinOp.or IntKind.u64 (u a) (u b)) (bits BinOp.and IntKind.u64 (u a) (u b)) = u (al 4 false a b)) := Lib.hid (by rw [u_or, u_and, u_andNot, xor_ways]; rfl)
  go_enter Try.func13, Try.ntmps13
  go_wp2_with fail
  rw [H.out]
  refine (rsext_64 _ _).mono ?_
  rintro e w' ⟨rfl, rfl⟩
  go_wp2
  go_ret
  exact ⟨rfl, rfl⟩
theorem ralu_6 (a b : BitVec 64) (w : World) :
    Calls Try.prog 13 #[.int .i64 6, .bool false, .int .u64 (u a), .int .u64 (u b)] w fun e w' => e = .returned (.int .u64 (u (al 6 false a b))) ∧ w = w' := by
  have hb := u_nonneg b
  have H : Hid (bits BinOp.or IntKind.u64 (u a) (u b) = u (al 6 false a b)) := Lib.hid (by rw [u_or]; rfl)
  go_enter Try.func13, Try.ntmps13
  go_wp2_with fail
  rw [H.out]
  refine (rsext_64 _ _).mono ?_
  rintro e w' ⟨rfl, rfl⟩
  go_wp2
  go_ret
  exact ⟨rfl, rfl⟩
theorem ralu_7 (a b : BitVec 64) (w : World) :
    Calls Try.prog 13 #[.int .i64 7, .bool false, .int .u64 (u a), .int .u64 (u b)] w fun e w' => e = .returned (.int .u64 (u (al 7 false a b))) ∧ w = w' := by
  have hb := u_nonneg b
  have H : Hid (bits BinOp.and IntKind.u64 (u a) (u b) = u (al 7 false a b)) := Lib.hid (by rw [u_and]; rfl)
  go_enter Try.func13, Try.ntmps13
  go_wp2_with fail
  rw [H.out]
  refine (rsext_64 _ _).mono ?_
  rintro e w' ⟨rfl, rfl⟩
  go_wp2
  go_ret
  exact ⟨rfl, rfl⟩
theorem ralu_none (f : Int) (a b : BitVec 64) (h0 : f ≠ 0) (h1 : f ≠ 1) (h2 : f ≠ 2) (h3 : f ≠ 3) (h4 : f ≠ 4) (h5 : f ≠ 5) (h6 : f ≠ 6) (h7 : f ≠ 7) (h8 : f ≠ 8) (h13 : f ≠ 13) (w : World) :
    Calls Try.prog 13 #[.int .i64 f, .bool false, .int .u64 (u a), .int .u64 (u b)] w fun e w' => e = .returned (.int .u64 (u (al f false a b))) ∧ w = w' := by
  have hb := u_nonneg b
  have H : Hid (al f false a b = 0) := Lib.hid (alW_none f a b h0 h1 h2 h3 h4 h5 h6 h7 h8 h13)
  have e0 : (f == 0) = false := by simpa using h0
  have e1 : (f == 1) = false := by simpa using h1
  have e2 : (f == 2) = false := by simpa using h2
  have e3 : (f == 3) = false := by simpa using h3
  have e4 : (f == 4) = false := by simpa using h4
  have e5 : (f == 5) = false := by simpa using h5
  have e6 : (f == 6) = false := by simpa using h6
  have e7 : (f == 7) = false := by simpa using h7
  have e8 : (f == 8) = false := by simpa using h8
  have e13 : (f == 13) = false := by simpa using h13
  clear h0 h1 h2 h3 h4 h5 h6 h7 h8 h13
  go_enter Try.func13, Try.ntmps13
  go_wp2_with fail
  refine (rsext_64 0 _).mono ?_
  rintro e w' ⟨rfl, rfl⟩
  go_wp2
  go_ret
  exact ⟨by rw [H.out]; rfl, rfl⟩
theorem ralu_nonew (f : Int) (a b : BitVec 64) (h0 : f ≠ 0) (h1 : f ≠ 1) (h5 : f ≠ 5) (h8 : f ≠ 8) (h13 : f ≠ 13) (w : World) :
    Calls Try.prog 13 #[.int .i64 f, .bool true, .int .u64 (u a), .int .u64 (u b)] w fun e w' => e = .returned (.int .u64 (u (al f true a b))) ∧ w = w' := by
  have hb := u_nonneg b
  have H : Hid (al f true a b = 0) := Lib.hid (alN_none f a b h0 h1 h5 h8 h13)
  have e0 : (f == 0) = false := by simpa using h0
  have e1 : (f == 1) = false := by simpa using h1
  have e5 : (f == 5) = false := by simpa using h5
  have e8 : (f == 8) = false := by simpa using h8
  have e13 : (f == 13) = false := by simpa using h13
  clear h0 h1 h5 h8 h13
  go_enter Try.func13, Try.ntmps13
  go_wp2_with (go_at_call 20; refine (ref_field_any _ _ _ _).mono ?_; rintro e w' ⟨rfl, rfl⟩)
  go_ret
  exact ⟨by rw [H.out]; rfl, rfl⟩
theorem ralu_any (f : Int) (p : Bool) (a b : BitVec 64) (w : World) :
    Calls Try.prog 13 #[.int .i64 f, .bool p, .int .u64 (u a), .int .u64 (u b)] w fun e w' => e = .returned (.int .u64 (u (al f p a b))) ∧ w = w' := by
  cases p
  · by_cases h0 : f = 0
    · subst h0; exact ralu_0 a b w
    by_cases h1 : f = 1
    · subst h1; exact ralu_1 a b w
    by_cases h2 : f = 2
    · subst h2; exact ralu_2 a b w
    by_cases h3 : f = 3
    · subst h3; exact ralu_3 a b w
    by_cases h4 : f = 4
    · subst h4; exact ralu_4 a b w
    by_cases h5 : f = 5
    · subst h5; exact ralu_5 a b w
    by_cases h6 : f = 6
    · subst h6; exact ralu_6 a b w
    by_cases h7 : f = 7
    · subst h7; exact ralu_7 a b w
    by_cases h8 : f = 8
    · subst h8; exact ralu_8 a b w
    by_cases h13 : f = 13
    · subst h13; exact ralu_13 a b w
    exact ralu_none f a b h0 h1 h2 h3 h4 h5 h6 h7 h8 h13 w
  · by_cases h0 : f = 0
    · subst h0; exact ralu_0w a b w
    by_cases h1 : f = 1
    · subst h1; exact ralu_1w a b w
    by_cases h5 : f = 5
    · subst h5; exact ralu_5w a b w
    by_cases h8 : f = 8
    · subst h8; exact ralu_8w a b w
    by_cases h13 : f = 13
    · subst h13; exact ralu_13w a b w
    exact ralu_nonew f a b h0 h1 h5 h8 h13 w
end Go.Proofs.Ytomecgfodchegaa
