/- What each call of package alu comes to, as words of 64 bits. Conditions: none. -/
import Derived.Test.YtomecgfodchegaaAluW
import Derived.Test.YtomecgfodchegaaRows
import Derived.WalkKit
import Derived.ProofKit
import Derived.Lib.Hide
import Derived.IntWalk
namespace Go.Proofs.Ytomecgfodchegaa
open Go.RowKit

theorem extend_any (v : BitVec 64) (w : World) :
    Calls Try.prog 27 #[.int .u64 (u v)] w fun e w' => e = .returned (.int .u64 (u (s32 v))) ∧ w = w' := by
  have H : Hid (IntKind.u64.wrap (wrap32 (u v)) = u (s32 v)) := Lib.hid (by rw [← IntWalk.i32_left]; exact wrap_s32 v)
  go_enter Try.func27, Try.ntmps27
  go_wp2
  go_ret
  exact ⟨by rw [← H.out]; rfl, rfl⟩
theorem aless_any (a b : BitVec 64) (w : World) :
    Calls Try.prog 26 #[.int .u64 (u a), .int .u64 (u b)] w fun e w' => e = .returned (.bool (a.slt b)) ∧ w = w' := by
  have H : Hid (decide (wrap64 (u a) < wrap64 (u b)) = a.slt b) := Lib.hid (by rw [← IntWalk.i64_left, ← IntWalk.i64_left, wrap_sg, wrap_sg, sg_lt])
  go_enter Try.func26, Try.ntmps26
  go_wp2
  go_ret
  exact ⟨by rw [← H.out]; rfl, rfl⟩
theorem truth_any (p : Bool) (w : World) :
    Calls Try.prog 28 #[.bool p] w fun e w' => e = .returned (.int .u64 (u (tr p))) ∧ w = w' := by
  cases p
  all_goals
    go_enter Try.func28, Try.ntmps28
    go_wp2
    go_ret
    exact ⟨rfl, rfl⟩
theorem wide_0 (a b : BitVec 64) (w : World) :
    Calls Try.prog 19 #[.int .i64 0, .int .u64 (u a), .int .u64 (u b)] w fun e w' => e = .returned (.int .u64 (u (alW 0 a b))) ∧ w = w' := by
  have H : Hid (IntKind.u64.wrap (u a + u b) = u (alW 0 a b)) := Lib.hid (by rw [u_add]; rfl)
  go_enter Try.func19, Try.ntmps19
  go_wp2
  go_ret
  exact ⟨by rw [← H.out]; rfl, rfl⟩
theorem wide_8 (a b : BitVec 64) (w : World) :
    Calls Try.prog 19 #[.int .i64 8, .int .u64 (u a), .int .u64 (u b)] w fun e w' => e = .returned (.int .u64 (u (alW 8 a b))) ∧ w = w' := by
  have H : Hid (IntKind.u64.wrap (u a + IntKind.u64.wrap (-u b)) = u (alW 8 a b)) := Lib.hid (by rw [neg_u, u_add, ← BitVec.sub_eq_add_neg]; rfl)
  go_enter Try.func19, Try.ntmps19
  go_wp2
  go_ret
  exact ⟨by rw [← H.out]; rfl, rfl⟩
theorem wide_1 (a b : BitVec 64) (w : World) :
    Calls Try.prog 19 #[.int .i64 1, .int .u64 (u a), .int .u64 (u b)] w fun e w' => e = .returned (.int .u64 (u (alW 1 a b))) ∧ w = w' := by
  have H : Hid (IntKind.u64.wrap (u a * 2 ^ (u b % 64).toNat) = u (alW 1 a b)) := Lib.hid (by rw [show u b % 64 = ((amt b 64 : Nat) : Int) from amt_int b 64, u_shl]; rfl)
  have hb := u_nonneg b
  go_enter Try.func19, Try.ntmps19
  go_wp2
  go_ret
  exact ⟨by rw [← H.out]; rfl, rfl⟩
theorem wide_5 (a b : BitVec 64) (w : World) :
    Calls Try.prog 19 #[.int .i64 5, .int .u64 (u a), .int .u64 (u b)] w fun e w' => e = .returned (.int .u64 (u (alW 5 a b))) ∧ w = w' := by
  have H : Hid (u a / 2 ^ (u b % 64).toNat = u (alW 5 a b)) := Lib.hid (by rw [show u b % 64 = ((amt b 64 : Nat) : Int) from amt_int b 64, Int.toNat_natCast, u_shr]; rfl)
  have hb := u_nonneg b
  have ha := u_nonneg a
  go_enter Try.func19, Try.ntmps19
  go_wp2
  go_ret
  exact ⟨by rw [← H.out]; rfl, rfl⟩
theorem wide_13 (a b : BitVec 64) (w : World) :
    Calls Try.prog 19 #[.int .i64 13, .int .u64 (u a), .int .u64 (u b)] w fun e w' => e = .returned (.int .u64 (u (alW 13 a b))) ∧ w = w' := by
  have H : Hid (IntKind.u64.wrap (wrap64 (u a) / 2 ^ (u b % 64).toNat) = u (alW 13 a b)) := Lib.hid (by rw [← IntWalk.i64_left, show u b % 64 = ((amt b 64 : Nat) : Int) from amt_int b 64, wrap_sg, Int.toNat_natCast, sg_shr, wrap_u_sg]; rfl)
  have hb := u_nonneg b
  go_enter Try.func19, Try.ntmps19
  go_wp2
  go_ret
  exact ⟨by rw [← H.out]; rfl, rfl⟩
theorem wide_2 (a b : BitVec 64) (w : World) :
    Calls Try.prog 19 #[.int .i64 2, .int .u64 (u a), .int .u64 (u b)] w fun e w' => e = .returned (.int .u64 (u (alW 2 a b))) ∧ w = w' := by
  go_enter Try.func19, Try.ntmps19
  go_wp2_with (first | (go_at_call 26; refine (aless_any _ _ _).mono ?_; rintro e w' ⟨rfl, rfl⟩) | (go_at_call 28; refine (truth_any _ _).mono ?_; rintro e w' ⟨rfl, rfl⟩))
  go_ret
  exact ⟨rfl, rfl⟩
theorem wide_3 (a b : BitVec 64) (w : World) :
    Calls Try.prog 19 #[.int .i64 3, .int .u64 (u a), .int .u64 (u b)] w fun e w' => e = .returned (.int .u64 (u (alW 3 a b))) ∧ w = w' := by
  have H : Hid (decide (u a < u b) = a.ult b) := Lib.hid (u_ltb a b)
  go_enter Try.func19, Try.ntmps19
  go_wp2_with (go_at_call 28; refine (truth_any _ _).mono ?_; rintro e w' ⟨rfl, rfl⟩)
  go_ret
  exact ⟨by rw [H.out]; rfl, rfl⟩
theorem wide_4 (a b : BitVec 64) (w : World) :
    Calls Try.prog 19 #[.int .i64 4, .int .u64 (u a), .int .u64 (u b)] w fun e w' => e = .returned (.int .u64 (u (alW 4 a b))) ∧ w = w' := by
  have H : Hid (bits BinOp.xor IntKind.u64 (u a) (u b) = u (alW 4 a b)) := Lib.hid (by rw [u_xor]; rfl)
  go_enter Try.func19, Try.ntmps19
  go_wp2
  go_ret
  exact ⟨by rw [← H.out]; rfl, rfl⟩
theorem wide_6 (a b : BitVec 64) (w : World) :
    Calls Try.prog 19 #[.int .i64 6, .int .u64 (u a), .int .u64 (u b)] w fun e w' => e = .returned (.int .u64 (u (alW 6 a b))) ∧ w = w' := by
  have H : Hid (bits BinOp.or IntKind.u64 (u a) (u b) = u (alW 6 a b)) := Lib.hid (by rw [u_or]; rfl)
  go_enter Try.func19, Try.ntmps19
  go_wp2
  go_ret
  exact ⟨by rw [← H.out]; rfl, rfl⟩
theorem wide_7 (a b : BitVec 64) (w : World) :
    Calls Try.prog 19 #[.int .i64 7, .int .u64 (u a), .int .u64 (u b)] w fun e w' => e = .returned (.int .u64 (u (alW 7 a b))) ∧ w = w' := by
  have H : Hid (bits BinOp.and IntKind.u64 (u a) (u b) = u (alW 7 a b)) := Lib.hid (by rw [u_and]; rfl)
  go_enter Try.func19, Try.ntmps19
  go_wp2
  go_ret
  exact ⟨by rw [← H.out]; rfl, rfl⟩

theorem wide_none (f : Int) (a b : BitVec 64) (h0 : f ≠ 0) (h1 : f ≠ 1) (h2 : f ≠ 2) (h3 : f ≠ 3) (h4 : f ≠ 4) (h5 : f ≠ 5) (h6 : f ≠ 6) (h7 : f ≠ 7) (h8 : f ≠ 8) (h13 : f ≠ 13) (w : World) :
    Calls Try.prog 19 #[.int .i64 f, .int .u64 (u a), .int .u64 (u b)] w fun e w' => e = .returned (.int .u64 (u (alW f a b))) ∧ w = w' := by
  have H : Hid (alW f a b = 0) := Lib.hid (alW_none f a b h0 h1 h2 h3 h4 h5 h6 h7 h8 h13)
  have e0 : (f == 0) = false := by simpa using h0
  have e1 : (f == 1) = false := by simpa using h1
  have e2 : (f == 2) = false := by simpa using h2
  have e3 : (f == 3) = false := by simpa using h3
  have e4 : (f == 4) = false := by simpa using h4
  have e5 : (f == 5) = false := by simpa using h5
  have e6 : (f == 6) = false := by simpa using h6
  have e7 : (f == 7) = false := by simpa using h7
  have e8 : (f == 8) = false := by simpa using h8
  have e13 : (f == 13) = false := by simpa using h13
  clear h0 h1 h2 h3 h4 h5 h6 h7 h8 h13
  go_enter Try.func19, Try.ntmps19
  go_wp2
  go_ret
  exact ⟨by rw [H.out]; rfl, rfl⟩
theorem wide_any (f : Int) (a b : BitVec 64) (w : World) :
    Calls Try.prog 19 #[.int .i64 f, .int .u64 (u a), .int .u64 (u b)] w fun e w' => e = .returned (.int .u64 (u (alW f a b))) ∧ w = w' := by
  by_cases h0 : f = 0
  · subst h0; exact wide_0 a b w
  by_cases h1 : f = 1
  · subst h1; exact wide_1 a b w
  by_cases h2 : f = 2
  · subst h2; exact wide_2 a b w
  by_cases h3 : f = 3
  · subst h3; exact wide_3 a b w
  by_cases h4 : f = 4
  · subst h4; exact wide_4 a b w
  by_cases h5 : f = 5
  · subst h5; exact wide_5 a b w
  by_cases h6 : f = 6
  · subst h6; exact wide_6 a b w
  by_cases h7 : f = 7
  · subst h7; exact wide_7 a b w
  by_cases h8 : f = 8
  · subst h8; exact wide_8 a b w
  by_cases h13 : f = 13
  · subst h13; exact wide_13 a b w
  exact wide_none f a b h0 h1 h2 h3 h4 h5 h6 h7 h8 h13 w
theorem narrow_0 (a b : BitVec 64) (w : World) :
    Calls Try.prog 18 #[.int .i64 0, .int .u64 (u a), .int .u64 (u b)] w fun e w' => e = .returned (.int .u64 (u (alN 0 a b))) ∧ w = w' := by
  have H0 : Hid (s32 (alW 0 (s32 a) b) = alN 0 a b) := Lib.hid (add_s32 a b)
  have hb := u_nonneg b
  go_enter Try.func18, Try.ntmps18
  go_wp2_with (first | (go_at_call 27; refine (extend_any _ _).mono ?_; rintro e w' ⟨rfl, rfl⟩) | (go_at_call 19; refine (wide_any _ _ _ _).mono ?_; rintro e w' ⟨rfl, rfl⟩))
  go_ret
  exact ⟨by rw [← H0.out]; rfl, rfl⟩
theorem narrow_8 (a b : BitVec 64) (w : World) :
    Calls Try.prog 18 #[.int .i64 8, .int .u64 (u a), .int .u64 (u b)] w fun e w' => e = .returned (.int .u64 (u (alN 8 a b))) ∧ w = w' := by
  have H0 : Hid (s32 (alW 8 (s32 a) b) = alN 8 a b) := Lib.hid (sub_s32 a b)
  have hb := u_nonneg b
  go_enter Try.func18, Try.ntmps18
  go_wp2_with (first | (go_at_call 27; refine (extend_any _ _).mono ?_; rintro e w' ⟨rfl, rfl⟩) | (go_at_call 19; refine (wide_any _ _ _ _).mono ?_; rintro e w' ⟨rfl, rfl⟩))
  go_ret
  exact ⟨by rw [← H0.out]; rfl, rfl⟩
theorem narrow_1 (a b : BitVec 64) (w : World) :
    Calls Try.prog 18 #[.int .i64 1, .int .u64 (u a), .int .u64 (u b)] w fun e w' => e = .returned (.int .u64 (u (alN 1 a b))) ∧ w = w' := by
  have H0 : Hid (s32 (alW 1 (s32 a) (b % 32#64)) = alN 1 a b) := Lib.hid (by show s32 (s32 a <<< amt (b % 32#64) 64) = s32 (a <<< amt b 32); rw [amt_mod, shl_s32])
  have hb := u_nonneg b
  have hm : Hid (u b % 32 = u (b % 32#64)) := Lib.hid (u_modw b 32 (by omega))
  go_enter Try.func18, Try.ntmps18
  go_wp2_with (first | (go_at_call 27; refine (extend_any _ _).mono ?_; rintro e w' ⟨rfl, rfl⟩))
  rw [hm.out]
  refine (wide_any _ _ _ _).mono ?_
  rintro e w' ⟨rfl, rfl⟩
  go_wp2_with (first | (go_at_call 27; refine (extend_any _ _).mono ?_; rintro e w' ⟨rfl, rfl⟩))
  go_ret
  exact ⟨by rw [← H0.out]; rfl, rfl⟩
theorem narrow_5 (a b : BitVec 64) (w : World) :
    Calls Try.prog 18 #[.int .i64 5, .int .u64 (u a), .int .u64 (u b)] w fun e w' => e = .returned (.int .u64 (u (alN 5 a b))) ∧ w = w' := by
  have H0 : Hid (s32 (alW 5 (zx (lo32 (s32 a))) (b % 32#64)) = alN 5 a b) := Lib.hid (by show s32 (zx (lo32 (s32 a)) >>> amt (b % 32#64) 64) = s32 (zx (lo32 a) >>> amt b 32); rw [amt_mod, lo32_s32])
  have hb := u_nonneg b
  have hm : Hid (u b % 32 = u (b % 32#64)) := Lib.hid (u_modw b 32 (by omega))
  have hz : Hid (u (s32 a) % 4294967296 = u (zx (lo32 (s32 a)))) := Lib.hid (by rw [mod_lo, q_zx])
  go_enter Try.func18, Try.ntmps18
  go_wp2_with (first | (go_at_call 27; refine (extend_any _ _).mono ?_; rintro e w' ⟨rfl, rfl⟩))
  rw [hm.out, hz.out]
  refine (wide_any _ _ _ _).mono ?_
  rintro e w' ⟨rfl, rfl⟩
  go_wp2_with (first | (go_at_call 27; refine (extend_any _ _).mono ?_; rintro e w' ⟨rfl, rfl⟩))
  go_ret
  exact ⟨by rw [← H0.out]; rfl, rfl⟩
theorem narrow_13 (a b : BitVec 64) (w : World) :
    Calls Try.prog 18 #[.int .i64 13, .int .u64 (u a), .int .u64 (u b)] w fun e w' => e = .returned (.int .u64 (u (alN 13 a b))) ∧ w = w' := by
  have H0 : Hid (s32 (alW 13 (s32 a) (b % 32#64)) = alN 13 a b) := Lib.hid (by show s32 (sar (s32 a) (amt (b % 32#64) 64)) = s32 (sar (s32 a) (amt b 32)); rw [amt_mod])
  have hb := u_nonneg b
  have hm : Hid (u b % 32 = u (b % 32#64)) := Lib.hid (u_modw b 32 (by omega))
  go_enter Try.func18, Try.ntmps18
  go_wp2_with (first | (go_at_call 27; refine (extend_any _ _).mono ?_; rintro e w' ⟨rfl, rfl⟩))
  rw [hm.out]
  refine (wide_any _ _ _ _).mono ?_
  rintro e w' ⟨rfl, rfl⟩
  go_wp2_with (first | (go_at_call 27; refine (extend_any _ _).mono ?_; rintro e w' ⟨rfl, rfl⟩))
  go_ret
  exact ⟨by rw [← H0.out]; rfl, rfl⟩
theorem narrow_none (f : Int) (a b : BitVec 64) (h0 : f ≠ 0) (h1 : f ≠ 1) (h5 : f ≠ 5) (h8 : f ≠ 8) (h13 : f ≠ 13) (w : World) :
    Calls Try.prog 18 #[.int .i64 f, .int .u64 (u a), .int .u64 (u b)] w fun e w' => e = .returned (.int .u64 (u (alN f a b))) ∧ w = w' := by
  have H : Hid (alN f a b = 0) := Lib.hid (alN_none f a b h0 h1 h5 h8 h13)
  have e0 : (f == 0) = false := by simpa using h0
  have e1 : (f == 1) = false := by simpa using h1
  have e5 : (f == 5) = false := by simpa using h5
  have e8 : (f == 8) = false := by simpa using h8
  have e13 : (f == 13) = false := by simpa using h13
  clear h0 h1 h5 h8 h13
  go_enter Try.func18, Try.ntmps18
  go_wp2_with (go_at_call 27; refine (extend_any _ _).mono ?_; rintro e w' ⟨rfl, rfl⟩)
  go_ret
  exact ⟨by rw [H.out]; rfl, rfl⟩
theorem narrow_any (f : Int) (a b : BitVec 64) (w : World) :
    Calls Try.prog 18 #[.int .i64 f, .int .u64 (u a), .int .u64 (u b)] w fun e w' => e = .returned (.int .u64 (u (alN f a b))) ∧ w = w' := by
  by_cases h0 : f = 0
  · subst h0; exact narrow_0 a b w
  by_cases h1 : f = 1
  · subst h1; exact narrow_1 a b w
  by_cases h5 : f = 5
  · subst h5; exact narrow_5 a b w
  by_cases h8 : f = 8
  · subst h8; exact narrow_8 a b w
  by_cases h13 : f = 13
  · subst h13; exact narrow_13 a b w
  exact narrow_none f a b h0 h1 h5 h8 h13 w
theorem alu_any (f : Int) (p : Bool) (a b : BitVec 64) (w : World) :
    Calls Try.prog 12 #[.int .i64 f, .bool p, .int .u64 (u a), .int .u64 (u b)] w fun e w' => e = .returned (.int .u64 (u (al f p a b))) ∧ w = w' := by
  cases p
  · go_enter Try.func12, Try.ntmps12
    go_wp2_with (go_at_call 19; refine (wide_any _ _ _ _).mono ?_; rintro e w' ⟨rfl, rfl⟩)
    go_ret
    exact ⟨rfl, rfl⟩
  · go_enter Try.func12, Try.ntmps12
    go_wp2_with (go_at_call 18; refine (narrow_any _ _ _ _).mono ?_; rintro e w' ⟨rfl, rfl⟩)
    go_ret
    exact ⟨rfl, rfl⟩
/-- which branches are taken -/
def br (f : Int) (a b : BitVec 64) : Bool :=
  if f = 0 then a == b else if f = 1 then a != b else if f = 4 then a.slt b else if f = 5 then !a.slt b else if f = 6 then a.ult b else if f = 7 then !a.ult b else false
theorem branch_any (f : Int) (a b : BitVec 64) (w : World) :
    Calls Try.prog 14 #[.int .i64 f, .int .u64 (u a), .int .u64 (u b)] w fun e w' => e = .returned (.bool (br f a b)) ∧ w = w' := by
  by_cases h0 : f = 0
  · subst h0
    have H : Hid ((u a == u b) = br 0 a b) := Lib.hid (u_beq a b)
    go_enter Try.func14, Try.ntmps14
    go_wp2
    go_ret
    exact ⟨by rw [← H.out]; rfl, rfl⟩
  by_cases h1 : f = 1
  · subst h1
    have H : Hid ((u a != u b) = br 1 a b) := Lib.hid (by show (!(u a == u b)) = _; rw [u_beq]; rfl)
    go_enter Try.func14, Try.ntmps14
    go_wp2
    go_ret
    exact ⟨by rw [← H.out]; rfl, rfl⟩
  by_cases h4 : f = 4
  · subst h4
    go_enter Try.func14, Try.ntmps14
    go_wp2_with (go_at_call 26; refine (aless_any _ _ _).mono ?_; rintro e w' ⟨rfl, rfl⟩)
    go_ret
    exact ⟨rfl, rfl⟩
  by_cases h5 : f = 5
  · subst h5
    go_enter Try.func14, Try.ntmps14
    go_wp2_with (go_at_call 26; refine (aless_any _ _ _).mono ?_; rintro e w' ⟨rfl, rfl⟩)
    go_ret
    exact ⟨rfl, rfl⟩
  by_cases h6 : f = 6
  · subst h6
    have H : Hid (decide (u a < u b) = br 6 a b) := Lib.hid (u_ltb a b)
    go_enter Try.func14, Try.ntmps14
    go_wp2
    go_ret
    exact ⟨by rw [← H.out]; rfl, rfl⟩
  by_cases h7 : f = 7
  · subst h7
    have H : Hid (decide (u b ≤ u a) = br 7 a b) := Lib.hid (by show _ = !a.ult b; rw [← u_ltb, ← decide_not, decide_eq_decide]; omega)
    go_enter Try.func14, Try.ntmps14
    go_wp2
    go_ret
    exact ⟨by rw [← H.out]; rfl, rfl⟩
  have H : Hid (br f a b = false) := Lib.hid (by unfold br; simp only [h0, h1, h4, h5, h6, h7, if_false])
  have e0 : (f == 0) = false := by simpa using h0
  have e1 : (f == 1) = false := by simpa using h1
  have e4 : (f == 4) = false := by simpa using h4
  have e5 : (f == 5) = false := by simpa using h5
  have e6 : (f == 6) = false := by simpa using h6
  have e7 : (f == 7) = false := by simpa using h7
  clear h0 h1 h4 h5 h6 h7
  go_enter Try.func14, Try.ntmps14
  go_wp2
  go_ret
  exact ⟨by rw [H.out]; rfl, rfl⟩
end Go.Proofs.Ytomecgfodchegaa
