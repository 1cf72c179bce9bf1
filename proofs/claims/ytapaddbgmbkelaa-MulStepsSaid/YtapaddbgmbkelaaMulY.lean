/- How many steps the reference says that a task takes. Conditions: none. -/
import Derived.Test.YtapaddbgmbkelaaMulA
import Derived.Test.YtapaddbgmbkelaaMulV
namespace Go.Proofs.Ytapaddbgmbkelaa
open Go.RowKit

/-- .. 0: it is refused -/
def rst (f : Int) (wd : Bool) (a b : BitVec 64) : Int := if dfd f wd then stp f wd (prp f wd a) (prp f wd b) else 0
theorem lo_z32 (v : BitVec 64) : lo32 (z32 v) = lo32 v := lo_zx _
theorem z_s (b : BitVec 64) : (u (z32 b) == 0) = (u (s32 b) == 0) := by
  rw [u_zero, u_beq, u_beq, Bool.eq_iff_iff, beq_iff_eq, beq_iff_eq]
  constructor
  · intro h
    have : lo32 b = lo32 0 := by rw [← lo_z32, h]
    rw [s32_of this]; decide
  · intro h
    have : lo32 b = 0 := by rw [← lo32_s32, h]; decide
    unfold z32; rw [this]; decide
theorem rsext_least (w : World) : Calls Try.prog 24 #[.int .u64 2147483648, .int .i64 32] w fun e w' => e = .returned (.int .u64 18446744071562067968) ∧ w = w' := by
  have h := rsext_32 2147483648#64 w
  rw [show s32 2147483648#64 = 18446744071562067968#64 by decide] at h
  exact h
theorem rsteps_none (f : Int) (h : f < 0 ∨ 7 < f) (wd : Bool) (a b : BitVec 64) (w : World) :
    Calls Try.prog 15 #[.int .i64 f, .bool wd, .int .u64 (u a), .int .u64 (u b)] w fun e w' => e = .returned (.int .i64 0) ∧ w = w' := by
  cases wd
  · rcases h with h | h
    all_goals
      go_enter Try.func15, Try.ntmps15
      go_wp2
      go_ret
      exact ⟨rfl, rfl⟩
  · rcases h with h | h
    all_goals
      go_enter Try.func15, Try.ntmps15
      go_wp2_with fail
      refine (rsext_least _).mono ?_
      rintro e w' ⟨rfl, rfl⟩
      go_wp2_with (go_at_call 24; refine (rsext_32 _ _).mono ?_; rintro e w' ⟨rfl, rfl⟩)
      go_ret
      exact ⟨rfl, rfl⟩
theorem rsteps_0 (a b : BitVec 64) (w : World) :
    Calls Try.prog 15 #[.int .i64 0, .bool false, .int .u64 (u a), .int .u64 (u b)] w fun e w' => e = .returned (.int .i64 (rst 0 false a b)) ∧ w = w' := by
  have H : Hid (rst 0 false a b = 64) := Lib.hid rfl
  go_enter Try.func15, Try.ntmps15
  go_wp2
  go_ret
  exact ⟨by rw [H.out]; rfl, rfl⟩
theorem rsteps_0w (a b : BitVec 64) (w : World) :
    Calls Try.prog 15 #[.int .i64 0, .bool true, .int .u64 (u a), .int .u64 (u b)] w fun e w' => e = .returned (.int .i64 (rst 0 true a b)) ∧ w = w' := by
  have H : Hid (rst 0 true a b = 32) := Lib.hid rfl
  go_enter Try.func15, Try.ntmps15
  go_wp2_with fail
  refine (rsext_least _).mono ?_
  rintro e w' ⟨rfl, rfl⟩
  go_wp2_with (go_at_call 24; refine (rsext_32 _ _).mono ?_; rintro e w' ⟨rfl, rfl⟩)
  go_ret
  exact ⟨by rw [H.out]; rfl, rfl⟩
theorem rsteps_1 (a b : BitVec 64) (w : World) :
    Calls Try.prog 15 #[.int .i64 1, .bool false, .int .u64 (u a), .int .u64 (u b)] w fun e w' => e = .returned (.int .i64 (rst 1 false a b)) ∧ w = w' := by
  have H : Hid (rst 1 false a b = 64) := Lib.hid rfl
  go_enter Try.func15, Try.ntmps15
  go_wp2
  go_ret
  exact ⟨by rw [H.out]; rfl, rfl⟩
theorem rsteps_1w (a b : BitVec 64) (w : World) :
    Calls Try.prog 15 #[.int .i64 1, .bool true, .int .u64 (u a), .int .u64 (u b)] w fun e w' => e = .returned (.int .i64 (rst 1 true a b)) ∧ w = w' := by
  have H : Hid (rst 1 true a b = 0) := Lib.hid rfl
  go_enter Try.func15, Try.ntmps15
  go_wp2_with fail
  refine (rsext_least _).mono ?_
  rintro e w' ⟨rfl, rfl⟩
  go_wp2_with (go_at_call 24; refine (rsext_32 _ _).mono ?_; rintro e w' ⟨rfl, rfl⟩)
  go_ret
  exact ⟨by rw [H.out]; rfl, rfl⟩
theorem rsteps_2 (a b : BitVec 64) (w : World) :
    Calls Try.prog 15 #[.int .i64 2, .bool false, .int .u64 (u a), .int .u64 (u b)] w fun e w' => e = .returned (.int .i64 (rst 2 false a b)) ∧ w = w' := by
  have H : Hid (rst 2 false a b = 64) := Lib.hid rfl
  go_enter Try.func15, Try.ntmps15
  go_wp2
  go_ret
  exact ⟨by rw [H.out]; rfl, rfl⟩
theorem rsteps_2w (a b : BitVec 64) (w : World) :
    Calls Try.prog 15 #[.int .i64 2, .bool true, .int .u64 (u a), .int .u64 (u b)] w fun e w' => e = .returned (.int .i64 (rst 2 true a b)) ∧ w = w' := by
  have H : Hid (rst 2 true a b = 0) := Lib.hid rfl
  go_enter Try.func15, Try.ntmps15
  go_wp2_with fail
  refine (rsext_least _).mono ?_
  rintro e w' ⟨rfl, rfl⟩
  go_wp2_with (go_at_call 24; refine (rsext_32 _ _).mono ?_; rintro e w' ⟨rfl, rfl⟩)
  go_ret
  exact ⟨by rw [H.out]; rfl, rfl⟩
theorem rsteps_3 (a b : BitVec 64) (w : World) :
    Calls Try.prog 15 #[.int .i64 3, .bool false, .int .u64 (u a), .int .u64 (u b)] w fun e w' => e = .returned (.int .i64 (rst 3 false a b)) ∧ w = w' := by
  have H : Hid (rst 3 false a b = 64) := Lib.hid rfl
  go_enter Try.func15, Try.ntmps15
  go_wp2
  go_ret
  exact ⟨by rw [H.out]; rfl, rfl⟩
theorem rsteps_3w (a b : BitVec 64) (w : World) :
    Calls Try.prog 15 #[.int .i64 3, .bool true, .int .u64 (u a), .int .u64 (u b)] w fun e w' => e = .returned (.int .i64 (rst 3 true a b)) ∧ w = w' := by
  have H : Hid (rst 3 true a b = 0) := Lib.hid rfl
  go_enter Try.func15, Try.ntmps15
  go_wp2_with fail
  refine (rsext_least _).mono ?_
  rintro e w' ⟨rfl, rfl⟩
  go_wp2_with (go_at_call 24; refine (rsext_32 _ _).mono ?_; rintro e w' ⟨rfl, rfl⟩)
  go_ret
  exact ⟨by rw [H.out]; rfl, rfl⟩
theorem rsteps_4 (a b : BitVec 64) (w : World) :
    Calls Try.prog 15 #[.int .i64 4, .bool false, .int .u64 (u a), .int .u64 (u b)] w fun e w' => e = .returned (.int .i64 (rst 4 false a b)) ∧ w = w' := by
  have H : Hid (rst 4 false a b = if (u b == 0 || (u a == 9223372036854775808 && u b == 18446744073709551615)) then 1 else 64) := Lib.hid rfl
  cases hz : (u b == 0)
  · cases hx : (u a == 9223372036854775808)
    · rw [hz, hx] at H
      go_enter Try.func15, Try.ntmps15
      go_wp2
      go_ret
      exact ⟨by rw [H.out]; rfl, rfl⟩
    · cases hy : (u b == 18446744073709551615)
      all_goals
        rw [hz, hx, hy] at H
        go_enter Try.func15, Try.ntmps15
        go_wp2
        go_ret
        exact ⟨by rw [H.out]; rfl, rfl⟩
  · rw [hz] at H
    go_enter Try.func15, Try.ntmps15
    go_wp2
    go_ret
    exact ⟨by rw [H.out]; rfl, rfl⟩
theorem rsteps_4w (a b : BitVec 64) (w : World) :
    Calls Try.prog 15 #[.int .i64 4, .bool true, .int .u64 (u a), .int .u64 (u b)] w fun e w' => e = .returned (.int .i64 (rst 4 true a b)) ∧ w = w' := by
  have H : Hid (rst 4 true a b = if (u (s32 b) == 0 || (u (s32 a) == 18446744071562067968 && u (s32 b) == 18446744073709551615)) then 1 else 32) := Lib.hid rfl
  cases hz : (u (s32 b) == 0)
  · cases hx : (u (s32 a) == 18446744071562067968)
    · rw [hz, hx] at H
      go_enter Try.func15, Try.ntmps15
      go_wp2_with fail
      refine (rsext_least _).mono ?_
      rintro e w' ⟨rfl, rfl⟩
      go_wp2_with (go_at_call 24; refine (rsext_32 _ _).mono ?_; rintro e w' ⟨rfl, rfl⟩)
      go_ret
      exact ⟨by rw [H.out]; rfl, rfl⟩
    · cases hy : (u (s32 b) == 18446744073709551615)
      all_goals
        rw [hz, hx, hy] at H
        go_enter Try.func15, Try.ntmps15
        go_wp2_with fail
        refine (rsext_least _).mono ?_
        rintro e w' ⟨rfl, rfl⟩
        go_wp2_with (go_at_call 24; refine (rsext_32 _ _).mono ?_; rintro e w' ⟨rfl, rfl⟩)
        go_ret
        exact ⟨by rw [H.out]; rfl, rfl⟩
  · rw [hz] at H
    go_enter Try.func15, Try.ntmps15
    go_wp2_with fail
    refine (rsext_least _).mono ?_
    rintro e w' ⟨rfl, rfl⟩
    go_wp2_with (go_at_call 24; refine (rsext_32 _ _).mono ?_; rintro e w' ⟨rfl, rfl⟩)
    go_ret
    exact ⟨by rw [H.out]; rfl, rfl⟩
theorem rsteps_5 (a b : BitVec 64) (w : World) :
    Calls Try.prog 15 #[.int .i64 5, .bool false, .int .u64 (u a), .int .u64 (u b)] w fun e w' => e = .returned (.int .i64 (rst 5 false a b)) ∧ w = w' := by
  have H : Hid (rst 5 false a b = if (u b == 0 || false) then 1 else 64) := Lib.hid rfl
  cases hz : (u b == 0)
  all_goals
    rw [hz] at H
    go_enter Try.func15, Try.ntmps15
    go_wp2
    go_ret
    exact ⟨by rw [H.out]; rfl, rfl⟩
theorem rsteps_5w (a b : BitVec 64) (w : World) :
    Calls Try.prog 15 #[.int .i64 5, .bool true, .int .u64 (u a), .int .u64 (u b)] w fun e w' => e = .returned (.int .i64 (rst 5 true a b)) ∧ w = w' := by
  have H : Hid (rst 5 true a b = if (u (s32 b) == 0 || false) then 1 else 32) := Lib.hid (by rw [← z_s]; rfl)
  cases hz : (u (s32 b) == 0)
  all_goals
    rw [hz] at H
    go_enter Try.func15, Try.ntmps15
    go_wp2_with fail
    refine (rsext_least _).mono ?_
    rintro e w' ⟨rfl, rfl⟩
    go_wp2_with (go_at_call 24; refine (rsext_32 _ _).mono ?_; rintro e w' ⟨rfl, rfl⟩)
    go_ret
    exact ⟨by rw [H.out]; rfl, rfl⟩
theorem rsteps_6 (a b : BitVec 64) (w : World) :
    Calls Try.prog 15 #[.int .i64 6, .bool false, .int .u64 (u a), .int .u64 (u b)] w fun e w' => e = .returned (.int .i64 (rst 6 false a b)) ∧ w = w' := by
  have H : Hid (rst 6 false a b = if (u b == 0 || (u a == 9223372036854775808 && u b == 18446744073709551615)) then 1 else 64) := Lib.hid rfl
  cases hz : (u b == 0)
  · cases hx : (u a == 9223372036854775808)
    · rw [hz, hx] at H
      go_enter Try.func15, Try.ntmps15
      go_wp2
      go_ret
      exact ⟨by rw [H.out]; rfl, rfl⟩
    · cases hy : (u b == 18446744073709551615)
      all_goals
        rw [hz, hx, hy] at H
        go_enter Try.func15, Try.ntmps15
        go_wp2
        go_ret
        exact ⟨by rw [H.out]; rfl, rfl⟩
  · rw [hz] at H
    go_enter Try.func15, Try.ntmps15
    go_wp2
    go_ret
    exact ⟨by rw [H.out]; rfl, rfl⟩
theorem rsteps_6w (a b : BitVec 64) (w : World) :
    Calls Try.prog 15 #[.int .i64 6, .bool true, .int .u64 (u a), .int .u64 (u b)] w fun e w' => e = .returned (.int .i64 (rst 6 true a b)) ∧ w = w' := by
  have H : Hid (rst 6 true a b = if (u (s32 b) == 0 || (u (s32 a) == 18446744071562067968 && u (s32 b) == 18446744073709551615)) then 1 else 32) := Lib.hid rfl
  cases hz : (u (s32 b) == 0)
  · cases hx : (u (s32 a) == 18446744071562067968)
    · rw [hz, hx] at H
      go_enter Try.func15, Try.ntmps15
      go_wp2_with fail
      refine (rsext_least _).mono ?_
      rintro e w' ⟨rfl, rfl⟩
      go_wp2_with (go_at_call 24; refine (rsext_32 _ _).mono ?_; rintro e w' ⟨rfl, rfl⟩)
      go_ret
      exact ⟨by rw [H.out]; rfl, rfl⟩
    · cases hy : (u (s32 b) == 18446744073709551615)
      all_goals
        rw [hz, hx, hy] at H
        go_enter Try.func15, Try.ntmps15
        go_wp2_with fail
        refine (rsext_least _).mono ?_
        rintro e w' ⟨rfl, rfl⟩
        go_wp2_with (go_at_call 24; refine (rsext_32 _ _).mono ?_; rintro e w' ⟨rfl, rfl⟩)
        go_ret
        exact ⟨by rw [H.out]; rfl, rfl⟩
  · rw [hz] at H
    go_enter Try.func15, Try.ntmps15
    go_wp2_with fail
    refine (rsext_least _).mono ?_
    rintro e w' ⟨rfl, rfl⟩
    go_wp2_with (go_at_call 24; refine (rsext_32 _ _).mono ?_; rintro e w' ⟨rfl, rfl⟩)
    go_ret
    exact ⟨by rw [H.out]; rfl, rfl⟩
theorem rsteps_7 (a b : BitVec 64) (w : World) :
    Calls Try.prog 15 #[.int .i64 7, .bool false, .int .u64 (u a), .int .u64 (u b)] w fun e w' => e = .returned (.int .i64 (rst 7 false a b)) ∧ w = w' := by
  have H : Hid (rst 7 false a b = if (u b == 0 || false) then 1 else 64) := Lib.hid rfl
  cases hz : (u b == 0)
  all_goals
    rw [hz] at H
    go_enter Try.func15, Try.ntmps15
    go_wp2
    go_ret
    exact ⟨by rw [H.out]; rfl, rfl⟩
theorem rsteps_7w (a b : BitVec 64) (w : World) :
    Calls Try.prog 15 #[.int .i64 7, .bool true, .int .u64 (u a), .int .u64 (u b)] w fun e w' => e = .returned (.int .i64 (rst 7 true a b)) ∧ w = w' := by
  have H : Hid (rst 7 true a b = if (u (s32 b) == 0 || false) then 1 else 32) := Lib.hid (by rw [← z_s]; rfl)
  cases hz : (u (s32 b) == 0)
  all_goals
    rw [hz] at H
    go_enter Try.func15, Try.ntmps15
    go_wp2_with fail
    refine (rsext_least _).mono ?_
    rintro e w' ⟨rfl, rfl⟩
    go_wp2_with (go_at_call 24; refine (rsext_32 _ _).mono ?_; rintro e w' ⟨rfl, rfl⟩)
    go_ret
    exact ⟨by rw [H.out]; rfl, rfl⟩
theorem rsteps_any (f : Int) (wd : Bool) (a b : BitVec 64) (w : World) :
    Calls Try.prog 15 #[.int .i64 f, .bool wd, .int .u64 (u a), .int .u64 (u b)] w fun e w' => e = .returned (.int .i64 (rst f wd a b)) ∧ w = w' := by
  rcases fun_cases f with rfl | rfl | rfl | rfl | rfl | rfl | rfl | rfl | ⟨e0, e1, e2, e3, e4, e5, e6, e7⟩
  · cases wd
    · exact rsteps_0 a b w
    · exact rsteps_0w a b w
  · cases wd
    · exact rsteps_1 a b w
    · exact rsteps_1w a b w
  · cases wd
    · exact rsteps_2 a b w
    · exact rsteps_2w a b w
  · cases wd
    · exact rsteps_3 a b w
    · exact rsteps_3w a b w
  · cases wd
    · exact rsteps_4 a b w
    · exact rsteps_4w a b w
  · cases wd
    · exact rsteps_5 a b w
    · exact rsteps_5w a b w
  · cases wd
    · exact rsteps_6 a b w
    · exact rsteps_6w a b w
  · cases wd
    · exact rsteps_7 a b w
    · exact rsteps_7w a b w
  · have hd : dfd f wd = false := by cases wd <;> (unfold dfd dvs; rw [e0, e1, e2, e3, e4, e5, e6, e7]; rfl)
    have h : rst f wd a b = 0 := by unfold rst; rw [hd]; rfl
    rw [h]
    exact rsteps_none f (by simp only [beq_eq_false_iff_ne] at *; omega) wd a b w
end Go.Proofs.Ytapaddbgmbkelaa
