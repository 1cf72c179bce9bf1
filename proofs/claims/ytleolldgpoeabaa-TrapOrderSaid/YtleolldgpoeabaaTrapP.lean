/- What the small calls of package trap, and of its reference, come to. Conditions: named at each. -/
import Derived.Test.YtleolldgpoeabaaHv
import Derived.Test.YtleolldgpoeabaaTrapW
import Derived.Test.YtleolldgpoeabaaShift
namespace Go.Proofs.Ytleolldgpoeabaa
open Go.RowKit

theorem putb_any (v b : BitVec 64) (on : Bool) (w : World) : Calls Try.prog 35 #[.int .u64 (u v), .int .u64 (u b), .bool on] w fun e w' => e = .returned (.int .u64 (u (putB v b on))) ∧ w = w' := by
  cases on
  · have H : Hid (bits .andNot .u64 (u v) (u b) = u (putB v b false)) := Lib.hid (u_andNot v b)
    go_enter Try.func35, Try.ntmps35
    go_wp2
    go_ret
    exact ⟨by rw [← H.out]; rfl, rfl⟩
  · have H : Hid (bits .or .u64 (u v) (u b) = u (putB v b true)) := Lib.hid (u_or v b)
    go_enter Try.func35, Try.ntmps35
    go_wp2
    go_ret
    exact ⟨by rw [← H.out]; rfl, rfl⟩
theorem rputb_any (v b : BitVec 64) (on : Bool) (w : World) : Calls Try.prog 32 #[.int .u64 (u v), .int .u64 (u b), .bool on] w fun e w' => e = .returned (.int .u64 (u (putB v b on))) ∧ w = w' := by
  cases on
  · have H : Hid (bits .andNot .u64 (u v) (u b) = u (putB v b false)) := Lib.hid (u_andNot v b)
    go_enter Try.func32, Try.ntmps32
    go_wp2
    go_ret
    exact ⟨by rw [← H.out]; rfl, rfl⟩
  · have H : Hid (bits .or .u64 (u v) (u b) = u (putB v b true)) := Lib.hid (u_or v b)
    go_enter Try.func32, Try.ntmps32
    go_wp2
    go_ret
    exact ⟨by rw [← H.out]; rfl, rfl⟩
theorem mov_any (s t f : BitVec 64) (w : World) : Calls Try.prog 34 #[.int .u64 (u s), .int .u64 (u t), .int .u64 (u f)] w fun e w' => e = .returned (.int .u64 (u (movB s t f))) ∧ w = w' := by
  have H : Hid ((bits .and .u64 (u s) (u f) != 0) = (!(s &&& f == 0#64))) := Lib.hid (by unfold bne; rw [u_and, show (0 : Int) = u 0#64 from rfl, u_beq])
  go_enter Try.func34, Try.ntmps34
  go_wp2_with (go_at_call 35; refine (putb_any _ _ _ _).mono ?_; rintro e w' ⟨rfl, rfl⟩)
  go_ret
  exact ⟨by unfold movB; rw [← H.out]; rfl, rfl⟩
theorem num_any (c : BitVec 64) (w : World) : Calls Try.prog 42 #[.int .u64 (u c)] w fun e w' => e = .returned (.int .u64 (u (c &&& 63#64))) ∧ w = w' := by
  have H : Hid (bits .and .u64 (u c) 63 = u (c &&& 63#64)) := Lib.hid (u_and c 63#64)
  go_enter Try.func42, Try.ntmps42
  go_wp2
  go_ret
  exact ⟨by rw [← H.out]; rfl, rfl⟩
theorem isint_any (c : BitVec 64) (w : World) : Calls Try.prog 41 #[.int .u64 (u c)] w fun e w' => e = .returned (.bool (c.getLsbD 63)) ∧ w = w' := by
  have H : Hid ((bits .and .u64 (u c) 9223372036854775808 != 0) = c.getLsbD 63) := Lib.hid (by unfold bne; rw [top_test, Bool.not_not])
  go_enter Try.func41, Try.ntmps41
  go_wp2
  go_ret
  exact ⟨by rw [← H.out]; rfl, rfl⟩
theorem wmp_any (s : BitVec 64) (p : Int) (w : World) : Calls Try.prog 36 #[.int .u64 (u s), .int .i64 p] w fun e w' => e = .returned (.int .u64 (u (wmp s p))) ∧ w = w' := by
  have H : Hid (bits .or .u64 (bits .andNot .u64 (u s) 6144) (bits .and .u64 (IntKind.u64.wrap (IntKind.u64.wrap p * 2048)) 6144) = u (wmp s p)) := Lib.hid (by
    have h : IntKind.u64.wrap (u (wd64 p) * 2048) = u (wd64 p <<< 11) := u_shl (wd64 p) 11
    rw [show (6144 : Int) = u 0x1800#64 from rfl, wrap_wd p, h, u_and, u_andNot, u_or]; rfl)
  go_enter Try.func36, Try.ntmps36
  go_wp2
  go_ret
  exact ⟨by rw [← H.out]; rfl, rfl⟩
theorem u_small (v : BitVec 64) (h : v.toNat < 4) : wrap64 (u v) = u v := by
  rw [← IntWalk.i64_left, wrap_sg, sg_small v (by unfold u; omega)]
theorem mp_1 (s : BitVec 64) : wrap64 (bits .and .u64 (u s) 6144 / 2048) = u (mpw s) := by
  have h : u (s &&& 0x1800#64) / (2048 : Int) = u ((s &&& 0x1800#64) >>> 11) := u_shr _ 11
  rw [show (6144 : Int) = u 0x1800#64 from rfl, u_and, h, mpw_and, u_small _ (mpw_lt s)]
theorem mp_2 (s : BitVec 64) : wrap64 (bits .and .u64 (u s / 2048) 3) = u (mpw s) := by
  have h : u s / (2048 : Int) = u (s >>> 11) := u_shr _ 11
  rw [show (3 : Int) = u 3#64 from rfl, h, u_and]
  exact u_small _ (mpw_lt s)
theorem mpq_any (s : BitVec 64) (w : World) : Calls Try.prog 33 #[.int .u64 (u s)] w fun e w' => e = .returned (.int .i64 (mpq s)) ∧ w = w' := by
  have M := mp_1 s
  by_cases h : mpw s = 2#64
  · have T : (u (mpw s) == 2) = true := by rw [h]; rfl
    have H : Hid (3 = mpq s) := Lib.hid (by unfold mpq; rw [if_pos h])
    clear h
    go_enter Try.func33, Try.ntmps33
    go_wp2
    go_ret
    exact ⟨by rw [← H.out]; rfl, rfl⟩
  · have T : (u (mpw s) == 2) = false := by
      rw [show (2 : Int) = u 2#64 from rfl, u_beq]; simpa using h
    have H : Hid (wrap64 (bits .and .u64 (u s) 6144 / 2048) = mpq s) := Lib.hid (by rw [M]; unfold mpq; rw [if_neg h])
    clear h
    go_enter Try.func33, Try.ntmps33
    go_wp2
    go_ret
    exact ⟨by rw [← H.out]; rfl, rfl⟩
theorem rmpq_any (s : BitVec 64) (w : World) : Calls Try.prog 37 #[.int .u64 (u s)] w fun e w' => e = .returned (.int .i64 (mpq s)) ∧ w = w' := by
  have M := mp_2 s
  by_cases h : mpw s = 2#64
  · have T : (u (mpw s) == 2) = true := by rw [h]; rfl
    have H : Hid (3 = mpq s) := Lib.hid (by unfold mpq; rw [if_pos h])
    clear h
    go_enter Try.func37, Try.ntmps37
    go_wp2
    go_ret
    exact ⟨by rw [← H.out]; rfl, rfl⟩
  · have T : (u (mpw s) == 2) = false := by
      rw [show (2 : Int) = u 2#64 from rfl, u_beq]; simpa using h
    have H : Hid (wrap64 (bits .and .u64 (u s / 2048) 3) = mpq s) := Lib.hid (by rw [M]; unfold mpq; rw [if_neg h])
    clear h
    go_enter Try.func37, Try.ntmps37
    go_wp2
    go_ret
    exact ⟨by rw [← H.out]; rfl, rfl⟩
theorem hdl_any (v c : BitVec 64) (w : World) : Calls Try.prog 43 #[.int .u64 (u v), .int .u64 (u c)] w fun e w' => e = .returned (.int .u64 (u (hdl v c))) ∧ w = w' := by
  have A : bits .andNot .u64 (u v) 3 = u (v &&& ~~~3#64) := u_andNot v 3#64
  have B : IntKind.u64.wrap (4 * u (c &&& 63#64)) = u (4#64 * (c &&& 63#64)) := u_mul 4#64 _
  have D : IntKind.u64.wrap (u (v &&& ~~~3#64) + u (4#64 * (c &&& 63#64))) = u ((v &&& ~~~3#64) + 4#64 * (c &&& 63#64)) := u_add _ _
  have T0 := low_test1 v
  cases h1 : v.getLsbD 0
  · have T : (bits .and .u64 (u v) 1 == 0) = true := T0.trans (by rw [h1]; rfl)
    have P : bits .and .u64 (u v) 1 = 0 := by simpa using T
    have H : Hid (v &&& ~~~3#64 = hdl v c) := Lib.hid (by unfold hdl; rw [h1]; rfl)
    clear h1 T0
    go_enter Try.func43, Try.ntmps43
    go_wp2
    go_ret
    exact ⟨by rw [← H.out]; rfl, rfl⟩
  · have T : (bits .and .u64 (u v) 1 == 0) = false := T0.trans (by rw [h1]; rfl)
    have P : ¬ bits .and .u64 (u v) 1 = 0 := by simpa using T
    clear T0
    cases h2 : c.getLsbD 63
    · have H : Hid (v &&& ~~~3#64 = hdl v c) := Lib.hid (by unfold hdl; rw [h1, h2]; rfl)
      have K : Hid (∀ w, Calls Try.prog 41 #[.int .u64 (u c)] w fun e w' => e = .returned (.bool false) ∧ w = w') := Lib.hid (fun w => by have := isint_any c w; rw [h2] at this; exact this)
      clear h1 h2
      go_enter Try.func43, Try.ntmps43
      go_wp2_with (go_at_call 41; refine (K.out _).mono ?_; rintro e w' ⟨rfl, rfl⟩)
      go_ret
      exact ⟨by rw [← H.out]; rfl, rfl⟩
    · have H : Hid ((v &&& ~~~3#64) + 4#64 * (c &&& 63#64) = hdl v c) := Lib.hid (by unfold hdl; rw [h1, h2]; rfl)
      have K : Hid (∀ w, Calls Try.prog 41 #[.int .u64 (u c)] w fun e w' => e = .returned (.bool true) ∧ w = w') := Lib.hid (fun w => by have := isint_any c w; rw [h2] at this; exact this)
      clear h1 h2
      go_enter Try.func43, Try.ntmps43
      go_wp2_with (first | (go_at_call 41; refine (K.out _).mono ?_; rintro e w' ⟨rfl, rfl⟩) | (go_at_call 42; refine (num_any _ _).mono ?_; rintro e w' ⟨rfl, rfl⟩))
      go_ret
      exact ⟨by rw [← H.out]; rfl, rfl⟩
end Go.Proofs.Ytleolldgpoeabaa
