/- The first test of stage 5's laws, and what the reference's Result comes to. Conditions: none. -/
import Derived.Test.YtapaddbgmbkelaaMulU
import Derived.Test.YtapaddbgmbkelaaMulT
import Derived.Test.YtapaddbgmbkelaaCalls
import Derived.Test.YtapaddbgmbkelaaLoops
namespace Go.Proofs.Ytapaddbgmbkelaa
open Go.RowKit

theorem res_72 (w : World) : Calls Try.prog 12 #[.int .i64 4, .bool false, .int .u64 7, .int .u64 2] w fun e w' => e = .returned (.int .u64 3) ∧ On w w' := by
  have h := mresult_any 4 false 7#64 2#64 w
  rw [show mres 4 false 7#64 2#64 = 3#64 by decide] at h
  exact h
theorem start_90 (B : Nat) (w : World) (hw : UAt B .idle w) :
    Calls Try.prog 16 #[.pointer (some ⟨B, 0, none⟩), .int .i64 5, .bool false, .int .u64 9, .int .u64 0] w fun e w' => e = .returned (.int .i64 0) ∧ UAt B (.busy 5 false 9#64 0#64 1) w' ∧ But B w w' := by
  have h := start_ok B 5 false rfl 9#64 0#64 w hw
  rw [show stp 5 false (prp 5 false 9#64) (prp 5 false 0#64) = 1 by decide] at h
  exact h
theorem awake5_yes (w : World) : Calls Try.prog 11 #[] w fun e w' => e = .returned (.bool true) ∧ On w w' := by
  go_enter Try.func11, Try.ntmps11
  go_wp2_with fail
  refine (new_unit _).mono ?_
  rintro e w1 ⟨rfl, k1, h1⟩
  go_wp2_with fail
  refine (res_72 _).mono ?_
  rintro e w2 ⟨rfl, h2⟩
  have k2 := Lib.hid (k1.on h2)
  have HB := Lib.hid (h1.trans h2)
  clear k1 h1 h2
  go_wp2_with fail
  refine (start_90 _ _ k2.out).mono ?_
  rintro e w3 ⟨rfl, k3, h3⟩
  have HB2 : Hid (On w w3) := Lib.hid (But.below HB.out (Nat.le_refl _) HB.out.size h3)
  have k4 := Lib.hid k3
  clear k3 h3 k2 HB
  go_wp2_with fail
  refine (left_at _ _ _ k4.out).mono ?_
  rintro e w4 ⟨rfl, rfl⟩
  have e1 : (Un.busy 5 false 9#64 0#64 1).left = 1 := rfl
  rw [e1]
  go_wp2
  go_ret
  exact ⟨rfl, HB2.out⟩

/-! ### the reference -/
theorem rproduct_any (a b : BitVec 64) (s t : Bool) (w : World) :
    Calls Try.prog 32 #[wv (wsx s a), wv (wsx t b)] w fun e w' => e = .returned (.agg #[.int .u64 (u (hiW (wsx s a * wsx t b))), .int .u64 (u (loW (wsx s a * wsx t b)))]) ∧ On w w' := product_ref _ _ w
theorem rext_any (a : BitVec 64) (s : Bool) (w : World) :
    Calls Try.prog 33 #[.int .u64 (u a), .bool s] w fun e w' => e = .returned (wv (wsx s a)) ∧ On w w' := rextend_any a s w
theorem fld_hi (x y : Int) (w : World) : (Instr.field 55 (.agg #[.int .u64 x, .int .u64 y]) 0).run Try.prog w = .ok (.int .u64 x) w := by kernel_rfl
theorem fld_lw (x y : Int) (w : World) : (Instr.field 55 (.agg #[.int .u64 x, .int .u64 y]) 1).run Try.prog w = .ok (.int .u64 y) w := by kernel_rfl
theorem mag_zero {b : BitVec 64} (h : b ≠ 0) : mag b ≠ 0 := by
  unfold mag; split
  · intro h2; apply h
    have := congrArg (fun x => -x) h2
    simpa using this
  · exact h
set_option maxHeartbeats 1000000 in
theorem full_any (f : Int) (a b : BitVec 64) (w : World) :
    Calls Try.prog 23 #[.int .i64 f, .int .u64 (u a), .int .u64 (u b)] w fun e w' => e = .returned (.int .u64 (u (mW f a b))) ∧ On w w' := by
  have HB := Lib.hid (On.refl w)
  have ha := u_nonneg a
  have hb := u_nonneg b
  have tz : (u b == 0) = (b == 0) := by rw [u_zero, u_beq]
  have tn : (u a / 9223372036854775808 == 1) = a.getLsbD 63 := by rw [← top_test, ← u_shr]; rfl
  have tm : (u b / 9223372036854775808 == 1) = b.getLsbD 63 := by rw [← top_test, ← u_shr]; rfl
  rcases fun_cases f with rfl | rfl | rfl | rfl | rfl | rfl | rfl | rfl | ⟨e0, e1, e2, e3, e4, e5, e6, e7⟩
  · have H : Hid (u (loW (wsx false a * wsx false b)) = u (mW 0 a b)) := Lib.hid (by rw [wsx_no, wsx_no, lo_prod]; rfl)
    go_enter Try.func23, Try.ntmps23
    have f0 := fld_hi
    have f1 := fld_lw
    go_wp2_with (first | (go_at_call 33; refine (rext_any _ _ _).mono ?_; rintro e wn ⟨rfl, hb⟩; have HB := Lib.hid (HB.out.trans hb); clear hb) | (go_at_call 32; refine (rproduct_any _ _ _ _ _).mono ?_; rintro e wn ⟨rfl, hb⟩; have HB := Lib.hid (HB.out.trans hb); clear hb))
    go_ret
    exact ⟨by rw [← H.out]; rfl, HB.out⟩
  · have H : Hid (u (hiW (wsx true a * wsx true b)) = u (mW 1 a b)) := Lib.hid (by rw [wsx_yes, wsx_yes, hi_ss]; rfl)
    go_enter Try.func23, Try.ntmps23
    have f0 := fld_hi
    have f1 := fld_lw
    go_wp2_with (first | (go_at_call 33; refine (rext_any _ _ _).mono ?_; rintro e wn ⟨rfl, hb⟩; have HB := Lib.hid (HB.out.trans hb); clear hb) | (go_at_call 32; refine (rproduct_any _ _ _ _ _).mono ?_; rintro e wn ⟨rfl, hb⟩; have HB := Lib.hid (HB.out.trans hb); clear hb))
    go_ret
    exact ⟨by rw [← H.out]; rfl, HB.out⟩
  · have H : Hid (u (hiW (wsx true a * wsx false b)) = u (mW 2 a b)) := Lib.hid (by rw [wsx_yes, wsx_no, hi_su]; rfl)
    go_enter Try.func23, Try.ntmps23
    have f0 := fld_hi
    have f1 := fld_lw
    go_wp2_with (first | (go_at_call 33; refine (rext_any _ _ _).mono ?_; rintro e wn ⟨rfl, hb⟩; have HB := Lib.hid (HB.out.trans hb); clear hb) | (go_at_call 32; refine (rproduct_any _ _ _ _ _).mono ?_; rintro e wn ⟨rfl, hb⟩; have HB := Lib.hid (HB.out.trans hb); clear hb))
    go_ret
    exact ⟨by rw [← H.out]; rfl, HB.out⟩
  · have H : Hid (u (hiW (wsx false a * wsx false b)) = u (mW 3 a b)) := Lib.hid (by rw [wsx_no, wsx_no, hi_uu]; rfl)
    go_enter Try.func23, Try.ntmps23
    have f0 := fld_hi
    have f1 := fld_lw
    go_wp2_with (first | (go_at_call 33; refine (rext_any _ _ _).mono ?_; rintro e wn ⟨rfl, hb⟩; have HB := Lib.hid (HB.out.trans hb); clear hb) | (go_at_call 32; refine (rproduct_any _ _ _ _ _).mono ?_; rintro e wn ⟨rfl, hb⟩; have HB := Lib.hid (HB.out.trans hb); clear hb))
    go_ret
    exact ⟨by rw [← H.out]; rfl, HB.out⟩
  · by_cases hz : b = 0
    · have H : Hid (mW 4 a b = BitVec.allOnes 64) := Lib.hid (by show (if b = 0 then _ else _) = _; rw [if_pos hz])
      have t0 : (u b == 0) = true := by rw [tz]; simpa using hz
      clear hz tz tn tm
      go_enter Try.func23, Try.ntmps23
      go_wp2
      go_ret
      exact ⟨by rw [H.out, ← u_ones]; rfl, HB.out⟩
    · have H : Hid (mW 4 a b = if (a.getLsbD 63 != b.getLsbD 63) then -(mag a / mag b) else mag a / mag b) := Lib.hid (by show (if b = 0 then _ else _) = _; rw [if_neg hz, sdiv_mag])
      have t0 : (u b == 0) = false := by rw [tz]; simpa using hz
      have HZ := Lib.hid (mag_zero hz)
      have HN := Lib.hid (neg_u (mag a / mag b))
      have ts : (u a / 9223372036854775808 != u b / 9223372036854775808) = (a.getLsbD 63 != b.getLsbD 63) := by
        have g : ∀ x : BitVec 64, u x / 9223372036854775808 = ((x.getLsbD 63).toNat : Int) := fun x => by
          have h1 : u x / 9223372036854775808 = 0 ∨ u x / 9223372036854775808 = 1 := by have := u_nonneg x; have := u_lt x; omega
          have h2 : (u x / 9223372036854775808 == 1) = x.getLsbD 63 := by rw [← top_test, ← u_shr]; rfl
          cases hx : x.getLsbD 63 <;> rw [hx] at h2 <;> simp at h2
          · rcases h1 with h1 | h1
            · rw [h1]; rfl
            · exact absurd h1 h2
          · rw [h2]; rfl
        rw [g, g]; cases a.getLsbD 63 <;> cases b.getLsbD 63 <;> rfl
      cases hs : (a.getLsbD 63 != b.getLsbD 63)
      all_goals
        rw [hs] at ts H
        clear hs hz tz tn tm
        go_enter Try.func23, Try.ntmps23
        go_wp2_with (first | (go_at_call 35; refine (size_any _ _).mono ?_; rintro e w' ⟨rfl, rfl⟩) | (go_at_call 34; refine (quotient_any _ _ HZ.out _).mono ?_; rintro e wn ⟨rfl, rfl⟩))
        go_ret
        exact ⟨by rw [H.out]; first | rfl | (show _ = Ending.returned (.int .u64 (u (-(mag a / mag b)))); rw [← HN.out]; rfl), HB.out⟩
  · by_cases hz : b = 0
    · have H : Hid (mW 5 a b = BitVec.allOnes 64) := Lib.hid (by show (if b = 0 then _ else _) = _; rw [if_pos hz])
      have t0 : (u b == 0) = true := by rw [tz]; simpa using hz
      clear hz tz tn tm
      go_enter Try.func23, Try.ntmps23
      go_wp2
      go_ret
      exact ⟨by rw [H.out, ← u_ones]; rfl, HB.out⟩
    · have H : Hid (mW 5 a b = a / b) := Lib.hid (by show (if b = 0 then _ else _) = _; rw [if_neg hz])
      have t0 : (u b == 0) = false := by rw [tz]; simpa using hz
      have HZ := Lib.hid hz
      clear hz tz tn tm
      go_enter Try.func23, Try.ntmps23
      go_wp2_with (go_at_call 34; refine (quotient_any _ _ HZ.out _).mono ?_; rintro e wn ⟨rfl, rfl⟩)
      go_ret
      exact ⟨by rw [H.out]; rfl, HB.out⟩
  · by_cases hz : b = 0
    · have H : Hid (mW 6 a b = a) := Lib.hid (by show (if b = 0 then _ else _) = _; rw [if_pos hz])
      have t0 : (u b == 0) = true := by rw [tz]; simpa using hz
      clear hz tz tn tm
      go_enter Try.func23, Try.ntmps23
      go_wp2
      go_ret
      exact ⟨by rw [H.out]; rfl, HB.out⟩
    · have H : Hid (mW 6 a b = if a.getLsbD 63 then -(mag a % mag b) else mag a % mag b) := Lib.hid (by show (if b = 0 then _ else _) = _; rw [if_neg hz, srem_mag])
      have t0 : (u b == 0) = false := by rw [tz]; simpa using hz
      have HZ := Lib.hid (mag_zero hz)
      have HN := Lib.hid (neg_u (mag a % mag b))
      cases hs : a.getLsbD 63
      all_goals
        rw [hs] at tn H
        clear hs hz tz tm
        go_enter Try.func23, Try.ntmps23
        go_wp2_with (first | (go_at_call 35; refine (size_any _ _).mono ?_; rintro e w' ⟨rfl, rfl⟩) | (go_at_call 34; refine (quotient_any _ _ HZ.out _).mono ?_; rintro e wn ⟨rfl, rfl⟩))
        go_ret
        exact ⟨by rw [H.out]; first | rfl | (show _ = Ending.returned (.int .u64 (u (-(mag a % mag b)))); rw [← HN.out]; rfl), HB.out⟩
  · by_cases hz : b = 0
    · have H : Hid (mW 7 a b = a) := Lib.hid (by show (if b = 0 then _ else _) = _; rw [if_pos hz])
      have t0 : (u b == 0) = true := by rw [tz]; simpa using hz
      clear hz tz tn tm
      go_enter Try.func23, Try.ntmps23
      go_wp2
      go_ret
      exact ⟨by rw [H.out]; rfl, HB.out⟩
    · have H : Hid (mW 7 a b = a % b) := Lib.hid (by show (if b = 0 then _ else _) = _; rw [if_neg hz])
      have t0 : (u b == 0) = false := by rw [tz]; simpa using hz
      have HZ := Lib.hid hz
      clear hz tz tn tm
      go_enter Try.func23, Try.ntmps23
      go_wp2_with (go_at_call 34; refine (quotient_any _ _ HZ.out _).mono ?_; rintro e wn ⟨rfl, rfl⟩)
      go_ret
      exact ⟨by rw [H.out]; rfl, HB.out⟩
  · have H : Hid (mW f a b = 0) := Lib.hid (mW_none f a b (by simp only [beq_eq_false_iff_ne] at *; omega))
    go_enter Try.func23, Try.ntmps23
    go_wp2
    go_ret
    exact ⟨by rw [H.out]; rfl, HB.out⟩
theorem rsext_32 (v : BitVec 64) (w : World) : Calls Try.prog 24 #[.int .u64 (u v), .int .i64 32] w fun e w' => e = .returned (.int .u64 (u (s32 v))) ∧ w = w' := by
  rw [← sxt_s32]; exact ref_sext_any v 32 w
theorem rzext_32 (v : BitVec 64) (w : World) : Calls Try.prog 25 #[.int .u64 (u v), .int .i64 32] w fun e w' => e = .returned (.int .u64 (u (z32 v))) ∧ On w w' := by
  rw [← zxt_z32]; exact (ref_zext_any v 32 w).mono fun e w' h => ⟨h.1, by have := h.2; first | exact this ▸ On.refl _ | (obtain ⟨n, rfl⟩ := this; exact on_drawn _ _)⟩
theorem rresult_any (f : Int) (wd : Bool) (a b : BitVec 64) (w : World) :
    Calls Try.prog 13 #[.int .i64 f, .bool wd, .int .u64 (u a), .int .u64 (u b)] w fun e w' => e = .returned (.int .u64 (u (mres f wd a b))) ∧ On w w' := by
  have HB := Lib.hid (On.refl w)
  cases wd
  · go_enter Try.func13, Try.ntmps13
    go_wp2_with (go_at_call 23; refine (full_any _ _ _ _).mono ?_; rintro e wn ⟨rfl, hb⟩; have HB := Lib.hid (HB.out.trans hb); clear hb)
    go_ret
    exact ⟨rfl, HB.out⟩
  · rcases fun_cases f with rfl | rfl | rfl | rfl | rfl | rfl | rfl | rfl | ⟨e0, e1, e2, e3, e4, e5, e6, e7⟩
    iterate 8
      · go_enter Try.func13, Try.ntmps13
        go_wp2_with (first | (go_at_call 23; refine (full_any _ _ _ _).mono ?_; rintro e wn ⟨rfl, hb⟩; have HB := Lib.hid (HB.out.trans hb); clear hb) | (go_at_call 24; refine (rsext_32 _ _).mono ?_; rintro e w' ⟨rfl, rfl⟩) | (go_at_call 25; refine (rzext_32 _ _).mono ?_; rintro e wn ⟨rfl, hb⟩; have HB := Lib.hid (HB.out.trans hb); clear hb))
        go_ret
        exact ⟨rfl, HB.out⟩
    · have H : Hid (mres f true a b = 0) := Lib.hid (by
        simp only [beq_eq_false_iff_ne] at e0 e4 e5 e6 e7
        show mN f a b = 0; unfold mN; rw [if_neg (by simp [e0, e4, e6]), if_neg (by simp [e5, e7])])
      go_enter Try.func13, Try.ntmps13
      go_wp2
      go_ret
      exact ⟨by rw [H.out]; rfl, HB.out⟩
end Go.Proofs.Ytapaddbgmbkelaa
