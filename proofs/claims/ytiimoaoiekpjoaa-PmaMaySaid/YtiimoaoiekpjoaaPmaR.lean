/- What the calls of the reference of package pma come to. Conditions: none. -/
import Derived.Test.YtiimoaoiekpjoaaPmaP
namespace Go.Proofs.Ytiimoaoiekpjoaa
open Go.RowKit
set_option linter.unusedVariables false

theorem rpages_any (p : Int) (hp : (Lit.int .i64 p).wf = true) (w : World) : Calls Try.prog 21 #[.int .i64 p] w fun e w' => e = .returned (.int .i64 (pgN p)) ∧ w = w' := by
  by_cases h0 : p = 4
  · subst h0
    go_enter Try.func21, Try.ntmps21
    go_wp2
    go_ret
    exact ⟨rfl, rfl⟩
  by_cases h1 : p < 4
  · have H : Hid (4 = pgN p) := Lib.hid (by unfold pgN; omega)
    go_enter Try.func21, Try.ntmps21
    go_wp2
    go_ret
    exact ⟨by rw [← H.out]; rfl, rfl⟩
  by_cases h2 : p ≤ 256
  · have H : Hid (p = pgN p) := Lib.hid (by unfold pgN; omega)
    go_enter Try.func21, Try.ntmps21
    go_wp2
    go_ret
    exact ⟨by rw [← H.out]; rfl, rfl⟩
  · have H : Hid (256 = pgN p) := Lib.hid (by unfold pgN; omega)
    go_enter Try.func21, Try.ntmps21
    go_wp2
    go_ret
    exact ⟨by rw [← H.out]; rfl, rfl⟩
theorem bounds_any (p : Int) (hp : (Lit.int .i64 p).wf = true) (k : Nat) (hk : k ≤ 5) (w : World) : Calls Try.prog 17 #[.int .i64 p, .int .i64 (k : Nat)] w fun e w' => e = .returned (.tuple #[.int .u64 (rgB k), .int .u64 (rgS p k)]) ∧ w = w' := by
  have hn := pgN_in p
  have K := Lib.hid (rpages_any p hp)
  unfold rgS
  generalize pgN p = n at *
  have h6 : k = 0 ∨ k = 1 ∨ k = 2 ∨ k = 3 ∨ k = 4 ∨ k = 5 := by omega
  clear hk
  rcases h6 with rfl | rfl | rfl | rfl | rfl | rfl <;> (
    go_enter Try.func17, Try.ntmps17
    go_wp2_with (first | (go_at_call 21; refine (K.out _).mono ?_; rintro e w' ⟨rfl, rfl⟩))
    go_ret2
    exact ⟨rfl, rfl⟩)
theorem ge_test (p : Int) (a : BitVec 64) (k : Nat) (h : rgB k ≤ u a) : (IntKind.u64.wrap (u a - rgB k) = u a - rgB k) := by
  have := rg_in p k
  have := u_lt a
  exact wrap_in _ (by omega) (by omega)
theorem rregion_any (p : Int) (hp : (Lit.int .i64 p).wf = true) (a : BitVec 64) (w : World) : Calls Try.prog 8 #[.int .i64 p, .int .u64 (u a)] w fun e w' => e = .returned (.int .i64 (regA p a : Nat)) ∧ w = w' := by
  go_enter Try.func8, Try.ntmps8
  go_wp2_with fail
  go_loop [5] (fun i => ∃ k : Nat, k ≤ 5 ∧ i = .int .i64 (k + 1) ∧ Hid (noneTo p a k)) (fun i => (6 - intOf i).toNat)
  case atStart => exact ⟨0, by omega, rfl, Lib.hid (noneTo_zero p a)⟩
  case round =>
    obtain ⟨k, hk, rfl, hr⟩ := hrel
    by_cases hk5 : k < 5
    · have ua := u_nonneg a
      have K := bounds_any p hp (k + 1) (by omega)
      rw [Int.natCast_succ] at K
      have rb := rg_in p (k + 1)
      have D := Lib.hid (inR_true (p := p) (a := a) (k := k + 1))
      have F := Lib.hid (inR_false (p := p) (a := a) (k := k + 1))
      have N := Lib.hid (noneTo_next (k := k) hr.out)
      have Y := Lib.hid (regA_of (k := k) hk5 hr.out)
      have W := Lib.hid (in_test p a (k + 1))
      generalize inR p a (k + 1) = i at *
      generalize rgB (k + 1) = bb at *
      generalize rgS p (k + 1) = ss at *
      replace K := Lib.hid K
      by_cases hle : bb ≤ u a
      · cases i
        · have t := mt W.out.1 (by simp)
          go_wp2_with (first | (go_at_call 17; refine (K.out _).mono ?_; rintro e w' ⟨rfl, rfl⟩))
          go_round
          case rel => exact ⟨k + 1, by omega, by go_num, Lib.hid (by first | exact N.out rfl | exact N.out trivial)⟩
          case measure => simp [intOf]; omega
        · have t := W.out.2 rfl
          have Y2 := Lib.hid (Y.out rfl)
          go_wp2_with (first | (go_at_call 17; refine (K.out _).mono ?_; rintro e w' ⟨rfl, rfl⟩))
          go_ret
          exact ⟨by rw [Y2.out]; rfl, rfl⟩
      · have hi : i = false := by
          cases i
          · rfl
          · exact absurd (D.out rfl).1 hle
        subst hi
        go_wp2_with (first | (go_at_call 17; refine (K.out _).mono ?_; rintro e w' ⟨rfl, rfl⟩))
        go_round
        case rel => exact ⟨k + 1, by omega, by go_num, Lib.hid (by first | exact N.out rfl | exact N.out trivial)⟩
        case measure => simp [intOf]; omega
    · obtain rfl : k = 5 := by omega
      have HR := Lib.hid (regA_none hr.out)
      go_wp2_with fail
      go_ret
      exact ⟨by rw [HR.out]; rfl, rfl⟩
theorem rdevice_any (p : Int) (hp : (Lit.int .i64 p).wf = true) (a : BitVec 64) (w : World) : Calls Try.prog 11 #[.int .i64 p, .int .u64 (u a)] w fun e w' => e = .returned (.bool (devA (regA p a))) ∧ w = w' := by
  have K := rregion_any p hp a
  have hl := regA_le p a
  generalize regA p a = r at *
  have K := Lib.hid K
  have h6 : r = 0 ∨ r = 1 ∨ r = 2 ∨ r = 3 ∨ r = 4 ∨ r = 5 := by omega
  clear hl
  rcases h6 with rfl | rfl | rfl | rfl | rfl | rfl <;> (
    go_enter Try.func11, Try.ntmps11
    go_wp2_with (first | (go_at_call 8; refine (K.out _).mono ?_; rintro e w' ⟨rfl, rfl⟩))
    go_ret
    exact ⟨rfl, rfl⟩)
theorem roffset_any (p : Int) (hp : (Lit.int .i64 p).wf = true) (a : BitVec 64) (w : World) : Calls Try.prog 13 #[.int .i64 p, .int .u64 (u a)] w fun e w' => e = .returned (.int .u64 (offA p a)) ∧ w = w' := by
  have K := Lib.hid (rregion_any p hp a)
  by_cases hz : regA p a = 0
  · have z : (regA p a : Int) = 0 := by rw [hz]; rfl
    have z2 : ((regA p a : Int) == 0) = true := by rw [z]; rfl
    have H : Hid (0 = offA p a) := Lib.hid (by unfold offA; rw [if_pos hz])
    clear hz
    generalize (regA p a : Int) = r at *
    go_enter Try.func13, Try.ntmps13
    go_wp2_with (first | (go_at_call 8; refine (K.out _).mono ?_; rintro e w' ⟨rfl, rfl⟩))
    go_ret
    exact ⟨by rw [← H.out]; rfl, rfl⟩
  · have z : ¬ (regA p a : Int) = 0 := by omega
    have z2 : ((regA p a : Int) == 0) = false := by simpa using z
    have G := ge_test p a (regA p a) (regA_in hz).1
    have H : Hid (IntKind.u64.wrap (u a - rgB (regA p a)) = offA p a) := Lib.hid (by rw [G]; unfold offA; rw [if_neg hz])
    have B := Lib.hid (bounds_any p hp (regA p a) (regA_le p a))
    clear hz G
    generalize rgB (regA p a) = bb at *
    generalize (regA p a : Int) = r at *
    go_enter Try.func13, Try.ntmps13
    go_wp2_with (first | (go_at_call 8; refine (K.out _).mono ?_; rintro e w' ⟨rfl, rfl⟩) | (go_at_call 17; refine (B.out _).mono ?_; rintro e w' ⟨rfl, rfl⟩))
    go_ret
    exact ⟨by rw [← H.out]; rfl, rfl⟩
end Go.Proofs.Ytiimoaoiekpjoaa
