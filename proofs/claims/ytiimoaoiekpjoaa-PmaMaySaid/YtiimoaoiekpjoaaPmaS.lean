/- What May of the reference of package pma comes to. Conditions: none. -/
import Derived.Test.YtiimoaoiekpjoaaPmaR
namespace Go.Proofs.Ytiimoaoiekpjoaa
open Go.RowKit
set_option linter.unusedVariables false

theorem rgS_big (p : Int) (k : Nat) (h0 : k ≠ 0) (h : k ≤ 5) : 4096 ≤ rgS p k := by
  have hn := pgN_in p
  have h6 : k = 1 ∨ k = 2 ∨ k = 3 ∨ k = 4 ∨ k = 5 := by omega
  rcases h6 with rfl | rfl | rfl | rfl | rfl <;> simp only [rgS] <;> omega
/-- what is left of it behind the size and the place -/
def restA (r : Nat) (k : Int) (t : Bool) : Bool := kindOk r k && (!t || r == 5)
theorem mayA_yes {p : Int} {a : BitVec 64} {s k : Int} {t : Bool} (h0 : regA p a ≠ 0) (hs : sizeOk s = true) (h : ¬ rgS p (regA p a) - s < u a - rgB (regA p a)) : mayA p a s k t = restA (regA p a) k t := by
  have : holdsA p a s = true := by
    unfold holdsA offA
    rw [if_neg h0, hs]; simp; omega
  unfold mayA restA
  rw [this, Bool.true_and]
theorem mayA_past {p : Int} {a : BitVec 64} {s k : Int} {t : Bool} (h0 : regA p a ≠ 0) (h : rgS p (regA p a) - s < u a - rgB (regA p a)) : mayA p a s k t = false := by
  have : holdsA p a s = false := by
    unfold holdsA offA
    rw [if_neg h0]; simp; intro; omega
  unfold mayA
  rw [this]; rfl
theorem mayA_size {p : Int} {a : BitVec 64} {s k : Int} {t : Bool} (h : sizeOk s = false) : mayA p a s k t = false := by
  unfold mayA holdsA
  rw [h]; rfl
theorem mayA_none {p : Int} {a : BitVec 64} {s k : Int} {t : Bool} (h : regA p a = 0) : mayA p a s k t = false := by
  unfold mayA
  rw [holdsA_none h]; rfl
theorem sizeOk_yes {s : Int} (h : sizeOk s = true) : s = 1 ∨ s = 2 ∨ s = 4 ∨ s = 8 := by
  unfold sizeOk at h; simpa [or_assoc] using h
set_option maxHeartbeats 4000000 in
theorem rmay_any (p : Int) (hp : (Lit.int .i64 p).wf = true) (a : BitVec 64) (s : Int) (hs : (Lit.int .i64 s).wf = true) (k : Int) (t : Bool) (w : World) : Calls Try.prog 15 #[.int .i64 p, .int .u64 (u a), .int .i64 s, .int .i64 k, .bool t] w fun e w' => e = .returned (.bool (mayA p a s k t)) ∧ w = w' := by
  have K := Lib.hid (rregion_any p hp a)
  cases hz : sizeOk s
  · have H : Hid (false = mayA p a s k t) := Lib.hid (mayA_size hz).symm
    unfold sizeOk at hz
    have b1 : (s != 1) = true := by simp at hz; simpa using hz.1.1.1
    have b2 : (s != 2) = true := by simp at hz; simpa using hz.1.1.2
    have b4 : (s != 4) = true := by simp at hz; simpa using hz.1.2
    have b8 : (s != 8) = true := by simp at hz; simpa using hz.2
    have c1 : (s == 1) = false := by simpa using b1
    have c2 : (s == 2) = false := by simpa using b2
    have c4 : (s == 4) = false := by simpa using b4
    have c8 : (s == 8) = false := by simpa using b8
    clear hz
    go_enter Try.func15, Try.ntmps15
    go_wp2_with fail
    go_ret
    exact ⟨by rw [← H.out]; rfl, rfl⟩
  by_cases h0 : regA p a = 0
  · have H : Hid (false = mayA p a s k t) := Lib.hid (mayA_none h0).symm
    have B := Lib.hid (bounds_any p hp 0 (by omega))
    rw [h0] at K
    rcases sizeOk_yes hz with rfl | rfl | rfl | rfl <;> clear hz <;> (
      go_enter Try.func15, Try.ntmps15
      go_wp2_with (first | (go_at_call 8; refine (K.out _).mono ?_; rintro e w' ⟨rfl, rfl⟩) | (go_at_call 17; refine (B.out _).mono ?_; rintro e w' ⟨rfl, rfl⟩))
      go_ret
      exact ⟨by rw [← H.out]; rfl, rfl⟩)
  have hl := regA_le p a
  have B := bounds_any p hp (regA p a) hl
  have G := ge_test p a (regA p a) (regA_in h0).1
  have big := rgS_big p (regA p a) h0 hl
  have rb := (rg_in p (regA p a)).2.2
  have rb0 := (rg_in p (regA p a)).1
  have HP := Lib.hid (fun h : rgS p (regA p a) - s < u a - rgB (regA p a) => (mayA_past (k := k) (t := t) h0 h))
  have HY := Lib.hid (fun h : ¬ rgS p (regA p a) - s < u a - rgB (regA p a) => (mayA_yes (k := k) (t := t) h0 hz h))
  generalize mayA p a s k t = m at *
  generalize rgB (regA p a) = bb at *
  generalize rgS p (regA p a) = ss at *
  generalize regA p a = r at *
  replace B := Lib.hid B
  by_cases hlt : ss - s < u a - bb
  · have H : Hid (false = m) := Lib.hid (HP.out hlt).symm
    have z : ¬ (r : Int) = 0 := by omega
    have z2 : ((r : Int) == 0) = false := by simpa using z
    clear HP HY h0 hl
    generalize (r : Int) = r at *
    rcases sizeOk_yes hz with rfl | rfl | rfl | rfl <;> clear hz <;> (
      go_enter Try.func15, Try.ntmps15
      go_wp2_with (first | (go_at_call 8; refine (K.out _).mono ?_; rintro e w' ⟨rfl, rfl⟩) | (go_at_call 17; refine (B.out _).mono ?_; rintro e w' ⟨rfl, rfl⟩))
      go_ret
      exact ⟨by rw [← H.out]; rfl, rfl⟩)
  · have H : Hid (restA r k t = m) := Lib.hid (HY.out hlt).symm
    clear HP HY
    have h6 : r = 1 ∨ r = 2 ∨ r = 3 ∨ r = 4 ∨ r = 5 := by omega
    clear h0 hl
    have hk : (k = 0 ∨ k = 1 ∨ k = 2) ∨ (¬ k = 0 ∧ ¬ k = 1 ∧ ¬ k = 2) := by omega
    rcases hk with hk | ⟨k0, k1, k2⟩
    · rcases sizeOk_yes hz with rfl | rfl | rfl | rfl <;> clear hz <;> rcases hk with rfl | rfl | rfl <;> rcases h6 with rfl | rfl | rfl | rfl | rfl <;> cases t <;> (
        go_enter Try.func15, Try.ntmps15
        go_wp2_with (first | (go_at_call 8; refine (K.out _).mono ?_; rintro e w' ⟨rfl, rfl⟩) | (go_at_call 17; refine (B.out _).mono ?_; rintro e w' ⟨rfl, rfl⟩))
        go_ret
        exact ⟨by rw [← H.out]; rfl, rfl⟩)
    · have R : restA r k t = false := by unfold restA kindOk; rw [if_neg k0, if_neg k1, if_neg k2]; rfl
      rw [R] at H
      clear R
      have b0 : (k == 0) = false := by simpa using k0
      have b1 : (k == 1) = false := by simpa using k1
      have b2 : (k == 2) = false := by simpa using k2
      rcases sizeOk_yes hz with rfl | rfl | rfl | rfl <;> clear hz <;> rcases h6 with rfl | rfl | rfl | rfl | rfl <;> cases t <;> (
        go_enter Try.func15, Try.ntmps15
        go_wp2_with (first | (go_at_call 8; refine (K.out _).mono ?_; rintro e w' ⟨rfl, rfl⟩) | (go_at_call 17; refine (B.out _).mono ?_; rintro e w' ⟨rfl, rfl⟩))
        go_ret
        exact ⟨by rw [← H.out]; rfl, rfl⟩)
end Go.Proofs.Ytiimoaoiekpjoaa
