/- The calls of package ram on nil; what a program that does nothing does not answer. Conditions: named at each. -/
import Derived.Test.YtkjkmekkcnmjnaaRamD
namespace Go.Proofs.Ytkjkmekkcnmjnaa
open Go.RowKit
set_option linter.unusedVariables false
set_option maxRecDepth 100000

theorem fork_nil (w : World) : Calls Try.prog 11 #[.pointer none] w fun e w' => e = .returned (.pointer none) ∧ w = w' := by
  go_enter Try.func11, Try.ntmps11
  go_wp2
  go_ret
  exact ⟨rfl, rfl⟩
theorem same_nil2 (w : World) : Calls Try.prog 12 #[.pointer none, .pointer none] w fun e w' => e = .returned (.bool true) ∧ w = w' := by
  go_enter Try.func12, Try.ntmps12
  go_wp2
  go_ret
  exact ⟨rfl, rfl⟩
theorem same_nilL (r : Nat) (w : World) : Calls Try.prog 12 #[.pointer none, .pointer (some ⟨r, 0, none⟩)] w fun e w' => e = .returned (.bool false) ∧ w = w' := by
  have hq : ∀ w : World, (Go.binOp .eql 23 (.pointer none) (.pointer (some ⟨r, 0, none⟩))).run Try.prog w = .ok (.bool false) w := fun w => by kernel_rfl
  go_enter Try.func12, Try.ntmps12
  go_wp2
  go_ret
  exact ⟨rfl, rfl⟩
theorem same_nilR (r : Nat) (w : World) : Calls Try.prog 12 #[.pointer (some ⟨r, 0, none⟩), .pointer none] w fun e w' => e = .returned (.bool false) ∧ w = w' := by
  go_enter Try.func12, Try.ntmps12
  go_wp2
  go_ret
  exact ⟨rfl, rfl⟩
theorem same_nils (x y : Option Nat) (h : x = none ∨ y = none) (w : World) : Calls Try.prog 12 #[.pointer (x.map (⟨·, 0, none⟩)), .pointer (y.map (⟨·, 0, none⟩))] w fun e w' => e = .returned (.bool (x.isNone && y.isNone)) ∧ w = w' := by
  cases x with
  | none =>
    cases y with
    | none => exact same_nil2 w
    | some b => exact same_nilL b w
  | some a =>
    cases y with
    | none => exact same_nilR a w
    | some b => simp at h
theorem hasB_in {N : Nat} (hN : 4 ≤ N ∧ N ≤ 256) {a : BitVec 64} {s : Int} (hs : 0 ≤ s) (h0 : 2147483648 ≤ u a) (h1 : u a - 2147483648 + s ≤ N * 4096) : hasB N a s = true := by
  by_cases h : 0 < s
  · rw [hasB_iff hN a h]; exact decide_eq_true ⟨h0, h1⟩
  · obtain rfl : s = 0 := by omega
    exact hasB_zero N a
theorem wdE_ok {N : Nat} (hN : 4 ≤ N ∧ N ≤ 256) {a : BitVec 64} {s : Int} (hs : s = 1 ∨ s = 2 ∨ s = 4 ∨ s = 8) (hm : u a % s = 0) (h0 : 2147483648 ≤ u a) (h1 : u a - 2147483648 + s ≤ N * 4096) : wdE N a s = 0 := by
  have e1 : mult a s = true := by unfold mult; simp [hm]; omega
  have e2 : refA a s = 0 := by unfold refA; rw [if_pos hs, e1]; rfl
  have e3 : hasB N a s = true := by rw [hasB_iff hN a (by omega)]; exact decide_eq_true ⟨h0, h1⟩
  unfold wdE
  rw [if_pos e2, e3]; rfl
theorem wordOf_one {x : Int} (h : 0 ≤ x ∧ x < 256) : u (wordOf [x]) = x := by
  have hb : Byte [x] := fun k => by
    cases k with
    | zero => exact h
    | succ k => simp
  have e : wordOf [x] = bv [x] 0 := by
    unfold wordOf
    rw [show min [x].length 8 = 1 from rfl, wordTo_succ]
    simp [wordTo]
  rw [e, ← u_bv hb 0]; rfl
theorem rdL_one (M : Nat → Int) (o : Nat) : rdL M o 1 = [M o] := by simp [rdL]
theorem ramput_at {n r N : Nat} {M : Nat → Int} {w : World} (R : RamAt n r N M w) {A V s : Int} {a v : BitVec 64} (hA : A = u a) (hV : V = u v) (hs : s ≤ 9223372036854775807) :
    Calls Try.prog 14 #[.pointer (some ⟨r, 0, none⟩), .int .u64 A, .int .i64 s, .int .u64 V] w fun e w' => e = .returned (.int .i64 (wdE N a s)) ∧ Kp 64 n w w' ∧ RamAt n r N (ptM N M a s v) w' := by
  subst hA hV; exact ramput_any R a s hs v
theorem ramword_at {n r N : Nat} {M : Nat → Int} {w : World} (R : RamAt n r N M w) {A s : Int} {a : BitVec 64} (hA : A = u a) (hs : s ≤ 9223372036854775807) :
    Calls Try.prog 13 #[.pointer (some ⟨r, 0, none⟩), .int .u64 A, .int .i64 s] w fun e w' => e = .returned (.tuple #[.int .u64 (wdV N M a s), .int .i64 (wdE N a s)]) ∧ On w w' := by
  subst hA; exact ramword_any R a s hs
theorem awake_any (w : World) : Calls Try.prog 10 #[] w fun e w' => e = .returned (.bool true) ∧ On w w' := by
  have H1 := new_ok 4 (by omega) w
  have E1 : wdE 4 2147483656#64 4 = 0 := wdE_ok (by omega) (by omega) (by decide +kernel) (by decide +kernel) (by decide +kernel)
  have E2 : wdE 4 2147483656#64 ((1 : Nat) : Int) = 0 := wdE_ok (by omega) (by omega) (by decide +kernel) (by decide +kernel) (by decide +kernel)
  have E3 : wdV 4 (ptM 4 (fun _ => 0) 2147483656#64 ((4 : Nat) : Int) 287454020#64) 2147483656#64 ((1 : Nat) : Int) = 68 := by
    rw [wdV_yes E2, ptM_yes E1, show offR 2147483656#64 = 8 by decide +kernel, rdL_one]
    have : ov (fun _ => 0) 8 4 (byteAt 287454020#64) 8 = 68 := by unfold ov; rw [if_pos (by omega)]; decide +kernel
    rw [this]; exact wordOf_one (by omega)
  have H1 := Lib.hid H1
  have HB := Lib.hid (And.intro E1 (And.intro E2 E3))
  clear E1 E2 E3
  go_enter Try.func10, Try.ntmps10
  go_wp2_with (first
    | (go_at_call 8; refine H1.out.mono ?_; rintro e w1 ⟨rfl, h1, r1⟩; have HO := Lib.hid h1; have H2 := ramput_at (s := 4) r1 (A := 2147483656) (V := 287454020) (a := 2147483656#64) (v := 287454020#64) (by decide +kernel) (by decide +kernel) (by omega); rw [HB.out.1] at H2; have H2 := Lib.hid H2; clear h1 r1)
    | (go_at_call 14; refine H2.out.mono ?_; rintro e w2 ⟨rfl, h2, r2⟩; have HO : Hid (On w w2) := Lib.hid (Kp.below HO.out (Nat.le_refl _) HO.out.size h2); have H3 := ramword_at (s := ((1 : Nat) : Int)) r2 (A := 2147483656) (a := 2147483656#64) (by decide +kernel) (by omega); rw [HB.out.2.1, show ((4 : Int)) = ((4 : Nat) : Int) from rfl, HB.out.2.2, show (((1 : Nat)) : Int) = 1 from rfl] at H3; have H3 := Lib.hid H3; clear h2 r2)
    | (go_at_call 13; refine H3.out.mono ?_; rintro e w3 ⟨rfl, h3⟩; have HO := Lib.hid (HO.out.trans h3); clear h3))
  go_ret
  exact ⟨rfl, HO.out⟩
end Go.Proofs.Ytkjkmekkcnmjnaa
