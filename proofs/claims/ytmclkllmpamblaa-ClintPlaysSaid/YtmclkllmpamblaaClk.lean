/- What each call of package clint comes to, and of the reference beside it. Conditions: named at each. -/
import Derived.Test.YtmclkllmpamblaaWord
import Derived.Test.YtmclkllmpamblaaBut
import Derived.Test.YtmclkllmpamblaaRows
import Derived.WalkKit
import Derived.ProofKit
import Derived.Lib.Hide
import Derived.IntWalk
import Derived.BigQuiet
import Derived.Deep.QuietTactic
import Derived.Deep.RegionWith
import Derived.KernelRfl
import Derived.OwnWalk
namespace Go.Proofs.Ytmclkllmpamblaa
open Go.RowKit
set_option linter.unusedVariables false

/-- the device in block B: msip, mtimecmp, mtime -/
def CkAt (B : Nat) (b : Bool) (c t : BitVec 64) (w : World) : Prop := w.heap[B]? = some (.cells #[.int .u64 (if b then 1 else 0), .int .u64 (u c), .int .u64 (u t)] 46 (0, 0))
theorem CkAt.on {B : Nat} {b : Bool} {c t : BitVec 64} {w w' : World} (h : CkAt B b c t w) (k : On w w') : CkAt B b c t w' := On.keep k h
theorem CkAt.c0 {B : Nat} {b : Bool} {c t : BitVec 64} {w : World} (h : CkAt B b c t w) : w.cell? ⟨B, 0, none⟩ = some (.int .u64 (if b then 1 else 0)) := blk_cell h 0 rfl
theorem CkAt.c1 {B : Nat} {b : Bool} {c t : BitVec 64} {w : World} (h : CkAt B b c t w) : w.cell? ⟨B, 1, none⟩ = some (.int .u64 (u c)) := blk_cell h 1 rfl
theorem CkAt.c2 {B : Nat} {b : Bool} {c t : BitVec 64} {w : World} (h : CkAt B b c t w) : w.cell? ⟨B, 2, none⟩ = some (.int .u64 (u t)) := blk_cell h 2 rfl
theorem CkAt.free {B : Nat} {b : Bool} {c t : BitVec 64} {w : World} (h : CkAt B b c t w) (i : Nat) : w.frozen? ⟨B, i, none⟩ = false := blk_free h i
/-- the lines -/
def lnV (b : Bool) (c t : BitVec 64) : Int := if u c ≤ u t then (if b then 136 else 128) else (if b then 8 else 0)
theorem lnV_up {b : Bool} {c t : BitVec 64} (h : u c ≤ u t) : lnV b c t = if b then 136 else 128 := by unfold lnV; rw [if_pos h]
theorem lnV_down {b : Bool} {c t : BitVec 64} (h : ¬ u c ≤ u t) : lnV b c t = if b then 8 else 0 := by unfold lnV; rw [if_neg h]

theorem new_clk (w : World) : Calls Try.prog 7 #[] w fun e w' => e = .returned (.pointer (some ⟨w.heap.size, 0, none⟩)) ∧ CkAt w.heap.size false (BitVec.allOnes 64) 0 w' ∧ On w w' := by
  go_enter Try.func7, Try.ntmps7
  go_wp2
  go_ret
  exact ⟨rfl, (blk_new _ _).trans (by rw [← u_ones]; rfl), (On.refl w).alloc _⟩
theorem tick_nil (w : World) : Calls Try.prog 14 #[.pointer none] w fun e w' => e = .returned (.tuple #[]) ∧ w = w' := by
  go_enter Try.func14, Try.ntmps14
  go_wp2
  go_end0
  exact ⟨rfl, rfl⟩
theorem tick_any {B : Nat} {b : Bool} {c t : BitVec 64} {w : World} (h : CkAt B b c t w) : Calls Try.prog 14 #[.pointer (some ⟨B, 0, none⟩)] w fun e w' => e = .returned (.tuple #[]) ∧ CkAt B b c (t + 1) w' ∧ But B w w' := by
  have c2 := h.c2
  have fr := h.free 2
  have hp := blk_put h 2 (.int .u64 (u (t + 1)))
  have HP := Lib.hid (And.intro hp ((But.refl B w).setCell 2 (.int .u64 (u (t + 1)))))
  have ha : IntKind.u64.wrap (u t + 1) = u (t + 1) := u_add t 1
  clear h hp
  go_enter Try.func14, Try.ntmps14
  go_wp2
  go_end0
  exact ⟨rfl, HP.out⟩
theorem time_nil (w : World) : Calls Try.prog 18 #[.pointer none] w fun e w' => e = .returned (.int .u64 0) ∧ w = w' := by
  go_enter Try.func18, Try.ntmps18
  go_wp2
  go_ret
  exact ⟨rfl, rfl⟩
theorem time_any {B : Nat} {b : Bool} {c t : BitVec 64} {w : World} (h : CkAt B b c t w) : Calls Try.prog 18 #[.pointer (some ⟨B, 0, none⟩)] w fun e w' => e = .returned (.int .u64 (u t)) ∧ w = w' := by
  have c2 := h.c2
  clear h
  go_enter Try.func18, Try.ntmps18
  go_wp2
  go_ret
  exact ⟨rfl, rfl⟩
theorem state_nil (w : World) : Calls Try.prog 15 #[.pointer none] w fun e w' => e = .returned (.tuple #[.bool false, .int .u64 0, .int .u64 0]) ∧ w = w' := by
  go_enter Try.func15, Try.ntmps15
  go_wp2
  go_ret3
  exact ⟨rfl, rfl⟩
theorem state_any {B : Nat} {b : Bool} {c t : BitVec 64} {w : World} (h : CkAt B b c t w) : Calls Try.prog 15 #[.pointer (some ⟨B, 0, none⟩)] w fun e w' => e = .returned (.tuple #[.bool b, .int .u64 (u t), .int .u64 (u c)]) ∧ On w w' := by
  have c0 := h.c0
  have c1 := h.c1
  have c2 := h.c2
  clear h
  cases b <;> (
    simp only [Bool.false_eq_true, if_false, if_true] at c0
    go_enter Try.func15, Try.ntmps15
    go_wp2
    go_quiet (fail)
    go_wp2
    go_ret3
    exact ⟨rfl, on_drawn _ _⟩)
theorem lines_nil (w : World) : Calls Try.prog 16 #[.pointer none] w fun e w' => e = .returned (.int .u64 0) ∧ w = w' := by
  go_enter Try.func16, Try.ntmps16
  go_wp2
  go_ret
  exact ⟨rfl, rfl⟩
theorem lines_any {B : Nat} {b : Bool} {c t : BitVec 64} {w : World} (h : CkAt B b c t w) : Calls Try.prog 16 #[.pointer (some ⟨B, 0, none⟩)] w fun e w' => e = .returned (.int .u64 (lnV b c t)) ∧ On w w' := by
  have c0 := h.c0
  have c1 := h.c1
  have c2 := h.c2
  clear h
  by_cases hc : u c ≤ u t
  · have E := Lib.hid (lnV_up (b := b) hc)
    cases b <;> (
      simp only [Bool.false_eq_true, if_false, if_true] at c0 E
      go_enter Try.func16, Try.ntmps16
      go_wp2
      go_quiet (fail)
      go_wp2
      go_ret
      exact ⟨by rw [E.out]; rfl, on_drawn _ _⟩)
  · have E := Lib.hid (lnV_down (b := b) hc)
    have hc2 : u t < u c := by omega
    cases b <;> (
      simp only [Bool.false_eq_true, if_false, if_true] at c0 E
      go_enter Try.func16, Try.ntmps16
      go_wp2
      go_quiet (fail)
      go_wp2
      go_ret
      exact ⟨by rw [E.out]; rfl, on_drawn _ _⟩)
/-! ### the registers -/
theorem at_0 (B : Nat) (w : World) : Calls Try.prog 20 #[.pointer (some ⟨B, 0, none⟩), .int .u64 0] w fun e w' => e = .returned (.tuple #[.pointer (some ⟨B, 0, none⟩), .int .i64 4]) ∧ w = w' := by
  go_enter Try.func20, Try.ntmps20
  go_wp2
  go_ret2
  exact ⟨rfl, rfl⟩
theorem at_1 (B : Nat) (w : World) : Calls Try.prog 20 #[.pointer (some ⟨B, 0, none⟩), .int .u64 16384] w fun e w' => e = .returned (.tuple #[.pointer (some ⟨B, 1, none⟩), .int .i64 8]) ∧ w = w' := by
  go_enter Try.func20, Try.ntmps20
  go_wp2
  go_ret2
  exact ⟨rfl, rfl⟩
theorem at_2 (B : Nat) (w : World) : Calls Try.prog 20 #[.pointer (some ⟨B, 0, none⟩), .int .u64 49144] w fun e w' => e = .returned (.tuple #[.pointer (some ⟨B, 2, none⟩), .int .i64 8]) ∧ w = w' := by
  go_enter Try.func20, Try.ntmps20
  go_wp2
  go_ret2
  exact ⟨rfl, rfl⟩
theorem at_no (B : Nat) (o : Int) (h0 : (o == 0) = false) (h1 : (o == 16384) = false) (h2 : (o == 49144) = false) (w : World) : Calls Try.prog 20 #[.pointer (some ⟨B, 0, none⟩), .int .u64 o] w fun e w' => e = .returned (.tuple #[.pointer none, .int .i64 0]) ∧ w = w' := by
  have k0 : ¬ o = 0 := by simpa using h0
  have k1 : ¬ o = 16384 := by simpa using h1
  have k2 : ¬ o = 49144 := by simpa using h2
  go_enter Try.func20, Try.ntmps20
  go_wp2
  go_ret2
  exact ⟨rfl, rfl⟩
/-- which register these are -/
inductive Reg : Int → Int → Option Nat → Prop
  | soft : Reg 0 4 (some 0)
  | cmp : Reg 16384 8 (some 1)
  | time : Reg 49144 8 (some 2)
  | far (o s : Int) : (o == 0) = false → (o == 16384) = false → (o == 49144) = false → Reg o s none
  | size0 (s : Int) : (s == 4) = false → Reg 0 s none
  | size1 (s : Int) : (s == 8) = false → Reg 16384 s none
  | size2 (s : Int) : (s == 8) = false → Reg 49144 s none
theorem reg_any (o s : Int) : ∃ r, Reg o s r := by
  by_cases h0 : o = 0
  · subst h0
    by_cases h : s = 4
    · subst h; exact ⟨_, .soft⟩
    · exact ⟨_, .size0 s (by simpa using h)⟩
  by_cases h1 : o = 16384
  · subst h1
    by_cases h : s = 8
    · subst h; exact ⟨_, .cmp⟩
    · exact ⟨_, .size1 s (by simpa using h)⟩
  by_cases h2 : o = 49144
  · subst h2
    by_cases h : s = 8
    · subst h; exact ⟨_, .time⟩
    · exact ⟨_, .size2 s (by simpa using h)⟩
  exact ⟨_, .far o s (by simpa using h0) (by simpa using h1) (by simpa using h2)⟩
theorem register_nil (o s : Int) (w : World) : Calls Try.prog 19 #[.pointer none, .int .u64 o, .int .i64 s] w fun e w' => e = .returned (.tuple #[.pointer none, .int .i64 2]) ∧ w = w' := by
  go_enter Try.func19, Try.ntmps19
  go_wp2
  go_ret2
  exact ⟨rfl, rfl⟩
theorem register_yes {o s : Int} {k : Nat} (h : Reg o s (some k)) (B : Nat) (w : World) : Calls Try.prog 19 #[.pointer (some ⟨B, 0, none⟩), .int .u64 o, .int .i64 s] w fun e w' => e = .returned (.tuple #[.pointer (some ⟨B, k, none⟩), .int .i64 0]) ∧ w = w' := by
  cases h with
  | soft =>
    go_enter Try.func19, Try.ntmps19
    go_wp2_with (go_at_call 20; refine (at_0 _ _).mono ?_; rintro e w' ⟨rfl, rfl⟩)
    go_ret2
    exact ⟨rfl, rfl⟩
  | cmp =>
    go_enter Try.func19, Try.ntmps19
    go_wp2_with (go_at_call 20; refine (at_1 _ _).mono ?_; rintro e w' ⟨rfl, rfl⟩)
    go_ret2
    exact ⟨rfl, rfl⟩
  | time =>
    go_enter Try.func19, Try.ntmps19
    go_wp2_with (go_at_call 20; refine (at_2 _ _).mono ?_; rintro e w' ⟨rfl, rfl⟩)
    go_ret2
    exact ⟨rfl, rfl⟩
theorem register_no {o s : Int} (h : Reg o s none) (B : Nat) (w : World) : Calls Try.prog 19 #[.pointer (some ⟨B, 0, none⟩), .int .u64 o, .int .i64 s] w fun e w' => e = .returned (.tuple #[.pointer none, .int .i64 6]) ∧ w = w' := by
  cases h with
  | far _ _ h0 h1 h2 =>
    go_enter Try.func19, Try.ntmps19
    go_wp2_with (go_at_call 20; refine (at_no _ _ h0 h1 h2 _).mono ?_; rintro e w' ⟨rfl, rfl⟩)
    go_ret2
    exact ⟨rfl, rfl⟩
  | size0 _ hs =>
    have hs1 : (s != 4) = true := by simp [bne, hs]
    go_enter Try.func19, Try.ntmps19
    go_wp2_with (go_at_call 20; refine (at_0 _ _).mono ?_; rintro e w' ⟨rfl, rfl⟩)
    go_ret2
    exact ⟨rfl, rfl⟩
  | size1 _ hs =>
    have hs1 : (s != 8) = true := by simp [bne, hs]
    go_enter Try.func19, Try.ntmps19
    go_wp2_with (go_at_call 20; refine (at_1 _ _).mono ?_; rintro e w' ⟨rfl, rfl⟩)
    go_ret2
    exact ⟨rfl, rfl⟩
  | size2 _ hs =>
    have hs1 : (s != 8) = true := by simp [bne, hs]
    go_enter Try.func19, Try.ntmps19
    go_wp2_with (go_at_call 20; refine (at_2 _ _).mono ?_; rintro e w' ⟨rfl, rfl⟩)
    go_ret2
    exact ⟨rfl, rfl⟩
/-- what a register has -/
def rgV (b : Bool) (c t : BitVec 64) : Option Nat → Int
  | some 0 => if b then 1 else 0
  | some 1 => u c
  | some 2 => u t
  | _ => 0
def rgE : Option Nat → Int
  | some _ => 0
  | none => 6
theorem read_nil (o s : Int) (w : World) : Calls Try.prog 10 #[.pointer none, .int .u64 o, .int .i64 s] w fun e w' => e = .returned (.tuple #[.int .u64 0, .int .i64 2]) ∧ w = w' := by
  go_enter Try.func10, Try.ntmps10
  go_wp2_with (go_at_call 19; refine (register_nil _ _ _).mono ?_; rintro e w' ⟨rfl, rfl⟩)
  go_ret2
  exact ⟨rfl, rfl⟩
theorem read_clk {B : Nat} {b : Bool} {c t : BitVec 64} {w : World} (h : CkAt B b c t w) {o s : Int} {r : Option Nat} (hr : Reg o s r) : Calls Try.prog 10 #[.pointer (some ⟨B, 0, none⟩), .int .u64 o, .int .i64 s] w fun e w' => e = .returned (.tuple #[.int .u64 (rgV b c t r), .int .i64 (rgE r)]) ∧ w = w' := by
  have c0 := h.c0
  have c1 := h.c1
  have c2 := h.c2
  clear h
  cases r with
  | none =>
    go_enter Try.func10, Try.ntmps10
    go_wp2_with (go_at_call 19; refine (register_no hr _ _).mono ?_; rintro e w' ⟨rfl, rfl⟩)
    go_ret2
    exact ⟨rfl, rfl⟩
  | some k =>
    have H := Lib.hid hr
    have hk : w.cell? ⟨B, k, none⟩ = some (.int .u64 (rgV b c t (some k))) := by cases hr <;> assumption
    clear c0 c1 c2 hr
    go_enter Try.func10, Try.ntmps10
    go_wp2_with (go_at_call 19; refine (register_yes H.out _ _).mono ?_; rintro e w' ⟨rfl, rfl⟩)
    go_ret2
    exact ⟨rfl, rfl⟩
theorem write_nil (o s v : Int) (w : World) : Calls Try.prog 13 #[.pointer none, .int .u64 o, .int .i64 s, .int .u64 v] w fun e w' => e = .returned (.int .i64 2) ∧ w = w' := by
  go_enter Try.func13, Try.ntmps13
  go_wp2_with (go_at_call 19; refine (register_nil _ _ _).mono ?_; rintro e w' ⟨rfl, rfl⟩)
  go_ret
  exact ⟨rfl, rfl⟩
theorem write_no {o s : Int} (hr : Reg o s none) (B : Nat) (v : Int) (w : World) : Calls Try.prog 13 #[.pointer (some ⟨B, 0, none⟩), .int .u64 o, .int .i64 s, .int .u64 v] w fun e w' => e = .returned (.int .i64 6) ∧ w = w' := by
  go_enter Try.func13, Try.ntmps13
  go_wp2_with (go_at_call 19; refine (register_no hr _ _).mono ?_; rintro e w' ⟨rfl, rfl⟩)
  go_ret
  exact ⟨rfl, rfl⟩
/-- what is left of the registers -/
def wB (b : Bool) (r : Option Nat) (v : BitVec 64) : Bool := if r = some 0 then v.getLsbD 0 else b
def wC (c : BitVec 64) (r : Option Nat) (v : BitVec 64) : BitVec 64 := if r = some 1 then v else c
def wT (t : BitVec 64) (r : Option Nat) (v : BitVec 64) : BitVec 64 := if r = some 2 then v else t
theorem and_one (v : BitVec 64) : bits .and .u64 (u v) 1 = if v.getLsbD 0 then 1 else 0 := by
  rw [u_and1]
  have h := and1_val v 0
  rw [BitVec.ushiftRight_zero] at h
  rw [h]
  cases v.getLsbD 0 <;> rfl
theorem write_clk {B : Nat} {b : Bool} {c t : BitVec 64} {w : World} (h : CkAt B b c t w) {o s : Int} {r : Option Nat} (hr : Reg o s r) (v : BitVec 64) :
    Calls Try.prog 13 #[.pointer (some ⟨B, 0, none⟩), .int .u64 o, .int .i64 s, .int .u64 (u v)] w fun e w' => e = .returned (.int .i64 (rgE r)) ∧ CkAt B (wB b r v) (wC c r v) (wT t r v) w' ∧ But B w w' := by
  cases r with
  | none => exact (write_no hr B (u v) w).mono fun e w' ⟨he, hw⟩ => ⟨he, hw ▸ h, hw ▸ But.refl B w⟩
  | some k =>
    have c0 := h.c0
    have c1 := h.c1
    have c2 := h.c2
    have f0 := h.free 0
    have f1 := h.free 1
    have f2 := h.free 2
    have h1 := and_one v
    obtain ⟨x, hx⟩ : ∃ x : Int, (if v.getLsbD 0 then (1 : Int) else 0) = x := ⟨_, rfl⟩
    rw [hx] at h1
    have HX := Lib.hid hx
    have H := Lib.hid h
    clear h hx
    cases hr with
    | soft =>
      go_enter Try.func13, Try.ntmps13
      go_wp2_with (go_at_call 19; refine (register_yes .soft _ _).mono ?_; rintro e w' ⟨rfl, rfl⟩)
      go_ret
      exact ⟨rfl, by have := blk_put H.out 0 (.int .u64 x); rw [← HX.out] at this ⊢; exact this, (But.refl B w).setCell 0 _⟩
    | cmp =>
      go_enter Try.func13, Try.ntmps13
      go_wp2_with (go_at_call 19; refine (register_yes .cmp _ _).mono ?_; rintro e w' ⟨rfl, rfl⟩)
      go_ret
      exact ⟨rfl, blk_put H.out 1 (.int .u64 (u v)), (But.refl B w).setCell 1 _⟩
    | time =>
      go_enter Try.func13, Try.ntmps13
      go_wp2_with (go_at_call 19; refine (register_yes .time _ _).mono ?_; rintro e w' ⟨rfl, rfl⟩)
      go_ret
      exact ⟨rfl, blk_put H.out 2 (.int .u64 (u v)), (But.refl B w).setCell 2 _⟩
end Go.Proofs.Ytmclkllmpamblaa
