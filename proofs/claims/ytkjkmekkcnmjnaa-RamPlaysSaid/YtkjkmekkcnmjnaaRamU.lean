/- The reference's memory: Read, place, Word, Put. Conditions: named at each. -/
import Derived.Test.YtkjkmekkcnmjnaaRamT
namespace Go.Proofs.Ytkjkmekkcnmjnaa
open Go.RowKit
set_option linter.unusedVariables false
set_option maxRecDepth 100000

theorem RefAt.on {m p N : Nat} {L : List (Int × Int)} {w w' : World} (R : RefAt m p N L w) (h : On w w') : RefAt m p N L w' := by
  obtain ⟨v, R⟩ := R
  exact ⟨v, R.on h⟩
theorem RefAt.kp {m p N n : Nat} {L : List (Int × Int)} {w w' : World} (R : RefAt m p N L w) (h : Kp 64 n w w') : RefAt m p N L w' := by
  obtain ⟨v, R⟩ := R
  exact ⟨v, R.kp h⟩
theorem RefAt.pages {m p N : Nat} {L : List (Int × Int)} {w : World} (R : RefAt m p N L w) : 4 ≤ N ∧ N ≤ 256 := by
  obtain ⟨v, R⟩ := R
  exact R.pages
section
variable {m p N : Nat} {L : List (Int × Int)} {w : World}
theorem rread_neg (p : Nat) (a n : Int) (hn : n < 0) (w : World) : Calls Try.prog 35 #[.pointer (some ⟨p, 0, none⟩), .int .u64 a, .int .i64 n] w fun e w' => e = .returned (.tuple #[.slice none 0 0, .int .i64 1]) ∧ w = w' := by
  go_enter Try.func35, Try.ntmps35
  go_wp2
  go_ret2
  exact ⟨rfl, rfl⟩
theorem rread_bus (R : RefAt m p N L w) (a : BitVec 64) (k : Int) (hk0 : 0 ≤ k) (hk1 : k ≤ 9223372036854775807) (hh : hasB N a k = false) :
    Calls Try.prog 35 #[.pointer (some ⟨p, 0, none⟩), .int .u64 (u a), .int .i64 k] w fun e w' => e = .returned (.tuple #[.slice none 0 0, .int .i64 6]) ∧ w = w' := by
  have H := rin_any R a k hk0 hk1
  rw [hh] at H
  have H := Lib.hid H
  clear R hh
  go_enter Try.func35, Try.ntmps35
  go_wp2_with (first | (go_at_call 41; refine (H.out).mono ?_; rintro e w' ⟨rfl, rfl⟩))
  go_ret2
  exact ⟨rfl, rfl⟩
theorem rread_zero (R : RefAt m p N L w) (a : BitVec 64) : Calls Try.prog 35 #[.pointer (some ⟨p, 0, none⟩), .int .u64 (u a), .int .i64 0] w fun e w' => e = .returned (.tuple #[.slice none 0 0, .int .i64 0]) ∧ w = w' := by
  have H := rin_any R a 0 (by omega) (by omega)
  rw [hasB_zero] at H
  have H := Lib.hid H
  clear R
  go_enter Try.func35, Try.ntmps35
  go_wp2_with (first | (go_at_call 41; refine (H.out).mono ?_; rintro e w' ⟨rfl, rfl⟩))
  go_loopw [8, 9] (fun x y wr => x = .slice none 0 0 ∧ y = .int .i64 0 ∧ w = wr) (fun _ _ _ => 0)
  case atStart => exact ⟨rfl, rfl, rfl⟩
  case round =>
    obtain ⟨rfl, rfl, rfl⟩ := hrel
    go_wp2_with fail
    go_ret2
    exact ⟨rfl, rfl⟩
/-- what the loop of Read carries -/
def RrAt (A : Int) (L : List (Int × Int)) (k : Nat) (w : World) (x y : Value) (wr : World) : Prop :=
  ∃ i : Nat, i ≤ k ∧ y = .int .i64 i ∧ Hid (wr.ownsRow w.heap.size 5 1 x i (clN i fun j => atL L (A + (j : Int))) ∧ On w wr)
theorem clN_succ (k : Nat) (z : Nat → Int) : clN (k + 1) z = clN k z ++ [.int .u8 (z k)] := by
  unfold clN; rw [List.range_succ, List.map_append]; rfl
set_option maxHeartbeats 1000000 in
theorem rread_ok (R : RefAt m p N L w) (hL : L.length ≤ 1000000) {o k : Nat} (h0 : 0 < k) (hl : o + k ≤ N * 4096) :
    Calls Try.prog 35 #[.pointer (some ⟨p, 0, none⟩), .int .u64 (2147483648 + (o : Int)), .int .i64 k] w fun e w' => On w w' ∧ ∃ v, e = .returned (.tuple #[v, .int .i64 0]) ∧ w'.ownsRow w.heap.size 5 1 v k (clN k fun j => atL L (2147483648 + (o : Int) + (j : Int))) := by
  obtain ⟨i0, hi, hz0, hz1, hz2⟩ := info_parts u8_info
  have hN := R.pages
  obtain ⟨a, ha⟩ := at_u (o := o) (by omega)
  have H := rin_any R a k (by omega) (by omega)
  rw [hasB_in hN (by omega) (by omega) (by omega), ha] at H
  have HR := Lib.hid R
  have hk1 : (k : Int) ≤ 1048576 := by omega
  obtain ⟨Y, hY⟩ : ∃ Y : Int, (o : Int) = Y := ⟨_, rfl⟩
  have hY0 : 0 ≤ Y := by omega
  have hY1 : Y < 1048576 := by omega
  rw [hY] at H ⊢
  have H := Lib.hid H
  have HL := Lib.hid hL
  have hk0 : (0 : Int) ≤ (k : Int) := by omega
  have hk2 : (k == 0) = false := by simp; omega
  clear R ha h0 hN hl hY hL
  go_enter Try.func35, Try.ntmps35
  go_wp2_with (first | (go_at_call 41; refine (H.out).mono ?_; rintro e w' ⟨rfl, rfl⟩))
  go_loopw [8, 9] (fun x y wr => RrAt (2147483648 + Y) L k w x y wr) (fun _ y _ => (k - intOf y).toNat)
  case atStart => exact ⟨0, by omega, rfl, Lib.hid ⟨World.ownsRow_nil _ _ _ _, On.refl _⟩⟩
  case round =>
    obtain ⟨i, hik, rfl, hr⟩ := hrel
    by_cases hlt : (i : Int) < (k : Int)
    · have hs := hr.out.2.size
      have HA := Lib.hid (fun A => rat_any (HR.out.on hr.out.2) HL.out A)
      have hm1 : i + 1 ≤ maxLen := by unfold maxLen; omega
      have hm2 : (i + 1) * 1 ≤ 140737488355328 := by omega
      have HM := Lib.hid (And.intro hm1 hm2)
      clear hm1 hm2
      go_wp2_with (first
        | (go_at_call 46; refine (HA.out _).mono ?_; rintro e w' ⟨rfl, rfl⟩)
        | (at_builtin
           (refine wpList_append_own _ rfl _ _ 32 rfl w.heap.size 5 i0 (.int .u8 0) 1 1 Try.underlying32 hi hz0 hz1 hz2 rfl (by decide) _ i _ rfl (hr.out.1.alloc _) ⟨wr.heap.size, 0, none⟩ 1 1 [.int .u8 (atL L (2147483648 + Y + (i : Int)))] rfl rfl (one_new _ _ _) (one_cell _ _) HM.out.1 HM.out.2 (base_alloc hs _) ?_)
           intro v' w1 hown' hgrow _))
      refine ⟨⟨i + 1, by omega, by go_num, Lib.hid ⟨by rw [clN_succ]; exact hown', ?_⟩⟩, by simp [intOf]; omega⟩
      exact (hr.out.2.alloc _).grown hgrow (base_alloc hs _) (fun g h => (hr.out.1.lt g h).1)
    · obtain rfl : i = k := by omega
      go_wp2_with fail
      go_ret2
      exact ⟨hr.out.2, _, rfl, hr.out.1⟩
set_option maxHeartbeats 1000000 in
theorem rplace_any (R : RefAt m p N L w) (a : BitVec 64) (s : Int) (hs : s ≤ 9223372036854775807) :
    Calls Try.prog 44 #[.pointer (some ⟨p, 0, none⟩), .int .u64 (u a), .int .i64 s] w fun e w' => e = .returned (.int .i64 (wdE N a s)) ∧ w = w' := by
  by_cases h : s = 1 ∨ s = 2 ∨ s = 4 ∨ s = 8
  · have H := rin_any R a s (by omega) hs
    have E0 : refA a s = if mult a s then 0 else 5 := by unfold refA; rw [if_pos h]
    have hmu : mult a s = (u a % s == 0) := by unfold mult; simp; omega
    have ua := u_nonneg a
    clear R
    obtain ⟨A, hA⟩ : ∃ A, u a = A := ⟨_, rfl⟩
    rw [hA] at H hmu ua ⊢
    clear hA
    cases hm : mult a s
    · have E : Hid (wdE N a s = 5) := Lib.hid (by unfold wdE; rw [E0, hm]; rfl)
      have hx : (A % s == 0) = false := by rw [← hmu]; exact hm
      clear hm hmu E0 H
      rcases h with rfl | rfl | rfl | rfl
      · simp at hx
      · have hx2 : (A % 2 != 0) = true := by rw [bne, hx]; rfl
        go_enter Try.func44, Try.ntmps44
        go_wp2_with fail
        go_ret
        exact ⟨by rw [E.out]; rfl, rfl⟩
      · have hx2 : (A % 4 != 0) = true := by rw [bne, hx]; rfl
        go_enter Try.func44, Try.ntmps44
        go_wp2_with fail
        go_ret
        exact ⟨by rw [E.out]; rfl, rfl⟩
      · have hx2 : (A % 8 != 0) = true := by rw [bne, hx]; rfl
        go_enter Try.func44, Try.ntmps44
        go_wp2_with fail
        go_ret
        exact ⟨by rw [E.out]; rfl, rfl⟩
    · have hx : (A % s == 0) = true := by rw [← hmu]; exact hm
      have hx2 : (A % s != 0) = false := by rw [bne, hx]; rfl
      cases hh : hasB N a s
      · have E : Hid (wdE N a s = 6) := Lib.hid (by unfold wdE; rw [E0, hm]; simp [hh])
        rw [hh] at H
        clear hm hmu E0 hh
        rcases h with rfl | rfl | rfl | rfl <;> (
          have H := Lib.hid H
          go_enter Try.func44, Try.ntmps44
          go_wp2_with (first | (go_at_call 41; refine (H.out).mono ?_; rintro e w' ⟨rfl, rfl⟩))
          go_ret
          exact ⟨by rw [E.out]; rfl, rfl⟩)
      · have E : Hid (wdE N a s = 0) := Lib.hid (by unfold wdE; rw [E0, hm]; simp [hh])
        rw [hh] at H
        clear hm hmu E0 hh
        rcases h with rfl | rfl | rfl | rfl <;> (
          have H := Lib.hid H
          go_enter Try.func44, Try.ntmps44
          go_wp2_with (first | (go_at_call 41; refine (H.out).mono ?_; rintro e w' ⟨rfl, rfl⟩))
          go_ret
          exact ⟨by rw [E.out]; rfl, rfl⟩)
  · have E : Hid (wdE N a s = 1) := Lib.hid (by
      have : refA a s = 1 := by unfold refA; rw [if_neg h]
      unfold wdE; rw [this]; rfl)
    have h1 : ¬ s = 1 := fun e => h (.inl e)
    have h2 : ¬ s = 2 := fun e => h (.inr (.inl e))
    have h3 : ¬ s = 4 := fun e => h (.inr (.inr (.inl e)))
    have h4 : ¬ s = 8 := fun e => h (.inr (.inr (.inr e)))
    have g1 : (s != 1) = true := by simpa using h1
    have g2 : (s != 2) = true := by simpa using h2
    have g3 : (s != 4) = true := by simpa using h3
    have g4 : (s != 8) = true := by simpa using h4
    clear h R
    go_enter Try.func44, Try.ntmps44
    go_wp2_with fail
    go_ret
    exact ⟨by rw [E.out]; rfl, rfl⟩
end
end Go.Proofs.Ytkjkmekkcnmjnaa
