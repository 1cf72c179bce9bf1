/- Traps on a hart: which interrupt is taken. Conditions: named at each. -/
import Derived.Test.YtleolldgpoeabaaTrapS
import Derived.WalkMore
namespace Go.Proofs.Ytleolldgpoeabaa
open Go.RowKit
/-- the interrupts in their order -/
def ordN : Nat → Nat | 0 => 11 | 1 => 3 | 2 => 7 | 3 => 9 | 4 => 1 | _ => 5
def cauN (n : Nat) : BitVec 64 := 0x8000000000000000#64 ||| BitVec.ofNat 64 n
/-- the first of the first k that is set -/
def acc (x : BitVec 64) : Nat → BitVec 64
  | 0 => 0#64
  | k + 1 => if acc x k = 0#64 then (if x.getLsbD (ordN k) = true then cauN (ordN k) else 0#64) else acc x k
def selV (m s : BitVec 64) : BitVec 64 := if acc m 6 = 0#64 then acc s 6 else acc m 6
def selB (m s : BitVec 64) : Bool := !(selV m s == 0#64)
theorem cauN_ne (k : Nat) : cauN (ordN k) ≠ 0#64 := by
  unfold ordN; split <;> decide
theorem acc_no {x : BitVec 64} {k : Nat} (h : acc x k = 0#64) (hb : x.getLsbD (ordN k) = false) : acc x (k + 1) = 0#64 := by
  show (if acc x k = 0#64 then _ else _) = _; rw [if_pos h, hb]; rfl
theorem acc_yes {x : BitVec 64} {k : Nat} (h : acc x k = 0#64) (hb : x.getLsbD (ordN k) = true) : acc x (k + 1) = cauN (ordN k) := by
  show (if acc x k = 0#64 then _ else _) = _; rw [if_pos h, hb]; rfl
theorem acc_keep {x : BitVec 64} {k : Nat} (h : acc x k ≠ 0#64) : acc x (k + 1) = acc x k := by
  show (if acc x k = 0#64 then _ else _) = _; rw [if_neg h]
theorem acc_not {x : BitVec 64} {k : Nat} (hb : x.getLsbD (ordN k) = false) : acc x (k + 1) = acc x k := by
  by_cases h : acc x k = 0#64
  · rw [acc_no h hb, h]
  · exact acc_keep h
theorem acc_stay {x : BitVec 64} {k : Nat} (h : acc x k ≠ 0#64) (j : Nat) : acc x (k + j) = acc x k := by
  induction j with
  | zero => rfl
  | succ j ih => rw [← Nat.add_assoc, acc_keep (by rw [ih]; exact h), ih]
theorem acc_end {x : BitVec 64} {k : Nat} (hk : k < 6) (h : acc x k = 0#64) (hb : x.getLsbD (ordN k) = true) : acc x 6 = cauN (ordN k) := by
  have h1 := acc_yes h hb
  have h2 := acc_stay (x := x) (k := k + 1) (by rw [h1]; exact cauN_ne k) (5 - k)
  rw [show k + 1 + (5 - k) = 6 by omega] at h2
  rw [h2, h1]
theorem selV_break {m : BitVec 64} (s : BitVec 64) {k : Nat} (hk : k < 6) (h : acc m k = 0#64) (hb : m.getLsbD (ordN k) = true) : selV m s = cauN (ordN k) := by
  unfold selV; rw [acc_end hk h hb, if_neg (cauN_ne k)]
theorem selV_end {m : BitVec 64} (s : BitVec 64) (h : acc m 6 = 0#64) : selV m s = acc s 6 := by unfold selV; rw [if_pos h]
/-- what the loop carries -/
structure SelAt (m s : BitVec 64) (t i : Value) : Prop where
  out : ∃ k : Nat, k ≤ 6 ∧ i = .int .i64 k ∧ t = .int .u64 (u (acc s k)) ∧ acc m k = 0#64

set_option maxRecDepth 100000 in
set_option maxHeartbeats 1000000 in
theorem sel_any (h e : Nat → BitVec 64) (p : Int) (r q1 q2 : Bool) (w : World) : Calls Try.prog 18 #[.agg (hV h p r), .agg (eV e q1 q2)] w fun r' w' => r' = .returned (.tuple #[.int .u64 (u (selV (cntM h p (cnd h e)) (cntS h p (cnd h e)))), .bool (selB (cntM h p (cnd h e)) (cntS h p (cnd h e)))]) ∧ On w w' := by
  have HB : Hid (On w ((w.alloc (.cells (hV h p r) 28)).alloc (.cells (eV e q1 q2) 35))) := Lib.hid (((On.refl w).alloc _).alloc _)
  have L0 := row_lds hrtT (box1 w (.cells (hV h p r) 28) (.cells (eV e q1 q2) 35)) (hV_size _ _ _)
  have L1 := row_lds envT (box2 w (.cells (hV h p r) 28) (.cells (eV e q1 q2) 35)) (eV_size _ _ _)
  obtain ⟨x, hx⟩ : ∃ x, cnd h e = x := ⟨_, rfl⟩
  obtain ⟨m, hm⟩ : ∃ m, cntM h p x = m := ⟨_, rfl⟩
  obtain ⟨s, hs⟩ : ∃ s, cntS h p x = s := ⟨_, rfl⟩
  have K1 : Hid (∀ w, Calls Try.prog 39 #[.agg (hV h p r), .agg (eV e q1 q2)] w fun r' w' => r' = .returned (.int .u64 (u x)) ∧ On w w') := Lib.hid (fun w => by rw [← hx]; exact cand_any h e p r q1 q2 w)
  have K2 : Hid (∀ w, Calls Try.prog 38 #[.agg (hV h p r), .int .u64 (u x)] w fun r' w' => r' = .returned (.tuple #[.int .u64 (u m), .int .u64 (u s)]) ∧ On w w') := Lib.hid (fun w => by rw [← hm, ← hs]; exact cnt_any h p r x w)
  rw [hx, hm, hs]
  clear hx hm hs
  go_enter Try.func18, Try.ntmps18
  go_wp2_with fail
  go_step3
  go_wp2_with fail
  refine wp_region_quiet_below (by kernel_rfl) (by kernel_rfl) ?_
  repeat (first | (go_big_quiet_want; (first | refine row_quiet L0 rfl rfl ?_ | refine row_quiet L1 rfl rfl ?_); go_simp; go_big_quiet_on) | go_big_quiet_step (first | (go_at_call 39; exact Calls.on_of (K1.out _)) | (go_at_call 38; exact Calls.on_of (K2.out _))))
  refine wpQuiet_nil ?_
  intro _ hw'
  obtain ⟨⟨dq, osq⟩, hw''⟩ := hw'
  subst hw''
  have HB := Lib.hid (HB.out.grow dq osq)
  generalize Sort.grow (redrawn ((w.alloc (.cells (hV h p r) 28)).alloc (.cells (eV e q1 q2) 35)) dq) osq = w3 at *
  clear L0 L1 K1 K2
  go_wp2_with fail
  go_step3
  go_wp2_with fail
  go_loop [8, 21] (fun t i => SelAt m s t i) (fun _ i => 6 - (intOf i).toNat)
  case atStart => exact ⟨0, by omega, rfl, rfl, rfl⟩
  case round =>
    obtain ⟨k, hk, rfl, rfl, hk0⟩ := hrel.out
    by_cases hk6 : k < 6
    · have h6 : k = 0 ∨ k = 1 ∨ k = 2 ∨ k = 3 ∨ k = 4 ∨ k = 5 := by omega
      rcases h6 with rfl | rfl | rfl | rfl | rfl | rfl
      · have I := fun w => (show (Instr.index 43 (.agg #[.int .u64 11, .int .u64 3, .int .u64 7, .int .u64 9, .int .u64 1, .int .u64 5]) (.int .i64 0)).run Try.prog w = .ok (.int .u64 11) w from by kernel_rfl)
        have Nm := bit_n m 11 (by omega) 2048 rfl
        have Ns := bit_n s 11 (by omega) 2048 rfl
        have Oc : bits .or .u64 9223372036854775808 11 = 9223372036854775819 := by decide +kernel
        cases hm : m.getLsbD 11
        · rw [hm] at Nm
          have D : acc m 1 = 0#64 := acc_no hk0 hm
          cases hs : s.getLsbD 11
          · rw [hs] at Ns
            have D2 : Hid (acc s 1 = acc s 0) := Lib.hid (acc_not hs)
            clear hm hs hk0
            go_wp2
            go_round
            case rel => exact ⟨1, by omega, by go_num, by rw [D2.out], D⟩
            case measure => simp [intOf]
          · rw [hs] at Ns
            by_cases ht : acc s 0 = 0#64
            · have T : u (acc s 0) = 0 := by rw [ht]; rfl
              have D2 : Hid (acc s 1 = 9223372036854775819#64) := Lib.hid (acc_yes ht hs)
              clear hm hs hk0 ht
              go_wp2
              go_round
              case rel => exact ⟨1, by omega, by go_num, by rw [D2.out]; rfl, D⟩
              case measure => simp [intOf]
            · exact absurd rfl ht
        · rw [hm] at Nm
          have D : Hid (selV m s = 9223372036854775819#64) := Lib.hid (selV_break s (by omega) hk0 hm)
          clear hm hk0 Ns
          go_wp2
          go_ret2
          exact ⟨by unfold selB; rw [D.out]; rfl, HB.out⟩
      · have I := fun w => (show (Instr.index 43 (.agg #[.int .u64 11, .int .u64 3, .int .u64 7, .int .u64 9, .int .u64 1, .int .u64 5]) (.int .i64 1)).run Try.prog w = .ok (.int .u64 3) w from by kernel_rfl)
        have Nm := bit_n m 3 (by omega) 8 rfl
        have Ns := bit_n s 3 (by omega) 8 rfl
        have Oc : bits .or .u64 9223372036854775808 3 = 9223372036854775811 := by decide +kernel
        cases hm : m.getLsbD 3
        · rw [hm] at Nm
          have D : acc m 2 = 0#64 := acc_no hk0 hm
          cases hs : s.getLsbD 3
          · rw [hs] at Ns
            have D2 : Hid (acc s 2 = acc s 1) := Lib.hid (acc_not hs)
            clear hm hs hk0
            go_wp2
            go_round
            case rel => exact ⟨2, by omega, by go_num, by rw [D2.out], D⟩
            case measure => simp [intOf]
          · rw [hs] at Ns
            by_cases ht : acc s 1 = 0#64
            · have T : u (acc s 1) = 0 := by rw [ht]; rfl
              have D2 : Hid (acc s 2 = 9223372036854775811#64) := Lib.hid (acc_yes ht hs)
              clear hm hs hk0 ht
              go_wp2
              go_round
              case rel => exact ⟨2, by omega, by go_num, by rw [D2.out]; rfl, D⟩
              case measure => simp [intOf]
            · have T : ¬ u (acc s 1) = 0 := fun hh => ht (u_inj.1 (hh.trans (show (0 : Int) = u 0#64 from rfl)))
              have D2 : Hid (acc s 2 = acc s 1) := Lib.hid (acc_keep ht)
              clear hm hs hk0 ht
              go_wp2
              go_round
              case rel => exact ⟨2, by omega, by go_num, by rw [D2.out], D⟩
              case measure => simp [intOf]
        · rw [hm] at Nm
          have D : Hid (selV m s = 9223372036854775811#64) := Lib.hid (selV_break s (by omega) hk0 hm)
          clear hm hk0 Ns
          go_wp2
          go_ret2
          exact ⟨by unfold selB; rw [D.out]; rfl, HB.out⟩
      · have I := fun w => (show (Instr.index 43 (.agg #[.int .u64 11, .int .u64 3, .int .u64 7, .int .u64 9, .int .u64 1, .int .u64 5]) (.int .i64 2)).run Try.prog w = .ok (.int .u64 7) w from by kernel_rfl)
        have Nm := bit_n m 7 (by omega) 128 rfl
        have Ns := bit_n s 7 (by omega) 128 rfl
        have Oc : bits .or .u64 9223372036854775808 7 = 9223372036854775815 := by decide +kernel
        cases hm : m.getLsbD 7
        · rw [hm] at Nm
          have D : acc m 3 = 0#64 := acc_no hk0 hm
          cases hs : s.getLsbD 7
          · rw [hs] at Ns
            have D2 : Hid (acc s 3 = acc s 2) := Lib.hid (acc_not hs)
            clear hm hs hk0
            go_wp2
            go_round
            case rel => exact ⟨3, by omega, by go_num, by rw [D2.out], D⟩
            case measure => simp [intOf]
          · rw [hs] at Ns
            by_cases ht : acc s 2 = 0#64
            · have T : u (acc s 2) = 0 := by rw [ht]; rfl
              have D2 : Hid (acc s 3 = 9223372036854775815#64) := Lib.hid (acc_yes ht hs)
              clear hm hs hk0 ht
              go_wp2
              go_round
              case rel => exact ⟨3, by omega, by go_num, by rw [D2.out]; rfl, D⟩
              case measure => simp [intOf]
            · have T : ¬ u (acc s 2) = 0 := fun hh => ht (u_inj.1 (hh.trans (show (0 : Int) = u 0#64 from rfl)))
              have D2 : Hid (acc s 3 = acc s 2) := Lib.hid (acc_keep ht)
              clear hm hs hk0 ht
              go_wp2
              go_round
              case rel => exact ⟨3, by omega, by go_num, by rw [D2.out], D⟩
              case measure => simp [intOf]
        · rw [hm] at Nm
          have D : Hid (selV m s = 9223372036854775815#64) := Lib.hid (selV_break s (by omega) hk0 hm)
          clear hm hk0 Ns
          go_wp2
          go_ret2
          exact ⟨by unfold selB; rw [D.out]; rfl, HB.out⟩
      · have I := fun w => (show (Instr.index 43 (.agg #[.int .u64 11, .int .u64 3, .int .u64 7, .int .u64 9, .int .u64 1, .int .u64 5]) (.int .i64 3)).run Try.prog w = .ok (.int .u64 9) w from by kernel_rfl)
        have Nm := bit_n m 9 (by omega) 512 rfl
        have Ns := bit_n s 9 (by omega) 512 rfl
        have Oc : bits .or .u64 9223372036854775808 9 = 9223372036854775817 := by decide +kernel
        cases hm : m.getLsbD 9
        · rw [hm] at Nm
          have D : acc m 4 = 0#64 := acc_no hk0 hm
          cases hs : s.getLsbD 9
          · rw [hs] at Ns
            have D2 : Hid (acc s 4 = acc s 3) := Lib.hid (acc_not hs)
            clear hm hs hk0
            go_wp2
            go_round
            case rel => exact ⟨4, by omega, by go_num, by rw [D2.out], D⟩
            case measure => simp [intOf]
          · rw [hs] at Ns
            by_cases ht : acc s 3 = 0#64
            · have T : u (acc s 3) = 0 := by rw [ht]; rfl
              have D2 : Hid (acc s 4 = 9223372036854775817#64) := Lib.hid (acc_yes ht hs)
              clear hm hs hk0 ht
              go_wp2
              go_round
              case rel => exact ⟨4, by omega, by go_num, by rw [D2.out]; rfl, D⟩
              case measure => simp [intOf]
            · have T : ¬ u (acc s 3) = 0 := fun hh => ht (u_inj.1 (hh.trans (show (0 : Int) = u 0#64 from rfl)))
              have D2 : Hid (acc s 4 = acc s 3) := Lib.hid (acc_keep ht)
              clear hm hs hk0 ht
              go_wp2
              go_round
              case rel => exact ⟨4, by omega, by go_num, by rw [D2.out], D⟩
              case measure => simp [intOf]
        · rw [hm] at Nm
          have D : Hid (selV m s = 9223372036854775817#64) := Lib.hid (selV_break s (by omega) hk0 hm)
          clear hm hk0 Ns
          go_wp2
          go_ret2
          exact ⟨by unfold selB; rw [D.out]; rfl, HB.out⟩
      · have I := fun w => (show (Instr.index 43 (.agg #[.int .u64 11, .int .u64 3, .int .u64 7, .int .u64 9, .int .u64 1, .int .u64 5]) (.int .i64 4)).run Try.prog w = .ok (.int .u64 1) w from by kernel_rfl)
        have Nm := bit_n m 1 (by omega) 2 rfl
        have Ns := bit_n s 1 (by omega) 2 rfl
        have Oc : bits .or .u64 9223372036854775808 1 = 9223372036854775809 := by decide +kernel
        cases hm : m.getLsbD 1
        · rw [hm] at Nm
          have D : acc m 5 = 0#64 := acc_no hk0 hm
          cases hs : s.getLsbD 1
          · rw [hs] at Ns
            have D2 : Hid (acc s 5 = acc s 4) := Lib.hid (acc_not hs)
            clear hm hs hk0
            go_wp2
            go_round
            case rel => exact ⟨5, by omega, by go_num, by rw [D2.out], D⟩
            case measure => simp [intOf]
          · rw [hs] at Ns
            by_cases ht : acc s 4 = 0#64
            · have T : u (acc s 4) = 0 := by rw [ht]; rfl
              have D2 : Hid (acc s 5 = 9223372036854775809#64) := Lib.hid (acc_yes ht hs)
              clear hm hs hk0 ht
              go_wp2
              go_round
              case rel => exact ⟨5, by omega, by go_num, by rw [D2.out]; rfl, D⟩
              case measure => simp [intOf]
            · have T : ¬ u (acc s 4) = 0 := fun hh => ht (u_inj.1 (hh.trans (show (0 : Int) = u 0#64 from rfl)))
              have D2 : Hid (acc s 5 = acc s 4) := Lib.hid (acc_keep ht)
              clear hm hs hk0 ht
              go_wp2
              go_round
              case rel => exact ⟨5, by omega, by go_num, by rw [D2.out], D⟩
              case measure => simp [intOf]
        · rw [hm] at Nm
          have D : Hid (selV m s = 9223372036854775809#64) := Lib.hid (selV_break s (by omega) hk0 hm)
          clear hm hk0 Ns
          go_wp2
          go_ret2
          exact ⟨by unfold selB; rw [D.out]; rfl, HB.out⟩
      · have I := fun w => (show (Instr.index 43 (.agg #[.int .u64 11, .int .u64 3, .int .u64 7, .int .u64 9, .int .u64 1, .int .u64 5]) (.int .i64 5)).run Try.prog w = .ok (.int .u64 5) w from by kernel_rfl)
        have Nm := bit_n m 5 (by omega) 32 rfl
        have Ns := bit_n s 5 (by omega) 32 rfl
        have Oc : bits .or .u64 9223372036854775808 5 = 9223372036854775813 := by decide +kernel
        cases hm : m.getLsbD 5
        · rw [hm] at Nm
          have D : acc m 6 = 0#64 := acc_no hk0 hm
          cases hs : s.getLsbD 5
          · rw [hs] at Ns
            have D2 : Hid (acc s 6 = acc s 5) := Lib.hid (acc_not hs)
            clear hm hs hk0
            go_wp2
            go_round
            case rel => exact ⟨6, by omega, by go_num, by rw [D2.out], D⟩
            case measure => simp [intOf]
          · rw [hs] at Ns
            by_cases ht : acc s 5 = 0#64
            · have T : u (acc s 5) = 0 := by rw [ht]; rfl
              have D2 : Hid (acc s 6 = 9223372036854775813#64) := Lib.hid (acc_yes ht hs)
              clear hm hs hk0 ht
              go_wp2
              go_round
              case rel => exact ⟨6, by omega, by go_num, by rw [D2.out]; rfl, D⟩
              case measure => simp [intOf]
            · have T : ¬ u (acc s 5) = 0 := fun hh => ht (u_inj.1 (hh.trans (show (0 : Int) = u 0#64 from rfl)))
              have D2 : Hid (acc s 6 = acc s 5) := Lib.hid (acc_keep ht)
              clear hm hs hk0 ht
              go_wp2
              go_round
              case rel => exact ⟨6, by omega, by go_num, by rw [D2.out], D⟩
              case measure => simp [intOf]
        · rw [hm] at Nm
          have D : Hid (selV m s = 9223372036854775813#64) := Lib.hid (selV_break s (by omega) hk0 hm)
          clear hm hk0 Ns
          go_wp2
          go_ret2
          exact ⟨by unfold selB; rw [D.out]; rfl, HB.out⟩
    · obtain rfl : k = 6 := by omega
      have D : Hid (selV m s = acc s 6) := Lib.hid (selV_end s hk0)
      have Z := nz (acc s 6)
      clear hk0 hk hk6
      go_wp2
      go_ret2
      exact ⟨by unfold selB; rw [D.out]; first | rfl | (rw [← Z]; rfl), HB.out⟩
end Go.Proofs.Ytleolldgpoeabaa
