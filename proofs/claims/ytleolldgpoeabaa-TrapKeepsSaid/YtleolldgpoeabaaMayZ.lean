/- What the reference's May comes to, at any state. Conditions: named at each. -/
import Derived.Test.YtleolldgpoeabaaMayN0
import Derived.Test.YtleolldgpoeabaaMayN1
import Derived.Test.YtleolldgpoeabaaMayN2
import Derived.Test.YtleolldgpoeabaaMayN3
namespace Go.Proofs.Ytleolldgpoeabaa
open Go.RowKit

set_option maxHeartbeats 4000000 in
set_option maxRecDepth 100000 in
theorem may_event (c : Nat → BitVec 64) (h : ¬ ((c 22).toNat ≤ 5 ∧ (c 23).toNat ≤ 5 ∧ (c 24).toNat ≤ 5 ∧ (c 25).toNat ≤ 5)) (w : World) : Calls Try.prog 26 #[.agg (cV c)] w fun r w' => r = .returned (.bool false) ∧ On w w' := by
  have c22 : ∀ wr, On (w.alloc (.cells (cV c) 26)) wr → wr.cell? ⟨w.heap.size, 22, none⟩ = some (.int .u64 (u (c 22))) := fun _ h => blk_cell (box_cM h) 22 (cV_get c 22 (by omega))
  have c23 : ∀ wr, On (w.alloc (.cells (cV c) 26)) wr → wr.cell? ⟨w.heap.size, 23, none⟩ = some (.int .u64 (u (c 23))) := fun _ h => blk_cell (box_cM h) 23 (cV_get c 23 (by omega))
  have c24 : ∀ wr, On (w.alloc (.cells (cV c) 26)) wr → wr.cell? ⟨w.heap.size, 24, none⟩ = some (.int .u64 (u (c 24))) := fun _ h => blk_cell (box_cM h) 24 (cV_get c 24 (by omega))
  have c25 : ∀ wr, On (w.alloc (.cells (cV c) 26)) wr → wr.cell? ⟨w.heap.size, 25, none⟩ = some (.int .u64 (u (c 25))) := fun _ h => blk_cell (box_cM h) 25 (cV_get c 25 (by omega))
  have hb := On.refl (w.alloc (.cells (cV c) 26))
  go_enter Try.func26, Try.ntmps26
  go_wp2_with fail
  go_loopw [3] (fun i wr => ∃ k : Nat, k ≤ 4 ∧ i = .int .i64 k ∧ On (w.alloc (.cells (cV c) 26)) wr ∧ Hid (∀ j, j < k → (c (22 + j)).toNat ≤ 5)) (fun i _ => 4 - (intOf i).toNat)
  case atStart => exact ⟨0, by omega, rfl, hb, Lib.hid (fun j hj => by omega)⟩
  case round =>
    clear hb
    obtain ⟨k, hk, rfl, hb, hev⟩ := hrel
    have h := Lib.hid h
    by_cases hk4 : k < 4
    · have h4 : k = 0 ∨ k = 1 ∨ k = 2 ∨ k = 3 := by omega
      rcases h4 with rfl | rfl | rfl | rfl
      · by_cases hv : (c 22).toNat ≤ 5
        · have tv : ¬ (5 < u (c 22)) := by unfold u; omega
          have hev' : Hid (∀ j, j < 1 → (c (22 + j)).toNat ≤ 5) := Lib.hid (fun j hj => by
            rcases Nat.lt_or_ge j 0 with h1 | h1
            · exact hev.out j h1
            · obtain rfl : j = 0 := by omega
              exact hv)
          clear hv hev
          go_wp2
          go_roundw
          case rel => exact ⟨1, by omega, by go_num, hb, hev'⟩
          case measure => simp [intOf]
        · have tv : 5 < u (c 22) := by unfold u; omega
          clear hv hev
          go_wp2
          go_ret
          exact ⟨rfl, ((On.refl w).alloc _).trans hb⟩
      · by_cases hv : (c 23).toNat ≤ 5
        · have tv : ¬ (5 < u (c 23)) := by unfold u; omega
          have hev' : Hid (∀ j, j < 2 → (c (22 + j)).toNat ≤ 5) := Lib.hid (fun j hj => by
            rcases Nat.lt_or_ge j 1 with h1 | h1
            · exact hev.out j h1
            · obtain rfl : j = 1 := by omega
              exact hv)
          clear hv hev
          go_wp2
          go_roundw
          case rel => exact ⟨2, by omega, by go_num, hb, hev'⟩
          case measure => simp [intOf]
        · have tv : 5 < u (c 23) := by unfold u; omega
          clear hv hev
          go_wp2
          go_ret
          exact ⟨rfl, ((On.refl w).alloc _).trans hb⟩
      · by_cases hv : (c 24).toNat ≤ 5
        · have tv : ¬ (5 < u (c 24)) := by unfold u; omega
          have hev' : Hid (∀ j, j < 3 → (c (22 + j)).toNat ≤ 5) := Lib.hid (fun j hj => by
            rcases Nat.lt_or_ge j 2 with h1 | h1
            · exact hev.out j h1
            · obtain rfl : j = 2 := by omega
              exact hv)
          clear hv hev
          go_wp2
          go_roundw
          case rel => exact ⟨3, by omega, by go_num, hb, hev'⟩
          case measure => simp [intOf]
        · have tv : 5 < u (c 24) := by unfold u; omega
          clear hv hev
          go_wp2
          go_ret
          exact ⟨rfl, ((On.refl w).alloc _).trans hb⟩
      · by_cases hv : (c 25).toNat ≤ 5
        · have tv : ¬ (5 < u (c 25)) := by unfold u; omega
          have hev' : Hid (∀ j, j < 4 → (c (22 + j)).toNat ≤ 5) := Lib.hid (fun j hj => by
            rcases Nat.lt_or_ge j 3 with h1 | h1
            · exact hev.out j h1
            · obtain rfl : j = 3 := by omega
              exact hv)
          clear hv hev
          go_wp2
          go_roundw
          case rel => exact ⟨4, by omega, by go_num, hb, hev'⟩
          case measure => simp [intOf]
        · have tv : 5 < u (c 25) := by unfold u; omega
          clear hv hev
          go_wp2
          go_ret
          exact ⟨rfl, ((On.refl w).alloc _).trans hb⟩
    · obtain rfl : k = 4 := by omega
      exact absurd ⟨hev.out 0 (by omega), hev.out 1 (by omega), hev.out 2 (by omega), hev.out 3 (by omega)⟩ h.out
open Classical in
/-- whether a state is one that writes leave -/
noncomputable def okB (c : Nat → BitVec 64) : Bool := decide (OkS c)
theorem okB_yes {c : Nat → BitVec 64} (h : OkS c) : okB c = true := by unfold okB; simpa using h
theorem okB_of {c : Nat → BitVec 64} (h : okB c = true) : OkS c := by unfold okB at h; simpa using h
theorem okB_no {c : Nat → BitVec 64} (h : ¬ OkS c) : okB c = false := by unfold okB; simpa using h
theorem rmay_any (c : Nat → BitVec 64) (w : World) : Calls Try.prog 26 #[.agg (cV c)] w fun r w' => r = .returned (.bool (okB c)) ∧ On w w' := by
  by_cases he : (c 22).toNat ≤ 5 ∧ (c 23).toNat ≤ 5 ∧ (c 24).toNat ≤ 5 ∧ (c 25).toNat ≤ 5
  case neg => rw [okB_no (fun h => he ⟨h.at_ 22, h.at_ 23, h.at_ 24, h.at_ 25⟩)]; exact may_event c he w
  obtain ⟨e22, e23, e24, e25⟩ := he
  by_cases h0 : kst 0#64 (c 0) = c 0
  case neg => rw [okB_no (fun h => h0 (kst_self (h.at_ 0)))]; exact may_no0 c e22 e23 e24 e25 h0 w
  by_cases h1 : c 0 &&& 0x1800#64 = 0x1000#64
  case pos => rw [okB_no (fun h => (h.at_ 0).2 h1)]; exact may_no1 c e22 e23 e24 e25 h0 h1 w
  by_cases h2 : Sub (c 1) 0xb3ff#64
  case neg => rw [okB_no (fun h => h2 (h.at_ 1))]; exact may_no2 c e22 e23 e24 e25 h0 h1 h2 w
  by_cases h3 : Sub (c 2) 0x222#64
  case neg => rw [okB_no (fun h => h3 (h.at_ 2))]; exact may_no3 c e22 e23 e24 e25 h0 h1 h2 h3 w
  by_cases h4 : Sub (c 3) 0xaaa#64
  case neg => rw [okB_no (fun h => h4 (h.at_ 3))]; exact may_no4 c e22 e23 e24 e25 h0 h1 h2 h3 h4 w
  by_cases h5 : Sub (c 4) 0x222#64
  case neg => rw [okB_no (fun h => h5 (h.at_ 4))]; exact may_no5 c e22 e23 e24 e25 h0 h1 h2 h3 h4 h5 w
  by_cases h6 : c 5 &&& 2#64 = 0#64
  case neg => rw [okB_no (fun h => h6 (h.at_ 5))]; exact may_no6 c e22 e23 e24 e25 h0 h1 h2 h3 h4 h5 h6 w
  by_cases h7 : c 11 &&& 2#64 = 0#64
  case neg => rw [okB_no (fun h => h7 (h.at_ 11))]; exact may_no7 c e22 e23 e24 e25 h0 h1 h2 h3 h4 h5 h6 h7 w
  by_cases h8 : Sub (c 6) 0x7f#64
  case neg => rw [okB_no (fun h => h8 (h.at_ 6))]; exact may_no8 c e22 e23 e24 e25 h0 h1 h2 h3 h4 h5 h6 h7 h8 w
  by_cases h9 : Sub (c 12) 0x7f#64
  case neg => rw [okB_no (fun h => h9 (h.at_ 12))]; exact may_no9 c e22 e23 e24 e25 h0 h1 h2 h3 h4 h5 h6 h7 h8 h9 w
  by_cases h10 : c 8 &&& 3#64 = 0#64
  case neg => rw [okB_no (fun h => h10 (h.at_ 8))]; exact may_no10 c e22 e23 e24 e25 h0 h1 h2 h3 h4 h5 h6 h7 h8 h9 h10 w
  by_cases h11 : c 14 &&& 3#64 = 0#64
  case neg => rw [okB_no (fun h => h11 (h.at_ 14))]; exact may_no11 c e22 e23 e24 e25 h0 h1 h2 h3 h4 h5 h6 h7 h8 h9 h10 h11 w
  by_cases h12 : Sub (c 9) 0x800000000000003f#64
  case neg => rw [okB_no (fun h => h12 (h.at_ 9))]; exact may_no12 c e22 e23 e24 e25 h0 h1 h2 h3 h4 h5 h6 h7 h8 h9 h10 h11 h12 w
  by_cases h13 : Sub (c 15) 0x800000000000003f#64
  case neg => rw [okB_no (fun h => h13 (h.at_ 15))]; exact may_no13 c e22 e23 e24 e25 h0 h1 h2 h3 h4 h5 h6 h7 h8 h9 h10 h11 h12 h13 w
  by_cases h14 : c 17 >>> 60 = 0#64 ∨ c 17 >>> 60 = 8#64
  case neg => rw [okB_no (fun h => h14 (h.at_ 17))]; exact may_no14 c e22 e23 e24 e25 h0 h1 h2 h3 h4 h5 h6 h7 h8 h9 h10 h11 h12 h13 h14 w
  by_cases h15 : Sub (c 18) 0x7d#64
  case neg =>
    rw [okB_no (fun h => h15 (h.at_ 18))]
    rcases h14 with h14 | h14
    · exact may_no15a c e22 e23 e24 e25 h0 h1 h2 h3 h4 h5 h6 h7 h8 h9 h10 h11 h12 h13 h14 h15 w
    · exact may_no15b c e22 e23 e24 e25 h0 h1 h2 h3 h4 h5 h6 h7 h8 h9 h10 h11 h12 h13 h14 h15 w
  have hok : OkS c := ⟨fun i => by
    unfold OkC
    split
    · exact okC_0 h0 h1
    · exact h2
    · exact h3
    · exact h4
    · exact h5
    · exact h6
    · exact h8
    · exact h10
    · exact h12
    · exact h7
    · exact h9
    · exact h11
    · exact h13
    · exact h14
    · exact h15
    · exact e22
    · exact e23
    · exact e24
    · exact e25
    · trivial⟩
  rw [okB_yes hok]
  rcases h14 with h14 | h14
  · exact may_yes0 c e22 e23 e24 e25 h0 h1 h2 h3 h4 h5 h6 h7 h8 h9 h10 h11 h12 h13 h14 h15 w
  · exact may_yes8 c e22 e23 e24 e25 h0 h1 h2 h3 h4 h5 h6 h7 h8 h9 h10 h11 h12 h13 h14 h15 w
end Go.Proofs.Ytleolldgpoeabaa
