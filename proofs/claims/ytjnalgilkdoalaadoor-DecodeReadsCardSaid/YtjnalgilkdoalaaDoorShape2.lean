/- What the inner calls of package shape come to: immediates. Conditions: named at each. -/
import Derived.Test.YtjnalgilkdoalaaDoorShape1
namespace Go.Proofs.YtjnalgilkdoalaaDoor
open Go.RowKit

theorem inRange_any (n : Int) (L : List Sp) (hok : L.all Sp.ok = true) (v : Value) (w : World) (hs : Spans w v L) :
    Calls Tryd.prog 92 #[.int .i64 n, v] w fun e w' => e = .returned (.bool (inr n L)) ∧ On w w' := by
  have e0 := wrap_wd n
  have e1 : (u (sxt (wd64 n) (widthOf L)) == u (wd64 n)) = inr n L := by unfold inr; rw [u_beq]
  have E1 := Lib.hid e1
  clear e1
  go_enter Tryd.func92, Tryd.ntmps92
  go_wp2_with (first | (go_at_call 70; refine (width_any L hok v _ hs).mono ?_; rintro e w' ⟨rfl, hb'⟩; have HB := Lib.hid hb'; clear hb') | (go_at_call 69; refine (sext_any _ _ _).mono ?_; rintro e w' ⟨rfl, rfl⟩))
  go_ret
  exact ⟨by rw [← E1.out]; rfl, HB.out⟩
theorem inSteps_any (n : Int) (L : List Sp) (hok : L.all Sp.ok = true) (v : Value) (w : World) (hs : Spans w v L) :
    Calls Tryd.prog 93 #[.int .i64 n, v] w fun e w' => e = .returned (.bool (ins n L)) ∧ On w w' := by
  have e0 := wrap_wd n
  have e1 : (u (zxt (wd64 n) (lowOf L)) == 0) = ins n L := by unfold ins; rw [show (0 : Int) = u 0 from rfl, u_beq]
  have E1 := Lib.hid e1
  clear e1
  rcases hs with ⟨rfl, rfl⟩ | ⟨b, rfl, hb, hl0, hl, hc⟩
  · have hs0 : Spans w (.slice none 0 0) [] := .inl ⟨rfl, rfl⟩
    have HS0 := Lib.hid hs0
    clear hs0
    go_enter Tryd.func93, Tryd.ntmps93
    go_wp2_with (first | (go_at_call 70; refine (width_any [] hok _ _ HS0.out).mono ?_; rintro e w1 ⟨rfl, hb'⟩; have HB := Lib.hid hb'; clear hb'))
    go_loopw [5, 12] (fun m i wr => i = .int .i64 0 ∧ m = .int .i64 0 ∧ wr = w1) (fun _ i _ => 0)
    case atStart => exact ⟨rfl, rfl, rfl⟩
    case round =>
      obtain ⟨rfl, rfl, rfl⟩ := hrel
      go_wp2_with (go_at_call 90; refine (zext_any _ _ _).mono ?_; rintro e w' ⟨rfl, rfl⟩)
      go_ret
      exact ⟨by rw [← E1.out]; rfl, HB.out⟩
  · have hs1 : Spans w (.slice (some ⟨b, 0, none⟩) L.length L.length) L := .inr ⟨b, rfl, hb, hl0, hl, hc⟩
    obtain ⟨m, hn⟩ : ∃ n, L.length = n := ⟨_, rfl⟩
    rw [hn] at hl0 hl hs1 ⊢
    have HS1 := Lib.hid hs1
    have Hn := Lib.hid hn
    have Hc := Lib.hid hc
    clear hn hc hs1
    go_enter Tryd.func93, Tryd.ntmps93
    go_wp2_with (first | (go_at_call 70; refine (width_any L hok _ _ HS1.out).mono ?_; rintro e w1 ⟨rfl, hb'⟩; have HB := Lib.hid hb'; clear hb'))
    go_loopw [5, 12] (fun m5 i wr => ∃ k : Nat, k ≤ m ∧ i = .int .i64 k ∧ m5 = .int .i64 (lowTo L k) ∧ Hid (On w wr)) (fun _ i _ => (m - intOf i).toNat)
    case atStart => exact ⟨0, by omega, rfl, rfl, HB⟩
    case round =>
      obtain ⟨k, hk, rfl, rfl, hw⟩ := hrel
      by_cases hlt : k < m
      · obtain ⟨s, hs, g1, g2, g3⟩ := span_cells hb hw.out Hc.out (show k < L.length by rw [Hn.out]; exact hlt)
        have HS := Lib.hid hs
        clear hs
        go_wp2_with fail
        exact ⟨⟨k + 1, by omega, by go_num, by rw [lowTo_next HS.out]; congr 1; split <;> omega, Lib.hid ((hw.out.alloc _))⟩, by simp [intOf]; omega⟩
      · have e : lowTo L k = lowOf L := by rw [← lowTo_all L, Hn.out, show k = m by omega]
        have Ek := Lib.hid e
        clear e
        go_wp2_with (go_at_call 90; refine (zext_any _ _ _).mono ?_; rintro e w' ⟨rfl, rfl⟩)
        go_ret
        exact ⟨by rw [← E1.out, ← Ek.out]; rfl, hw.out⟩
end Go.Proofs.YtjnalgilkdoalaaDoor
