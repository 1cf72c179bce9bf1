/- What join and spread of package shape come to. Conditions: named at each. -/
import Derived.Test.YtjnalgilkdoalaaDoorShape2
namespace Go.Proofs.YtjnalgilkdoalaaDoor
open Go.RowKit

theorem join_any (x : BitVec 32) (L : List Sp) (hok : L.all Sp.ok = true) (hne : L ≠ []) (v : Value) (w : World) (hs : Spans w v L) :
    Calls Tryd.prog 34 #[.int .u32 (q x), v] w fun e w' => e = .returned (.int .u64 (u (immOf (zx x) L))) ∧ On w w' := by
  have e0 := wrap_zx x
  rcases hs with ⟨rfl, rfl⟩ | ⟨b, rfl, hb, hl0, hl, hc⟩
  · exact absurd rfl hne
  · clear hne
    have hs1 : Spans w (.slice (some ⟨b, 0, none⟩) L.length L.length) L := .inr ⟨b, rfl, hb, hl0, hl, hc⟩
    obtain ⟨m, hn⟩ : ∃ n, L.length = n := ⟨_, rfl⟩
    rw [hn] at hl0 hl hs1 ⊢
    have HS1 := Lib.hid hs1
    have Hn := Lib.hid hn
    have Hc := Lib.hid hc
    clear hn hc hs1
    go_enter Tryd.func34, Tryd.ntmps34
    go_wp2_with fail
    go_loopw [5, 10] (fun m5 i wr => ∃ k : Nat, k ≤ m ∧ i = .int .i64 k ∧ m5 = .int .u64 (u (joinAcc (zx x) (L.take k))) ∧ Hid (On w wr)) (fun _ i _ => (m - intOf i).toNat)
    case atStart => exact ⟨0, by omega, rfl, rfl, Lib.hid (On.refl _)⟩
    case round =>
      obtain ⟨k, hk, rfl, rfl, hw⟩ := hrel
      by_cases hlt : k < m
      · obtain ⟨s, hs, g1, g2, g3⟩ := span_cells hb hw.out Hc.out (show k < L.length by rw [Hn.out]; exact hlt)
        have HK := Lib.hid (Sp.ok_at hok hs)
        have HS := Lib.hid hs
        clear hs
        have c1 : ∀ d os, (Sort.grow (redrawn (wr.alloc (.cells #[.int .i64 s.hi, .int .i64 s.lo, .int .i64 s.at0] 56)) d) os).cell? ⟨wr.heap.size, 0, none⟩ = some (.int .i64 s.hi) := fun d os => new_cell _ _ _ _ rfl d os
        have c2 : ∀ d os, (Sort.grow (redrawn (wr.alloc (.cells #[.int .i64 s.hi, .int .i64 s.lo, .int .i64 s.at0] 56)) d) os).cell? ⟨wr.heap.size, 1, none⟩ = some (.int .i64 s.lo) := fun d os => new_cell _ _ _ _ rfl d os
        have c3 : ∀ d os, (Sort.grow (redrawn (wr.alloc (.cells #[.int .i64 s.hi, .int .i64 s.lo, .int .i64 s.at0] 56)) d) os).cell? ⟨wr.heap.size, 2, none⟩ = some (.int .i64 s.at0) := fun d os => new_cell _ _ _ _ rfl d os
        go_wp2_with fail
        refine wp_region_quiet_below (by kernel_rfl) (by kernel_rfl) ?_
        repeat (go_big_quiet_step (first | (go_at_call 68; exact Calls.on_of (top_any s HK.out _)) | (go_at_call 66; exact Calls.on_of (field_on _ _ _ _)) | (go_at_call 67; exact Calls.on_of (put_on _ _ _ _ _))))
        refine wpQuiet_nil ?_
        intro _ hw'
        obtain ⟨⟨dq, osq⟩, hw''⟩ := hw'
        subst hw''
        go_wp2
        exact ⟨⟨k + 1, by omega, by go_num, by rw [joinAcc_next _ HS.out]; rfl, Lib.hid ((hw.out.alloc _).grow _ _)⟩, by simp [intOf]; omega⟩
      · have e : joinAcc (zx x) (L.take k) = joinAcc (zx x) L := by rw [show k = L.length by rw [Hn.out]; omega, List.take_length]
        have hw1 := HS1.out.keep (Nat.le_refl _) hw.out
        have Ek := Lib.hid e
        have HW1 := Lib.hid hw1
        clear e hw1
        go_wp2_with (first | (go_at_call 70; refine (width_any L hok _ _ HW1.out).mono ?_; rintro e w' ⟨rfl, hb'⟩; have HB := Lib.hid hb'; clear hb') | (go_at_call 69; refine (sext_any _ _ _).mono ?_; rintro e w' ⟨rfl, rfl⟩))
        go_ret
        exact ⟨by rw [Ek.out]; rfl, hw.out.trans HB.out⟩
theorem spread_any (n : Int) (L : List Sp) (hok : L.all Sp.ok = true) (v : Value) (w : World) (hs : Spans w v L) :
    Calls Tryd.prog 94 #[.int .i64 n, v] w fun e w' => e = .returned (.int .u32 (q (lo32 (spreadAcc (wd64 n) L)))) ∧ On w w' := by
  have e0 := wrap_wd n
  rcases hs with ⟨rfl, rfl⟩ | ⟨b, rfl, hb, hl0, hl, hc⟩
  · go_enter Tryd.func94, Tryd.ntmps94
    go_wp2_with fail
    go_loopw [5, 10] (fun m i wr => i = .int .i64 0 ∧ m = .int .u64 0 ∧ wr = w) (fun _ i _ => 0)
    case atStart => exact ⟨rfl, rfl, rfl⟩
    case round =>
      obtain ⟨rfl, rfl, rfl⟩ := hrel
      go_wp2_with fail
      go_ret
      exact ⟨rfl, On.refl _⟩
  · obtain ⟨m, hn⟩ : ∃ n, L.length = n := ⟨_, rfl⟩
    rw [hn] at hl0 hl ⊢
    have Hn := Lib.hid hn
    have Hc := Lib.hid hc
    clear hn hc
    go_enter Tryd.func94, Tryd.ntmps94
    go_wp2_with fail
    go_loopw [5, 10] (fun m5 i wr => ∃ k : Nat, k ≤ m ∧ i = .int .i64 k ∧ m5 = .int .u64 (u (spreadAcc (wd64 n) (L.take k))) ∧ Hid (On w wr)) (fun _ i _ => (m - intOf i).toNat)
    case atStart => exact ⟨0, by omega, rfl, rfl, Lib.hid (On.refl _)⟩
    case round =>
      obtain ⟨k, hk, rfl, rfl, hw⟩ := hrel
      by_cases hlt : k < m
      · obtain ⟨s, hs, g1, g2, g3⟩ := span_cells hb hw.out Hc.out (show k < L.length by rw [Hn.out]; exact hlt)
        have HK := Lib.hid (Sp.ok_at hok hs)
        have HS := Lib.hid hs
        clear hs
        have c1 : ∀ d os, (Sort.grow (redrawn (wr.alloc (.cells #[.int .i64 s.hi, .int .i64 s.lo, .int .i64 s.at0] 56)) d) os).cell? ⟨wr.heap.size, 0, none⟩ = some (.int .i64 s.hi) := fun d os => new_cell _ _ _ _ rfl d os
        have c2 : ∀ d os, (Sort.grow (redrawn (wr.alloc (.cells #[.int .i64 s.hi, .int .i64 s.lo, .int .i64 s.at0] 56)) d) os).cell? ⟨wr.heap.size, 1, none⟩ = some (.int .i64 s.lo) := fun d os => new_cell _ _ _ _ rfl d os
        have c3 : ∀ d os, (Sort.grow (redrawn (wr.alloc (.cells #[.int .i64 s.hi, .int .i64 s.lo, .int .i64 s.at0] 56)) d) os).cell? ⟨wr.heap.size, 2, none⟩ = some (.int .i64 s.at0) := fun d os => new_cell _ _ _ _ rfl d os
        go_wp2_with fail
        refine wp_region_quiet_below (by kernel_rfl) (by kernel_rfl) ?_
        repeat (go_big_quiet_step (first | (go_at_call 68; exact Calls.on_of (top_any s HK.out _)) | (go_at_call 66; exact Calls.on_of (field_on _ _ _ _)) | (go_at_call 67; exact Calls.on_of (put_on _ _ _ _ _))))
        refine wpQuiet_nil ?_
        intro _ hw'
        obtain ⟨⟨dq, osq⟩, hw''⟩ := hw'
        subst hw''
        go_wp2
        exact ⟨⟨k + 1, by omega, by go_num, by rw [spreadAcc_next _ HS.out]; rfl, Lib.hid ((hw.out.alloc _).grow _ _)⟩, by simp [intOf]; omega⟩
      · have e : spreadAcc (wd64 n) (L.take k) = spreadAcc (wd64 n) L := by rw [show k = L.length by rw [Hn.out]; omega, List.take_length]
        have Ek := Lib.hid e
        have el := wrap_lo (spreadAcc (wd64 n) (L.take k))
        clear e
        go_wp2_with fail
        go_ret
        exact ⟨by rw [← Ek.out]; rfl, hw.out⟩
end Go.Proofs.YtjnalgilkdoalaaDoor
