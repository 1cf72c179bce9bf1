/- Two memories held against each other; bytes spoilt. Conditions: named at each. -/
import Derived.Test.YtkjkmekkcnmjnaaRamX
namespace Go.Proofs.Ytkjkmekkcnmjnaa
open Go.RowKit
set_option linter.unusedVariables false
set_option maxRecDepth 100000

theorem RamIn.pgAt {n r N mb : Nat} {tab : Nat → Option Nat} {M : Nat → Int} {w : World} (R : RamIn n r N mb tab M w) (k : Nat) : PgAt w (tab k) (fun i => M (k * 4096 + i)) := by
  unfold PgAt
  cases h : tab k with
  | none => exact R.zero k h
  | some b => exact R.page k b h
set_option maxHeartbeats 1000000 in
theorem same_any {n1 r N mb n2 o mb2 : Nat} {tab tab2 : Nat → Option Nat} {M M2 : Nat → Int} {w : World} (R1 : RamIn n1 r N mb tab M w) (R2 : RamIn n2 o N mb2 tab2 M2 w) (hne : ∀ k j b c, tab k = some b → tab2 j = some c → b ≠ c)
    {rb : Bool} (hr : rb = true ↔ ∀ x, x < N * 4096 → M x = M2 x) :
    Calls Try.prog 12 #[.pointer (some ⟨r, 0, none⟩), .pointer (some ⟨o, 0, none⟩)] w fun e w' => e = .returned (.bool rb) ∧ On w w' := by
  have hN := R1.pages
  have c0 := blk_cell R1.cell 0 rfl
  have d0 := blk_cell R2.cell 0 rfl
  have HR := Lib.hid (And.intro R1 (And.intro R2 hr))
  have HN := Lib.hid hne
  clear R1 R2 hne hr
  go_enter Try.func12, Try.ntmps12
  go_wp2_with fail
  go_quiet (fail)
  go_wp2_with fail
  have hon := on_drawn w nq
  generalize w.drewN nq = w1 at *
  go_loopw [29] (fun x wr => ∃ k : Nat, k ≤ N ∧ x = .int .u64 k ∧ Hid (On w wr ∧ ∀ x, x < k * 4096 → M x = M2 x)) (fun x _ => (N - intOf x).toNat)
  case atStart => exact ⟨0, by omega, rfl, Lib.hid ⟨hon, fun x hx => by omega⟩⟩
  case round =>
    obtain ⟨k, hk, rfl, hrr⟩ := hrel
    by_cases hlt : (k : Int) < (N : Int)
    · have Q1 := HR.out.1.on hrr.out.1
      have Q2 := HR.out.2.1.on hrr.out.1
      have HE : ∀ rk : Bool, (rk = true ↔ ∀ i, i < 4096 → M (k * 4096 + i) = M2 (k * 4096 + i)) → ∀ d os, Calls Try.prog 23 #[pgV (tab k), pgV (tab2 k)] (Sort.grow (redrawn wr d) os) fun e w' => e = .returned (.bool rk) ∧ On (Sort.grow (redrawn wr d) os) w' := fun rk hrk d os =>
        equal_any ((Q1.on ((On.refl wr).grow d os)).pgAt k) ((Q2.on ((On.refl wr).grow d os)).pgAt k) (fun x => Q1.byte _) (fun x => Q2.byte _) (fun b c hb hc => HN.out k k b c hb hc) hrk
      have l1 : ∀ d os, (Instr.lookup 59 (.map (some mb)) (.int .u64 k) false).run Try.prog (Sort.grow (redrawn wr d) os) = .ok (pgV (tab k)) (Sort.grow (redrawn wr d) os) := fun d os => by
        obtain ⟨es, cl, h1, h2⟩ := (Q1.on ((On.refl wr).grow d os)).map
        exact tab_lookup Try.underlying59 Try.underlying31 (by kernel_rfl) h1 h2 (by omega) false
      have l2 : ∀ d os, (Instr.lookup 59 (.map (some mb2)) (.int .u64 k) false).run Try.prog (Sort.grow (redrawn wr d) os) = .ok (pgV (tab2 k)) (Sort.grow (redrawn wr d) os) := fun d os => by
        obtain ⟨es, cl, h1, h2⟩ := (Q2.on ((On.refl wr).grow d os)).map
        exact tab_lookup Try.underlying59 Try.underlying31 (by kernel_rfl) h1 h2 (by omega) false
      have k1 : ∀ d os, (Sort.grow (redrawn wr d) os).cell? ⟨r, 1, none⟩ = some (.map (some mb)) := fun d os => blk_cell (Q1.on ((On.refl wr).grow d os)).cell 1 rfl
      have k2 : ∀ d os, (Sort.grow (redrawn wr d) os).cell? ⟨o, 1, none⟩ = some (.map (some mb2)) := fun d os => blk_cell (Q2.on ((On.refl wr).grow d os)).cell 1 rfl
      generalize pgV (tab k) = v1 at *
      generalize pgV (tab2 k) = v2 at *
      have HK := Lib.hid (show k < N by omega)
      have hk2 : (k : Int) ≤ 256 := by omega
      by_cases he : ∀ i, i < 4096 → M (k * 4096 + i) = M2 (k * 4096 + i)
      · have HE := Lib.hid (HE true ⟨fun _ => he, fun _ => rfl⟩)
        have HX := Lib.hid he
        clear he Q1 Q2 hN c0 d0
        go_wp2_with fail
        refine wp_region_quiet_below (by kernel_rfl) (by kernel_rfl) ?_
        repeat (go_big_quiet_step (first | (go_at_call 23; exact Calls.on_of (HE.out _ _))))
        refine wpQuiet_nil ?_
        intro _ hw'
        obtain ⟨⟨dq, osq⟩, hw''⟩ := hw'
        subst hw''
        have hon2 := (On.refl wr).grow dq osq
        generalize Sort.grow (redrawn wr dq) osq = w2 at *
        clear l1 l2 k1 k2
        go_wp2
        exact ⟨⟨k + 1, by omega, by go_num, Lib.hid ⟨hrr.out.1.trans hon2, fun x hx => by
          by_cases h : x < k * 4096
          · exact hrr.out.2 x h
          · have := HX.out (x - k * 4096) (by omega)
            rw [show k * 4096 + (x - k * 4096) = x by omega] at this
            exact this⟩⟩, by simp [intOf]; omega⟩
      · have HE := Lib.hid (HE false ⟨fun h => (by cases h), fun h => absurd h he⟩)
        have HX : Hid (rb = false) := Lib.hid (by
          cases hrb : rb
          · rfl
          · exact absurd (fun i hi => HR.out.2.2.1 hrb (k * 4096 + i) (by omega)) he)
        clear he Q1 Q2 hN c0 d0
        go_wp2_with fail
        refine wp_region_quiet_below (by kernel_rfl) (by kernel_rfl) ?_
        repeat (go_big_quiet_step (first | (go_at_call 23; exact Calls.on_of (HE.out _ _))))
        refine wpQuiet_nil ?_
        intro _ hw'
        obtain ⟨⟨dq, osq⟩, hw''⟩ := hw'
        subst hw''
        have hon2 := (On.refl wr).grow dq osq
        generalize Sort.grow (redrawn wr dq) osq = w2 at *
        clear l1 l2 k1 k2
        go_wp2
        go_ret
        exact ⟨by rw [HX.out]; rfl, hrr.out.1.trans hon2⟩
    · have HX : Hid (rb = true) := Lib.hid (HR.out.2.2.2 fun x hx => hrr.out.2 x (by have : k = N := by omega
                                                                                     rw [this]; exact hx))
      go_wp2
      go_ret
      exact ⟨by rw [HX.out]; rfl, hrr.out.1⟩

end Go.Proofs.Ytkjkmekkcnmjnaa
