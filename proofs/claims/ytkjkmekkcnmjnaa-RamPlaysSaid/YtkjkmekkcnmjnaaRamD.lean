/- The call of package ram that stores what a strobe says: Some. Conditions: named at each. -/
import Derived.Test.YtkjkmekkcnmjnaaRamC
namespace Go.Proofs.Ytkjkmekkcnmjnaa
open Go.RowKit
set_option linter.unusedVariables false
set_option maxRecDepth 100000

/-- a slice of bools that the calls may not turn -/
def SrcB (n : Nat) (w : World) (s : Value) (len : Nat) (st : Nat → Bool) : Prop :=
  (∃ a c, s = .slice a 0 c ∧ len = 0) ∨ ∃ sb so c, s = .slice (some ⟨sb, so, none⟩) len c ∧ 0 < len ∧ (len : Int) ≤ 9223372036854775807 ∧ SafeB 64 n w sb ∧ ∀ i, i < len → w.cell? ⟨sb, so + i, none⟩ = some (.bool (st i))
theorem SrcB.kp {n : Nat} {w w' : World} {s : Value} {len : Nat} {st : Nat → Bool} (h : SrcB n w s len st) (k : Kp 64 n w w') : SrcB n w' s len st := by
  rcases h with h | ⟨sb, so, c, h1, h2, h3, h5, h6⟩
  · exact .inl h
  · exact .inr ⟨sb, so, c, h1, h2, h3, h5.on_kp k, fun i hi => h5.cell k (h6 i hi)⟩
/-- m numbers laid over where the strobe says so -/
def sm (M : Nat → Int) (o m : Nat) (z : Nat → Int) (st : Nat → Bool) : Nat → Int := fun x => if o ≤ x ∧ x < o + m ∧ st (x - o) = true then z (x - o) else M x
theorem sm_none (M z : Nat → Int) (o : Nat) (st : Nat → Bool) : sm M o 0 z st = M := by
  funext x; unfold sm; rw [if_neg (by omega)]
theorem sm_off (M z : Nat → Int) (o m : Nat) (st : Nat → Bool) (h : st m = false) : sm M o (m + 1) z st = sm M o m z st := by
  funext x
  unfold sm
  by_cases h1 : o ≤ x ∧ x < o + m ∧ st (x - o) = true
  · rw [if_pos h1, if_pos ⟨h1.1, by omega, h1.2.2⟩]
  · rw [if_neg h1]
    split
    · next h2 =>
      by_cases h3 : x < o + m
      · exact absurd ⟨h2.1, h3, h2.2.2⟩ h1
      · rw [show x - o = m by omega, h] at h2; simp at h2
    · rfl
theorem sm_on (M z : Nat → Int) (o m : Nat) (st : Nat → Bool) (h : st m = true) : ov (sm M o m z st) (o + m) 1 (fun i => z (m + i)) = sm M o (m + 1) z st := by
  funext x
  unfold ov sm
  by_cases h1 : o + m ≤ x ∧ x < o + m + 1
  · have hx : x = o + m := by omega
    subst hx
    rw [if_pos h1, if_pos ⟨by omega, by omega, by rw [show o + m - o = m by omega]; exact h⟩]
    show z (m + (o + m - (o + m))) = z (o + m - o)
    congr 1; omega
  · rw [if_neg h1]
    by_cases h2 : o ≤ x ∧ x < o + m ∧ st (x - o) = true
    · rw [if_pos h2, if_pos ⟨h2.1, by omega, h2.2.2⟩]
    · rw [if_neg h2]
      split
      · next h3 => exact absurd ⟨h3.1, by omega, h3.2.2⟩ h2
      · rfl
theorem some_nil (a : Int) (s t : Value) (w : World) : Calls Try.prog 21 #[.pointer none, .int .u64 a, s, t] w fun e w' => e = .returned (.int .i64 2) ∧ w = w' := by
  go_enter Try.func21, Try.ntmps21
  go_wp2
  go_ret
  exact ⟨rfl, rfl⟩
theorem some_bus {n r N : Nat} {M : Nat → Int} {w : World} (R : RamAt n r N M w) (a : BitVec 64) {b : Option Addr} {len c : Nat} (t : Value) (hl : (len : Int) ≤ 9223372036854775807) (hh : hasB N a len = false) :
    Calls Try.prog 21 #[.pointer (some ⟨r, 0, none⟩), .int .u64 (u a), .slice b len c, t] w fun e w' => e = .returned (.int .i64 6) ∧ On w w' := by
  obtain ⟨mb, tab, R⟩ := R
  have H := has_any R a len (by omega) hl
  rw [hh] at H
  have H := Lib.hid H
  have HH := Lib.hid hh
  clear R hh
  have hb := On.refl w
  go_enter Try.func21, Try.ntmps21
  go_wp2_with (first | (go_at_call 37; refine (H.out).mono ?_; rintro e wn ⟨rfl, hb'⟩; have hb := hb.trans hb'; clear hb'))
  go_ret
  exact ⟨rfl, hb⟩
/-- what the loop of Some carries -/
structure SmAt (n r N o : Nat) (M z : Nat → Int) (st : Nat → Bool) (w : World) (wr : World) (i : Nat) : Prop where
  kp : Kp 64 n w wr
  ram : RamAt n r N (sm M o i z st) wr
set_option maxHeartbeats 2000000 in
theorem some_ok {n r N : Nat} {M z : Nat → Int} {st : Nat → Bool} {w : World} (R : RamAt n r N M w) (hz : ∀ i, 0 ≤ z i ∧ z i < 256) (a : BitVec 64) {s t : Value} {len len2 : Nat} (hs : Src n w s len z) (ht : SrcB n w t len2 st) (hh : hasB N a len = true) :
    Calls Try.prog 21 #[.pointer (some ⟨r, 0, none⟩), .int .u64 (u a), s, t] w fun e w' => e = .returned (.int .i64 0) ∧ Kp 64 n w w' ∧ RamAt n r N (sm M (offR a) (min len len2) z st) w' := by
  have hN := R.pages
  have hl : (len : Int) ≤ 9223372036854775807 := by
    rcases Nat.eq_zero_or_pos len with h | h
    · omega
    · have := (offR_of hN h hh).2; omega
  have HR := Lib.hid R
  obtain ⟨mb, tab, R⟩ := R
  have H := has_any R a len (by omega) hl
  rw [hh] at H
  have HH := Lib.hid hh
  clear R hh
  have hb := On.refl w
  have HZ := Lib.hid hz
  clear hz
  by_cases h0 : min len len2 = 0
  · have E : Hid (RamAt n r N (sm M (offR a) (min len len2) z st) w) := Lib.hid (by rw [h0, sm_none]; exact HR.out)
    have hsv : ∃ b c, s = .slice b len c := by
      rcases hs with ⟨b, c, rfl, rfl⟩ | ⟨sb, so, c, rfl, _⟩
      · exact ⟨_, _, rfl⟩
      · exact ⟨_, _, rfl⟩
    have htv : ∃ b c, t = .slice b len2 c := by
      rcases ht with ⟨b, c, rfl, rfl⟩ | ⟨sb, so, c, rfl, _⟩
      · exact ⟨_, _, rfl⟩
      · exact ⟨_, _, rfl⟩
    have hl2 : (len2 : Int) ≤ 9223372036854775807 := by
      rcases ht with ⟨b, c, _, rfl⟩ | ⟨sb, so, c, _, _, h, _⟩ <;> omega
    obtain ⟨b, c, rfl⟩ := hsv
    obtain ⟨b2, c2, rfl⟩ := htv
    clear hs ht
    have h00 : len = 0 ∨ (¬ len = 0 ∧ len2 = 0) := by omega
    clear h0
    rcases h00 with rfl | ⟨hp, rfl⟩
    · rw [show ((0 : Nat) : Int) = 0 from rfl] at H
      have H := Lib.hid H
      have hl3 : (0 : Int) ≤ (len2 : Int) := by omega
      go_enter Try.func21, Try.ntmps21
      go_wp2_with (first | (go_at_call 37; refine (H.out).mono ?_; rintro e wn ⟨rfl, hb'⟩; have hb := hb.trans hb'; clear hb'))
      go_loopw [25] (fun x wr => x = .int .i64 0 ∧ On w wr) (fun _ _ => 0)
      case atStart => exact ⟨rfl, hb⟩
      case round =>
        obtain ⟨rfl, hq⟩ := hrel
        go_wp2_with fail
        go_ret
        exact ⟨rfl, .of_on hq, E.out.on hq⟩
    · have H := Lib.hid H
      have hl3 : (0 : Int) < (len : Int) := by omega
      clear hp
      go_enter Try.func21, Try.ntmps21
      go_wp2_with (first | (go_at_call 37; refine (H.out).mono ?_; rintro e wn ⟨rfl, hb'⟩; have hb := hb.trans hb'; clear hb'))
      go_loopw [25] (fun x wr => x = .int .i64 0 ∧ On w wr) (fun _ _ => 0)
      case atStart => exact ⟨rfl, hb⟩
      case round =>
        obtain ⟨rfl, hq⟩ := hrel
        go_wp2_with fail
        go_ret
        exact ⟨rfl, .of_on hq, E.out.on hq⟩
  · rcases hs with ⟨b, c, rfl, rfl⟩ | ⟨sb, so, c, rfl, h1, h2, h3, h4, h5⟩
    · exact absurd (Nat.zero_min _) h0
    rcases ht with ⟨b, c2, rfl, rfl⟩ | ⟨tb, to, c2, rfl, g1, g3, g4, g5⟩
    · exact absurd (Nat.min_zero _) h0
    obtain ⟨e1, e2⟩ := offR_of hN h1 HH.out
    generalize offR a = o at *
    obtain ⟨m, hm⟩ : ∃ m, min len len2 = m := ⟨_, rfl⟩
    rw [hm]
    have H := Lib.hid H
    have HM := Lib.hid (show m ≤ len ∧ m ≤ len2 ∧ o + len ≤ N * 4096 ∧ N ≤ 256 ∧ len ≤ c by omega)
    have HS := Lib.hid (And.intro h4 (And.intro h5 (And.intro g4 g5)))
    have HE := Lib.hid e1
    have hml : (m : Int) ≤ (len : Int) := by omega
    have hm2 : (m : Int) ≤ (len2 : Int) := by omega
    have hm3 : (m : Int) ≤ 1048576 := by omega
    have hlc : (len : Int) ≤ (c : Int) := by omega
    obtain ⟨Y, hY⟩ : ∃ Y : Int, (o : Int) = Y := ⟨_, rfl⟩
    have hY0 : 0 ≤ Y := by omega
    have hY1 : Y < 1048576 := by omega
    have HA : Hid (u a = 2147483648 + Y) := Lib.hid (by rw [← hY]; exact e1)
    rw [HA.out] at H ⊢
    have HY := Lib.hid hY
    have hle : len ≤ len2 ∨ (¬ len ≤ len2) := by omega
    clear h0 h1 h2 h4 h5 g1 g4 g5 e1 e2 hN hY
    rcases hle with hle | hle
    · have hml2 : m = len := by omega
      subst hml2
      have hle2 : (m : Int) ≤ (len2 : Int) := by omega
      clear hm hle
      go_enter Try.func21, Try.ntmps21
      go_wp2_with (first | (go_at_call 37; refine (H.out).mono ?_; rintro e wn ⟨rfl, hb'⟩; have hb := hb.trans hb'; clear hb'))
      go_loopw [25] (fun x wr => ∃ i : Nat, i ≤ m ∧ x = .int .i64 i ∧ SmAt n r N o M z st w wr i) (fun x _ => (m - intOf x).toNat)
      case atStart => exact ⟨0, by omega, rfl, .of_on hb, by rw [sm_none]; exact HR.out.on hb⟩
      case round =>
        obtain ⟨i, hi, rfl, hr⟩ := hrel
        have Hr := Lib.hid hr
        clear hr
        by_cases hlt : i < m
        · have hc2 := HS.out.2.2.1.cell Hr.out.kp (HS.out.2.2.2 i (by have := HM.out; omega))
          cases hst : st i <;> rw [hst] at hc2 <;> have Hst := Lib.hid hst <;> clear hst
          · go_wp2_with fail
            exact ⟨⟨i + 1, by omega, by go_num, ⟨Hr.out.kp, by rw [sm_off _ _ _ _ _ Hst.out]; exact Hr.out.ram⟩⟩, by simp [intOf]; omega⟩
          · have ST := store_some (z := fun j => z (i + j)) Hr.out.ram (fun j => HZ.out _) (o := o + i) (len := 1) (sb := sb) (so := so + i) (sc := c - i) (by have := HM.out; omega) (by have := HM.out; omega) (by omega) (HS.out.1.on_kp Hr.out.kp) (fun j hj => by
              rw [Nat.add_assoc]; exact HS.out.1.cell Hr.out.kp (HS.out.2.1 (i + j) (by have := HM.out; omega)))
            rw [show (2147483648 : Int) + ((o + i : Nat) : Int) = 2147483648 + Y + (i : Int) by have := HY.out; omega, sm_on _ _ _ _ _ Hst.out] at ST
            have ST := Lib.hid ST
            go_wp2_with (go_at_call 39; refine ST.out.mono ?_; rintro e w4 ⟨rfl, hk4, hr4⟩; have HF := Lib.hid (And.intro hk4 hr4); clear hk4 hr4)
            exact ⟨⟨i + 1, by omega, by go_num, ⟨Hr.out.kp.trans HF.out.1, HF.out.2⟩⟩, by simp [intOf]; omega⟩
        · obtain rfl : i = m := by omega
          go_wp2_with fail
          go_ret
          exact ⟨rfl, Hr.out.kp, Hr.out.ram⟩
    · have hml2 : m = len2 := by omega
      subst hml2
      have hle2 : (m : Int) < (len : Int) := by omega
      clear hm hle
      go_enter Try.func21, Try.ntmps21
      go_wp2_with (first | (go_at_call 37; refine (H.out).mono ?_; rintro e wn ⟨rfl, hb'⟩; have hb := hb.trans hb'; clear hb'))
      go_loopw [25] (fun x wr => ∃ i : Nat, i ≤ m ∧ x = .int .i64 i ∧ SmAt n r N o M z st w wr i) (fun x _ => (m - intOf x).toNat)
      case atStart => exact ⟨0, by omega, rfl, .of_on hb, by rw [sm_none]; exact HR.out.on hb⟩
      case round =>
        obtain ⟨i, hi, rfl, hr⟩ := hrel
        have Hr := Lib.hid hr
        clear hr
        by_cases hlt : i < m
        · have hc2 := HS.out.2.2.1.cell Hr.out.kp (HS.out.2.2.2 i (by have := HM.out; omega))
          cases hst : st i <;> rw [hst] at hc2 <;> have Hst := Lib.hid hst <;> clear hst
          · go_wp2_with fail
            exact ⟨⟨i + 1, by omega, by go_num, ⟨Hr.out.kp, by rw [sm_off _ _ _ _ _ Hst.out]; exact Hr.out.ram⟩⟩, by simp [intOf]; omega⟩
          · have ST := store_some (z := fun j => z (i + j)) Hr.out.ram (fun j => HZ.out _) (o := o + i) (len := 1) (sb := sb) (so := so + i) (sc := c - i) (by have := HM.out; omega) (by have := HM.out; omega) (by omega) (HS.out.1.on_kp Hr.out.kp) (fun j hj => by
              rw [Nat.add_assoc]; exact HS.out.1.cell Hr.out.kp (HS.out.2.1 (i + j) (by have := HM.out; omega)))
            rw [show (2147483648 : Int) + ((o + i : Nat) : Int) = 2147483648 + Y + (i : Int) by have := HY.out; omega, sm_on _ _ _ _ _ Hst.out] at ST
            have ST := Lib.hid ST
            go_wp2_with (go_at_call 39; refine ST.out.mono ?_; rintro e w4 ⟨rfl, hk4, hr4⟩; have HF := Lib.hid (And.intro hk4 hr4); clear hk4 hr4)
            exact ⟨⟨i + 1, by omega, by go_num, ⟨Hr.out.kp.trans HF.out.1, HF.out.2⟩⟩, by simp [intOf]; omega⟩
        · obtain rfl : i = m := by omega
          go_wp2_with fail
          go_ret
          exact ⟨rfl, Hr.out.kp, Hr.out.ram⟩
end Go.Proofs.Ytkjkmekkcnmjnaa
