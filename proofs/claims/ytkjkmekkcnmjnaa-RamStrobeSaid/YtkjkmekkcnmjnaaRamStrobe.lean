/- Proves that of what is written in part just the bytes change that the strobe names, at every place, whatever was there, and that the first test of the law holds. Conditions: none. -/
import Derived.Test.YtkjkmekkcnmjnaaRows
import Derived.Test.YtkjkmekkcnmjnaaRamG
import Derived.Test.YtkjkmekkcnmjnaaRow
import Derived.WalkKit
import Derived.ProofKit
import Derived.OpenShut
import Derived.Below
import Derived.Carry
import Derived.ShutString
namespace Go.Proofs.Ytkjkmekkcnmjnaa.ramStrobe
open Go.ChangeShapes Go.WideShapes Go.ChangeAt Go.RowKit
set_option linter.unusedVariables false

theorem own : ownKnob Try.prog.godebug = none := by kernel_rfl

set_option maxRecDepth 100000 in
set_option maxHeartbeats 4000000 in
theorem walk (w : World) (a0 : Int) (w0 : (Lit.int .u64 a0).wf = true) (a1 : Option Addr) (l1 c1 : Nat) (w1 : IsRow [.int .u8] w a1 l1) (m1 : (l1 ≤ c1 ∧ c1 ≤ maxLen) ∧ (a1 = none → l1 = 0 ∧ c1 = 0)) (a2 : Option Addr) (l2 c2 : Nat) (w2 : IsRow [.int .u8] w a2 l2) (m2 : (l2 ≤ c2 ∧ c2 ≤ maxLen) ∧ (a2 = none → l2 = 0 ∧ c2 = 0)) (a3 : Option Addr) (l3 c3 : Nat) (w3 : IsRow [.bool] w a3 l3) (m3 : (l3 ≤ c3 ∧ c3 ≤ maxLen) ∧ (a3 = none → l3 = 0 ∧ c3 = 0)) :
    Calls Try.prog 7 #[.int .u64 a0, .slice a1 l1 c1, .slice a2 l2 c2, .slice a3 l3 c3] w fun e w' => e = .returned (.bool true) ∧ Below w.heap.size w w' := by
  have ha0 : 0 ≤ a0 ∧ a0 ≤ 18446744073709551615 := by simpa [Lit.wf, IntKind.bits, IntKind.signed, IntKind.min, IntKind.max] using w0
  obtain ⟨z1, hz1, s1⟩ := row_bytes w1
  obtain ⟨z2, hz2, s2⟩ := row_bytes w2
  obtain ⟨st, s3⟩ := row_bools w3
  obtain ⟨Y, hY⟩ : ∃ Y : Int, a0 % 16000 = Y := ⟨_, rfl⟩
  have hY0 : 0 ≤ Y := by omega
  have hY1 : Y ≤ 16000 := by omega
  obtain ⟨o, ho⟩ : ∃ o : Nat, Y = (o : Int) := ⟨Y.toNat, by omega⟩
  have HY := Lib.hid (show Y = (o : Int) ∧ o ≤ 16000 by omega)
  clear ho
  obtain ⟨n, hn⟩ : ∃ n : Nat, min (min l1 l2) 100 = n := ⟨_, rfl⟩
  have hmin : ∀ wq, (Builtin.min_ #[3, 3, 3] 3 #[.int .i64 l1, .int .i64 l2, .int .i64 100]).run Try.prog wq = .ok (.int .i64 n) wq := fun wq => by
    simp [Builtin.min_, Builtin.min2]
    (repeat' split) <;> omega
  have HN := Lib.hid (show n ≤ l1 ∧ n ≤ l2 ∧ n ≤ 100 by omega)
  have i1 : (n : Int) ≤ (c1 : Int) := by omega
  have i2 : (n : Int) ≤ (c2 : Int) := by omega
  have i3 : (n : Int) ≤ 100 := by omega
  have i4 : (n : Int) ≤ (l2 : Int) := by omega
  have HM := Lib.hid (And.intro m1 (And.intro m2 m3))
  have HS := Lib.hid (And.intro s1 (And.intro s2 s3))
  have HZ := Lib.hid (And.intro hz1 hz2)
  have i5 : (l3 : Int) ≤ 9223372036854775807 := by have := w3.1; unfold maxLen at this; omega
  have HL3 := Lib.hid (show l3 ≤ maxLen from w3.1)
  clear w0 w1 w2 w3 m1 m2 m3 s1 s2 s3 hz1 hz2 hn
  have HO : Hid (On w w) := Lib.hid (On.refl w)
  go_enter Try.func7, Try.ntmps7
  go_wp2_with (first
    | (go_at_call 8; refine (new_ok 4 (by omega) _).mono ?_; rintro e w1 ⟨rfl, hb, hr⟩; have HO : Hid (On w w1) := Lib.hid (HO.out.trans hb); have HR := Lib.hid hr; clear hb hr)
    | (go_at_call 10; refine (awake_any _).mono ?_; rintro e w2 ⟨rfl, hb⟩; have HO : Hid (On w w2) := Lib.hid (HO.out.trans hb); have HR := Lib.hid (HR.out.on hb); clear hb))
  clear hmin ha0
  generalize w.heap.size + 1 = r at *
  refine (writeO HR.out HZ.out.1 (k := n) (o := o) (src_old HS.out.1 HN.out.1 HM.out.1.1.1 HM.out.1.1.2 (Nat.le_refl _) HO.out) (by have := HY.out; have := HN.out; omega) (by have := HY.out; omega)).mono ?_
  rintro e w3 ⟨rfl, hb, hr⟩
  have HO : Hid (On w w3) := Lib.hid (Kp.below HO.out (Nat.le_refl _) HO.out.size hb)
  have HR := Lib.hid hr
  clear hb hr
  go_wp2_with fail
  refine (someO HR.out HZ.out.2 (k := n) (k2 := l3) (o := o) (src_old HS.out.2.1 HN.out.2.1 HM.out.2.1.1.1 HM.out.2.1.1.2 (Nat.le_refl _) HO.out) (srcB_old HS.out.2.2 HL3.out (Nat.le_refl _) HO.out) (by have := HY.out; have := HN.out; omega) (by have := HY.out; omega)).mono ?_
  rintro e w4 ⟨rfl, hb, hr⟩
  have HO : Hid (On w w4) := Lib.hid (Kp.below HO.out (Nat.le_refl _) HO.out.size hb)
  have HR := Lib.hid hr
  clear hb hr
  go_wp2_with fail
  by_cases hn0 : n = 0
  · subst hn0
    refine (copy_zero (fun h => (HM.out.1.2 h).2) _).mono ?_
    rintro e w5 ⟨hb, a', c', rfl, hrs⟩
    have HO : Hid (On w w5) := Lib.hid (HO.out.trans hb)
    have HR := Lib.hid (HR.out.on hb)
    have HRS := Lib.hid hrs
    clear hb hrs
    go_wp2_with fail
    go_loopw [13] (fun x wr => x = .int .i64 0 ∧ wr = w5) (fun _ _ => 0)
    case atStart => exact ⟨rfl, rfl⟩
    case round =>
      obtain ⟨rfl, rfl⟩ := hrel
      go_wp2_with fail
      refine (readO HR.out (o := o) (k := 0) (by have := HY.out; omega) (by have := HY.out; omega) (by omega)).mono ?_
      rintro e w6 ⟨hb, B, hB, rfl, hg⟩
      have HO : Hid (On w w6) := Lib.hid (HO.out.trans hb)
      have H1 := Lib.hid (show RS w6 (.slice a' 0 c') [] from RS.on HRS.out hb)
      have H2 := Lib.hid (row_rs hg)
      clear hb hg hB
      go_wp2_with (go_at_call 19; refine (same_bytes_yes H2.out H1.out).mono ?_; rintro e wn ⟨rfl, rfl⟩)
      go_ret
      exact ⟨rfl, HO.out⟩
  · have hn1 : 0 < n := by omega
    clear hn0
    have HS1 := HS.out.1
    have : ∃ b off, a1 = some ⟨b, off, none⟩ ∧ b < w.heap.size ∧ ∀ i, i < l1 → w.cell? ⟨b, off + i, none⟩ = some (.int .u8 (z1 i)) := by
      rcases HS1 with h | h
      · have := HN.out; omega
      · exact h
    obtain ⟨b1, off1, rfl, hb1, hc1⟩ := this
    clear HS1
    refine (copy_some (z := z1) (by have := HN.out; omega) (fun _ => ⟨b1, off1, rfl, fun i hi => (Below.cell HO.out (p := ⟨b1, off1 + i, none⟩) hb1).trans (hc1 i (by have := HN.out; omega))⟩)).mono ?_
    rintro e w5 ⟨hb, v, rfl, hown⟩
    obtain ⟨g, gc, rfl, hg, hown⟩ := OwnB.of_owns hown hn1
    have HG : Hid (w.heap.size ≤ g) := Lib.hid (by have := HO.out.size; omega)
    have HO : Hid (On w w5) := Lib.hid (HO.out.trans hb)
    have HR := Lib.hid (HR.out.on hb)
    have HW := Lib.hid hown
    have HN1 := Lib.hid hn1
    clear hb hown hg hb1 hc1 hn1
    go_wp2_with fail
    go_loopw [13] (fun x wr => ∃ i : Nat, i ≤ n ∧ x = .int .i64 i ∧ Hid (On w wr ∧ RamAt w.heap.size r 4 (sm (ov (fun _ => 0) o n z1) o (min n l3) z2 st) wr ∧ OwnB g wr n (fun j => if j < i ∧ j < l3 ∧ st j = true then z2 j else z1 j))) (fun x _ => (n - intOf x).toNat)
    case atStart => exact ⟨0, by omega, rfl, Lib.hid ⟨HO.out, HR.out, HW.out.congr fun j hj => by rw [if_neg (by omega)]⟩⟩
    case round =>
      obtain ⟨i, hi, rfl, hr⟩ := hrel
      by_cases hlt : i < n ∧ i < l3
      · have e1 : (i : Int) < (n : Int) := by omega
        have e2 : (i : Int) < (l3 : Int) := by omega
        have e3 : (i : Int) < (l2 : Int) := by omega
        have : ∃ b off, a3 = some ⟨b, off, none⟩ ∧ b < w.heap.size ∧ ∀ i, i < l3 → w.cell? ⟨b, off + i, none⟩ = some (.bool (st i)) := by
          rcases HS.out.2.2 with h | h
          · omega
          · exact h
        obtain ⟨b3, off3, rfl, hb3, hc3⟩ := this
        have k3 := (Below.cell hr.out.1 (p := ⟨b3, off3 + i, none⟩) hb3).trans (hc3 i hlt.2)
        cases hst : st i <;> rw [hst] at k3
        · have HST := Lib.hid hst
          clear hb3 hc3 hst
          have HLT := Lib.hid hlt
          clear hlt
          go_wp2_with fail
          exact ⟨⟨i + 1, by omega, by go_num, Lib.hid ⟨hr.out.1, hr.out.2.1, hr.out.2.2.congr fun j hj => by
            by_cases hj2 : j = i
            · subst hj2; rw [if_neg (by omega), if_neg (by rw [HST.out]; simp)]
            · by_cases hj3 : j < i ∧ j < l3 ∧ st j = true
              · rw [if_pos hj3, if_pos ⟨by omega, hj3.2⟩]
              · rw [if_neg hj3, if_neg (fun h => hj3 ⟨by omega, h.2⟩)]⟩⟩, by simp [intOf]; omega⟩
        · have : ∃ b off, a2 = some ⟨b, off, none⟩ ∧ b < w.heap.size ∧ ∀ i, i < l2 → w.cell? ⟨b, off + i, none⟩ = some (.int .u8 (z2 i)) := by
            rcases HS.out.2.1 with h | h
            · omega
            · exact h
          obtain ⟨b2, off2, rfl, hb2, hc2⟩ := this
          have k2 := (Below.cell hr.out.1 (p := ⟨b2, off2 + i, none⟩) hb2).trans (hc2 i (by omega))
          obtain ⟨g1, g2⟩ := hr.out.2.2.cell hlt.1
          have HST := Lib.hid hst
          have HLT := Lib.hid hlt
          clear hb3 hc3 hst hb2 hc2 hlt
          go_wp2_with fail
          refine ⟨⟨i + 1, by omega, by go_num, Lib.hid ⟨On.set hr.out.1 _ _ HG.out, hr.out.2.2.ram hr.out.2.1 _ _, (hr.out.2.2.put HLT.out.1 (z2 i)).congr fun j hj => ?_⟩⟩, by simp [intOf]; omega⟩
          by_cases hj2 : j = i
          · subst hj2; rw [if_pos rfl, if_pos ⟨by omega, HLT.out.2, HST.out⟩]
          · rw [if_neg hj2]
            by_cases hj3 : j < i ∧ j < l3 ∧ st j = true
            · rw [if_pos hj3, if_pos ⟨by omega, hj3.2⟩]
            · rw [if_neg hj3, if_neg (fun h => hj3 ⟨by omega, h.2⟩)]
      · have HI := Lib.hid (show i = n ∨ l3 ≤ i by omega)
        by_cases e1 : (i : Int) < (n : Int)
        · have e2 : ¬ (i : Int) < (l3 : Int) := by omega
          clear hlt
          go_wp2_with fail
          refine (readO hr.out.2.1 (o := o) (k := n) (by have := HY.out; have := HN.out; omega) (by have := HY.out; omega) rfl).mono ?_
          rintro e w6 ⟨hb, B, hB, rfl, hg⟩
          have HO : Hid (On w w6) := Lib.hid (hr.out.1.trans hb)
          have H1 := Lib.hid (RS.on (hr.out.2.2.rs (c := gc) (zs := rdL (sm (ov (fun _ => 0) o n z1) o (min n l3) z2 st) o n) (rdL_len _ _ _) (fun j hj => by
            rw [rdL_get _ _ hj]
            unfold sm
            have hI := HI.out; by_cases hj3 : j < i ∧ j < l3 ∧ st j = true
            · rw [if_pos hj3, if_pos ⟨by omega, by omega, by rw [show o + j - o = j by omega]; exact hj3.2.2⟩, show o + j - o = j by omega]
            · rw [if_neg hj3, if_neg (fun h => hj3 ⟨by omega, by omega, by have := h.2.2; rw [show o + j - o = j by omega] at this; exact this⟩)]
              unfold ov
              rw [if_pos (by omega), show o + j - o = j by omega])) hb)
          have H2 := Lib.hid (row_rs hg)
          clear hb hg hB
          go_wp2_with (go_at_call 19; refine (same_bytes_yes H2.out H1.out).mono ?_; rintro e wn ⟨rfl, rfl⟩)
          go_ret
          exact ⟨rfl, HO.out⟩
        · clear hlt
          go_wp2_with fail
          refine (readO hr.out.2.1 (o := o) (k := n) (by have := HY.out; have := HN.out; omega) (by have := HY.out; omega) rfl).mono ?_
          rintro e w6 ⟨hb, B, hB, rfl, hg⟩
          have HO : Hid (On w w6) := Lib.hid (hr.out.1.trans hb)
          have H1 := Lib.hid (RS.on (hr.out.2.2.rs (c := gc) (zs := rdL (sm (ov (fun _ => 0) o n z1) o (min n l3) z2 st) o n) (rdL_len _ _ _) (fun j hj => by
            rw [rdL_get _ _ hj]
            unfold sm
            have hI := HI.out; by_cases hj3 : j < i ∧ j < l3 ∧ st j = true
            · rw [if_pos hj3, if_pos ⟨by omega, by omega, by rw [show o + j - o = j by omega]; exact hj3.2.2⟩, show o + j - o = j by omega]
            · rw [if_neg hj3, if_neg (fun h => hj3 ⟨by omega, by omega, by have := h.2.2; rw [show o + j - o = j by omega] at this; exact this⟩)]
              unfold ov
              rw [if_pos (by omega), show o + j - o = j by omega])) hb)
          have H2 := Lib.hid (row_rs hg)
          clear hb hg hB
          go_wp2_with (go_at_call 19; refine (same_bytes_yes H2.out H1.out).mono ?_; rintro e wn ⟨rfl, rfl⟩)
          go_ret
          exact ⟨rfl, HO.out⟩

set_option maxRecDepth 100000 in
theorem lifted (os : Os) (started : os.Started) (H : Type) (enc : TypeId × Value → H) :
    ReturnsInHanded {} Try.checked os 7 .any (Rows.ramStrobeSpec.pre6 enc Try.prog Try.f7 Rows.ramStrobeRow.domain false) (Rows.ramStrobeSpec.post enc Try.prog Try.f7 false true false false) := by
  refine returnsInHanded_of_change (C := Try.checked) own started (by kernel_rfl) Try.func7
    (ChangeSpec.witness6 (enc := enc) (C := Try.checked) false ⟨#[], #[.int .u64 0, .slice none 0 0, .slice none 0 0, .slice none 0 0], []⟩ 12 (by kernel_rfl) (by kernel_rfl) (by kernel_rfl) (by kernel_rfl)) ?_
  intro W base args ds gs before hval0 hW hcnd _
  have hval : ∀ (j : Nat) t v, Try.f7.params[j]? = some t → args[j]? = some v → Value.okWide Try.prog W .any base t v := hval0
  have hW' := hW
  obtain ⟨p, q, hA0, hV, rfl, hfz, hnd⟩ := hW
  have hA : DataW.TrodAll enc Try.prog W 0 (fun _ => true) true Try.f7.params.toList args.toList ds p := hA0
  rw [Try.params7] at hA hval
  obtain ⟨v0, vs0, d0, ds0, p0, q0, hargs, rfl, rfl, h0, r0⟩ := trodAll_cons hA
  obtain ⟨v1, vs1, d1, ds1, p1, q1, rfl, rfl, rfl, h1, r1⟩ := trodAll_cons r0
  obtain ⟨v2, vs2, d2, ds2, p2, q2, rfl, rfl, rfl, h2, r2⟩ := trodAll_cons r1
  obtain ⟨v3, vs3, d3, ds3, p3, q3, rfl, rfl, rfl, h3, r3⟩ := trodAll_cons r2
  obtain ⟨rfl, rfl, rfl⟩ := trodAll_nil r3
  obtain rfl : args = #[v0, v1, v2, v3] := by cases args; simp_all
  obtain ⟨rfl, rfl⟩ := trodVars_none hV
  obtain ⟨a0, rfl, rfl, rfl, w0⟩ := open_int Try.underlying31 (hval 0 31 v0 rfl rfl) h0
  have k1 := h1
  have lt1 : ∀ x ∈ p1, x.block < W.heap.size := fun x hx => by have := hW'.lt x (by simp [hx]); simpa using this
  obtain ⟨a1, l1, c1, rfl, w1⟩ := open_row 12 [.int .u8] (by kernel_rfl) (by kernel_rfl) (by decide) Try.underlying32 (hval 1 32 v1 rfl rfl) h1
  clear h1
  have m1 := open_caps Try.underlying32 k1
  have k2 := h2
  have lt2 : ∀ x ∈ p2, x.block < W.heap.size := fun x hx => by have := hW'.lt x (by simp [hx]); simpa using this
  obtain ⟨a2, l2, c2, rfl, w2⟩ := open_row 12 [.int .u8] (by kernel_rfl) (by kernel_rfl) (by decide) Try.underlying32 (hval 2 32 v2 rfl rfl) h2
  clear h2
  have m2 := open_caps Try.underlying32 k2
  have k3 := h3
  have lt3 : ∀ x ∈ p3, x.block < W.heap.size := fun x hx => by have := hW'.lt x (by simp [hx]); simpa using this
  obtain ⟨a3, l3, c3, rfl, w3⟩ := open_row 12 [.bool] (by kernel_rfl) (by kernel_rfl) (by decide) Try.underlying33 (hval 3 33 v3 rfl rfl) h3
  clear h3
  have m3 := open_caps Try.underlying33 k3
  clear hA0 hval0
  refine (walk W a0 w0 a1 l1 c1 w1 m1 a2 l2 c2 w2 m2 a3 l3 c3 w3 m3).mono fun e W' ⟨he, bel⟩ => ?_
  subst he
  exact ⟨_, rfl, _, _, _, [], _, [], hW', trodAll_mk1 (shut_bool Try.underlying4 _), (trodAll_cons_mk (shut_int Try.underlying31 w0) (trodAll_cons_mk (Below.trod (by kernel_rfl) (by kernel_rfl) (of_decide_eq_true (by kernel_rfl)) k1 bel lt1) (trodAll_cons_mk (Below.trod (by kernel_rfl) (by kernel_rfl) (of_decide_eq_true (by kernel_rfl)) k2 bel lt2) (trodAll_cons_mk (Below.trod (by kernel_rfl) (by kernel_rfl) (of_decide_eq_true (by kernel_rfl)) k3 bel lt3) trodAll_mk0)))), rfl, bel.frame _, fun h => by cases h⟩

theorem over : Rows.ramStrobeRow.holds Try.pinned (OpenSpec.ofChange Rows.ramStrobeSpec) :=
  OpenClaim.holds_of_wide 7 Try.f7 rfl rfl rfl rfl rfl rfl rfl ⟨rfl, rfl, rfl, rfl, rfl⟩ rfl rfl rfl rfl rfl (by kernel_rfl) Try.func7 (by kernel_rfl)
    (of_decide_eq_true (by kernel_rfl)) (by unfold Func.isWrapper; first | (rw [if_pos (by decide +kernel)]; kernel_rfl) | (rw [if_neg (by decide +kernel)]; exact ⟨rfl, rfl⟩))
    (fun os started H enc _ => lifted os started H enc)

theorem proved : Rows.RamStrobeSaid :=
  over
#print axioms proved
end Go.Proofs.Ytkjkmekkcnmjnaa.ramStrobe
