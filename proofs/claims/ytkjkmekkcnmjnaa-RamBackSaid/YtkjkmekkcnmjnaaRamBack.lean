/- Proves that what was written is read, that nothing beside it was changed, and that a word put back as it was read changes nothing, for every slice of at most 2000 bytes at every place that the law draws, and that the first test of the law holds. Conditions: none. -/
import Derived.Test.YtkjkmekkcnmjnaaRows
import Derived.Test.YtkjkmekkcnmjnaaRamH
import Derived.Test.YtkjkmekkcnmjnaaRow
import Derived.WalkKit
import Derived.ProofKit
import Derived.OpenShut
import Derived.Below
import Derived.Carry
import Derived.ShutString
namespace Go.Proofs.Ytkjkmekkcnmjnaa.ramBack
open Go.ChangeShapes Go.WideShapes Go.ChangeAt Go.RowKit
set_option linter.unusedVariables false

theorem own : ownKnob Try.prog.godebug = none := by kernel_rfl

set_option maxRecDepth 100000 in
set_option maxHeartbeats 8000000 in
theorem walk (w : World) (a0 : Int) (w0 : (Lit.int .u64 a0).wf = true) (a1 : Option Addr) (l1 c1 : Nat) (w1 : IsRow [.int .u8] w a1 l1) (m1 : (l1 ≤ c1 ∧ c1 ≤ maxLen) ∧ (a1 = none → l1 = 0 ∧ c1 = 0)) (a2 : Int) (w2 : (Lit.int .u64 a2).wf = true) (a3 : Int) (w3 : (Lit.int .i64 a3).wf = true) :
    Calls Try.prog 4 #[.int .u64 a0, .slice a1 l1 c1, .int .u64 a2, .int .i64 a3] w fun e w' => e = .returned (.bool true) ∧ Below w.heap.size w w' := by
  have ha0 : 0 ≤ a0 ∧ a0 ≤ 18446744073709551615 := by simpa [Lit.wf, IntKind.bits, IntKind.signed, IntKind.min, IntKind.max] using w0
  have ha2 : 0 ≤ a2 ∧ a2 ≤ 18446744073709551615 := by simpa [Lit.wf, IntKind.bits, IntKind.signed, IntKind.min, IntKind.max] using w2
  have ha3 : a3 ≤ 9223372036854775807 := by have h : -9223372036854775808 ≤ a3 ∧ a3 ≤ 9223372036854775807 := by simpa [Lit.wf, IntKind.bits, IntKind.signed, IntKind.min, IntKind.max] using w3
                                            exact h.2
  obtain ⟨z1, hz1, s1⟩ := row_bytes w1
  obtain ⟨Y, hY⟩ : ∃ Y : Int, a0 % 30768 = Y := ⟨_, rfl⟩
  have hY0 : 0 ≤ Y := by omega
  have hY1 : Y < 30768 := by omega
  obtain ⟨X, hX⟩ : ∃ X : Int, a2 % 32768 = X := ⟨_, rfl⟩
  have hX0 : 0 ≤ X := by omega
  have hX1 : X < 32768 := by omega
  obtain ⟨o, ho⟩ : ∃ o : Nat, Y = (o : Int) := ⟨Y.toNat, by omega⟩
  obtain ⟨q, hq⟩ : ∃ q : Nat, X = (q : Int) := ⟨X.toNat, by omega⟩
  have HY := Lib.hid (show Y = (o : Int) ∧ o < 30768 ∧ X = (q : Int) ∧ q < 32768 by omega)
  clear ho hq
  have HM := Lib.hid m1
  have HS := Lib.hid s1
  have HZ := Lib.hid hz1
  have H3 := Lib.hid (And.intro ha3 w3)
  have hl1 : (l1 : Int) ≤ 9223372036854775807 := by have := w1.1; unfold maxLen at this; omega
  clear w0 w1 w2 w3 m1 s1 hz1
  have HO : Hid (On w w) := Lib.hid (On.refl w)
  by_cases hl : (l1 : Int) ≤ 2000
  · go_enter Try.func4, Try.ntmps4
    go_wp2_with (first
      | (go_at_call 8; refine (new_ok 8 (by omega) _).mono ?_; rintro e w1 ⟨rfl, hb, hr⟩; have HO : Hid (On w w1) := Lib.hid (HO.out.trans hb); have HR := Lib.hid hr; clear hb hr)
      | (go_at_call 10; refine (awake_any _).mono ?_; rintro e w2 ⟨rfl, hb⟩; have HO : Hid (On w w2) := Lib.hid (HO.out.trans hb); have HR := Lib.hid (HR.out.on hb); clear hb))
    clear ha0 ha2 ha3 hY hX
    have HL := Lib.hid hl
    generalize w.heap.size + 1 = r at *
    refine (readO HR.out (o := q) (k := 1) (by have := HY.out; omega) (by have := HY.out; omega) (by omega)).mono ?_
    rintro e w3 ⟨hb, B1, hB, rfl, hg⟩
    have HO : Hid (On w w3) := Lib.hid (HO.out.trans hb)
    have HR := Lib.hid (HR.out.on hb)
    have HG1 := Lib.hid hg
    clear hb hB hg
    go_wp2_with fail
    refine (writeO HR.out HZ.out (k := l1) (o := o) (src_old HS.out (Nat.le_refl _) HM.out.1.1 HM.out.1.2 (Nat.le_refl _) HO.out) (by have := HY.out; have := HL.out; omega) (by have := HY.out; omega)).mono ?_
    rintro e w4 ⟨rfl, hb, hr⟩
    have HO : Hid (On w w4) := Lib.hid (Kp.below HO.out (Nat.le_refl _) HO.out.size hb)
    have HG1 := Lib.hid (hb.keep HG1.out (by decide))
    have HR := Lib.hid hr
    clear hb hr
    go_wp2_with fail
    refine (readO HR.out (o := o) (k := l1) (by have := HY.out; have := HL.out; omega) (by have := HY.out; omega) rfl).mono ?_
    rintro e w5 ⟨hb, B2, hB, rfl, hg⟩
    have HO : Hid (On w w5) := Lib.hid (HO.out.trans hb)
    have HG1 := Lib.hid (hb.keep HG1.out)
    have HR := Lib.hid (HR.out.on hb)
    have HG2 := Lib.hid hg
    clear hb hB hg
    go_wp2_with fail
    refine (readO HR.out (o := q) (k := 1) (by have := HY.out; omega) (by have := HY.out; omega) (by omega)).mono ?_
    rintro e w6 ⟨hb, B3, hB, rfl, hg⟩
    have HO : Hid (On w w6) := Lib.hid (HO.out.trans hb)
    have HG1 := Lib.hid (hb.keep HG1.out)
    have HG2 := Lib.hid (hb.keep HG2.out)
    have HR := Lib.hid (HR.out.on hb)
    have HG3 := Lib.hid hg
    clear hb hB hg
    have C1 := Lib.hid (conv_rs (row_rs HG2.out))
    have C2 := Lib.hid (conv_old (zs := rdL (ov (fun _ => 0) o l1 z1) o l1) HS.out HO.out (rdL_len _ _ _) (c := c1) (fun i hi => by rw [rdL_get _ _ hi]; unfold ov; rw [if_pos (by omega), show o + i - o = i by omega]))
    have hx : X < Y ∨ (Y ≤ X ∧ X < Y + (l1 : Int)) ∨ Y + (l1 : Int) ≤ X := by omega
    have hs : (a3 = 1 ∨ a3 = 2 ∨ a3 = 4 ∨ a3 = 8) ∨ ¬ (a3 = 1 ∨ a3 = 2 ∨ a3 = 4 ∨ a3 = 8) := by omega
    rcases hx with hx | ⟨hx, hx2⟩ | hx
    · have E3 : Hid (rdL (fun _ => 0) q 1 = rdL (ov (fun _ => 0) o l1 z1) q 1) := Lib.hid (by rw [rdL_one, rdL_one]; unfold ov; rw [if_neg (by have := HY.out; omega)])
      have C3 := Lib.hid (conv_rs (row_rs (o := q) (M := fun _ => 0) HG1.out))
      rw [E3.out] at C3
      have C4 := Lib.hid (conv_rs (row_rs HG3.out))
      go_wp2_with (go_at_call 19; first | (refine (same_conv C1.out C2.out).mono ?_; rintro e wn ⟨rfl, rfl⟩) | (refine (same_conv C3.out C4.out).mono ?_; rintro e wn ⟨rfl, rfl⟩))
      clear hx
      rcases hs with hs | hs
      · have OKK : ∀ (k : Nat), a3 = (k : Int) → (k = 1 ∨ k = 2 ∨ k = 4 ∨ k = 8) → True := fun _ _ _ => trivial
        clear OKK
        rcases hs with rfl | rfl | rfl | rfl
        · refine (wordO HR.out (o := q) (k := 1) (by omega) (by have := HY.out; omega) (by have := HY.out; omega) (by have := HY.out; omega) (by omega)).mono ?_
          rintro e w7 ⟨rfl, hb⟩
          have HO : Hid (On w w7) := Lib.hid (HO.out.trans hb)
          have HG3 := Lib.hid (hb.keep HG3.out)
          have HR := Lib.hid (HR.out.on hb)
          clear hb
          go_wp2_with fail
          refine (putO HR.out (o := q) (k := 1) (by omega) (by have := HY.out; omega) (by have := HY.out; omega) (by have := HY.out; omega) rfl (by omega)).mono ?_
          rintro e w8 ⟨rfl, hb, hr⟩
          have HO : Hid (On w w8) := Lib.hid (Kp.below HO.out (Nat.le_refl _) HO.out.size hb)
          have HG3 := Lib.hid (hb.keep HG3.out (by decide))
          have HB := Lib.hid HR.out.byte
          have HR := Lib.hid hr
          clear hb hr
          go_wp2_with fail
          refine (readfn HR.out (o := q) (by have := HY.out; omega) (by have := HY.out; omega)).mono ?_
          rintro e w9 ⟨hb, B4, hB, rfl, hg⟩
          have HO : Hid (On w w9) := Lib.hid (HO.out.trans hb)
          have HG3 := Lib.hid (hb.keep HG3.out)
          have C5 := conv_rs (row_rs hg)
          have C6 := Lib.hid (conv_rs (row_rs HG3.out))
          rw [rdL_one, show ov (ov (fun _ => 0) o l1 z1) q 1 (byteAt (wordOf (rdL (ov (fun _ => 0) o l1 z1) q 1))) q = ov (fun _ => 0) o l1 z1 q by
            rw [show ov (ov (fun _ => 0) o l1 z1) q 1 (byteAt (wordOf (rdL (ov (fun _ => 0) o l1 z1) q 1))) q = byteAt (wordOf (rdL (ov (fun _ => 0) o l1 z1) q 1)) 0 by unfold ov; rw [if_pos (by omega), Nat.sub_self]]
            rw [byteAt_word (rdL_byte HB.out _ _) (by rw [rdL_len]; omega), rdL_get _ _ (by omega), Nat.add_zero], ← rdL_one] at C5
          have C5 := Lib.hid C5
          clear hb hB hg
          go_wp2_with (go_at_call 19; refine (same_conv C6.out C5.out).mono ?_; rintro e wn ⟨rfl, rfl⟩)
          go_ret
          exact ⟨rfl, HO.out⟩
        · by_cases hm : q % 2 = 0
          · refine (wordO HR.out (o := q) (k := 2) (by omega) (by have := HY.out; omega) (by have := HY.out; omega) (by have := HY.out; omega) (by omega)).mono ?_
            rintro e w7 ⟨rfl, hb⟩
            have HO : Hid (On w w7) := Lib.hid (HO.out.trans hb)
            have HG3 := Lib.hid (hb.keep HG3.out)
            have HR := Lib.hid (HR.out.on hb)
            clear hb
            go_wp2_with fail
            refine (putO HR.out (o := q) (k := 2) (by omega) (by have := HY.out; omega) (by have := HY.out; omega) (by have := HY.out; omega) rfl (by omega)).mono ?_
            rintro e w8 ⟨rfl, hb, hr⟩
            have HO : Hid (On w w8) := Lib.hid (Kp.below HO.out (Nat.le_refl _) HO.out.size hb)
            have HG3 := Lib.hid (hb.keep HG3.out (by decide))
            have HB := Lib.hid HR.out.byte
            have HR := Lib.hid hr
            clear hb hr
            go_wp2_with fail
            refine (readfn HR.out (o := q) (by have := HY.out; omega) (by have := HY.out; omega)).mono ?_
            rintro e w9 ⟨hb, B4, hB, rfl, hg⟩
            have HO : Hid (On w w9) := Lib.hid (HO.out.trans hb)
            have HG3 := Lib.hid (hb.keep HG3.out)
            have C5 := conv_rs (row_rs hg)
            have C6 := Lib.hid (conv_rs (row_rs HG3.out))
            rw [rdL_one, show ov (ov (fun _ => 0) o l1 z1) q 2 (byteAt (wordOf (rdL (ov (fun _ => 0) o l1 z1) q 2))) q = ov (fun _ => 0) o l1 z1 q by
              rw [show ov (ov (fun _ => 0) o l1 z1) q 2 (byteAt (wordOf (rdL (ov (fun _ => 0) o l1 z1) q 2))) q = byteAt (wordOf (rdL (ov (fun _ => 0) o l1 z1) q 2)) 0 by unfold ov; rw [if_pos (by omega), Nat.sub_self]]
              rw [byteAt_word (rdL_byte HB.out _ _) (by rw [rdL_len]; omega), rdL_get _ _ (by omega), Nat.add_zero], ← rdL_one] at C5
            have C5 := Lib.hid C5
            clear hb hB hg
            go_wp2_with (go_at_call 19; refine (same_conv C6.out C5.out).mono ?_; rintro e wn ⟨rfl, rfl⟩)
            go_ret
            exact ⟨rfl, HO.out⟩
          · have hm2 : ((2147483648 + X) % 2 != 0) = true := by have := HY.out; simp; omega
            refine (word_mis HR.out (o := q) (k := 2) (by have := HY.out; omega) (by have := HY.out; omega) (by omega) hm (by omega)).mono ?_
            rintro e w7 ⟨rfl, hb⟩
            have HO : Hid (On w w7) := Lib.hid (HO.out.trans hb)
            clear hb hm
            go_wp2_with fail
            go_ret
            exact ⟨rfl, HO.out⟩
        · by_cases hm : q % 4 = 0
          · refine (wordO HR.out (o := q) (k := 4) (by omega) (by have := HY.out; omega) (by have := HY.out; omega) (by have := HY.out; omega) (by omega)).mono ?_
            rintro e w7 ⟨rfl, hb⟩
            have HO : Hid (On w w7) := Lib.hid (HO.out.trans hb)
            have HG3 := Lib.hid (hb.keep HG3.out)
            have HR := Lib.hid (HR.out.on hb)
            clear hb
            go_wp2_with fail
            refine (putO HR.out (o := q) (k := 4) (by omega) (by have := HY.out; omega) (by have := HY.out; omega) (by have := HY.out; omega) rfl (by omega)).mono ?_
            rintro e w8 ⟨rfl, hb, hr⟩
            have HO : Hid (On w w8) := Lib.hid (Kp.below HO.out (Nat.le_refl _) HO.out.size hb)
            have HG3 := Lib.hid (hb.keep HG3.out (by decide))
            have HB := Lib.hid HR.out.byte
            have HR := Lib.hid hr
            clear hb hr
            go_wp2_with fail
            refine (readfn HR.out (o := q) (by have := HY.out; omega) (by have := HY.out; omega)).mono ?_
            rintro e w9 ⟨hb, B4, hB, rfl, hg⟩
            have HO : Hid (On w w9) := Lib.hid (HO.out.trans hb)
            have HG3 := Lib.hid (hb.keep HG3.out)
            have C5 := conv_rs (row_rs hg)
            have C6 := Lib.hid (conv_rs (row_rs HG3.out))
            rw [rdL_one, show ov (ov (fun _ => 0) o l1 z1) q 4 (byteAt (wordOf (rdL (ov (fun _ => 0) o l1 z1) q 4))) q = ov (fun _ => 0) o l1 z1 q by
              rw [show ov (ov (fun _ => 0) o l1 z1) q 4 (byteAt (wordOf (rdL (ov (fun _ => 0) o l1 z1) q 4))) q = byteAt (wordOf (rdL (ov (fun _ => 0) o l1 z1) q 4)) 0 by unfold ov; rw [if_pos (by omega), Nat.sub_self]]
              rw [byteAt_word (rdL_byte HB.out _ _) (by rw [rdL_len]; omega), rdL_get _ _ (by omega), Nat.add_zero], ← rdL_one] at C5
            have C5 := Lib.hid C5
            clear hb hB hg
            go_wp2_with (go_at_call 19; refine (same_conv C6.out C5.out).mono ?_; rintro e wn ⟨rfl, rfl⟩)
            go_ret
            exact ⟨rfl, HO.out⟩
          · have hm2 : ((2147483648 + X) % 4 != 0) = true := by have := HY.out; simp; omega
            refine (word_mis HR.out (o := q) (k := 4) (by have := HY.out; omega) (by have := HY.out; omega) (by omega) hm (by omega)).mono ?_
            rintro e w7 ⟨rfl, hb⟩
            have HO : Hid (On w w7) := Lib.hid (HO.out.trans hb)
            clear hb hm
            go_wp2_with fail
            go_ret
            exact ⟨rfl, HO.out⟩
        · by_cases hm : q % 8 = 0
          · refine (wordO HR.out (o := q) (k := 8) (by omega) (by have := HY.out; omega) (by have := HY.out; omega) (by have := HY.out; omega) (by omega)).mono ?_
            rintro e w7 ⟨rfl, hb⟩
            have HO : Hid (On w w7) := Lib.hid (HO.out.trans hb)
            have HG3 := Lib.hid (hb.keep HG3.out)
            have HR := Lib.hid (HR.out.on hb)
            clear hb
            go_wp2_with fail
            refine (putO HR.out (o := q) (k := 8) (by omega) (by have := HY.out; omega) (by have := HY.out; omega) (by have := HY.out; omega) rfl (by omega)).mono ?_
            rintro e w8 ⟨rfl, hb, hr⟩
            have HO : Hid (On w w8) := Lib.hid (Kp.below HO.out (Nat.le_refl _) HO.out.size hb)
            have HG3 := Lib.hid (hb.keep HG3.out (by decide))
            have HB := Lib.hid HR.out.byte
            have HR := Lib.hid hr
            clear hb hr
            go_wp2_with fail
            refine (readfn HR.out (o := q) (by have := HY.out; omega) (by have := HY.out; omega)).mono ?_
            rintro e w9 ⟨hb, B4, hB, rfl, hg⟩
            have HO : Hid (On w w9) := Lib.hid (HO.out.trans hb)
            have HG3 := Lib.hid (hb.keep HG3.out)
            have C5 := conv_rs (row_rs hg)
            have C6 := Lib.hid (conv_rs (row_rs HG3.out))
            rw [rdL_one, show ov (ov (fun _ => 0) o l1 z1) q 8 (byteAt (wordOf (rdL (ov (fun _ => 0) o l1 z1) q 8))) q = ov (fun _ => 0) o l1 z1 q by
              rw [show ov (ov (fun _ => 0) o l1 z1) q 8 (byteAt (wordOf (rdL (ov (fun _ => 0) o l1 z1) q 8))) q = byteAt (wordOf (rdL (ov (fun _ => 0) o l1 z1) q 8)) 0 by unfold ov; rw [if_pos (by omega), Nat.sub_self]]
              rw [byteAt_word (rdL_byte HB.out _ _) (by rw [rdL_len]; omega), rdL_get _ _ (by omega), Nat.add_zero], ← rdL_one] at C5
            have C5 := Lib.hid C5
            clear hb hB hg
            go_wp2_with (go_at_call 19; refine (same_conv C6.out C5.out).mono ?_; rintro e wn ⟨rfl, rfl⟩)
            go_ret
            exact ⟨rfl, HO.out⟩
          · have hm2 : ((2147483648 + X) % 8 != 0) = true := by have := HY.out; simp; omega
            refine (word_mis HR.out (o := q) (k := 8) (by have := HY.out; omega) (by have := HY.out; omega) (by omega) hm (by omega)).mono ?_
            rintro e w7 ⟨rfl, hb⟩
            have HO : Hid (On w w7) := Lib.hid (HO.out.trans hb)
            clear hb hm
            go_wp2_with fail
            go_ret
            exact ⟨rfl, HO.out⟩
      · have hs1 : ¬ a3 = 1 := by omega
        refine (word_size HR.out (o := q) (by have := HY.out; omega) (by have := HY.out; omega) H3.out.1 hs).mono ?_
        rintro e w7 ⟨rfl, hb⟩
        have HO : Hid (On w w7) := Lib.hid (HO.out.trans hb)
        clear hb hs hs1
        go_wp2_with fail
        go_ret
        exact ⟨rfl, HO.out⟩
    · go_wp2_with (go_at_call 19; refine (same_conv C1.out C2.out).mono ?_; rintro e wn ⟨rfl, rfl⟩)
      clear hx hx2
      rcases hs with hs | hs
      · have OKK : ∀ (k : Nat), a3 = (k : Int) → (k = 1 ∨ k = 2 ∨ k = 4 ∨ k = 8) → True := fun _ _ _ => trivial
        clear OKK
        rcases hs with rfl | rfl | rfl | rfl
        · refine (wordO HR.out (o := q) (k := 1) (by omega) (by have := HY.out; omega) (by have := HY.out; omega) (by have := HY.out; omega) (by omega)).mono ?_
          rintro e w7 ⟨rfl, hb⟩
          have HO : Hid (On w w7) := Lib.hid (HO.out.trans hb)
          have HG3 := Lib.hid (hb.keep HG3.out)
          have HR := Lib.hid (HR.out.on hb)
          clear hb
          go_wp2_with fail
          refine (putO HR.out (o := q) (k := 1) (by omega) (by have := HY.out; omega) (by have := HY.out; omega) (by have := HY.out; omega) rfl (by omega)).mono ?_
          rintro e w8 ⟨rfl, hb, hr⟩
          have HO : Hid (On w w8) := Lib.hid (Kp.below HO.out (Nat.le_refl _) HO.out.size hb)
          have HG3 := Lib.hid (hb.keep HG3.out (by decide))
          have HB := Lib.hid HR.out.byte
          have HR := Lib.hid hr
          clear hb hr
          go_wp2_with fail
          refine (readfn HR.out (o := q) (by have := HY.out; omega) (by have := HY.out; omega)).mono ?_
          rintro e w9 ⟨hb, B4, hB, rfl, hg⟩
          have HO : Hid (On w w9) := Lib.hid (HO.out.trans hb)
          have HG3 := Lib.hid (hb.keep HG3.out)
          have C5 := conv_rs (row_rs hg)
          have C6 := Lib.hid (conv_rs (row_rs HG3.out))
          rw [rdL_one, show ov (ov (fun _ => 0) o l1 z1) q 1 (byteAt (wordOf (rdL (ov (fun _ => 0) o l1 z1) q 1))) q = ov (fun _ => 0) o l1 z1 q by
            rw [show ov (ov (fun _ => 0) o l1 z1) q 1 (byteAt (wordOf (rdL (ov (fun _ => 0) o l1 z1) q 1))) q = byteAt (wordOf (rdL (ov (fun _ => 0) o l1 z1) q 1)) 0 by unfold ov; rw [if_pos (by omega), Nat.sub_self]]
            rw [byteAt_word (rdL_byte HB.out _ _) (by rw [rdL_len]; omega), rdL_get _ _ (by omega), Nat.add_zero], ← rdL_one] at C5
          have C5 := Lib.hid C5
          clear hb hB hg
          go_wp2_with (go_at_call 19; refine (same_conv C6.out C5.out).mono ?_; rintro e wn ⟨rfl, rfl⟩)
          go_ret
          exact ⟨rfl, HO.out⟩
        · by_cases hm : q % 2 = 0
          · refine (wordO HR.out (o := q) (k := 2) (by omega) (by have := HY.out; omega) (by have := HY.out; omega) (by have := HY.out; omega) (by omega)).mono ?_
            rintro e w7 ⟨rfl, hb⟩
            have HO : Hid (On w w7) := Lib.hid (HO.out.trans hb)
            have HG3 := Lib.hid (hb.keep HG3.out)
            have HR := Lib.hid (HR.out.on hb)
            clear hb
            go_wp2_with fail
            refine (putO HR.out (o := q) (k := 2) (by omega) (by have := HY.out; omega) (by have := HY.out; omega) (by have := HY.out; omega) rfl (by omega)).mono ?_
            rintro e w8 ⟨rfl, hb, hr⟩
            have HO : Hid (On w w8) := Lib.hid (Kp.below HO.out (Nat.le_refl _) HO.out.size hb)
            have HG3 := Lib.hid (hb.keep HG3.out (by decide))
            have HB := Lib.hid HR.out.byte
            have HR := Lib.hid hr
            clear hb hr
            go_wp2_with fail
            refine (readfn HR.out (o := q) (by have := HY.out; omega) (by have := HY.out; omega)).mono ?_
            rintro e w9 ⟨hb, B4, hB, rfl, hg⟩
            have HO : Hid (On w w9) := Lib.hid (HO.out.trans hb)
            have HG3 := Lib.hid (hb.keep HG3.out)
            have C5 := conv_rs (row_rs hg)
            have C6 := Lib.hid (conv_rs (row_rs HG3.out))
            rw [rdL_one, show ov (ov (fun _ => 0) o l1 z1) q 2 (byteAt (wordOf (rdL (ov (fun _ => 0) o l1 z1) q 2))) q = ov (fun _ => 0) o l1 z1 q by
              rw [show ov (ov (fun _ => 0) o l1 z1) q 2 (byteAt (wordOf (rdL (ov (fun _ => 0) o l1 z1) q 2))) q = byteAt (wordOf (rdL (ov (fun _ => 0) o l1 z1) q 2)) 0 by unfold ov; rw [if_pos (by omega), Nat.sub_self]]
              rw [byteAt_word (rdL_byte HB.out _ _) (by rw [rdL_len]; omega), rdL_get _ _ (by omega), Nat.add_zero], ← rdL_one] at C5
            have C5 := Lib.hid C5
            clear hb hB hg
            go_wp2_with (go_at_call 19; refine (same_conv C6.out C5.out).mono ?_; rintro e wn ⟨rfl, rfl⟩)
            go_ret
            exact ⟨rfl, HO.out⟩
          · have hm2 : ((2147483648 + X) % 2 != 0) = true := by have := HY.out; simp; omega
            refine (word_mis HR.out (o := q) (k := 2) (by have := HY.out; omega) (by have := HY.out; omega) (by omega) hm (by omega)).mono ?_
            rintro e w7 ⟨rfl, hb⟩
            have HO : Hid (On w w7) := Lib.hid (HO.out.trans hb)
            clear hb hm
            go_wp2_with fail
            go_ret
            exact ⟨rfl, HO.out⟩
        · by_cases hm : q % 4 = 0
          · refine (wordO HR.out (o := q) (k := 4) (by omega) (by have := HY.out; omega) (by have := HY.out; omega) (by have := HY.out; omega) (by omega)).mono ?_
            rintro e w7 ⟨rfl, hb⟩
            have HO : Hid (On w w7) := Lib.hid (HO.out.trans hb)
            have HG3 := Lib.hid (hb.keep HG3.out)
            have HR := Lib.hid (HR.out.on hb)
            clear hb
            go_wp2_with fail
            refine (putO HR.out (o := q) (k := 4) (by omega) (by have := HY.out; omega) (by have := HY.out; omega) (by have := HY.out; omega) rfl (by omega)).mono ?_
            rintro e w8 ⟨rfl, hb, hr⟩
            have HO : Hid (On w w8) := Lib.hid (Kp.below HO.out (Nat.le_refl _) HO.out.size hb)
            have HG3 := Lib.hid (hb.keep HG3.out (by decide))
            have HB := Lib.hid HR.out.byte
            have HR := Lib.hid hr
            clear hb hr
            go_wp2_with fail
            refine (readfn HR.out (o := q) (by have := HY.out; omega) (by have := HY.out; omega)).mono ?_
            rintro e w9 ⟨hb, B4, hB, rfl, hg⟩
            have HO : Hid (On w w9) := Lib.hid (HO.out.trans hb)
            have HG3 := Lib.hid (hb.keep HG3.out)
            have C5 := conv_rs (row_rs hg)
            have C6 := Lib.hid (conv_rs (row_rs HG3.out))
            rw [rdL_one, show ov (ov (fun _ => 0) o l1 z1) q 4 (byteAt (wordOf (rdL (ov (fun _ => 0) o l1 z1) q 4))) q = ov (fun _ => 0) o l1 z1 q by
              rw [show ov (ov (fun _ => 0) o l1 z1) q 4 (byteAt (wordOf (rdL (ov (fun _ => 0) o l1 z1) q 4))) q = byteAt (wordOf (rdL (ov (fun _ => 0) o l1 z1) q 4)) 0 by unfold ov; rw [if_pos (by omega), Nat.sub_self]]
              rw [byteAt_word (rdL_byte HB.out _ _) (by rw [rdL_len]; omega), rdL_get _ _ (by omega), Nat.add_zero], ← rdL_one] at C5
            have C5 := Lib.hid C5
            clear hb hB hg
            go_wp2_with (go_at_call 19; refine (same_conv C6.out C5.out).mono ?_; rintro e wn ⟨rfl, rfl⟩)
            go_ret
            exact ⟨rfl, HO.out⟩
          · have hm2 : ((2147483648 + X) % 4 != 0) = true := by have := HY.out; simp; omega
            refine (word_mis HR.out (o := q) (k := 4) (by have := HY.out; omega) (by have := HY.out; omega) (by omega) hm (by omega)).mono ?_
            rintro e w7 ⟨rfl, hb⟩
            have HO : Hid (On w w7) := Lib.hid (HO.out.trans hb)
            clear hb hm
            go_wp2_with fail
            go_ret
            exact ⟨rfl, HO.out⟩
        · by_cases hm : q % 8 = 0
          · refine (wordO HR.out (o := q) (k := 8) (by omega) (by have := HY.out; omega) (by have := HY.out; omega) (by have := HY.out; omega) (by omega)).mono ?_
            rintro e w7 ⟨rfl, hb⟩
            have HO : Hid (On w w7) := Lib.hid (HO.out.trans hb)
            have HG3 := Lib.hid (hb.keep HG3.out)
            have HR := Lib.hid (HR.out.on hb)
            clear hb
            go_wp2_with fail
            refine (putO HR.out (o := q) (k := 8) (by omega) (by have := HY.out; omega) (by have := HY.out; omega) (by have := HY.out; omega) rfl (by omega)).mono ?_
            rintro e w8 ⟨rfl, hb, hr⟩
            have HO : Hid (On w w8) := Lib.hid (Kp.below HO.out (Nat.le_refl _) HO.out.size hb)
            have HG3 := Lib.hid (hb.keep HG3.out (by decide))
            have HB := Lib.hid HR.out.byte
            have HR := Lib.hid hr
            clear hb hr
            go_wp2_with fail
            refine (readfn HR.out (o := q) (by have := HY.out; omega) (by have := HY.out; omega)).mono ?_
            rintro e w9 ⟨hb, B4, hB, rfl, hg⟩
            have HO : Hid (On w w9) := Lib.hid (HO.out.trans hb)
            have HG3 := Lib.hid (hb.keep HG3.out)
            have C5 := conv_rs (row_rs hg)
            have C6 := Lib.hid (conv_rs (row_rs HG3.out))
            rw [rdL_one, show ov (ov (fun _ => 0) o l1 z1) q 8 (byteAt (wordOf (rdL (ov (fun _ => 0) o l1 z1) q 8))) q = ov (fun _ => 0) o l1 z1 q by
              rw [show ov (ov (fun _ => 0) o l1 z1) q 8 (byteAt (wordOf (rdL (ov (fun _ => 0) o l1 z1) q 8))) q = byteAt (wordOf (rdL (ov (fun _ => 0) o l1 z1) q 8)) 0 by unfold ov; rw [if_pos (by omega), Nat.sub_self]]
              rw [byteAt_word (rdL_byte HB.out _ _) (by rw [rdL_len]; omega), rdL_get _ _ (by omega), Nat.add_zero], ← rdL_one] at C5
            have C5 := Lib.hid C5
            clear hb hB hg
            go_wp2_with (go_at_call 19; refine (same_conv C6.out C5.out).mono ?_; rintro e wn ⟨rfl, rfl⟩)
            go_ret
            exact ⟨rfl, HO.out⟩
          · have hm2 : ((2147483648 + X) % 8 != 0) = true := by have := HY.out; simp; omega
            refine (word_mis HR.out (o := q) (k := 8) (by have := HY.out; omega) (by have := HY.out; omega) (by omega) hm (by omega)).mono ?_
            rintro e w7 ⟨rfl, hb⟩
            have HO : Hid (On w w7) := Lib.hid (HO.out.trans hb)
            clear hb hm
            go_wp2_with fail
            go_ret
            exact ⟨rfl, HO.out⟩
      · have hs1 : ¬ a3 = 1 := by omega
        refine (word_size HR.out (o := q) (by have := HY.out; omega) (by have := HY.out; omega) H3.out.1 hs).mono ?_
        rintro e w7 ⟨rfl, hb⟩
        have HO : Hid (On w w7) := Lib.hid (HO.out.trans hb)
        clear hb hs hs1
        go_wp2_with fail
        go_ret
        exact ⟨rfl, HO.out⟩
    · have E3 : Hid (rdL (fun _ => 0) q 1 = rdL (ov (fun _ => 0) o l1 z1) q 1) := Lib.hid (by rw [rdL_one, rdL_one]; unfold ov; rw [if_neg (by have := HY.out; omega)])
      have C3 := Lib.hid (conv_rs (row_rs (o := q) (M := fun _ => 0) HG1.out))
      rw [E3.out] at C3
      have C4 := Lib.hid (conv_rs (row_rs HG3.out))
      go_wp2_with (go_at_call 19; first | (refine (same_conv C1.out C2.out).mono ?_; rintro e wn ⟨rfl, rfl⟩) | (refine (same_conv C3.out C4.out).mono ?_; rintro e wn ⟨rfl, rfl⟩))
      clear hx
      rcases hs with hs | hs
      · have OKK : ∀ (k : Nat), a3 = (k : Int) → (k = 1 ∨ k = 2 ∨ k = 4 ∨ k = 8) → True := fun _ _ _ => trivial
        clear OKK
        rcases hs with rfl | rfl | rfl | rfl
        · refine (wordO HR.out (o := q) (k := 1) (by omega) (by have := HY.out; omega) (by have := HY.out; omega) (by have := HY.out; omega) (by omega)).mono ?_
          rintro e w7 ⟨rfl, hb⟩
          have HO : Hid (On w w7) := Lib.hid (HO.out.trans hb)
          have HG3 := Lib.hid (hb.keep HG3.out)
          have HR := Lib.hid (HR.out.on hb)
          clear hb
          go_wp2_with fail
          refine (putO HR.out (o := q) (k := 1) (by omega) (by have := HY.out; omega) (by have := HY.out; omega) (by have := HY.out; omega) rfl (by omega)).mono ?_
          rintro e w8 ⟨rfl, hb, hr⟩
          have HO : Hid (On w w8) := Lib.hid (Kp.below HO.out (Nat.le_refl _) HO.out.size hb)
          have HG3 := Lib.hid (hb.keep HG3.out (by decide))
          have HB := Lib.hid HR.out.byte
          have HR := Lib.hid hr
          clear hb hr
          go_wp2_with fail
          refine (readfn HR.out (o := q) (by have := HY.out; omega) (by have := HY.out; omega)).mono ?_
          rintro e w9 ⟨hb, B4, hB, rfl, hg⟩
          have HO : Hid (On w w9) := Lib.hid (HO.out.trans hb)
          have HG3 := Lib.hid (hb.keep HG3.out)
          have C5 := conv_rs (row_rs hg)
          have C6 := Lib.hid (conv_rs (row_rs HG3.out))
          rw [rdL_one, show ov (ov (fun _ => 0) o l1 z1) q 1 (byteAt (wordOf (rdL (ov (fun _ => 0) o l1 z1) q 1))) q = ov (fun _ => 0) o l1 z1 q by
            rw [show ov (ov (fun _ => 0) o l1 z1) q 1 (byteAt (wordOf (rdL (ov (fun _ => 0) o l1 z1) q 1))) q = byteAt (wordOf (rdL (ov (fun _ => 0) o l1 z1) q 1)) 0 by unfold ov; rw [if_pos (by omega), Nat.sub_self]]
            rw [byteAt_word (rdL_byte HB.out _ _) (by rw [rdL_len]; omega), rdL_get _ _ (by omega), Nat.add_zero], ← rdL_one] at C5
          have C5 := Lib.hid C5
          clear hb hB hg
          go_wp2_with (go_at_call 19; refine (same_conv C6.out C5.out).mono ?_; rintro e wn ⟨rfl, rfl⟩)
          go_ret
          exact ⟨rfl, HO.out⟩
        · by_cases hm : q % 2 = 0
          · refine (wordO HR.out (o := q) (k := 2) (by omega) (by have := HY.out; omega) (by have := HY.out; omega) (by have := HY.out; omega) (by omega)).mono ?_
            rintro e w7 ⟨rfl, hb⟩
            have HO : Hid (On w w7) := Lib.hid (HO.out.trans hb)
            have HG3 := Lib.hid (hb.keep HG3.out)
            have HR := Lib.hid (HR.out.on hb)
            clear hb
            go_wp2_with fail
            refine (putO HR.out (o := q) (k := 2) (by omega) (by have := HY.out; omega) (by have := HY.out; omega) (by have := HY.out; omega) rfl (by omega)).mono ?_
            rintro e w8 ⟨rfl, hb, hr⟩
            have HO : Hid (On w w8) := Lib.hid (Kp.below HO.out (Nat.le_refl _) HO.out.size hb)
            have HG3 := Lib.hid (hb.keep HG3.out (by decide))
            have HB := Lib.hid HR.out.byte
            have HR := Lib.hid hr
            clear hb hr
            go_wp2_with fail
            refine (readfn HR.out (o := q) (by have := HY.out; omega) (by have := HY.out; omega)).mono ?_
            rintro e w9 ⟨hb, B4, hB, rfl, hg⟩
            have HO : Hid (On w w9) := Lib.hid (HO.out.trans hb)
            have HG3 := Lib.hid (hb.keep HG3.out)
            have C5 := conv_rs (row_rs hg)
            have C6 := Lib.hid (conv_rs (row_rs HG3.out))
            rw [rdL_one, show ov (ov (fun _ => 0) o l1 z1) q 2 (byteAt (wordOf (rdL (ov (fun _ => 0) o l1 z1) q 2))) q = ov (fun _ => 0) o l1 z1 q by
              rw [show ov (ov (fun _ => 0) o l1 z1) q 2 (byteAt (wordOf (rdL (ov (fun _ => 0) o l1 z1) q 2))) q = byteAt (wordOf (rdL (ov (fun _ => 0) o l1 z1) q 2)) 0 by unfold ov; rw [if_pos (by omega), Nat.sub_self]]
              rw [byteAt_word (rdL_byte HB.out _ _) (by rw [rdL_len]; omega), rdL_get _ _ (by omega), Nat.add_zero], ← rdL_one] at C5
            have C5 := Lib.hid C5
            clear hb hB hg
            go_wp2_with (go_at_call 19; refine (same_conv C6.out C5.out).mono ?_; rintro e wn ⟨rfl, rfl⟩)
            go_ret
            exact ⟨rfl, HO.out⟩
          · have hm2 : ((2147483648 + X) % 2 != 0) = true := by have := HY.out; simp; omega
            refine (word_mis HR.out (o := q) (k := 2) (by have := HY.out; omega) (by have := HY.out; omega) (by omega) hm (by omega)).mono ?_
            rintro e w7 ⟨rfl, hb⟩
            have HO : Hid (On w w7) := Lib.hid (HO.out.trans hb)
            clear hb hm
            go_wp2_with fail
            go_ret
            exact ⟨rfl, HO.out⟩
        · by_cases hm : q % 4 = 0
          · refine (wordO HR.out (o := q) (k := 4) (by omega) (by have := HY.out; omega) (by have := HY.out; omega) (by have := HY.out; omega) (by omega)).mono ?_
            rintro e w7 ⟨rfl, hb⟩
            have HO : Hid (On w w7) := Lib.hid (HO.out.trans hb)
            have HG3 := Lib.hid (hb.keep HG3.out)
            have HR := Lib.hid (HR.out.on hb)
            clear hb
            go_wp2_with fail
            refine (putO HR.out (o := q) (k := 4) (by omega) (by have := HY.out; omega) (by have := HY.out; omega) (by have := HY.out; omega) rfl (by omega)).mono ?_
            rintro e w8 ⟨rfl, hb, hr⟩
            have HO : Hid (On w w8) := Lib.hid (Kp.below HO.out (Nat.le_refl _) HO.out.size hb)
            have HG3 := Lib.hid (hb.keep HG3.out (by decide))
            have HB := Lib.hid HR.out.byte
            have HR := Lib.hid hr
            clear hb hr
            go_wp2_with fail
            refine (readfn HR.out (o := q) (by have := HY.out; omega) (by have := HY.out; omega)).mono ?_
            rintro e w9 ⟨hb, B4, hB, rfl, hg⟩
            have HO : Hid (On w w9) := Lib.hid (HO.out.trans hb)
            have HG3 := Lib.hid (hb.keep HG3.out)
            have C5 := conv_rs (row_rs hg)
            have C6 := Lib.hid (conv_rs (row_rs HG3.out))
            rw [rdL_one, show ov (ov (fun _ => 0) o l1 z1) q 4 (byteAt (wordOf (rdL (ov (fun _ => 0) o l1 z1) q 4))) q = ov (fun _ => 0) o l1 z1 q by
              rw [show ov (ov (fun _ => 0) o l1 z1) q 4 (byteAt (wordOf (rdL (ov (fun _ => 0) o l1 z1) q 4))) q = byteAt (wordOf (rdL (ov (fun _ => 0) o l1 z1) q 4)) 0 by unfold ov; rw [if_pos (by omega), Nat.sub_self]]
              rw [byteAt_word (rdL_byte HB.out _ _) (by rw [rdL_len]; omega), rdL_get _ _ (by omega), Nat.add_zero], ← rdL_one] at C5
            have C5 := Lib.hid C5
            clear hb hB hg
            go_wp2_with (go_at_call 19; refine (same_conv C6.out C5.out).mono ?_; rintro e wn ⟨rfl, rfl⟩)
            go_ret
            exact ⟨rfl, HO.out⟩
          · have hm2 : ((2147483648 + X) % 4 != 0) = true := by have := HY.out; simp; omega
            refine (word_mis HR.out (o := q) (k := 4) (by have := HY.out; omega) (by have := HY.out; omega) (by omega) hm (by omega)).mono ?_
            rintro e w7 ⟨rfl, hb⟩
            have HO : Hid (On w w7) := Lib.hid (HO.out.trans hb)
            clear hb hm
            go_wp2_with fail
            go_ret
            exact ⟨rfl, HO.out⟩
        · by_cases hm : q % 8 = 0
          · refine (wordO HR.out (o := q) (k := 8) (by omega) (by have := HY.out; omega) (by have := HY.out; omega) (by have := HY.out; omega) (by omega)).mono ?_
            rintro e w7 ⟨rfl, hb⟩
            have HO : Hid (On w w7) := Lib.hid (HO.out.trans hb)
            have HG3 := Lib.hid (hb.keep HG3.out)
            have HR := Lib.hid (HR.out.on hb)
            clear hb
            go_wp2_with fail
            refine (putO HR.out (o := q) (k := 8) (by omega) (by have := HY.out; omega) (by have := HY.out; omega) (by have := HY.out; omega) rfl (by omega)).mono ?_
            rintro e w8 ⟨rfl, hb, hr⟩
            have HO : Hid (On w w8) := Lib.hid (Kp.below HO.out (Nat.le_refl _) HO.out.size hb)
            have HG3 := Lib.hid (hb.keep HG3.out (by decide))
            have HB := Lib.hid HR.out.byte
            have HR := Lib.hid hr
            clear hb hr
            go_wp2_with fail
            refine (readfn HR.out (o := q) (by have := HY.out; omega) (by have := HY.out; omega)).mono ?_
            rintro e w9 ⟨hb, B4, hB, rfl, hg⟩
            have HO : Hid (On w w9) := Lib.hid (HO.out.trans hb)
            have HG3 := Lib.hid (hb.keep HG3.out)
            have C5 := conv_rs (row_rs hg)
            have C6 := Lib.hid (conv_rs (row_rs HG3.out))
            rw [rdL_one, show ov (ov (fun _ => 0) o l1 z1) q 8 (byteAt (wordOf (rdL (ov (fun _ => 0) o l1 z1) q 8))) q = ov (fun _ => 0) o l1 z1 q by
              rw [show ov (ov (fun _ => 0) o l1 z1) q 8 (byteAt (wordOf (rdL (ov (fun _ => 0) o l1 z1) q 8))) q = byteAt (wordOf (rdL (ov (fun _ => 0) o l1 z1) q 8)) 0 by unfold ov; rw [if_pos (by omega), Nat.sub_self]]
              rw [byteAt_word (rdL_byte HB.out _ _) (by rw [rdL_len]; omega), rdL_get _ _ (by omega), Nat.add_zero], ← rdL_one] at C5
            have C5 := Lib.hid C5
            clear hb hB hg
            go_wp2_with (go_at_call 19; refine (same_conv C6.out C5.out).mono ?_; rintro e wn ⟨rfl, rfl⟩)
            go_ret
            exact ⟨rfl, HO.out⟩
          · have hm2 : ((2147483648 + X) % 8 != 0) = true := by have := HY.out; simp; omega
            refine (word_mis HR.out (o := q) (k := 8) (by have := HY.out; omega) (by have := HY.out; omega) (by omega) hm (by omega)).mono ?_
            rintro e w7 ⟨rfl, hb⟩
            have HO : Hid (On w w7) := Lib.hid (HO.out.trans hb)
            clear hb hm
            go_wp2_with fail
            go_ret
            exact ⟨rfl, HO.out⟩
      · have hs1 : ¬ a3 = 1 := by omega
        refine (word_size HR.out (o := q) (by have := HY.out; omega) (by have := HY.out; omega) H3.out.1 hs).mono ?_
        rintro e w7 ⟨rfl, hb⟩
        have HO : Hid (On w w7) := Lib.hid (HO.out.trans hb)
        clear hb hs hs1
        go_wp2_with fail
        go_ret
        exact ⟨rfl, HO.out⟩
  · go_enter Try.func4, Try.ntmps4
    go_wp2_with (first
      | (go_at_call 8; refine (new_ok 8 (by omega) _).mono ?_; rintro e w1 ⟨rfl, hb, hr⟩; have HO : Hid (On w w1) := Lib.hid (HO.out.trans hb); clear hb hr)
      | (go_at_call 10; refine (awake_any _).mono ?_; rintro e w2 ⟨rfl, hb⟩; have HO : Hid (On w w2) := Lib.hid (HO.out.trans hb); clear hb))
    go_ret
    exact ⟨rfl, HO.out⟩

set_option maxRecDepth 100000 in
theorem lifted (os : Os) (started : os.Started) (H : Type) (enc : TypeId × Value → H) :
    ReturnsInHanded {} Try.checked os 4 .any (Rows.ramBackSpec.pre6 enc Try.prog Try.f4 Rows.ramBackRow.domain false) (Rows.ramBackSpec.post enc Try.prog Try.f4 false true false false) := by
  refine returnsInHanded_of_change (C := Try.checked) own started (by kernel_rfl) Try.func4
    (ChangeSpec.witness6 (enc := enc) (C := Try.checked) false ⟨#[], #[.int .u64 0, .slice none 0 0, .int .u64 0, .int .i64 0], []⟩ 12 (by kernel_rfl) (by kernel_rfl) (by kernel_rfl) (by kernel_rfl)) ?_
  intro W base args ds gs before hval0 hW hcnd _
  have hval : ∀ (j : Nat) t v, Try.f4.params[j]? = some t → args[j]? = some v → Value.okWide Try.prog W .any base t v := hval0
  have hW' := hW
  obtain ⟨p, q, hA0, hV, rfl, hfz, hnd⟩ := hW
  have hA : DataW.TrodAll enc Try.prog W 0 (fun _ => true) true Try.f4.params.toList args.toList ds p := hA0
  rw [Try.params4] at hA hval
  obtain ⟨v0, vs0, d0, ds0, p0, q0, hargs, rfl, rfl, h0, r0⟩ := trodAll_cons hA
  obtain ⟨v1, vs1, d1, ds1, p1, q1, rfl, rfl, rfl, h1, r1⟩ := trodAll_cons r0
  obtain ⟨v2, vs2, d2, ds2, p2, q2, rfl, rfl, rfl, h2, r2⟩ := trodAll_cons r1
  obtain ⟨v3, vs3, d3, ds3, p3, q3, rfl, rfl, rfl, h3, r3⟩ := trodAll_cons r2
  obtain ⟨rfl, rfl, rfl⟩ := trodAll_nil r3
  obtain rfl : args = #[v0, v1, v2, v3] := by cases args; simp_all
  obtain ⟨rfl, rfl⟩ := trodVars_none hV
  obtain ⟨a0, rfl, rfl, rfl, w0⟩ := open_int Try.underlying31 (hval 0 31 v0 rfl rfl) h0
  have k1 := h1
  have lt1 : ∀ x ∈ p1, x.block < W.heap.size := fun x hx => by have := hW'.lt x (by simp [hx]); simpa using this
  obtain ⟨a1, l1, c1, rfl, w1⟩ := open_row 12 [.int .u8] (by kernel_rfl) (by kernel_rfl) (by decide) Try.underlying32 (hval 1 32 v1 rfl rfl) h1
  clear h1
  have m1 := open_caps Try.underlying32 k1
  obtain ⟨a2, rfl, rfl, rfl, w2⟩ := open_int Try.underlying31 (hval 2 31 v2 rfl rfl) h2
  obtain ⟨a3, rfl, rfl, rfl, w3⟩ := open_int Try.underlying3 (hval 3 3 v3 rfl rfl) h3
  clear hA0 hval0
  refine (walk W a0 w0 a1 l1 c1 w1 m1 a2 w2 a3 w3).mono fun e W' ⟨he, bel⟩ => ?_
  subst he
  exact ⟨_, rfl, _, _, _, [], _, [], hW', trodAll_mk1 (shut_bool Try.underlying4 _), (trodAll_cons_mk (shut_int Try.underlying31 w0) (trodAll_cons_mk (Below.trod (by kernel_rfl) (by kernel_rfl) (of_decide_eq_true (by kernel_rfl)) k1 bel lt1) (trodAll_cons_mk (shut_int Try.underlying31 w2) (trodAll_cons_mk (shut_int Try.underlying3 w3) trodAll_mk0)))), rfl, bel.frame _, fun h => by cases h⟩

theorem over : Rows.ramBackRow.holds Try.pinned (OpenSpec.ofChange Rows.ramBackSpec) :=
  OpenClaim.holds_of_wide 4 Try.f4 rfl rfl rfl rfl rfl rfl rfl ⟨rfl, rfl, rfl, rfl, rfl⟩ rfl rfl rfl rfl rfl (by kernel_rfl) Try.func4 (by kernel_rfl)
    (of_decide_eq_true (by kernel_rfl)) (by unfold Func.isWrapper; first | (rw [if_pos (by decide +kernel)]; kernel_rfl) | (rw [if_neg (by decide +kernel)]; exact ⟨rfl, rfl⟩))
    (fun os started H enc _ => lifted os started H enc)

theorem proved : Rows.RamBackSaid :=
  over
#print axioms proved
end Go.Proofs.Ytkjkmekkcnmjnaa.ramBack
