/- Proves that a word put is read back by its halves and by its bytes, the lowest first, and that the word is what its bytes are put to, at every multiple of eight in the first pages, and that the first test of the law holds. Conditions: none. -/
import Derived.Test.YtkjkmekkcnmjnaaRows
import Derived.Test.YtkjkmekkcnmjnaaRamF
import Derived.WalkKit
import Derived.ProofKit
import Derived.OpenShut
import Derived.Below
import Derived.Carry
import Derived.ShutString
namespace Go.Proofs.Ytkjkmekkcnmjnaa.ramWords
open Go.ChangeShapes Go.WideShapes Go.ChangeAt Go.RowKit
set_option linter.unusedVariables false

theorem own : ownKnob Try.prog.godebug = none := by kernel_rfl

set_option maxRecDepth 100000 in
set_option maxHeartbeats 4000000 in
theorem walk (a0 : Int) (w0 : (Lit.int .u64 a0).wf = true) (a1 : Int) (w1 : (Lit.int .u64 a1).wf = true) (w : World) :
    Calls Try.prog 6 #[.int .u64 a0, .int .u64 a1] w fun e w' => e = .returned (.bool true) ∧ Below w.heap.size w w' := by
  have ha0 : 0 ≤ a0 ∧ a0 ≤ 18446744073709551615 := by simpa [Lit.wf, IntKind.bits, IntKind.signed, IntKind.min, IntKind.max] using w0
  obtain ⟨v, rfl⟩ := u_of w1
  clear w0 w1
  obtain ⟨Y, hY⟩ : ∃ Y : Int, a0 % 2048 * 8 = Y := ⟨_, rfl⟩
  have hY0 : 0 ≤ Y := by omega
  have hY1 : Y ≤ 16376 := by omega
  obtain ⟨o, ho⟩ : ∃ o : Nat, Y = (o : Int) := ⟨Y.toNat, by omega⟩
  have HY := Lib.hid (show Y = (o : Int) ∧ o % 8 = 0 ∧ o ≤ 16376 by omega)
  clear ho
  have HO : Hid (On w w) := Lib.hid (On.refl w)
  have W0 := Lib.hid (word_half v 4 (by omega) (ov (fun _ => 0) o 8 (byteAt v)) o 0 (fun i hi => by unfold ov; rw [if_pos (by omega)]; congr 1; omega))
  have W1 := Lib.hid (word_half v 4 (by omega) (ov (fun _ => 0) o 8 (byteAt v)) (o + 4) 4 (fun i hi => by unfold ov; rw [if_pos (by omega)]; congr 1; omega))
  go_enter Try.func6, Try.ntmps6
  go_wp2_with (first
    | (go_at_call 8; refine (new_ok 4 (by omega) _).mono ?_; rintro e w1 ⟨rfl, hb, hr⟩; have HO : Hid (On w w1) := Lib.hid (HO.out.trans hb); have HR := Lib.hid hr; clear hb hr)
    | (go_at_call 10; refine (awake_any _).mono ?_; rintro e w2 ⟨rfl, hb⟩; have HO : Hid (On w w2) := Lib.hid (HO.out.trans hb); have HR := Lib.hid (HR.out.on hb); clear hb))
  generalize w.heap.size + 1 = r at *
  refine (putO HR.out (o := o) (k := 8) (by omega) (by have := HY.out; omega) (by have := HY.out; omega) (by have := HY.out; omega) rfl (by omega)).mono ?_
  rintro e w3 ⟨rfl, hb, hr⟩
  have HO : Hid (On w w3) := Lib.hid (Kp.below HO.out (Nat.le_refl _) HO.out.size hb)
  have HR := Lib.hid hr
  clear hb hr
  go_wp2_with fail
  refine (wordO HR.out (o := o) (k := 4) (by omega) (by have := HY.out; omega) (by have := HY.out; omega) (by have := HY.out; omega) (by omega)).mono ?_
  rintro e w4 ⟨rfl, hb⟩
  have HO : Hid (On w w4) := Lib.hid (HO.out.trans hb)
  have HR := Lib.hid (HR.out.on hb)
  clear hb
  go_wp2_with fail
  refine (wordO HR.out (o := o + 4) (k := 4) (by omega) (by have := HY.out; omega) (by have := HY.out; omega) (by have := HY.out; omega) (by omega)).mono ?_
  rintro e w5 ⟨rfl, hb⟩
  have HO : Hid (On w w5) := Lib.hid (HO.out.trans hb)
  have HR := Lib.hid (HR.out.on hb)
  clear hb
  rw [W0.out, W1.out]
  go_wp2_with fail
  refine (readO HR.out (o := o) (k := 8) (by have := HY.out; omega) (by have := HY.out; omega) (by omega)).mono ?_
  rintro e w6 ⟨hb, B, hB, rfl, hg⟩
  have HO : Hid (On w w6) := Lib.hid (HO.out.trans hb)
  have HR := Lib.hid (HR.out.on hb)
  have HG := Lib.hid hg
  clear hb hg hB
  have C0 : (bits .or .u64 (u (zxt v 32)) (IntKind.u64.wrap (u (zxt (v >>> 32) 32) * 4294967296)) != u v) = false := by
    rw [show (4294967296 : Int) = 2 ^ 32 from rfl, u_shl, u_or]
    have : zxt v 32 ||| zxt (v >>> 32) 32 <<< 32 = v := by
      apply BitVec.eq_of_getLsbD_eq; intro j hj
      rw [BitVec.getLsbD_or, BitVec.getLsbD_shiftLeft, zxt_bit, zxt_bit, BitVec.getLsbD_ushiftRight]
      by_cases h : j < 32
      · simp [h, hj]; intro h2; omega
      · rw [decide_eq_false (show ¬ (j : Int) < 32 by omega), decide_eq_true (show ((j - 32 : Nat) : Int) < 32 by omega), decide_eq_true hj, decide_eq_false h, show 32 + (j - 32) = j by omega]; simp
    rw [this]; simp
  clear W0 W1 ha0 hY
  go_wp2_with fail
  go_loopw [13] (fun x wr => ∃ k : Nat, k ≤ 8 ∧ x = .int .i64 k ∧ Hid (On w wr ∧ RamAt w.heap.size r 4 (ov (ov (fun _ => 0) o 8 (byteAt v)) o k (byteAt (~~~v))) wr ∧ wr.heap[B]? = some (.cells (rwA 8 fun i => ov (fun _ => 0) o 8 (byteAt v) (o + i)) 5 (0, 0)))) (fun x _ => (8 - intOf x).toNat)
  case atStart => exact ⟨0, by omega, rfl, Lib.hid ⟨HO.out, by rw [ov_none]; exact HR.out, HG.out⟩⟩
  case round =>
    obtain ⟨k, hk, rfl, hr⟩ := hrel
    by_cases h8 : k < 8
    · have Wk := word_half v 1 (by omega) (ov (ov (fun _ => 0) o 8 (byteAt v)) o k (byteAt (~~~v))) (o + k) k (fun i hi => by unfold ov; rw [if_neg (by omega), if_pos (by omega)]; congr 1; omega)
      go_wp2_with fail
      refine (wordO hr.out.2.1 (o := o + k) (k := 1) (by omega) (by omega) (by have := HY.out; omega) (by have := HY.out; omega) (by omega)).mono ?_
      rintro e w7 ⟨rfl, hb⟩
      have HR2 := Lib.hid (And.intro (hr.out.1.trans hb) (hr.out.2.1.on hb))
      have hg7 := hb.keep hr.out.2.2
      have hc := blk_cell hg7 k (rw_get _ h8)
      rw [show ov (fun _ => 0) o 8 (byteAt v) (o + k) = byteAt v k by unfold ov; rw [if_pos (by omega)]; congr 1; omega] at hc
      have HG7 := Lib.hid hg7
      clear hg7
      have e1 : u (zxt (v >>> (8 * k)) (8 * ((1 : Nat) : Int))) = byteAt v k := by
        unfold byteAt
        congr 1
      have e2 : bits .and .u64 (u v / 2 ^ (8 * k)) 255 = byteAt v k := by rw [u_shr, u_and255]; rfl
      have e3 : Hid (bits .xor .u64 (byteAt v k) 255 = u ((v >>> (8 * k) &&& 255) ^^^ 255)) := Lib.hid (by unfold byteAt; rw [← u_xor]; rfl)
      have e4 := Lib.hid (byteAt_not v k h8)
      have b0 := byteAt_nonneg v k
      have b1 := byteAt_lt v k
      rw [Wk, e1]
      clear hr Wk hb e1
      generalize byteAt v k = xk at *
      go_wp2_with fail
      refine (putO HR2.out.2 (o := o + k) (k := 1) (by omega) (by omega) (by have := HY.out; omega) (by have := HY.out; omega) e3.out (by omega)).mono ?_
      rintro e w8 ⟨rfl, hb, hr⟩
      have HR3 := Lib.hid (And.intro hb hr)
      clear hb hr
      go_wp2_with fail
      refine ⟨⟨k + 1, by omega, by go_num, Lib.hid ⟨Kp.below HR2.out.1 (Nat.le_refl _) HR2.out.1.size HR3.out.1, ?_, HR3.out.1.keep HG7.out (by decide)⟩⟩, by simp [intOf]; omega⟩
      have := HR3.out.2
      rw [ov_congr (z' := fun i => byteAt (~~~v) (k + i)) (fun i hi => by obtain rfl : i = 0 := (by omega); exact e4.out), ov_ov] at this
      exact this
    · obtain rfl : k = 8 := by omega
      have W8 := word_half (~~~v) 8 (by omega) (ov (ov (fun _ => 0) o 8 (byteAt v)) o 8 (byteAt (~~~v))) o 0 (fun i hi => by unfold ov; rw [if_pos (by omega)]; congr 1; omega)
      go_wp2_with fail
      refine (wordO hr.out.2.1 (o := o) (k := 8) (by omega) (by have := HY.out; omega) (by have := HY.out; omega) (by have := HY.out; omega) (by omega)).mono ?_
      rintro e w7 ⟨rfl, hb⟩
      have HR2 := Lib.hid (hr.out.1.trans hb)
      rw [W8]
      clear hr W8 hb
      go_wp2_with fail
      go_ret
      have EF : (u (zxt (~~~v) 64) == bits .xor .u64 IntKind.u64.max (u v)) = true := by
        rw [show IntKind.u64.max = u (BitVec.allOnes 64) by decide +kernel, u_xor]
        have : zxt (~~~v) 64 = BitVec.allOnes 64 ^^^ v := by
          apply BitVec.eq_of_getLsbD_eq; intro j hj
          rw [zxt_bit, BitVec.getLsbD_xor, BitVec.getLsbD_allOnes, BitVec.getLsbD_not]
          simp [hj]
          try omega
        rw [this]; simp
      exact ⟨congrArg (fun b => Ending.returned (Value.bool b)) EF, HR2.out⟩

set_option maxRecDepth 100000 in
theorem lifted (os : Os) (started : os.Started) (H : Type) (enc : TypeId × Value → H) :
    ReturnsInHanded {} Try.checked os 6 .any (Rows.ramWordsSpec.pre6 enc Try.prog Try.f6 Rows.ramWordsRow.domain false) (Rows.ramWordsSpec.post enc Try.prog Try.f6 false true false false) := by
  refine returnsInHanded_of_change (C := Try.checked) own started (by kernel_rfl) Try.func6
    (ChangeSpec.witness6 (enc := enc) (C := Try.checked) false ⟨#[], #[.int .u64 0, .int .u64 0], []⟩ 12 (by kernel_rfl) (by kernel_rfl) (by kernel_rfl) (by kernel_rfl)) ?_
  intro W base args ds gs before hval0 hW hcnd _
  have hval : ∀ (j : Nat) t v, Try.f6.params[j]? = some t → args[j]? = some v → Value.okWide Try.prog W .any base t v := hval0
  have hW' := hW
  obtain ⟨p, q, hA0, hV, rfl, hfz, hnd⟩ := hW
  have hA : DataW.TrodAll enc Try.prog W 0 (fun _ => true) true Try.f6.params.toList args.toList ds p := hA0
  rw [Try.params6] at hA hval
  obtain ⟨v0, vs0, d0, ds0, p0, q0, hargs, rfl, rfl, h0, r0⟩ := trodAll_cons hA
  obtain ⟨v1, vs1, d1, ds1, p1, q1, rfl, rfl, rfl, h1, r1⟩ := trodAll_cons r0
  obtain ⟨rfl, rfl, rfl⟩ := trodAll_nil r1
  obtain rfl : args = #[v0, v1] := by cases args; simp_all
  obtain ⟨rfl, rfl⟩ := trodVars_none hV
  obtain ⟨a0, rfl, rfl, rfl, w0⟩ := open_int Try.underlying31 (hval 0 31 v0 rfl rfl) h0
  obtain ⟨a1, rfl, rfl, rfl, w1⟩ := open_int Try.underlying31 (hval 1 31 v1 rfl rfl) h1
  clear hA0 hval0
  refine (walk a0 w0 a1 w1 W).mono fun e W' ⟨he, bel⟩ => ?_
  subst he
  exact ⟨_, rfl, _, _, _, [], _, [], hW', trodAll_mk1 (shut_bool Try.underlying4 _), (trodAll_cons_mk (shut_int Try.underlying31 w0) (trodAll_cons_mk (shut_int Try.underlying31 w1) trodAll_mk0)), rfl, bel.frame _, fun h => by cases h⟩

theorem over : Rows.ramWordsRow.holds Try.pinned (OpenSpec.ofChange Rows.ramWordsSpec) :=
  OpenClaim.holds_of_wide 6 Try.f6 rfl rfl rfl rfl rfl rfl rfl ⟨rfl, rfl, rfl, rfl, rfl⟩ rfl rfl rfl rfl rfl (by kernel_rfl) Try.func6 (by kernel_rfl)
    (of_decide_eq_true (by kernel_rfl)) (by unfold Func.isWrapper; first | (rw [if_pos (by decide +kernel)]; kernel_rfl) | (rw [if_neg (by decide +kernel)]; exact ⟨rfl, rfl⟩))
    (fun os started H enc _ => lifted os started H enc)

theorem proved : Rows.RamWordsSaid :=
  over
#print axioms proved
end Go.Proofs.Ytkjkmekkcnmjnaa.ramWords
