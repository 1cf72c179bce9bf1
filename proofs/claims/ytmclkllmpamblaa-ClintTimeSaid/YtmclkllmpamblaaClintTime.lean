/- Proves that each tick of a clint is one, from wherever the time was put, round; that the software's bit is as it was written and plays no part in the timer's; and that the first test of the law holds. Conditions: none. -/
import Derived.Test.YtmclkllmpamblaaRows
import Derived.Test.YtmclkllmpamblaaClkR
import Derived.WalkKit
import Derived.ProofKit
import Derived.OpenShut
import Derived.Below
import Derived.Carry
import Derived.ShutString
namespace Go.Proofs.Ytmclkllmpamblaa.clintTime
open Go.ChangeShapes Go.WideShapes Go.ChangeAt Go.RowKit
set_option linter.unusedVariables false

theorem own : ownKnob Try.prog.godebug = none := by kernel_rfl

set_option maxRecDepth 100000 in
set_option maxHeartbeats 1000000 in
theorem walk (a0 : Int) (w0 : (Lit.int .u64 a0).wf = true) (a1 : Int) (w1 : (Lit.int .i64 a1).wf = true) (a2 : Int) (w2 : (Lit.int .u64 a2).wf = true) (w : World) :
    Calls Try.prog 6 #[.int .u64 a0, .int .i64 a1, .int .u64 a2] w fun e w' => e = .returned (.bool true) ∧ Below w.heap.size w w' := by
  obtain ⟨a, rfl⟩ := u_of w0
  obtain ⟨b, rfl⟩ := u_of w2
  clear w0 w2
  obtain ⟨n, hn, hn2, hn3⟩ : ∃ n : Nat, wrap64 ((IntKind.u64.wrap a1).tmod 200) = (n : Int) ∧ (n : Int) < 200 ∧ IntKind.u64.wrap (n : Int) = (n : Int) := ticks_of a1 200 (by omega) (by omega)
  go_enter Try.func6, Try.ntmps6
  go_wp2_with fail
  refine (new_clk _).mono ?_
  rintro e w1 ⟨rfl, k1, h1⟩
  have K := Lib.hid k1
  have HB : Hid (On w w1) := Lib.hid h1
  clear k1 h1
  go_wp2_with fail
  rw [hn]
  generalize (IntKind.u64.wrap a1).tmod 200 = m1
  generalize IntKind.u64.wrap a1 = m2
  clear hn
  refine (awake_clk _).mono ?_
  rintro e w2 ⟨rfl, h2⟩
  have K := Lib.hid (K.out.on h2)
  have HB : Hid (On w w2) := Lib.hid (HB.out.trans h2)
  clear h2
  go_wp2_with fail
  refine (write_clk K.out .time a).mono ?_
  rw [show rgE (some 2) = 0 from rfl]
  rintro e w3 ⟨rfl, k3, h3⟩
  have K : Hid (CkAt w.heap.size false (BitVec.allOnes 64) a w3) := Lib.hid k3
  have HB : Hid (On w w3) := Lib.hid (But.below HB.out (Nat.le_refl _) HB.out.size h3)
  clear k3 h3
  go_wp2_with fail
  refine (write_clk K.out .soft b).mono ?_
  rw [show rgE (some 0) = 0 from rfl]
  rintro e w4 ⟨rfl, k4, h4⟩
  have hb1 := and_one b
  obtain ⟨s, hs⟩ : ∃ s, b.getLsbD 0 = s := ⟨_, rfl⟩
  have K : Hid (CkAt w.heap.size s (BitVec.allOnes 64) a w4) := Lib.hid (hs ▸ k4)
  have HB : Hid (On w w4) := Lib.hid (But.below HB.out (Nat.le_refl _) HB.out.size h4)
  rw [hs] at hb1
  clear k4 h4 hs
  go_wp2_with fail
  go_loopw [9] (fun i wr => ∃ k : Nat, k ≤ n ∧ i = .int .i64 k ∧ Hid (CkAt w.heap.size s (BitVec.allOnes 64) (a + BitVec.ofNat 64 k) wr) ∧ Hid (On w wr)) (fun i _ => n - (intOf i).toNat)
  case atStart => exact ⟨0, by omega, rfl, Lib.hid (by rw [show a + BitVec.ofNat 64 0 = a from BitVec.add_zero a]; exact K.out), HB⟩
  case round =>
    clear K HB
    obtain ⟨k, hk, rfl, K, HB⟩ := hrel
    by_cases hkn : k < n
    · go_wp2_with fail
      refine (tick_any K.out).mono ?_
      rintro e w5 ⟨rfl, k5, h5⟩
      rw [BitVec.add_assoc, show BitVec.ofNat 64 k + 1 = BitVec.ofNat 64 (k + 1) from (BitVec.ofNat_add k 1).symm] at k5
      have K := Lib.hid k5
      have HB : Hid (On w w5) := Lib.hid (But.below HB.out (Nat.le_refl _) HB.out.size h5)
      clear k5 h5
      go_wp2
      go_roundw
      case rel => exact ⟨k + 1, by omega, by go_num, K, HB⟩
      case measure => simp [intOf]; omega
    · obtain rfl : k = n := by omega
      have hx := (u_add a (BitVec.ofNat 64 k))
      rw [show u (BitVec.ofNat 64 k) = (k : Int) from by unfold u; rw [BitVec.toNat_ofNat]; omega] at hx
      obtain ⟨x, hxe⟩ : ∃ x, a + BitVec.ofNat 64 k = x := ⟨_, rfl⟩
      rw [hxe] at hx K
      clear hxe
      cases s
      · have hl := lnV_ones false x
        have hb1 : bits BinOp.and IntKind.u64 (u b) 1 = 0 := hb1
        obtain ⟨X, hX⟩ : ∃ X, u x = X := ⟨_, rfl⟩
        rw [hX] at hx hl
        have HX := Lib.hid hX
        clear hX
        go_wp2_with fail
        refine (read_clk K.out .time).mono ?_
        rw [show rgE (some 2) = 0 from rfl, show rgV false (BitVec.allOnes 64) x (some 2) = X from HX.out]
        rintro e w5 ⟨rfl, rfl⟩
        go_wp2_with fail
        refine (read_clk K.out .soft).mono ?_
        rw [show rgE (some 0) = 0 from rfl, show rgV false (BitVec.allOnes 64) x (some 0) = 0 from rfl]
        rintro e w5 ⟨rfl, rfl⟩
        have HT : Hid (Calls Try.prog 18 #[.pointer (some ⟨w.heap.size, 0, none⟩)] wr fun e w' => e = .returned (.int .u64 X) ∧ wr = w') := Lib.hid (HX.out ▸ time_any K.out)
        have hv : ∀ wq, On wr wq → Calls Try.prog 16 #[.pointer (some ⟨w.heap.size, 0, none⟩)] wq fun e w' => e = .returned (.int .u64 (lnV false (BitVec.allOnes 64) x)) ∧ On wq w' := fun wq h => lines_any (K.out.on h)
        rcases hl with ⟨rfl, hl⟩ | ⟨hX1, hl⟩ <;> (
          simp only [Bool.false_eq_true, if_false] at hl
          rw [hl] at hv
          have HV := Lib.hid hv
          clear hv hl K
          go_wp2_with fail
          refine HT.out.mono ?_
          rintro e w5 ⟨rfl, rfl⟩
          go_wp2_with fail
          refine (HV.out _ (On.refl _)).mono ?_
          rintro e w6 ⟨rfl, h6⟩
          have H6 := Lib.hid h6
          clear h6
          go_wp2_with fail
          refine (HV.out _ H6.out).mono ?_
          rintro e w7 ⟨rfl, h7⟩
          have HB : Hid (On w w7) := Lib.hid (HB.out.trans (H6.out.trans h7))
          clear h7
          go_wp2
          go_ret
          exact ⟨rfl, HB.out⟩)
      · have hl := lnV_ones true x
        have hb1 : bits BinOp.and IntKind.u64 (u b) 1 = 1 := hb1
        obtain ⟨X, hX⟩ : ∃ X, u x = X := ⟨_, rfl⟩
        rw [hX] at hx hl
        have HX := Lib.hid hX
        clear hX
        go_wp2_with fail
        refine (read_clk K.out .time).mono ?_
        rw [show rgE (some 2) = 0 from rfl, show rgV true (BitVec.allOnes 64) x (some 2) = X from HX.out]
        rintro e w5 ⟨rfl, rfl⟩
        go_wp2_with fail
        refine (read_clk K.out .soft).mono ?_
        rw [show rgE (some 0) = 0 from rfl, show rgV true (BitVec.allOnes 64) x (some 0) = 1 from rfl]
        rintro e w5 ⟨rfl, rfl⟩
        have HT : Hid (Calls Try.prog 18 #[.pointer (some ⟨w.heap.size, 0, none⟩)] wr fun e w' => e = .returned (.int .u64 X) ∧ wr = w') := Lib.hid (HX.out ▸ time_any K.out)
        have hv : ∀ wq, On wr wq → Calls Try.prog 16 #[.pointer (some ⟨w.heap.size, 0, none⟩)] wq fun e w' => e = .returned (.int .u64 (lnV true (BitVec.allOnes 64) x)) ∧ On wq w' := fun wq h => lines_any (K.out.on h)
        rcases hl with ⟨rfl, hl⟩ | ⟨hX1, hl⟩ <;> (
          simp only [if_true] at hl
          rw [hl] at hv
          have HV := Lib.hid hv
          clear hv hl K
          go_wp2_with fail
          refine HT.out.mono ?_
          rintro e w5 ⟨rfl, rfl⟩
          go_wp2_with fail
          refine (HV.out _ (On.refl _)).mono ?_
          rintro e w6 ⟨rfl, h6⟩
          have H6 := Lib.hid h6
          clear h6
          go_wp2_with fail
          refine (HV.out _ H6.out).mono ?_
          rintro e w7 ⟨rfl, h7⟩
          have HB : Hid (On w w7) := Lib.hid (HB.out.trans (H6.out.trans h7))
          clear h7
          go_wp2
          go_ret
          exact ⟨rfl, HB.out⟩)

set_option maxRecDepth 100000 in
theorem lifted (os : Os) (started : os.Started) (H : Type) (enc : TypeId × Value → H) :
    ReturnsInHanded {} Try.checked os 6 .any (Rows.clintTimeSpec.pre6 enc Try.prog Try.f6 Rows.clintTimeRow.domain false) (Rows.clintTimeSpec.post enc Try.prog Try.f6 false true false false) := by
  refine returnsInHanded_of_change (C := Try.checked) own started (by kernel_rfl) Try.func6
    (ChangeSpec.witness6 (enc := enc) (C := Try.checked) false ⟨#[], #[.int .u64 0, .int .i64 0, .int .u64 0], []⟩ 12 (by kernel_rfl) (by kernel_rfl) (by kernel_rfl) (by kernel_rfl)) ?_
  intro W base args ds gs before hval0 hW hcnd _
  have hval : ∀ (j : Nat) t v, Try.f6.params[j]? = some t → args[j]? = some v → Value.okWide Try.prog W .any base t v := hval0
  have hW' := hW
  obtain ⟨p, q, hA0, hV, rfl, hfz, hnd⟩ := hW
  have hA : DataW.TrodAll enc Try.prog W 0 (fun _ => true) true Try.f6.params.toList args.toList ds p := hA0
  rw [Try.params6] at hA hval
  obtain ⟨v0, vs0, d0, ds0, p0, q0, hargs, rfl, rfl, h0, r0⟩ := trodAll_cons hA
  obtain ⟨v1, vs1, d1, ds1, p1, q1, rfl, rfl, rfl, h1, r1⟩ := trodAll_cons r0
  obtain ⟨v2, vs2, d2, ds2, p2, q2, rfl, rfl, rfl, h2, r2⟩ := trodAll_cons r1
  obtain ⟨rfl, rfl, rfl⟩ := trodAll_nil r2
  obtain rfl : args = #[v0, v1, v2] := by cases args; simp_all
  obtain ⟨rfl, rfl⟩ := trodVars_none hV
  obtain ⟨a0, rfl, rfl, rfl, w0⟩ := open_int Try.underlying25 (hval 0 25 v0 rfl rfl) h0
  obtain ⟨a1, rfl, rfl, rfl, w1⟩ := open_int Try.underlying3 (hval 1 3 v1 rfl rfl) h1
  obtain ⟨a2, rfl, rfl, rfl, w2⟩ := open_int Try.underlying25 (hval 2 25 v2 rfl rfl) h2
  clear hA0 hval0
  refine (walk a0 w0 a1 w1 a2 w2 W).mono fun e W' ⟨he, bel⟩ => ?_
  subst he
  exact ⟨_, rfl, _, _, _, [], _, [], hW', trodAll_mk1 (shut_bool Try.underlying4 _), (trodAll_cons_mk (shut_int Try.underlying25 w0) (trodAll_cons_mk (shut_int Try.underlying3 w1) (trodAll_cons_mk (shut_int Try.underlying25 w2) trodAll_mk0))), rfl, bel.frame _, fun h => by cases h⟩

theorem over : Rows.clintTimeRow.holds Try.pinned (OpenSpec.ofChange Rows.clintTimeSpec) :=
  OpenClaim.holds_of_wide 6 Try.f6 rfl rfl rfl rfl rfl rfl rfl ⟨rfl, rfl, rfl, rfl, rfl⟩ rfl rfl rfl rfl rfl (by kernel_rfl) Try.func6 (by kernel_rfl)
    (of_decide_eq_true (by kernel_rfl)) (by unfold Func.isWrapper; first | (rw [if_pos (by decide +kernel)]; kernel_rfl) | (rw [if_neg (by decide +kernel)]; exact ⟨rfl, rfl⟩))
    (fun os started H enc _ => lifted os started H enc)

theorem proved : Rows.ClintTimeSaid :=
  over
#print axioms proved
end Go.Proofs.Ytmclkllmpamblaa.clintTime
