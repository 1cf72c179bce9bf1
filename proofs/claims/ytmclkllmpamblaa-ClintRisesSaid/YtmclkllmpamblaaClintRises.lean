/- Proves that the line of a clint's timer rises just when the time comes to what it is compared with, and falls when that is written above it, from any time that is not too far; and that the first test of the law holds. Conditions: none. -/
import Derived.Test.YtmclkllmpamblaaRows
import Derived.Test.YtmclkllmpamblaaClkR
import Derived.WalkKit
import Derived.ProofKit
import Derived.OpenShut
import Derived.Below
import Derived.Carry
import Derived.ShutString
namespace Go.Proofs.Ytmclkllmpamblaa.clintRises
open Go.ChangeShapes Go.WideShapes Go.ChangeAt Go.RowKit
set_option linter.unusedVariables false

theorem own : ownKnob Try.prog.godebug = none := by kernel_rfl

set_option maxRecDepth 100000 in
set_option maxHeartbeats 1000000 in
theorem walk (a0 : Int) (w0 : (Lit.int .u64 a0).wf = true) (a1 : Int) (w1 : (Lit.int .i64 a1).wf = true) (w : World) :
    Calls Try.prog 4 #[.int .u64 a0, .int .i64 a1] w fun e w' => e = .returned (.bool true) ∧ Below w.heap.size w w' := by
  obtain ⟨a, rfl⟩ := u_of w0
  clear w0
  obtain ⟨n, hn, hn2, hn3⟩ : ∃ n : Nat, wrap64 ((IntKind.u64.wrap a1).tmod 300) = (n : Int) ∧ (n : Int) < 300 ∧ IntKind.u64.wrap (n : Int) = (n : Int) := ticks_of a1 300 (by omega) (by omega)
  go_enter Try.func4, Try.ntmps4
  go_wp2_with fail
  refine (new_clk _).mono ?_
  rintro e w1 ⟨rfl, k1, h1⟩
  have K := Lib.hid k1
  have HB : Hid (On w w1) := Lib.hid h1
  clear k1 h1
  go_wp2_with fail
  rw [hn]
  generalize (IntKind.u64.wrap a1).tmod 300 = m1
  generalize IntKind.u64.wrap a1 = m2
  clear hn
  refine (awake_clk _).mono ?_
  rintro e w2 ⟨rfl, h2⟩
  have K := Lib.hid (K.out.on h2)
  have HB : Hid (On w w2) := Lib.hid (HB.out.trans h2)
  clear h2
  by_cases ha : 9223372036854775808 < u a
  · go_wp2_with fail
    refine (awake_clk _).mono ?_
    rintro e w3 ⟨rfl, h3⟩
    have HB : Hid (On w w3) := Lib.hid (HB.out.trans h3)
    clear h3
    go_wp2
    go_ret
    exact ⟨rfl, HB.out⟩
  · have ha2 : u a ≤ 9223372036854775808 := by omega
    have HA := Lib.hid ha2
    have hx := (u_add a (BitVec.ofNat 64 n)).trans (congrArg u rfl)
    rw [show u (BitVec.ofNat 64 n) = (n : Int) from by unfold u; rw [BitVec.toNat_ofNat]; omega] at hx
    have hx1 : IntKind.u64.wrap (u (a + BitVec.ofNat 64 n) + 1) = u (a + BitVec.ofNat 64 (n + 1)) := by rw [← nat_succ]; exact u_add _ 1
    obtain ⟨c, hc⟩ : ∃ c, a + BitVec.ofNat 64 n = c := ⟨_, rfl⟩
    obtain ⟨c1, hc1⟩ : ∃ c1, a + BitVec.ofNat 64 (n + 1) = c1 := ⟨_, rfl⟩
    rw [hc] at hx hx1
    rw [hc1] at hx1
    have HC := Lib.hid (And.intro hc (And.intro hc1 (show n ≤ 300 by omega)))
    clear hc hc1
    go_wp2_with fail
    refine (write_clk K.out .time a).mono ?_
    rw [show rgE (some 2) = 0 from rfl]
    rintro e w3 ⟨rfl, k3, h3⟩
    have K : Hid (CkAt w.heap.size false (BitVec.allOnes 64) a w3) := Lib.hid k3
    have HB : Hid (On w w3) := Lib.hid (But.below HB.out (Nat.le_refl _) HB.out.size h3)
    clear k3 h3
    go_wp2_with fail
    refine (write_clk K.out .cmp c).mono ?_
    rw [show rgE (some 1) = 0 from rfl]
    rintro e w4 ⟨rfl, k4, h4⟩
    have K : Hid (CkAt w.heap.size false c a w4) := Lib.hid k4
    have HB : Hid (On w w4) := Lib.hid (But.below HB.out (Nat.le_refl _) HB.out.size h4)
    clear k4 h4
    clear ha2
    go_wp2_with fail
    go_loopw [7] (fun i wr => ∃ k : Nat, k ≤ n ∧ i = .int .i64 k ∧ Hid (CkAt w.heap.size false c (a + BitVec.ofNat 64 k) wr) ∧ Hid (On w wr)) (fun i _ => n - (intOf i).toNat)
    case atStart => exact ⟨0, by omega, rfl, Lib.hid (by rw [show a + BitVec.ofNat 64 0 = a from BitVec.add_zero a]; exact K.out), HB⟩
    case round =>
      clear K HB
      obtain ⟨k, hk, rfl, K, HB⟩ := hrel
      by_cases hkn : k < n
      · have HL := Lib.hid (HC.out.1 ▸ lnV_off HA.out (by have := HC.out.2.2; omega) hkn)
        go_wp2_with fail
        refine (lines_any K.out).mono ?_
        rw [HL.out]
        rintro e w5 ⟨rfl, h5⟩
        have K := Lib.hid (K.out.on h5)
        have HB : Hid (On w w5) := Lib.hid (HB.out.trans h5)
        clear h5
        go_wp2_with fail
        refine (tick_any K.out).mono ?_
        rintro e w6 ⟨rfl, k6, h6⟩
        rw [nat_succ] at k6
        have K := Lib.hid k6
        have HB : Hid (On w w6) := Lib.hid (But.below HB.out (Nat.le_refl _) HB.out.size h6)
        clear k6 h6
        go_wp2
        go_roundw
        case rel => exact ⟨k + 1, by omega, by go_num, K, HB⟩
        case measure => simp [intOf]; omega
      · obtain rfl : k = n := by omega
        have K : Hid (CkAt w.heap.size false c c wr) := Lib.hid (by have := K.out; rwa [HC.out.1] at this)
        have HL : Hid (lnV false c1 c = 0) := Lib.hid (by rw [← HC.out.1, ← HC.out.2.1]; exact lnV_off HA.out (by have := HC.out.2.2; omega) (Nat.lt_succ_self _))
        have HE : Hid (c + 1 = c1) := Lib.hid (by rw [← HC.out.1, ← HC.out.2.1]; exact nat_succ _ _)
        go_wp2_with fail
        refine (lines_any K.out).mono ?_
        rw [lnV_on]
        rintro e w5 ⟨rfl, h5⟩
        have K := Lib.hid (K.out.on h5)
        have HB : Hid (On w w5) := Lib.hid (HB.out.trans h5)
        clear h5
        go_wp2_with fail
        refine (write_clk K.out .cmp c1).mono ?_
        rw [show rgE (some 1) = 0 from rfl]
        rintro e w6 ⟨rfl, k6, h6⟩
        have K : Hid (CkAt w.heap.size false c1 c w6) := Lib.hid k6
        have HB : Hid (On w w6) := Lib.hid (But.below HB.out (Nat.le_refl _) HB.out.size h6)
        clear k6 h6
        go_wp2_with fail
        refine (lines_any K.out).mono ?_
        rw [HL.out]
        rintro e w7 ⟨rfl, h7⟩
        have K := Lib.hid (K.out.on h7)
        have HB : Hid (On w w7) := Lib.hid (HB.out.trans h7)
        clear h7
        go_wp2_with fail
        refine (tick_any K.out).mono ?_
        rintro e w8 ⟨rfl, k8, h8⟩
        rw [HE.out] at k8
        have K := Lib.hid k8
        have HB : Hid (On w w8) := Lib.hid (But.below HB.out (Nat.le_refl _) HB.out.size h8)
        clear k8 h8
        go_wp2_with fail
        refine (lines_any K.out).mono ?_
        rw [lnV_on]
        rintro e w9 ⟨rfl, h9⟩
        have K := Lib.hid (K.out.on h9)
        have HB : Hid (On w w9) := Lib.hid (HB.out.trans h9)
        clear h9
        go_wp2
        go_ret
        exact ⟨rfl, HB.out⟩

set_option maxRecDepth 100000 in
theorem lifted (os : Os) (started : os.Started) (H : Type) (enc : TypeId × Value → H) :
    ReturnsInHanded {} Try.checked os 4 .any (Rows.clintRisesSpec.pre6 enc Try.prog Try.f4 Rows.clintRisesRow.domain false) (Rows.clintRisesSpec.post enc Try.prog Try.f4 false true false false) := by
  refine returnsInHanded_of_change (C := Try.checked) own started (by kernel_rfl) Try.func4
    (ChangeSpec.witness6 (enc := enc) (C := Try.checked) false ⟨#[], #[.int .u64 0, .int .i64 0], []⟩ 12 (by kernel_rfl) (by kernel_rfl) (by kernel_rfl) (by kernel_rfl)) ?_
  intro W base args ds gs before hval0 hW hcnd _
  have hval : ∀ (j : Nat) t v, Try.f4.params[j]? = some t → args[j]? = some v → Value.okWide Try.prog W .any base t v := hval0
  have hW' := hW
  obtain ⟨p, q, hA0, hV, rfl, hfz, hnd⟩ := hW
  have hA : DataW.TrodAll enc Try.prog W 0 (fun _ => true) true Try.f4.params.toList args.toList ds p := hA0
  rw [Try.params4] at hA hval
  obtain ⟨v0, vs0, d0, ds0, p0, q0, hargs, rfl, rfl, h0, r0⟩ := trodAll_cons hA
  obtain ⟨v1, vs1, d1, ds1, p1, q1, rfl, rfl, rfl, h1, r1⟩ := trodAll_cons r0
  obtain ⟨rfl, rfl, rfl⟩ := trodAll_nil r1
  obtain rfl : args = #[v0, v1] := by cases args; simp_all
  obtain ⟨rfl, rfl⟩ := trodVars_none hV
  obtain ⟨a0, rfl, rfl, rfl, w0⟩ := open_int Try.underlying25 (hval 0 25 v0 rfl rfl) h0
  obtain ⟨a1, rfl, rfl, rfl, w1⟩ := open_int Try.underlying3 (hval 1 3 v1 rfl rfl) h1
  clear hA0 hval0
  refine (walk a0 w0 a1 w1 W).mono fun e W' ⟨he, bel⟩ => ?_
  subst he
  exact ⟨_, rfl, _, _, _, [], _, [], hW', trodAll_mk1 (shut_bool Try.underlying4 _), (trodAll_cons_mk (shut_int Try.underlying25 w0) (trodAll_cons_mk (shut_int Try.underlying3 w1) trodAll_mk0)), rfl, bel.frame _, fun h => by cases h⟩

theorem over : Rows.clintRisesRow.holds Try.pinned (OpenSpec.ofChange Rows.clintRisesSpec) :=
  OpenClaim.holds_of_wide 4 Try.f4 rfl rfl rfl rfl rfl rfl rfl ⟨rfl, rfl, rfl, rfl, rfl⟩ rfl rfl rfl rfl rfl (by kernel_rfl) Try.func4 (by kernel_rfl)
    (of_decide_eq_true (by kernel_rfl)) (by unfold Func.isWrapper; first | (rw [if_pos (by decide +kernel)]; kernel_rfl) | (rw [if_neg (by decide +kernel)]; exact ⟨rfl, rfl⟩))
    (fun os started H enc _ => lifted os started H enc)

theorem proved : Rows.ClintRisesSaid :=
  over
#print axioms proved
end Go.Proofs.Ytmclkllmpamblaa.clintRises
