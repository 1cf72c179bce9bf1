/- Proves that whatever is started in a unit of package muldiv, stepped so often as it says it is done and not ahead of that, that what it has is the result, that dropped in between it has nothing and takes the next one, that what may not be is not started, and that the first test of the law holds. Conditions: none. -/
import Derived.Test.YtapaddbgmbkelaaRows
import Derived.Test.YtapaddbgmbkelaaMulA
import Derived.Test.YtapaddbgmbkelaaMulV
import Derived.WalkKit
import Derived.ProofKit
import Derived.OpenShut
import Derived.Below
import Derived.Carry
import Derived.ShutString
namespace Go.Proofs.Ytapaddbgmbkelaa.mulWays
open Go.ChangeShapes Go.WideShapes Go.ChangeAt Go.RowKit
set_option linter.unusedVariables false

theorem own : ownKnob Try.prog.godebug = none := by kernel_rfl

set_option maxRecDepth 100000 in
set_option maxHeartbeats 1000000 in
theorem walk (a0 : Int) (w0 : (Lit.int .i64 a0).wf = true) (a1 : Bool) (a2 : Int) (w2 : (Lit.int .u64 a2).wf = true) (a3 : Int) (w3 : (Lit.int .u64 a3).wf = true) (a4 : Int) (w4 : (Lit.int .i64 a4).wf = true) (w : World) :
    Calls Try.prog 9 #[.int .i64 a0, .bool a1, .int .u64 a2, .int .u64 a3, .int .i64 a4] w fun e w' => e = .returned (.bool true) ∧ Below w.heap.size w w' := by
  obtain ⟨a, rfl⟩ := u_of w2
  obtain ⟨b, rfl⟩ := u_of w3
  have bd : -9223372036854775808 ≤ a4 ∧ a4 ≤ 9223372036854775807 := by simp [Lit.wf, IntKind.bits, IntKind.signed, IntKind.min, IntKind.max] at w4; omega
  clear w0 w2 w3 w4
  obtain ⟨bd, bd'⟩ := bd
  go_enter Try.func9, Try.ntmps9
  go_wp2_with fail
  refine (new_unit _).mono ?_
  rintro e w1 ⟨rfl, k1, h1⟩
  go_wp2_with fail
  refine (awake5_yes _).mono ?_
  rintro e w2 ⟨rfl, h2⟩
  have hU := Lib.hid (k1.on h2)
  have HB : Hid (Below w.heap.size w w2) := Lib.hid (h1.trans h2)
  clear k1 h1 h2
  cases hd : dfd a0 a1
  · have HD := Lib.hid hd
    clear hd
    go_wp2_with fail
    refine (start_arg _ _ _ HD.out _ _ _ hU.out).mono ?_
    rintro e w3 ⟨rfl, h3⟩
    have hU := Lib.hid (hU.out.on h3)
    have HB : Hid (Below w.heap.size w w3) := Lib.hid (On.trans HB.out h3)
    clear h3
    go_wp2_with fail
    refine (left_at _ _ _ hU.out).mono ?_
    rintro e w4 ⟨rfl, rfl⟩
    rw [show Un.idle.left = 0 from rfl]
    go_wp2_with fail
    refine (step_idle _ _ hU.out).mono ?_
    rintro e w4 ⟨rfl, rfl⟩
    go_wp2
    go_ret
    exact ⟨rfl, HB.out⟩
  · have HD := Lib.hid hd
    clear hd
    go_wp2_with fail
    refine (start_ok _ _ _ HD.out _ _ _ hU.out).mono ?_
    rintro e w3 ⟨rfl, k3, h3⟩
    have hn := stp_range a0 a1 (prp a0 a1 a) (prp a0 a1 b)
    have HR := Lib.hid (tres_prp a0 a1 a b)
    have HB : Hid (Below w.heap.size w w3) := Lib.hid (But.below HB.out (Nat.le_refl _) HB.out.size h3)
    generalize stp a0 a1 (prp a0 a1 a) (prp a0 a1 b) = n at *
    generalize prp a0 a1 a = x at *
    generalize prp a0 a1 b = y at *
    have hU := Lib.hid k3
    clear k3 h3
    obtain ⟨n1, n2⟩ := hn
    go_wp2_with fail
    refine (left_at _ _ _ hU.out).mono ?_
    rintro e w4 ⟨rfl, rfl⟩
    rw [show (Un.busy a0 a1 x y n).left = n from rfl]
    go_wp2_with fail
    go_loopw [13] (fun i wr => ∃ k : Int, 0 ≤ k ∧ k ≤ n ∧ i = .int .i64 k ∧ Hid (UAt w.heap.size (stAt a0 a1 x y k) wr) ∧ Hid (Below w.heap.size w wr)) (fun i _ => (intOf i).toNat)
    case atStart => exact ⟨n, by omega, by omega, rfl, Lib.hid (by rw [stAt_busy _ _ _ _ _ (by omega)]; exact hU.out), HB⟩
    case round =>
      obtain ⟨k, hk1, hk2, rfl, hU, HB⟩ := hrel
      by_cases hk : 0 < k
      · have hU : Hid (UAt w.heap.size (.busy a0 a1 x y k) wr) := Lib.hid (by rw [← stAt_busy _ _ _ _ _ hk]; exact hU.out)
        go_wp2_with fail
        refine (take_no _ _ hU.out.busy2).mono ?_
        rintro e w4 ⟨rfl, rfl⟩
        go_wp2_with fail
        refine (left_at _ _ _ hU.out).mono ?_
        rintro e w4 ⟨rfl, rfl⟩
        rw [show (Un.busy a0 a1 x y k).left = k from rfl]
        by_cases hdr : n - k = a4
        · have t1 : (n - k == a4) = true := by simpa using hdr
          clear hdr
          go_wp2_with fail
          refine (take_no _ _ hU.out.busy2).mono ?_
          rintro e w4 ⟨rfl, rfl⟩
          go_wp2_with fail
          refine (drop_busy _ _ _ _ _ _ _ hU.out).mono ?_
          rintro e w4 ⟨rfl, k4, h4⟩
          have hU := Lib.hid k4
          have HB : Hid (Below w.heap.size w w4) := Lib.hid (But.below HB.out (Nat.le_refl _) HB.out.size h4)
          clear k4 h4
          go_wp2_with fail
          refine (left_at _ _ _ hU.out).mono ?_
          rintro e w5 ⟨rfl, rfl⟩
          rw [show Un.idle.left = 0 from rfl]
          go_wp2_with fail
          refine (start_ok _ _ _ HD.out _ _ _ hU.out).mono ?_
          rintro e w5 ⟨rfl, k5, h5⟩
          have HB : Hid (Below w.heap.size w w5) := Lib.hid (But.below HB.out (Nat.le_refl _) HB.out.size h5)
          clear k5 h5
          go_wp2
          go_ret
          exact ⟨rfl, HB.out⟩
        · have t1 : (n - k == a4) = false := by simpa using hdr
          clear hdr
          by_cases h1 : 1 < k
          · go_wp2_with fail
            refine (step_more _ _ _ _ _ _ h1 (by omega) _ hU.out).mono ?_
            rintro e w4 ⟨rfl, k4, h4⟩
            have hU := Lib.hid k4
            have HB : Hid (Below w.heap.size w w4) := Lib.hid (But.below HB.out (Nat.le_refl _) HB.out.size h4)
            clear k4 h4
            go_wp2
            go_roundw
            case rel => exact ⟨k - 1, by omega, by omega, by go_num, Lib.hid (by rw [stAt_busy _ _ _ _ _ (by omega)]; exact hU.out), HB⟩
            case measure => simp [intOf]; omega
          · obtain rfl : k = 1 := by omega
            go_wp2_with fail
            refine (step_last _ _ _ _ _ _ hU.out).mono ?_
            rintro e w4 ⟨rfl, k4, h4⟩
            have hU := Lib.hid k4
            have HB : Hid (Below w.heap.size w w4) := Lib.hid (But.below HB.out (Nat.le_refl _) HB.out.size h4)
            clear k4 h4
            go_wp2
            go_roundw
            case rel => exact ⟨0, by omega, by omega, by go_num, Lib.hid hU.out, HB⟩
            case measure => simp [intOf]
      · obtain rfl : k = 0 := by omega
        have hU : Hid (UAt w.heap.size (.fin (tres a0 a1 x y)) wr) := Lib.hid hU.out
        go_wp2_with fail
        refine (take_fin _ _ _ hU.out).mono ?_
        rintro e w4 ⟨rfl, k4, h4⟩
        have hU := Lib.hid k4
        have HB : Hid (Below w.heap.size w w4) := Lib.hid (But.below HB.out (Nat.le_refl _) HB.out.size h4)
        clear k4 h4
        go_wp2_with fail
        refine (take_no _ _ hU.out.idle2).mono ?_
        rintro e w5 ⟨rfl, rfl⟩
        go_wp2_with fail
        refine (mresult_any _ _ _ _ _).mono ?_
        rintro e w5 ⟨rfl, h5⟩
        have hU := Lib.hid (hU.out.on h5)
        have HB : Hid (Below w.heap.size w w5) := Lib.hid (Below.trans HB.out (Below.mono h5 HB.out.size))
        have t3 : (u (tres a0 a1 x y) == u (mres a0 a1 a b)) = true := by rw [HR.out]; simp
        clear h5
        go_wp2_with fail
        refine (step_idle _ _ hU.out).mono ?_
        rintro e w6 ⟨rfl, rfl⟩
        go_wp2
        go_ret
        exact ⟨rfl, HB.out⟩

set_option maxRecDepth 100000 in
theorem lifted (os : Os) (started : os.Started) (H : Type) (enc : TypeId × Value → H) :
    ReturnsInHanded {} Try.checked os 9 .any (Rows.mulWaysSpec.pre6 enc Try.prog Try.f9 Rows.mulWaysRow.domain false) (Rows.mulWaysSpec.post enc Try.prog Try.f9 false true false false) := by
  refine returnsInHanded_of_change (C := Try.checked) own started (by kernel_rfl) Try.func9
    (ChangeSpec.witness6 (enc := enc) (C := Try.checked) false ⟨#[], #[.int .i64 0, .bool false, .int .u64 0, .int .u64 0, .int .i64 0], []⟩ 12 (by kernel_rfl) (by kernel_rfl) (by kernel_rfl) (by kernel_rfl)) ?_
  intro W base args ds gs before hval0 hW hcnd _
  have hval : ∀ (j : Nat) t v, Try.f9.params[j]? = some t → args[j]? = some v → Value.okWide Try.prog W .any base t v := hval0
  have hW' := hW
  obtain ⟨p, q, hA0, hV, rfl, hfz, hnd⟩ := hW
  have hA : DataW.TrodAll enc Try.prog W 0 (fun _ => true) true Try.f9.params.toList args.toList ds p := hA0
  rw [Try.params9] at hA hval
  obtain ⟨v0, vs0, d0, ds0, p0, q0, hargs, rfl, rfl, h0, r0⟩ := trodAll_cons hA
  obtain ⟨v1, vs1, d1, ds1, p1, q1, rfl, rfl, rfl, h1, r1⟩ := trodAll_cons r0
  obtain ⟨v2, vs2, d2, ds2, p2, q2, rfl, rfl, rfl, h2, r2⟩ := trodAll_cons r1
  obtain ⟨v3, vs3, d3, ds3, p3, q3, rfl, rfl, rfl, h3, r3⟩ := trodAll_cons r2
  obtain ⟨v4, vs4, d4, ds4, p4, q4, rfl, rfl, rfl, h4, r4⟩ := trodAll_cons r3
  obtain ⟨rfl, rfl, rfl⟩ := trodAll_nil r4
  obtain rfl : args = #[v0, v1, v2, v3, v4] := by cases args; simp_all
  obtain ⟨rfl, rfl⟩ := trodVars_none hV
  obtain ⟨a0, rfl, rfl, rfl, w0⟩ := open_int Try.underlying3 (hval 0 3 v0 rfl rfl) h0
  obtain ⟨a1, rfl, rfl, rfl⟩ := open_bool Try.underlying4 (hval 1 4 v1 rfl rfl) h1
  obtain ⟨a2, rfl, rfl, rfl, w2⟩ := open_int Try.underlying22 (hval 2 22 v2 rfl rfl) h2
  obtain ⟨a3, rfl, rfl, rfl, w3⟩ := open_int Try.underlying22 (hval 3 22 v3 rfl rfl) h3
  obtain ⟨a4, rfl, rfl, rfl, w4⟩ := open_int Try.underlying3 (hval 4 3 v4 rfl rfl) h4
  clear hA0 hval0
  refine (walk a0 w0 a1 a2 w2 a3 w3 a4 w4 W).mono fun e W' ⟨he, bel⟩ => ?_
  subst he
  exact ⟨_, rfl, _, _, _, [], _, [], hW', trodAll_mk1 (shut_bool Try.underlying4 _), (trodAll_cons_mk (shut_int Try.underlying3 w0) (trodAll_cons_mk (shut_bool Try.underlying4 _) (trodAll_cons_mk (shut_int Try.underlying22 w2) (trodAll_cons_mk (shut_int Try.underlying22 w3) (trodAll_cons_mk (shut_int Try.underlying3 w4) trodAll_mk0))))), rfl, bel.frame _, fun h => by cases h⟩

theorem over : Rows.mulWaysRow.holds Try.pinned (OpenSpec.ofChange Rows.mulWaysSpec) :=
  OpenClaim.holds_of_wide 9 Try.f9 rfl rfl rfl rfl rfl rfl rfl ⟨rfl, rfl, rfl, rfl, rfl⟩ rfl rfl rfl rfl rfl (by kernel_rfl) Try.func9 (by kernel_rfl)
    (of_decide_eq_true (by kernel_rfl)) (by unfold Func.isWrapper; first | (rw [if_pos (by decide +kernel)]; kernel_rfl) | (rw [if_neg (by decide +kernel)]; exact ⟨rfl, rfl⟩))
    (fun os started H enc _ => lifted os started H enc)

theorem proved : Rows.MulWaysSaid :=
  over
#print axioms proved
end Go.Proofs.Ytapaddbgmbkelaa.mulWays
