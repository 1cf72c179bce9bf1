/- Proves that for any state of the CSRs, any number, any privilege and any outer world Read answers the value and the error that the reference does, that Reset is the state in which all is zero, and that the first test of the law holds. Conditions: none. -/
import Derived.Test.YtoobbapdjoajgaaRows
import Derived.Test.YtoobbapdjoajgaaCsrA
import Derived.Test.YtoobbapdjoajgaaFlat
import Derived.WalkKit
import Derived.ProofKit
import Derived.OpenShut
import Derived.Below
import Derived.Carry
import Derived.ShutString
namespace Go.Proofs.Ytoobbapdjoajgaa.csrReads
open Go.ChangeShapes Go.WideShapes Go.ChangeAt Go.RowKit
set_option linter.unusedVariables false

theorem own : ownKnob Try.prog.godebug = none := by kernel_rfl

set_option maxRecDepth 100000 in
set_option maxHeartbeats 1000000 in
theorem walk (c0 : List Value) (f0 : Fits [.int .u64, .int .u64, .int .u64, .int .u64, .int .u64, .int .u64, .int .u64, .int .u64, .int .u64, .int .u64, .int .u64, .int .u64, .int .u64, .int .u64, .int .u64, .int .u64, .int .u64, .int .u64, .int .u64, .int .u64, .int .u64, .int .u64, .int .u64, .int .u64, .int .u64, .int .u64, .int .u64, .int .u64, .int .u64, .int .u64] c0) (a1 : Int) (w1 : (Lit.int .i64 a1).wf = true) (a2 : Int) (w2 : (Lit.int .i64 a2).wf = true) (c3 : List Value) (f3 : Fits [.int .u64, .int .u64, .int .u64, .int .u64, .int .u64, .int .u64, .int .u64, .bool, .int .u64, .bool] c3) (w : World) :
    Calls Try.prog 3 #[.agg c0.toArray, .int .i64 a1, .int .i64 a2, .agg c3.toArray] w fun e w' => e = .returned (.bool true) ∧ Below w.heap.size w w' := by
  have f0 : Fits csrLeaves c0 := f0
  obtain ⟨c, hc⟩ := cV_of f0
  rw [hc]
  have f3 : Fits (List.replicate 7 (.int .u64) ++ [.bool, .int .u64, .bool]) c3 := f3
  obtain ⟨e, p, q, he⟩ := eV_of f3
  rw [he]
  clear hc f0 he f3
  clear w1 w2
  have hZ := fun w => csr_zero w
  have hq := fun c w => csr_eql c w
  have K1 : Hid (∀ w, Calls Try.prog 14 #[.agg (cV c), .int .i64 a1, .int .i64 a2, .agg (eV e p q)] w fun r w' => r = .returned (.tuple #[.int .u64 (u (rdV c e a1 a2)), .int .i64 (okE (rdb c a1 a2))]) ∧ On w w') := Lib.hid (fun w => read_any c e p q a1 a2 w)
  have K2 : Hid (∀ w, Calls Try.prog 15 #[.agg (cV c), .int .i64 a1, .int .i64 a2, .agg (eV e p q)] w fun r w' => r = .returned (.tuple #[.int .u64 (u (rdV c e a1 a2)), .int .i64 (okE (rdb c a1 a2))]) ∧ On w w') := Lib.hid (fun w => rread_any c e p q a1 a2 w)
  generalize rdV c e a1 a2 = y at *
  generalize okE (rdb c a1 a2) = k at *
  have s0 : ∀ wr, On ((w.alloc (.cells (cV c) 25)).alloc (.cells (eV e p q) 27)) wr → wr.heap[w.heap.size]? = some (.cells (cV c) 25 (0, 0)) := fun _ h => h.keep (box1 _ _ _)
  have t0 : ∀ wr, On ((w.alloc (.cells (cV c) 25)).alloc (.cells (eV e p q) 27)) wr → wr.heap[w.heap.size + 1]? = some (.cells (eV e p q) 27 (0, 0)) := fun _ h => h.keep (box2 _ _ _)
  have hb0 := On.refl (((w.alloc (.cells (cV c) 25)).alloc (.cells (eV e p q) 27)))
  have hb1 : ∀ o, On (((w.alloc (.cells (cV c) 25)).alloc (.cells (eV e p q) 27))) ((((w.alloc (.cells (cV c) 25)).alloc (.cells (eV e p q) 27))).alloc o) := fun o => (On.refl _).alloc o
  have HB : Hid (On w (((w.alloc (.cells (cV c) 25)).alloc (.cells (eV e p q) 27)))) := Lib.hid (((On.refl w).alloc _).alloc _)
  go_enter Try.func3, Try.ntmps3
  go_wp2_with (first | ((with_reducible apply csr_ld); (case ho => exact rfl); (case hgd => exact rfl); (case hx => exact rfl); (case hg => (first | exact s0 _ (by first | exact hb0 | exact hb1 _) | exact t0 _ (by first | exact hb0 | exact hb1 _) | exact heap_alloc_new _ _))) | ((with_reducible apply env_ld); (case ho => exact rfl); (case hgd => exact rfl); (case hx => exact rfl); (case hg => (first | exact s0 _ (by first | exact hb0 | exact hb1 _) | exact t0 _ (by first | exact hb0 | exact hb1 _) | exact heap_alloc_new _ _))) | ((with_reducible apply csr_new_st); (case ho => exact rfl); (case hgd => exact rfl); (case hx => exact rfl); (case hy => exact rfl)))
  go_at_call 14; refine (K1.out _).mono ?_; rintro _ w1 ⟨rfl, hb'⟩
  have hb := hb'
  replace s0 := fun wr (h : On w1 wr) => s0 wr (hb.trans h)
  replace t0 := fun wr (h : On w1 wr) => t0 wr (hb.trans h)
  replace hb0 := On.refl w1
  replace hb1 : ∀ o, On w1 (w1.alloc o) := fun o => (On.refl w1).alloc o
  have HB := Lib.hid (HB.out.trans hb)
  clear hb hb'
  go_wp2_with (first | ((with_reducible apply csr_ld); (case ho => exact rfl); (case hgd => exact rfl); (case hx => exact rfl); (case hg => (first | exact s0 _ (by first | exact hb0 | exact hb1 _) | exact t0 _ (by first | exact hb0 | exact hb1 _) | exact heap_alloc_new _ _))) | ((with_reducible apply env_ld); (case ho => exact rfl); (case hgd => exact rfl); (case hx => exact rfl); (case hg => (first | exact s0 _ (by first | exact hb0 | exact hb1 _) | exact t0 _ (by first | exact hb0 | exact hb1 _) | exact heap_alloc_new _ _))) | ((with_reducible apply csr_new_st); (case ho => exact rfl); (case hgd => exact rfl); (case hx => exact rfl); (case hy => exact rfl)))
  go_at_call 15; refine (K2.out _).mono ?_; rintro _ w2 ⟨rfl, hb'⟩
  have hb := hb'
  replace s0 := fun wr (h : On w2 wr) => s0 wr (hb.trans h)
  replace t0 := fun wr (h : On w2 wr) => t0 wr (hb.trans h)
  replace hb0 := On.refl w2
  replace hb1 : ∀ o, On w2 (w2.alloc o) := fun o => (On.refl w2).alloc o
  have HB := Lib.hid (HB.out.trans hb)
  clear hb hb'
  go_wp2_with (first | ((with_reducible apply csr_ld); (case ho => exact rfl); (case hgd => exact rfl); (case hx => exact rfl); (case hg => (first | exact s0 _ (by first | exact hb0 | exact hb1 _) | exact t0 _ (by first | exact hb0 | exact hb1 _) | exact heap_alloc_new _ _))) | ((with_reducible apply env_ld); (case ho => exact rfl); (case hgd => exact rfl); (case hx => exact rfl); (case hg => (first | exact s0 _ (by first | exact hb0 | exact hb1 _) | exact t0 _ (by first | exact hb0 | exact hb1 _) | exact heap_alloc_new _ _))) | ((with_reducible apply csr_new_st); (case ho => exact rfl); (case hgd => exact rfl); (case hx => exact rfl); (case hy => exact rfl)))
  go_at_call 16; refine (awake7_yes _).mono ?_; rintro _ w3 ⟨rfl, hb'⟩
  have hb := hb'
  replace s0 := fun wr (h : On w3 wr) => s0 wr (hb.trans h)
  replace t0 := fun wr (h : On w3 wr) => t0 wr (hb.trans h)
  replace hb0 := On.refl w3
  replace hb1 : ∀ o, On w3 (w3.alloc o) := fun o => (On.refl w3).alloc o
  have HB := Lib.hid (HB.out.trans hb)
  clear hb hb'
  go_wp2_with (first | ((with_reducible apply csr_ld); (case ho => exact rfl); (case hgd => exact rfl); (case hx => exact rfl); (case hg => (first | exact s0 _ (by first | exact hb0 | exact hb1 _) | exact t0 _ (by first | exact hb0 | exact hb1 _) | exact heap_alloc_new _ _))) | ((with_reducible apply env_ld); (case ho => exact rfl); (case hgd => exact rfl); (case hx => exact rfl); (case hg => (first | exact s0 _ (by first | exact hb0 | exact hb1 _) | exact t0 _ (by first | exact hb0 | exact hb1 _) | exact heap_alloc_new _ _))) | ((with_reducible apply csr_new_st); (case ho => exact rfl); (case hgd => exact rfl); (case hx => exact rfl); (case hy => exact rfl)))
  go_at_call 17; refine (reset_any _).mono ?_; rintro _ w4 ⟨rfl, hb'⟩
  have hb := hb'
  replace s0 := fun wr (h : On w4 wr) => s0 wr (hb.trans h)
  replace t0 := fun wr (h : On w4 wr) => t0 wr (hb.trans h)
  replace hb0 := On.refl w4
  replace hb1 : ∀ o, On w4 (w4.alloc o) := fun o => (On.refl w4).alloc o
  have HB := Lib.hid (HB.out.trans hb)
  clear hb hb'
  go_wp2_with (first | ((with_reducible apply csr_ld); (case ho => exact rfl); (case hgd => exact rfl); (case hx => exact rfl); (case hg => (first | exact s0 _ (by first | exact hb0 | exact hb1 _) | exact t0 _ (by first | exact hb0 | exact hb1 _) | exact heap_alloc_new _ _))) | ((with_reducible apply env_ld); (case ho => exact rfl); (case hgd => exact rfl); (case hx => exact rfl); (case hg => (first | exact s0 _ (by first | exact hb0 | exact hb1 _) | exact t0 _ (by first | exact hb0 | exact hb1 _) | exact heap_alloc_new _ _))) | ((with_reducible apply csr_new_st); (case ho => exact rfl); (case hgd => exact rfl); (case hx => exact rfl); (case hy => exact rfl)))
  go_ret
  exact ⟨rfl, HB.out⟩

set_option maxRecDepth 100000 in
theorem lifted (os : Os) (started : os.Started) (H : Type) (enc : TypeId × Value → H) :
    ReturnsInHanded {} Try.checked os 3 .any (Rows.csrReadsSpec.pre6 enc Try.prog Try.f3 Rows.csrReadsRow.domain false) (Rows.csrReadsSpec.post enc Try.prog Try.f3 false true false false) := by
  refine returnsInHanded_of_change (C := Try.checked) own started (by kernel_rfl) Try.func3
    (ChangeSpec.witness6 (enc := enc) (C := Try.checked) false ⟨#[], #[.agg #[.int .u64 0, .int .u64 0, .int .u64 0, .int .u64 0, .int .u64 0, .int .u64 0, .int .u64 0, .int .u64 0, .int .u64 0, .int .u64 0, .int .u64 0, .int .u64 0, .int .u64 0, .int .u64 0, .int .u64 0, .int .u64 0, .int .u64 0, .int .u64 0, .int .u64 0, .int .u64 0, .int .u64 0, .int .u64 0, .int .u64 0, .int .u64 0, .int .u64 0, .int .u64 0, .int .u64 0, .int .u64 0, .int .u64 0, .int .u64 0], .int .i64 0, .int .i64 0, .agg #[.int .u64 0, .int .u64 0, .int .u64 0, .int .u64 0, .int .u64 0, .int .u64 0, .int .u64 0, .bool false, .int .u64 0, .bool false]], []⟩ 12 (by kernel_rfl) (by kernel_rfl) (by kernel_rfl) (by kernel_rfl)) ?_
  intro W base args ds gs before hval0 hW hcnd _
  have hval : ∀ (j : Nat) t v, Try.f3.params[j]? = some t → args[j]? = some v → Value.okWide Try.prog W .any base t v := hval0
  have hW' := hW
  obtain ⟨p, q, hA0, hV, rfl, hfz, hnd⟩ := hW
  have hA : DataW.TrodAll enc Try.prog W 0 (fun _ => true) true Try.f3.params.toList args.toList ds p := hA0
  rw [Try.params3] at hA hval
  obtain ⟨v0, vs0, d0, ds0, p0, q0, hargs, rfl, rfl, h0, r0⟩ := trodAll_cons hA
  obtain ⟨v1, vs1, d1, ds1, p1, q1, rfl, rfl, rfl, h1, r1⟩ := trodAll_cons r0
  obtain ⟨v2, vs2, d2, ds2, p2, q2, rfl, rfl, rfl, h2, r2⟩ := trodAll_cons r1
  obtain ⟨v3, vs3, d3, ds3, p3, q3, rfl, rfl, rfl, h3, r3⟩ := trodAll_cons r2
  obtain ⟨rfl, rfl, rfl⟩ := trodAll_nil r3
  obtain rfl : args = #[v0, v1, v2, v3] := by cases args; simp_all
  obtain ⟨rfl, rfl⟩ := trodVars_none hV
  have k0 := h0
  have l0 : ∀ x ∈ p0, x.block < W.heap.size := fun x hx => by have := hW'.lt x (by simp [hx]); simpa using this
  obtain ⟨c0, rfl, f0⟩ := open_flat 12 [.int .u64, .int .u64, .int .u64, .int .u64, .int .u64, .int .u64, .int .u64, .int .u64, .int .u64, .int .u64, .int .u64, .int .u64, .int .u64, .int .u64, .int .u64, .int .u64, .int .u64, .int .u64, .int .u64, .int .u64, .int .u64, .int .u64, .int .u64, .int .u64, .int .u64, .int .u64, .int .u64, .int .u64, .int .u64, .int .u64] (by kernel_rfl) (by kernel_rfl) (.inl ⟨_, Try.underlying25⟩) (hval 0 25 v0 rfl rfl) h0
  clear h0
  obtain ⟨a1, rfl, rfl, rfl, w1⟩ := open_int Try.underlying3 (hval 1 3 v1 rfl rfl) h1
  obtain ⟨a2, rfl, rfl, rfl, w2⟩ := open_int Try.underlying3 (hval 2 3 v2 rfl rfl) h2
  have k3 := h3
  have l3 : ∀ x ∈ p3, x.block < W.heap.size := fun x hx => by have := hW'.lt x (by simp [hx]); simpa using this
  obtain ⟨c3, rfl, f3⟩ := open_flat 12 [.int .u64, .int .u64, .int .u64, .int .u64, .int .u64, .int .u64, .int .u64, .bool, .int .u64, .bool] (by kernel_rfl) (by kernel_rfl) (.inl ⟨_, Try.underlying27⟩) (hval 3 27 v3 rfl rfl) h3
  clear h3
  clear hA0 hval0
  refine (walk c0 f0 a1 w1 a2 w2 c3 f3 W).mono fun e W' ⟨he, bel⟩ => ?_
  subst he
  exact ⟨_, rfl, _, _, _, [], _, [], hW', trodAll_mk1 (shut_bool Try.underlying4 _), (trodAll_cons_mk (Below.trod (by kernel_rfl) (by kernel_rfl) (of_decide_eq_true (by kernel_rfl)) k0 bel l0) (trodAll_cons_mk (shut_int Try.underlying3 w1) (trodAll_cons_mk (shut_int Try.underlying3 w2) (trodAll_cons_mk (Below.trod (by kernel_rfl) (by kernel_rfl) (of_decide_eq_true (by kernel_rfl)) k3 bel l3) trodAll_mk0)))), rfl, bel.frame _, fun h => by cases h⟩

theorem over : Rows.csrReadsRow.holds Try.pinned (OpenSpec.ofChange Rows.csrReadsSpec) :=
  OpenClaim.holds_of_wide 3 Try.f3 rfl rfl rfl rfl rfl rfl rfl ⟨rfl, rfl, rfl, rfl, rfl⟩ rfl rfl rfl rfl rfl (by kernel_rfl) Try.func3 (by kernel_rfl)
    (of_decide_eq_true (by kernel_rfl)) (by unfold Func.isWrapper; first | (rw [if_pos (by decide +kernel)]; kernel_rfl) | (rw [if_neg (by decide +kernel)]; exact ⟨rfl, rfl⟩))
    (fun os started H enc _ => lifted os started H enc)

theorem proved : Rows.CsrReadsSaid :=
  over
#print axioms proved
end Go.Proofs.Ytoobbapdjoajgaa.csrReads
