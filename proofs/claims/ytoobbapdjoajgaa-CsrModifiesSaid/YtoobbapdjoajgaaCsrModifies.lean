/- Proves that for any state of the CSRs and any access of an instruction Modify answers the value, the state and the error that the reference does, and that the first test of the law holds. Conditions: none. -/
import Derived.Test.YtoobbapdjoajgaaRows
import Derived.Test.YtoobbapdjoajgaaCsrA
import Derived.Test.YtoobbapdjoajgaaFlat
import Derived.WalkKit
import Derived.ProofKit
import Derived.OpenShut
import Derived.Below
import Derived.Carry
import Derived.ShutString
namespace Go.Proofs.Ytoobbapdjoajgaa.csrModifies
open Go.ChangeShapes Go.WideShapes Go.ChangeAt Go.RowKit
set_option linter.unusedVariables false

theorem own : ownKnob Try.prog.godebug = none := by kernel_rfl

set_option maxRecDepth 100000 in
set_option maxHeartbeats 1000000 in
theorem walk (c0 : List Value) (f0 : Fits [.int .u64, .int .u64, .int .u64, .int .u64, .int .u64, .int .u64, .int .u64, .int .u64, .int .u64, .int .u64, .int .u64, .int .u64, .int .u64, .int .u64, .int .u64, .int .u64, .int .u64, .int .u64, .int .u64, .int .u64, .int .u64, .int .u64, .int .u64, .int .u64, .int .u64, .int .u64, .int .u64, .int .u64, .int .u64, .int .u64] c0) (c1 : List Value) (f1 : Fits [.int .i64, .int .i64, .int .i64, .int .u64, .bool, .int .u64, .int .u64, .int .u64, .int .u64, .int .u64, .int .u64, .int .u64, .bool, .int .u64, .bool] c1) (w : World) :
    Calls Try.prog 5 #[.agg c0.toArray, .agg c1.toArray] w fun e w' => e = .returned (.bool true) ∧ Below w.heap.size w w' := by
  have f0 : Fits csrLeaves c0 := f0
  obtain ⟨c, hc⟩ := cV_of f0
  rw [hc]
  have f1 : Fits accLeaves c1 := f1
  obtain ⟨n, m, f, x, o, e, p, q, ha⟩ := aV_of f1
  rw [ha]
  clear hc f0 ha f1
  have hZ := fun w => csr_zero w
  have hq := fun c w => csr_eql c w
  have K1 : Hid (∀ w, Calls Try.prog 20 #[.agg (cV c), .int .i64 n, .int .i64 m, .int .i64 f, .int .u64 (u x), .bool o, .agg (eV e p q)] w fun r w' => r = .returned (.tuple #[.int .u64 (u (mdV c e n m f o)), .agg (cV (mdC c e n m f x o)), .int .i64 (okE (mdB c n m f o))]) ∧ On w w') := Lib.hid (fun w => modify_any c e p q n m f x o w)
  have K2 : Hid (∀ w, Calls Try.prog 21 #[.agg (cV c), .int .i64 n, .int .i64 m, .int .i64 f, .int .u64 (u x), .bool o, .agg (eV e p q)] w fun r w' => r = .returned (.tuple #[.int .u64 (u (mdV c e n m f o)), .agg (cV (mdC c e n m f x o)), .int .i64 (okE (mdB c n m f o))]) ∧ On w w') := Lib.hid (fun w => rmodify_any c e p q n m f x o w)
  generalize mdV c e n m f o = y at *
  generalize mdC c e n m f x o = z at *
  generalize okE (mdB c n m f o) = k at *
  have s0 : ∀ wr, On ((w.alloc (.cells (cV c) 25)).alloc (.cells (aV n m f x o e p q) 38)) wr → wr.heap[w.heap.size]? = some (.cells (cV c) 25 (0, 0)) := fun _ h => h.keep (box1 _ _ _)
  have r0 : ∀ wr, On ((w.alloc (.cells (cV c) 25)).alloc (.cells (aV n m f x o e p q) 38)) wr → wr.heap[w.heap.size + 1]? = some (.cells (aV n m f x o e p q) 38 (0, 0)) := fun _ h => h.keep (box2 _ _ _)
  have hb0 := On.refl (((w.alloc (.cells (cV c) 25)).alloc (.cells (aV n m f x o e p q) 38)))
  have hb1 : ∀ ob : Obj, On (((w.alloc (.cells (cV c) 25)).alloc (.cells (aV n m f x o e p q) 38))) ((((w.alloc (.cells (cV c) 25)).alloc (.cells (aV n m f x o e p q) 38))).alloc ob) := fun ob => (On.refl _).alloc ob
  have n0 : ∀ wr, On ((w.alloc (.cells (cV c) 25)).alloc (.cells (aV n m f x o e p q) 38)) wr → wr.cell? ⟨w.heap.size + 1, 0, none⟩ = some (.int .i64 n) := fun _ h => blk_cell (r0 _ h) 0 (aV_0 ..)
  have n1 : ∀ wr, On ((w.alloc (.cells (cV c) 25)).alloc (.cells (aV n m f x o e p q) 38)) wr → wr.cell? ⟨w.heap.size + 1, 1, none⟩ = some (.int .i64 m) := fun _ h => blk_cell (r0 _ h) 1 (aV_1 ..)
  have n2 : ∀ wr, On ((w.alloc (.cells (cV c) 25)).alloc (.cells (aV n m f x o e p q) 38)) wr → wr.cell? ⟨w.heap.size + 1, 2, none⟩ = some (.int .i64 f) := fun _ h => blk_cell (r0 _ h) 2 (aV_2 ..)
  have n3 : ∀ wr, On ((w.alloc (.cells (cV c) 25)).alloc (.cells (aV n m f x o e p q) 38)) wr → wr.cell? ⟨w.heap.size + 1, 3, none⟩ = some (.int .u64 (u x)) := fun _ h => blk_cell (r0 _ h) 3 (aV_3 ..)
  have n4 : ∀ wr, On ((w.alloc (.cells (cV c) 25)).alloc (.cells (aV n m f x o e p q) 38)) wr → wr.cell? ⟨w.heap.size + 1, 4, none⟩ = some (.bool o) := fun _ h => blk_cell (r0 _ h) 4 (aV_4 ..)
  have HB : Hid (On w (((w.alloc (.cells (cV c) 25)).alloc (.cells (aV n m f x o e p q) 38)))) := Lib.hid (((On.refl w).alloc _).alloc _)
  go_enter Try.func5, Try.ntmps5
  go_wp2_with (first | ((with_reducible apply csr_ld); (case ho => exact rfl); (case hgd => exact rfl); (case hx => exact rfl); (case hg => (first | exact s0 _ (by first | exact hb0 | exact hb1 _) | exact r0 _ (by first | exact hb0 | exact hb1 _) | exact heap_alloc_new _ _))) | ((with_reducible apply env_ld); (case ho => exact rfl); (case hgd => exact rfl); (case hx => exact rfl); (case hg => (first | exact s0 _ (by first | exact hb0 | exact hb1 _) | exact r0 _ (by first | exact hb0 | exact hb1 _) | exact heap_alloc_new _ _))) | ((with_reducible apply csr_new_st); (case ho => exact rfl); (case hgd => exact rfl); (case hx => exact rfl); (case hy => exact rfl)) | ((with_reducible apply acc_env); (case ho => exact rfl); (case hgd => exact rfl); (case hx => exact rfl); (case hg => (first | exact s0 _ (by first | exact hb0 | exact hb1 _) | exact r0 _ (by first | exact hb0 | exact hb1 _) | exact heap_alloc_new _ _))))
  go_at_call 20; refine (K1.out _).mono ?_; rintro _ w1 ⟨rfl, hb'⟩
  have hb := hb'
  replace s0 := fun wr (h : On w1 wr) => s0 wr (hb.trans h)
  replace r0 := fun wr (h : On w1 wr) => r0 wr (hb.trans h)
  replace n0 := fun wr (h : On w1 wr) => n0 wr (hb.trans h)
  replace n1 := fun wr (h : On w1 wr) => n1 wr (hb.trans h)
  replace n2 := fun wr (h : On w1 wr) => n2 wr (hb.trans h)
  replace n3 := fun wr (h : On w1 wr) => n3 wr (hb.trans h)
  replace n4 := fun wr (h : On w1 wr) => n4 wr (hb.trans h)
  replace hb0 := On.refl w1
  replace hb1 : ∀ ob : Obj, On w1 (w1.alloc ob) := fun ob => (On.refl w1).alloc ob
  have HB := Lib.hid (HB.out.trans hb)
  clear hb hb'
  go_wp2_with (first | ((with_reducible apply csr_ld); (case ho => exact rfl); (case hgd => exact rfl); (case hx => exact rfl); (case hg => (first | exact s0 _ (by first | exact hb0 | exact hb1 _) | exact r0 _ (by first | exact hb0 | exact hb1 _) | exact heap_alloc_new _ _))) | ((with_reducible apply env_ld); (case ho => exact rfl); (case hgd => exact rfl); (case hx => exact rfl); (case hg => (first | exact s0 _ (by first | exact hb0 | exact hb1 _) | exact r0 _ (by first | exact hb0 | exact hb1 _) | exact heap_alloc_new _ _))) | ((with_reducible apply csr_new_st); (case ho => exact rfl); (case hgd => exact rfl); (case hx => exact rfl); (case hy => exact rfl)) | ((with_reducible apply acc_env); (case ho => exact rfl); (case hgd => exact rfl); (case hx => exact rfl); (case hg => (first | exact s0 _ (by first | exact hb0 | exact hb1 _) | exact r0 _ (by first | exact hb0 | exact hb1 _) | exact heap_alloc_new _ _))))
  go_at_call 21; refine (K2.out _).mono ?_; rintro _ w2 ⟨rfl, hb'⟩
  have s1 := fun wr (h : On w2 wr) => (hb'.trans h).keep (heap_alloc_new _ _)
  have hb := (hb1 _).trans hb'
  replace s0 := fun wr (h : On w2 wr) => s0 wr (hb.trans h)
  replace r0 := fun wr (h : On w2 wr) => r0 wr (hb.trans h)
  replace n0 := fun wr (h : On w2 wr) => n0 wr (hb.trans h)
  replace n1 := fun wr (h : On w2 wr) => n1 wr (hb.trans h)
  replace n2 := fun wr (h : On w2 wr) => n2 wr (hb.trans h)
  replace n3 := fun wr (h : On w2 wr) => n3 wr (hb.trans h)
  replace n4 := fun wr (h : On w2 wr) => n4 wr (hb.trans h)
  replace hb0 := On.refl w2
  replace hb1 : ∀ ob : Obj, On w2 (w2.alloc ob) := fun ob => (On.refl w2).alloc ob
  have HB := Lib.hid (HB.out.trans hb)
  clear hb hb'
  go_wp2_with (first | ((with_reducible apply csr_ld); (case ho => exact rfl); (case hgd => exact rfl); (case hx => exact rfl); (case hg => (first | exact s0 _ (by first | exact hb0 | exact hb1 _) | exact r0 _ (by first | exact hb0 | exact hb1 _) | exact s1 _ (by first | exact hb0 | exact hb1 _) | exact heap_alloc_new _ _))) | ((with_reducible apply env_ld); (case ho => exact rfl); (case hgd => exact rfl); (case hx => exact rfl); (case hg => (first | exact s0 _ (by first | exact hb0 | exact hb1 _) | exact r0 _ (by first | exact hb0 | exact hb1 _) | exact s1 _ (by first | exact hb0 | exact hb1 _) | exact heap_alloc_new _ _))) | ((with_reducible apply csr_new_st); (case ho => exact rfl); (case hgd => exact rfl); (case hx => exact rfl); (case hy => exact rfl)) | ((with_reducible apply acc_env); (case ho => exact rfl); (case hgd => exact rfl); (case hx => exact rfl); (case hg => (first | exact s0 _ (by first | exact hb0 | exact hb1 _) | exact r0 _ (by first | exact hb0 | exact hb1 _) | exact s1 _ (by first | exact hb0 | exact hb1 _) | exact heap_alloc_new _ _))))
  go_at_call 16; refine (awake7_yes _).mono ?_; rintro _ w3 ⟨rfl, hb'⟩
  have s2 := fun wr (h : On w3 wr) => (hb'.trans h).keep (heap_alloc_new _ _)
  have hb := (hb1 _).trans hb'
  replace s0 := fun wr (h : On w3 wr) => s0 wr (hb.trans h)
  replace r0 := fun wr (h : On w3 wr) => r0 wr (hb.trans h)
  replace s1 := fun wr (h : On w3 wr) => s1 wr (hb.trans h)
  replace n0 := fun wr (h : On w3 wr) => n0 wr (hb.trans h)
  replace n1 := fun wr (h : On w3 wr) => n1 wr (hb.trans h)
  replace n2 := fun wr (h : On w3 wr) => n2 wr (hb.trans h)
  replace n3 := fun wr (h : On w3 wr) => n3 wr (hb.trans h)
  replace n4 := fun wr (h : On w3 wr) => n4 wr (hb.trans h)
  replace hb0 := On.refl w3
  replace hb1 : ∀ ob : Obj, On w3 (w3.alloc ob) := fun ob => (On.refl w3).alloc ob
  have HB := Lib.hid (HB.out.trans hb)
  clear hb hb'
  go_wp2_with (first | ((with_reducible apply csr_ld); (case ho => exact rfl); (case hgd => exact rfl); (case hx => exact rfl); (case hg => (first | exact s0 _ (by first | exact hb0 | exact hb1 _) | exact r0 _ (by first | exact hb0 | exact hb1 _) | exact s1 _ (by first | exact hb0 | exact hb1 _) | exact s2 _ (by first | exact hb0 | exact hb1 _) | exact heap_alloc_new _ _))) | ((with_reducible apply env_ld); (case ho => exact rfl); (case hgd => exact rfl); (case hx => exact rfl); (case hg => (first | exact s0 _ (by first | exact hb0 | exact hb1 _) | exact r0 _ (by first | exact hb0 | exact hb1 _) | exact s1 _ (by first | exact hb0 | exact hb1 _) | exact s2 _ (by first | exact hb0 | exact hb1 _) | exact heap_alloc_new _ _))) | ((with_reducible apply csr_new_st); (case ho => exact rfl); (case hgd => exact rfl); (case hx => exact rfl); (case hy => exact rfl)) | ((with_reducible apply acc_env); (case ho => exact rfl); (case hgd => exact rfl); (case hx => exact rfl); (case hg => (first | exact s0 _ (by first | exact hb0 | exact hb1 _) | exact r0 _ (by first | exact hb0 | exact hb1 _) | exact s1 _ (by first | exact hb0 | exact hb1 _) | exact s2 _ (by first | exact hb0 | exact hb1 _) | exact heap_alloc_new _ _))))
  go_ret
  exact ⟨rfl, HB.out⟩

set_option maxRecDepth 100000 in
theorem lifted (os : Os) (started : os.Started) (H : Type) (enc : TypeId × Value → H) :
    ReturnsInHanded {} Try.checked os 5 .any (Rows.csrModifiesSpec.pre6 enc Try.prog Try.f5 Rows.csrModifiesRow.domain false) (Rows.csrModifiesSpec.post enc Try.prog Try.f5 false true false false) := by
  refine returnsInHanded_of_change (C := Try.checked) own started (by kernel_rfl) Try.func5
    (ChangeSpec.witness6 (enc := enc) (C := Try.checked) false ⟨#[], #[.agg #[.int .u64 0, .int .u64 0, .int .u64 0, .int .u64 0, .int .u64 0, .int .u64 0, .int .u64 0, .int .u64 0, .int .u64 0, .int .u64 0, .int .u64 0, .int .u64 0, .int .u64 0, .int .u64 0, .int .u64 0, .int .u64 0, .int .u64 0, .int .u64 0, .int .u64 0, .int .u64 0, .int .u64 0, .int .u64 0, .int .u64 0, .int .u64 0, .int .u64 0, .int .u64 0, .int .u64 0, .int .u64 0, .int .u64 0, .int .u64 0], .agg #[.int .i64 0, .int .i64 0, .int .i64 0, .int .u64 0, .bool false, .int .u64 0, .int .u64 0, .int .u64 0, .int .u64 0, .int .u64 0, .int .u64 0, .int .u64 0, .bool false, .int .u64 0, .bool false]], []⟩ 12 (by kernel_rfl) (by kernel_rfl) (by kernel_rfl) (by kernel_rfl)) ?_
  intro W base args ds gs before hval0 hW hcnd _
  have hval : ∀ (j : Nat) t v, Try.f5.params[j]? = some t → args[j]? = some v → Value.okWide Try.prog W .any base t v := hval0
  have hW' := hW
  obtain ⟨p, q, hA0, hV, rfl, hfz, hnd⟩ := hW
  have hA : DataW.TrodAll enc Try.prog W 0 (fun _ => true) true Try.f5.params.toList args.toList ds p := hA0
  rw [Try.params5] at hA hval
  obtain ⟨v0, vs0, d0, ds0, p0, q0, hargs, rfl, rfl, h0, r0⟩ := trodAll_cons hA
  obtain ⟨v1, vs1, d1, ds1, p1, q1, rfl, rfl, rfl, h1, r1⟩ := trodAll_cons r0
  obtain ⟨rfl, rfl, rfl⟩ := trodAll_nil r1
  obtain rfl : args = #[v0, v1] := by cases args; simp_all
  obtain ⟨rfl, rfl⟩ := trodVars_none hV
  have k0 := h0
  have l0 : ∀ x ∈ p0, x.block < W.heap.size := fun x hx => by have := hW'.lt x (by simp [hx]); simpa using this
  obtain ⟨c0, rfl, f0⟩ := open_flat 12 [.int .u64, .int .u64, .int .u64, .int .u64, .int .u64, .int .u64, .int .u64, .int .u64, .int .u64, .int .u64, .int .u64, .int .u64, .int .u64, .int .u64, .int .u64, .int .u64, .int .u64, .int .u64, .int .u64, .int .u64, .int .u64, .int .u64, .int .u64, .int .u64, .int .u64, .int .u64, .int .u64, .int .u64, .int .u64, .int .u64] (by kernel_rfl) (by kernel_rfl) (.inl ⟨_, Try.underlying25⟩) (hval 0 25 v0 rfl rfl) h0
  clear h0
  have k1 := h1
  have l1 : ∀ x ∈ p1, x.block < W.heap.size := fun x hx => by have := hW'.lt x (by simp [hx]); simpa using this
  obtain ⟨c1, rfl, f1⟩ := open_flat 12 [.int .i64, .int .i64, .int .i64, .int .u64, .bool, .int .u64, .int .u64, .int .u64, .int .u64, .int .u64, .int .u64, .int .u64, .bool, .int .u64, .bool] (by kernel_rfl) (by kernel_rfl) (.inl ⟨_, Try.underlying38⟩) (hval 1 38 v1 rfl rfl) h1
  clear h1
  clear hA0 hval0
  refine (walk c0 f0 c1 f1 W).mono fun e W' ⟨he, bel⟩ => ?_
  subst he
  exact ⟨_, rfl, _, _, _, [], _, [], hW', trodAll_mk1 (shut_bool Try.underlying4 _), (trodAll_cons_mk (Below.trod (by kernel_rfl) (by kernel_rfl) (of_decide_eq_true (by kernel_rfl)) k0 bel l0) (trodAll_cons_mk (Below.trod (by kernel_rfl) (by kernel_rfl) (of_decide_eq_true (by kernel_rfl)) k1 bel l1) trodAll_mk0)), rfl, bel.frame _, fun h => by cases h⟩

theorem over : Rows.csrModifiesRow.holds Try.pinned (OpenSpec.ofChange Rows.csrModifiesSpec) :=
  OpenClaim.holds_of_wide 5 Try.f5 rfl rfl rfl rfl rfl rfl rfl ⟨rfl, rfl, rfl, rfl, rfl⟩ rfl rfl rfl rfl rfl (by kernel_rfl) Try.func5 (by kernel_rfl)
    (of_decide_eq_true (by kernel_rfl)) (by unfold Func.isWrapper; first | (rw [if_pos (by decide +kernel)]; kernel_rfl) | (rw [if_neg (by decide +kernel)]; exact ⟨rfl, rfl⟩))
    (fun os started H enc _ => lifted os started H enc)

theorem proved : Rows.CsrModifiesSaid :=
  over
#print axioms proved
end Go.Proofs.Ytoobbapdjoajgaa.csrModifies
