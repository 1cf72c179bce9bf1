/- Proves that what may be read at a privilege may be read at a greater one with the same answer, and that what may be written may be read, for any state of the CSRs, any number, any word and any outer world, and that the first test of the law holds. Conditions: none. -/
import Derived.Test.YtoobbapdjoajgaaRows
import Derived.Test.YtoobbapdjoajgaaCsrL
import Derived.Test.YtoobbapdjoajgaaFlat
import Derived.WalkKit
import Derived.ProofKit
import Derived.OpenShut
import Derived.Below
import Derived.Carry
import Derived.ShutString
namespace Go.Proofs.Ytoobbapdjoajgaa.csrHigher
open Go.ChangeShapes Go.WideShapes Go.ChangeAt Go.RowKit
set_option linter.unusedVariables false

theorem own : ownKnob Try.prog.godebug = none := by kernel_rfl

set_option maxRecDepth 100000 in
set_option maxHeartbeats 4000000 in
theorem walk (c0 : List Value) (f0 : Fits [.int .u64, .int .u64, .int .u64, .int .u64, .int .u64, .int .u64, .int .u64, .int .u64, .int .u64, .int .u64, .int .u64, .int .u64, .int .u64, .int .u64, .int .u64, .int .u64, .int .u64, .int .u64, .int .u64, .int .u64, .int .u64, .int .u64, .int .u64, .int .u64, .int .u64, .int .u64, .int .u64, .int .u64, .int .u64, .int .u64] c0) (a1 : Int) (w1 : (Lit.int .i64 a1).wf = true) (a2 : Int) (w2 : (Lit.int .u64 a2).wf = true) (c3 : List Value) (f3 : Fits [.int .u64, .int .u64, .int .u64, .int .u64, .int .u64, .int .u64, .int .u64, .bool, .int .u64, .bool] c3) (w : World) :
    Calls Try.prog 10 #[.agg c0.toArray, .int .i64 a1, .int .u64 a2, .agg c3.toArray] w fun e w' => e = .returned (.bool true) ∧ Below w.heap.size w w' := by
  have f0 : Fits csrLeaves c0 := f0
  obtain ⟨c, hc⟩ := cV_of f0
  rw [hc]
  have f3 : Fits (List.replicate 7 (.int .u64) ++ [.bool, .int .u64, .bool]) c3 := f3
  obtain ⟨e, p, q, he⟩ := eV_of f3
  rw [he]
  clear hc f0 he f3
  obtain ⟨v, rfl⟩ := u_of w2
  clear w1 w2
  have hZ := fun w => csr_zero w
  have M1 := rdb_up1 c a1
  have M3 := rdb_up3 c a1
  have N1 := @mayB_rdb c a1 1
  have N3 := @mayB_rdb c a1 3
  cases h3 : rdb c a1 3
  · have h1 : rdb c a1 1 = false := by
      cases h : rdb c a1 1
      · rfl
      · exact absurd (M3 h) (by rw [h3]; decide)
    have h0 : rdb c a1 0 = false := by
      cases h : rdb c a1 0
      · rfl
      · exact absurd (M1 h) (by rw [h1]; decide)
    have g1 := N1 h1
    have g3 := N3 h3
    have K0 : Hid (∀ w, Calls Try.prog 14 #[.agg (cV c), .int .i64 a1, .int .i64 0, .agg (eV e p q)] w fun r w' => r = .returned (.tuple #[.int .u64 0, .int .i64 7]) ∧ On w w') := Lib.hid (fun w => read_no c e p q a1 0 h0 w)
    have K1 : Hid (∀ w, Calls Try.prog 14 #[.agg (cV c), .int .i64 a1, .int .i64 1, .agg (eV e p q)] w fun r w' => r = .returned (.tuple #[.int .u64 0, .int .i64 7]) ∧ On w w') := Lib.hid (fun w => read_no c e p q a1 1 h1 w)
    have K3 : Hid (∀ w, Calls Try.prog 14 #[.agg (cV c), .int .i64 a1, .int .i64 3, .agg (eV e p q)] w fun r w' => r = .returned (.tuple #[.int .u64 0, .int .i64 7]) ∧ On w w') := Lib.hid (fun w => read_no c e p q a1 3 h3 w)
    have J1 : Hid (∀ w, Calls Try.prog 18 #[.agg (cV c), .int .i64 a1, .int .i64 1, .int .u64 (u v), .agg (eV e p q)] w fun r w' => r = .returned (.tuple #[.agg (cV (wrC c e a1 1 v)), .int .i64 7]) ∧ On w w') := Lib.hid (fun w => by have := write_any c e p q a1 1 v w; rw [g1] at this; exact this)
    have J3 : Hid (∀ w, Calls Try.prog 18 #[.agg (cV c), .int .i64 a1, .int .i64 3, .int .u64 (u v), .agg (eV e p q)] w fun r w' => r = .returned (.tuple #[.agg (cV (wrC c e a1 3 v)), .int .i64 7]) ∧ On w w') := Lib.hid (fun w => by have := write_any c e p q a1 3 v w; rw [g3] at this; exact this)
    clear h0 h1 h3 g1 g3 M1 M3 N1 N3
    generalize rv c e a1 = y at *
    generalize wrC c e a1 1 v = x1 at *
    generalize wrC c e a1 3 v = x3 at *
    have s0 : ∀ wr, On ((w.alloc (.cells (cV c) 25)).alloc (.cells (eV e p q) 27)) wr → wr.heap[w.heap.size]? = some (.cells (cV c) 25 (0, 0)) := fun _ h => h.keep (box1 _ _ _)
    have t0 : ∀ wr, On ((w.alloc (.cells (cV c) 25)).alloc (.cells (eV e p q) 27)) wr → wr.heap[w.heap.size + 1]? = some (.cells (eV e p q) 27 (0, 0)) := fun _ h => h.keep (box2 _ _ _)
    have hb0 := On.refl (((w.alloc (.cells (cV c) 25)).alloc (.cells (eV e p q) 27)))
    have hb1 : ∀ ob : Obj, On (((w.alloc (.cells (cV c) 25)).alloc (.cells (eV e p q) 27))) ((((w.alloc (.cells (cV c) 25)).alloc (.cells (eV e p q) 27))).alloc ob) := fun ob => (On.refl _).alloc ob
    have HB : Hid (On w (((w.alloc (.cells (cV c) 25)).alloc (.cells (eV e p q) 27)))) := Lib.hid (((On.refl w).alloc _).alloc _)
    go_enter Try.func10, Try.ntmps10
    go_wp2_with (first | ((with_reducible apply csr_ld); (case ho => exact rfl); (case hgd => exact rfl); (case hx => exact rfl); (case hg => (first | exact s0 _ (by first | exact hb0 | exact hb1 _) | exact t0 _ (by first | exact hb0 | exact hb1 _) | exact heap_alloc_new _ _))) | ((with_reducible apply env_ld); (case ho => exact rfl); (case hgd => exact rfl); (case hx => exact rfl); (case hg => (first | exact s0 _ (by first | exact hb0 | exact hb1 _) | exact t0 _ (by first | exact hb0 | exact hb1 _) | exact heap_alloc_new _ _))) | ((with_reducible apply csr_new_st); (case ho => exact rfl); (case hgd => exact rfl); (case hx => exact rfl); (case hy => exact rfl)))
    go_at_call 14; refine (K0.out _).mono ?_; rintro _ w1 ⟨rfl, hb'⟩
    have hb := hb'
    replace s0 := fun wr (h : On w1 wr) => s0 wr (hb.trans h)
    replace t0 := fun wr (h : On w1 wr) => t0 wr (hb.trans h)
    replace hb0 := On.refl w1
    replace hb1 : ∀ ob : Obj, On w1 (w1.alloc ob) := fun ob => (On.refl w1).alloc ob
    have HB := Lib.hid (HB.out.trans hb)
    clear hb hb'
    go_wp2_with (first | ((with_reducible apply csr_ld); (case ho => exact rfl); (case hgd => exact rfl); (case hx => exact rfl); (case hg => (first | exact s0 _ (by first | exact hb0 | exact hb1 _) | exact t0 _ (by first | exact hb0 | exact hb1 _) | exact heap_alloc_new _ _))) | ((with_reducible apply env_ld); (case ho => exact rfl); (case hgd => exact rfl); (case hx => exact rfl); (case hg => (first | exact s0 _ (by first | exact hb0 | exact hb1 _) | exact t0 _ (by first | exact hb0 | exact hb1 _) | exact heap_alloc_new _ _))) | ((with_reducible apply csr_new_st); (case ho => exact rfl); (case hgd => exact rfl); (case hx => exact rfl); (case hy => exact rfl)))
    go_at_call 14; refine (K1.out _).mono ?_; rintro _ w2 ⟨rfl, hb'⟩
    have hb := hb'
    replace s0 := fun wr (h : On w2 wr) => s0 wr (hb.trans h)
    replace t0 := fun wr (h : On w2 wr) => t0 wr (hb.trans h)
    replace hb0 := On.refl w2
    replace hb1 : ∀ ob : Obj, On w2 (w2.alloc ob) := fun ob => (On.refl w2).alloc ob
    have HB := Lib.hid (HB.out.trans hb)
    clear hb hb'
    go_wp2_with (first | ((with_reducible apply csr_ld); (case ho => exact rfl); (case hgd => exact rfl); (case hx => exact rfl); (case hg => (first | exact s0 _ (by first | exact hb0 | exact hb1 _) | exact t0 _ (by first | exact hb0 | exact hb1 _) | exact heap_alloc_new _ _))) | ((with_reducible apply env_ld); (case ho => exact rfl); (case hgd => exact rfl); (case hx => exact rfl); (case hg => (first | exact s0 _ (by first | exact hb0 | exact hb1 _) | exact t0 _ (by first | exact hb0 | exact hb1 _) | exact heap_alloc_new _ _))) | ((with_reducible apply csr_new_st); (case ho => exact rfl); (case hgd => exact rfl); (case hx => exact rfl); (case hy => exact rfl)))
    go_at_call 14; refine (K3.out _).mono ?_; rintro _ w3 ⟨rfl, hb'⟩
    have hb := hb'
    replace s0 := fun wr (h : On w3 wr) => s0 wr (hb.trans h)
    replace t0 := fun wr (h : On w3 wr) => t0 wr (hb.trans h)
    replace hb0 := On.refl w3
    replace hb1 : ∀ ob : Obj, On w3 (w3.alloc ob) := fun ob => (On.refl w3).alloc ob
    have HB := Lib.hid (HB.out.trans hb)
    clear hb hb'
    go_wp2_with (first | ((with_reducible apply csr_ld); (case ho => exact rfl); (case hgd => exact rfl); (case hx => exact rfl); (case hg => (first | exact s0 _ (by first | exact hb0 | exact hb1 _) | exact t0 _ (by first | exact hb0 | exact hb1 _) | exact heap_alloc_new _ _))) | ((with_reducible apply env_ld); (case ho => exact rfl); (case hgd => exact rfl); (case hx => exact rfl); (case hg => (first | exact s0 _ (by first | exact hb0 | exact hb1 _) | exact t0 _ (by first | exact hb0 | exact hb1 _) | exact heap_alloc_new _ _))) | ((with_reducible apply csr_new_st); (case ho => exact rfl); (case hgd => exact rfl); (case hx => exact rfl); (case hy => exact rfl)))
    go_at_call 18; refine (J1.out _).mono ?_; rintro _ w4 ⟨rfl, hb'⟩
    have hb := hb'
    replace s0 := fun wr (h : On w4 wr) => s0 wr (hb.trans h)
    replace t0 := fun wr (h : On w4 wr) => t0 wr (hb.trans h)
    replace hb0 := On.refl w4
    replace hb1 : ∀ ob : Obj, On w4 (w4.alloc ob) := fun ob => (On.refl w4).alloc ob
    have HB := Lib.hid (HB.out.trans hb)
    clear hb hb'
    go_wp2_with (first | ((with_reducible apply csr_ld); (case ho => exact rfl); (case hgd => exact rfl); (case hx => exact rfl); (case hg => (first | exact s0 _ (by first | exact hb0 | exact hb1 _) | exact t0 _ (by first | exact hb0 | exact hb1 _) | exact heap_alloc_new _ _))) | ((with_reducible apply env_ld); (case ho => exact rfl); (case hgd => exact rfl); (case hx => exact rfl); (case hg => (first | exact s0 _ (by first | exact hb0 | exact hb1 _) | exact t0 _ (by first | exact hb0 | exact hb1 _) | exact heap_alloc_new _ _))) | ((with_reducible apply csr_new_st); (case ho => exact rfl); (case hgd => exact rfl); (case hx => exact rfl); (case hy => exact rfl)))
    go_at_call 18; refine (J3.out _).mono ?_; rintro _ w5 ⟨rfl, hb'⟩
    have s1 := fun wr (h : On w5 wr) => (hb'.trans h).keep (heap_alloc_new _ _)
    have hb := (hb1 _).trans hb'
    replace s0 := fun wr (h : On w5 wr) => s0 wr (hb.trans h)
    replace t0 := fun wr (h : On w5 wr) => t0 wr (hb.trans h)
    replace hb0 := On.refl w5
    replace hb1 : ∀ ob : Obj, On w5 (w5.alloc ob) := fun ob => (On.refl w5).alloc ob
    have HB := Lib.hid (HB.out.trans hb)
    clear hb hb'
    go_wp2_with (first | ((with_reducible apply csr_ld); (case ho => exact rfl); (case hgd => exact rfl); (case hx => exact rfl); (case hg => (first | exact s0 _ (by first | exact hb0 | exact hb1 _) | exact t0 _ (by first | exact hb0 | exact hb1 _) | exact s1 _ (by first | exact hb0 | exact hb1 _) | exact heap_alloc_new _ _))) | ((with_reducible apply env_ld); (case ho => exact rfl); (case hgd => exact rfl); (case hx => exact rfl); (case hg => (first | exact s0 _ (by first | exact hb0 | exact hb1 _) | exact t0 _ (by first | exact hb0 | exact hb1 _) | exact s1 _ (by first | exact hb0 | exact hb1 _) | exact heap_alloc_new _ _))) | ((with_reducible apply csr_new_st); (case ho => exact rfl); (case hgd => exact rfl); (case hx => exact rfl); (case hy => exact rfl)))
    go_at_call 16; refine (awake7_yes _).mono ?_; rintro _ w6 ⟨rfl, hb'⟩
    have s2 := fun wr (h : On w6 wr) => (hb'.trans h).keep (heap_alloc_new _ _)
    have hb := (hb1 _).trans hb'
    replace s0 := fun wr (h : On w6 wr) => s0 wr (hb.trans h)
    replace t0 := fun wr (h : On w6 wr) => t0 wr (hb.trans h)
    replace s1 := fun wr (h : On w6 wr) => s1 wr (hb.trans h)
    replace hb0 := On.refl w6
    replace hb1 : ∀ ob : Obj, On w6 (w6.alloc ob) := fun ob => (On.refl w6).alloc ob
    have HB := Lib.hid (HB.out.trans hb)
    clear hb hb'
    go_wp2_with (first | ((with_reducible apply csr_ld); (case ho => exact rfl); (case hgd => exact rfl); (case hx => exact rfl); (case hg => (first | exact s0 _ (by first | exact hb0 | exact hb1 _) | exact t0 _ (by first | exact hb0 | exact hb1 _) | exact s1 _ (by first | exact hb0 | exact hb1 _) | exact s2 _ (by first | exact hb0 | exact hb1 _) | exact heap_alloc_new _ _))) | ((with_reducible apply env_ld); (case ho => exact rfl); (case hgd => exact rfl); (case hx => exact rfl); (case hg => (first | exact s0 _ (by first | exact hb0 | exact hb1 _) | exact t0 _ (by first | exact hb0 | exact hb1 _) | exact s1 _ (by first | exact hb0 | exact hb1 _) | exact s2 _ (by first | exact hb0 | exact hb1 _) | exact heap_alloc_new _ _))) | ((with_reducible apply csr_new_st); (case ho => exact rfl); (case hgd => exact rfl); (case hx => exact rfl); (case hy => exact rfl)))
    go_ret
    exact ⟨rfl, HB.out⟩
  · cases h1 : rdb c a1 1
    · have h0 : rdb c a1 0 = false := by
        cases h : rdb c a1 0
        · rfl
        · exact absurd (M1 h) (by rw [h1]; decide)
      have g1 := N1 h1
      cases g3 : mayB c a1 3 true
      · have K0 : Hid (∀ w, Calls Try.prog 14 #[.agg (cV c), .int .i64 a1, .int .i64 0, .agg (eV e p q)] w fun r w' => r = .returned (.tuple #[.int .u64 0, .int .i64 7]) ∧ On w w') := Lib.hid (fun w => read_no c e p q a1 0 h0 w)
        have K1 : Hid (∀ w, Calls Try.prog 14 #[.agg (cV c), .int .i64 a1, .int .i64 1, .agg (eV e p q)] w fun r w' => r = .returned (.tuple #[.int .u64 0, .int .i64 7]) ∧ On w w') := Lib.hid (fun w => read_no c e p q a1 1 h1 w)
        have K3 : Hid (∀ w, Calls Try.prog 14 #[.agg (cV c), .int .i64 a1, .int .i64 3, .agg (eV e p q)] w fun r w' => r = .returned (.tuple #[.int .u64 (u (rv c e a1)), .int .i64 0]) ∧ On w w') := Lib.hid (fun w => read_yes c e p q a1 3 h3 w)
        have J1 : Hid (∀ w, Calls Try.prog 18 #[.agg (cV c), .int .i64 a1, .int .i64 1, .int .u64 (u v), .agg (eV e p q)] w fun r w' => r = .returned (.tuple #[.agg (cV (wrC c e a1 1 v)), .int .i64 7]) ∧ On w w') := Lib.hid (fun w => by have := write_any c e p q a1 1 v w; rw [g1] at this; exact this)
        have J3 : Hid (∀ w, Calls Try.prog 18 #[.agg (cV c), .int .i64 a1, .int .i64 3, .int .u64 (u v), .agg (eV e p q)] w fun r w' => r = .returned (.tuple #[.agg (cV (wrC c e a1 3 v)), .int .i64 7]) ∧ On w w') := Lib.hid (fun w => by have := write_any c e p q a1 3 v w; rw [g3] at this; exact this)
        clear h0 h1 h3 g1 g3 M1 M3 N1 N3
        generalize rv c e a1 = y at *
        generalize wrC c e a1 1 v = x1 at *
        generalize wrC c e a1 3 v = x3 at *
        have s0 : ∀ wr, On ((w.alloc (.cells (cV c) 25)).alloc (.cells (eV e p q) 27)) wr → wr.heap[w.heap.size]? = some (.cells (cV c) 25 (0, 0)) := fun _ h => h.keep (box1 _ _ _)
        have t0 : ∀ wr, On ((w.alloc (.cells (cV c) 25)).alloc (.cells (eV e p q) 27)) wr → wr.heap[w.heap.size + 1]? = some (.cells (eV e p q) 27 (0, 0)) := fun _ h => h.keep (box2 _ _ _)
        have hb0 := On.refl (((w.alloc (.cells (cV c) 25)).alloc (.cells (eV e p q) 27)))
        have hb1 : ∀ ob : Obj, On (((w.alloc (.cells (cV c) 25)).alloc (.cells (eV e p q) 27))) ((((w.alloc (.cells (cV c) 25)).alloc (.cells (eV e p q) 27))).alloc ob) := fun ob => (On.refl _).alloc ob
        have HB : Hid (On w (((w.alloc (.cells (cV c) 25)).alloc (.cells (eV e p q) 27)))) := Lib.hid (((On.refl w).alloc _).alloc _)
        go_enter Try.func10, Try.ntmps10
        go_wp2_with (first | ((with_reducible apply csr_ld); (case ho => exact rfl); (case hgd => exact rfl); (case hx => exact rfl); (case hg => (first | exact s0 _ (by first | exact hb0 | exact hb1 _) | exact t0 _ (by first | exact hb0 | exact hb1 _) | exact heap_alloc_new _ _))) | ((with_reducible apply env_ld); (case ho => exact rfl); (case hgd => exact rfl); (case hx => exact rfl); (case hg => (first | exact s0 _ (by first | exact hb0 | exact hb1 _) | exact t0 _ (by first | exact hb0 | exact hb1 _) | exact heap_alloc_new _ _))) | ((with_reducible apply csr_new_st); (case ho => exact rfl); (case hgd => exact rfl); (case hx => exact rfl); (case hy => exact rfl)))
        go_at_call 14; refine (K0.out _).mono ?_; rintro _ w1 ⟨rfl, hb'⟩
        have hb := hb'
        replace s0 := fun wr (h : On w1 wr) => s0 wr (hb.trans h)
        replace t0 := fun wr (h : On w1 wr) => t0 wr (hb.trans h)
        replace hb0 := On.refl w1
        replace hb1 : ∀ ob : Obj, On w1 (w1.alloc ob) := fun ob => (On.refl w1).alloc ob
        have HB := Lib.hid (HB.out.trans hb)
        clear hb hb'
        go_wp2_with (first | ((with_reducible apply csr_ld); (case ho => exact rfl); (case hgd => exact rfl); (case hx => exact rfl); (case hg => (first | exact s0 _ (by first | exact hb0 | exact hb1 _) | exact t0 _ (by first | exact hb0 | exact hb1 _) | exact heap_alloc_new _ _))) | ((with_reducible apply env_ld); (case ho => exact rfl); (case hgd => exact rfl); (case hx => exact rfl); (case hg => (first | exact s0 _ (by first | exact hb0 | exact hb1 _) | exact t0 _ (by first | exact hb0 | exact hb1 _) | exact heap_alloc_new _ _))) | ((with_reducible apply csr_new_st); (case ho => exact rfl); (case hgd => exact rfl); (case hx => exact rfl); (case hy => exact rfl)))
        go_at_call 14; refine (K1.out _).mono ?_; rintro _ w2 ⟨rfl, hb'⟩
        have hb := hb'
        replace s0 := fun wr (h : On w2 wr) => s0 wr (hb.trans h)
        replace t0 := fun wr (h : On w2 wr) => t0 wr (hb.trans h)
        replace hb0 := On.refl w2
        replace hb1 : ∀ ob : Obj, On w2 (w2.alloc ob) := fun ob => (On.refl w2).alloc ob
        have HB := Lib.hid (HB.out.trans hb)
        clear hb hb'
        go_wp2_with (first | ((with_reducible apply csr_ld); (case ho => exact rfl); (case hgd => exact rfl); (case hx => exact rfl); (case hg => (first | exact s0 _ (by first | exact hb0 | exact hb1 _) | exact t0 _ (by first | exact hb0 | exact hb1 _) | exact heap_alloc_new _ _))) | ((with_reducible apply env_ld); (case ho => exact rfl); (case hgd => exact rfl); (case hx => exact rfl); (case hg => (first | exact s0 _ (by first | exact hb0 | exact hb1 _) | exact t0 _ (by first | exact hb0 | exact hb1 _) | exact heap_alloc_new _ _))) | ((with_reducible apply csr_new_st); (case ho => exact rfl); (case hgd => exact rfl); (case hx => exact rfl); (case hy => exact rfl)))
        go_at_call 14; refine (K3.out _).mono ?_; rintro _ w3 ⟨rfl, hb'⟩
        have hb := hb'
        replace s0 := fun wr (h : On w3 wr) => s0 wr (hb.trans h)
        replace t0 := fun wr (h : On w3 wr) => t0 wr (hb.trans h)
        replace hb0 := On.refl w3
        replace hb1 : ∀ ob : Obj, On w3 (w3.alloc ob) := fun ob => (On.refl w3).alloc ob
        have HB := Lib.hid (HB.out.trans hb)
        clear hb hb'
        go_wp2_with (first | ((with_reducible apply csr_ld); (case ho => exact rfl); (case hgd => exact rfl); (case hx => exact rfl); (case hg => (first | exact s0 _ (by first | exact hb0 | exact hb1 _) | exact t0 _ (by first | exact hb0 | exact hb1 _) | exact heap_alloc_new _ _))) | ((with_reducible apply env_ld); (case ho => exact rfl); (case hgd => exact rfl); (case hx => exact rfl); (case hg => (first | exact s0 _ (by first | exact hb0 | exact hb1 _) | exact t0 _ (by first | exact hb0 | exact hb1 _) | exact heap_alloc_new _ _))) | ((with_reducible apply csr_new_st); (case ho => exact rfl); (case hgd => exact rfl); (case hx => exact rfl); (case hy => exact rfl)))
        go_at_call 18; refine (J1.out _).mono ?_; rintro _ w4 ⟨rfl, hb'⟩
        have hb := hb'
        replace s0 := fun wr (h : On w4 wr) => s0 wr (hb.trans h)
        replace t0 := fun wr (h : On w4 wr) => t0 wr (hb.trans h)
        replace hb0 := On.refl w4
        replace hb1 : ∀ ob : Obj, On w4 (w4.alloc ob) := fun ob => (On.refl w4).alloc ob
        have HB := Lib.hid (HB.out.trans hb)
        clear hb hb'
        go_wp2_with (first | ((with_reducible apply csr_ld); (case ho => exact rfl); (case hgd => exact rfl); (case hx => exact rfl); (case hg => (first | exact s0 _ (by first | exact hb0 | exact hb1 _) | exact t0 _ (by first | exact hb0 | exact hb1 _) | exact heap_alloc_new _ _))) | ((with_reducible apply env_ld); (case ho => exact rfl); (case hgd => exact rfl); (case hx => exact rfl); (case hg => (first | exact s0 _ (by first | exact hb0 | exact hb1 _) | exact t0 _ (by first | exact hb0 | exact hb1 _) | exact heap_alloc_new _ _))) | ((with_reducible apply csr_new_st); (case ho => exact rfl); (case hgd => exact rfl); (case hx => exact rfl); (case hy => exact rfl)))
        go_at_call 18; refine (J3.out _).mono ?_; rintro _ w5 ⟨rfl, hb'⟩
        have s1 := fun wr (h : On w5 wr) => (hb'.trans h).keep (heap_alloc_new _ _)
        have hb := (hb1 _).trans hb'
        replace s0 := fun wr (h : On w5 wr) => s0 wr (hb.trans h)
        replace t0 := fun wr (h : On w5 wr) => t0 wr (hb.trans h)
        replace hb0 := On.refl w5
        replace hb1 : ∀ ob : Obj, On w5 (w5.alloc ob) := fun ob => (On.refl w5).alloc ob
        have HB := Lib.hid (HB.out.trans hb)
        clear hb hb'
        go_wp2_with (first | ((with_reducible apply csr_ld); (case ho => exact rfl); (case hgd => exact rfl); (case hx => exact rfl); (case hg => (first | exact s0 _ (by first | exact hb0 | exact hb1 _) | exact t0 _ (by first | exact hb0 | exact hb1 _) | exact s1 _ (by first | exact hb0 | exact hb1 _) | exact heap_alloc_new _ _))) | ((with_reducible apply env_ld); (case ho => exact rfl); (case hgd => exact rfl); (case hx => exact rfl); (case hg => (first | exact s0 _ (by first | exact hb0 | exact hb1 _) | exact t0 _ (by first | exact hb0 | exact hb1 _) | exact s1 _ (by first | exact hb0 | exact hb1 _) | exact heap_alloc_new _ _))) | ((with_reducible apply csr_new_st); (case ho => exact rfl); (case hgd => exact rfl); (case hx => exact rfl); (case hy => exact rfl)))
        go_at_call 16; refine (awake7_yes _).mono ?_; rintro _ w6 ⟨rfl, hb'⟩
        have s2 := fun wr (h : On w6 wr) => (hb'.trans h).keep (heap_alloc_new _ _)
        have hb := (hb1 _).trans hb'
        replace s0 := fun wr (h : On w6 wr) => s0 wr (hb.trans h)
        replace t0 := fun wr (h : On w6 wr) => t0 wr (hb.trans h)
        replace s1 := fun wr (h : On w6 wr) => s1 wr (hb.trans h)
        replace hb0 := On.refl w6
        replace hb1 : ∀ ob : Obj, On w6 (w6.alloc ob) := fun ob => (On.refl w6).alloc ob
        have HB := Lib.hid (HB.out.trans hb)
        clear hb hb'
        go_wp2_with (first | ((with_reducible apply csr_ld); (case ho => exact rfl); (case hgd => exact rfl); (case hx => exact rfl); (case hg => (first | exact s0 _ (by first | exact hb0 | exact hb1 _) | exact t0 _ (by first | exact hb0 | exact hb1 _) | exact s1 _ (by first | exact hb0 | exact hb1 _) | exact s2 _ (by first | exact hb0 | exact hb1 _) | exact heap_alloc_new _ _))) | ((with_reducible apply env_ld); (case ho => exact rfl); (case hgd => exact rfl); (case hx => exact rfl); (case hg => (first | exact s0 _ (by first | exact hb0 | exact hb1 _) | exact t0 _ (by first | exact hb0 | exact hb1 _) | exact s1 _ (by first | exact hb0 | exact hb1 _) | exact s2 _ (by first | exact hb0 | exact hb1 _) | exact heap_alloc_new _ _))) | ((with_reducible apply csr_new_st); (case ho => exact rfl); (case hgd => exact rfl); (case hx => exact rfl); (case hy => exact rfl)))
        go_ret
        exact ⟨rfl, HB.out⟩
      · have K0 : Hid (∀ w, Calls Try.prog 14 #[.agg (cV c), .int .i64 a1, .int .i64 0, .agg (eV e p q)] w fun r w' => r = .returned (.tuple #[.int .u64 0, .int .i64 7]) ∧ On w w') := Lib.hid (fun w => read_no c e p q a1 0 h0 w)
        have K1 : Hid (∀ w, Calls Try.prog 14 #[.agg (cV c), .int .i64 a1, .int .i64 1, .agg (eV e p q)] w fun r w' => r = .returned (.tuple #[.int .u64 0, .int .i64 7]) ∧ On w w') := Lib.hid (fun w => read_no c e p q a1 1 h1 w)
        have K3 : Hid (∀ w, Calls Try.prog 14 #[.agg (cV c), .int .i64 a1, .int .i64 3, .agg (eV e p q)] w fun r w' => r = .returned (.tuple #[.int .u64 (u (rv c e a1)), .int .i64 0]) ∧ On w w') := Lib.hid (fun w => read_yes c e p q a1 3 h3 w)
        have J1 : Hid (∀ w, Calls Try.prog 18 #[.agg (cV c), .int .i64 a1, .int .i64 1, .int .u64 (u v), .agg (eV e p q)] w fun r w' => r = .returned (.tuple #[.agg (cV (wrC c e a1 1 v)), .int .i64 7]) ∧ On w w') := Lib.hid (fun w => by have := write_any c e p q a1 1 v w; rw [g1] at this; exact this)
        have J3 : Hid (∀ w, Calls Try.prog 18 #[.agg (cV c), .int .i64 a1, .int .i64 3, .int .u64 (u v), .agg (eV e p q)] w fun r w' => r = .returned (.tuple #[.agg (cV (wrC c e a1 3 v)), .int .i64 0]) ∧ On w w') := Lib.hid (fun w => by have := write_any c e p q a1 3 v w; rw [g3] at this; exact this)
        clear h0 h1 h3 g1 g3 M1 M3 N1 N3
        generalize rv c e a1 = y at *
        generalize wrC c e a1 1 v = x1 at *
        generalize wrC c e a1 3 v = x3 at *
        have s0 : ∀ wr, On ((w.alloc (.cells (cV c) 25)).alloc (.cells (eV e p q) 27)) wr → wr.heap[w.heap.size]? = some (.cells (cV c) 25 (0, 0)) := fun _ h => h.keep (box1 _ _ _)
        have t0 : ∀ wr, On ((w.alloc (.cells (cV c) 25)).alloc (.cells (eV e p q) 27)) wr → wr.heap[w.heap.size + 1]? = some (.cells (eV e p q) 27 (0, 0)) := fun _ h => h.keep (box2 _ _ _)
        have hb0 := On.refl (((w.alloc (.cells (cV c) 25)).alloc (.cells (eV e p q) 27)))
        have hb1 : ∀ ob : Obj, On (((w.alloc (.cells (cV c) 25)).alloc (.cells (eV e p q) 27))) ((((w.alloc (.cells (cV c) 25)).alloc (.cells (eV e p q) 27))).alloc ob) := fun ob => (On.refl _).alloc ob
        have HB : Hid (On w (((w.alloc (.cells (cV c) 25)).alloc (.cells (eV e p q) 27)))) := Lib.hid (((On.refl w).alloc _).alloc _)
        go_enter Try.func10, Try.ntmps10
        go_wp2_with (first | ((with_reducible apply csr_ld); (case ho => exact rfl); (case hgd => exact rfl); (case hx => exact rfl); (case hg => (first | exact s0 _ (by first | exact hb0 | exact hb1 _) | exact t0 _ (by first | exact hb0 | exact hb1 _) | exact heap_alloc_new _ _))) | ((with_reducible apply env_ld); (case ho => exact rfl); (case hgd => exact rfl); (case hx => exact rfl); (case hg => (first | exact s0 _ (by first | exact hb0 | exact hb1 _) | exact t0 _ (by first | exact hb0 | exact hb1 _) | exact heap_alloc_new _ _))) | ((with_reducible apply csr_new_st); (case ho => exact rfl); (case hgd => exact rfl); (case hx => exact rfl); (case hy => exact rfl)))
        go_at_call 14; refine (K0.out _).mono ?_; rintro _ w1 ⟨rfl, hb'⟩
        have hb := hb'
        replace s0 := fun wr (h : On w1 wr) => s0 wr (hb.trans h)
        replace t0 := fun wr (h : On w1 wr) => t0 wr (hb.trans h)
        replace hb0 := On.refl w1
        replace hb1 : ∀ ob : Obj, On w1 (w1.alloc ob) := fun ob => (On.refl w1).alloc ob
        have HB := Lib.hid (HB.out.trans hb)
        clear hb hb'
        go_wp2_with (first | ((with_reducible apply csr_ld); (case ho => exact rfl); (case hgd => exact rfl); (case hx => exact rfl); (case hg => (first | exact s0 _ (by first | exact hb0 | exact hb1 _) | exact t0 _ (by first | exact hb0 | exact hb1 _) | exact heap_alloc_new _ _))) | ((with_reducible apply env_ld); (case ho => exact rfl); (case hgd => exact rfl); (case hx => exact rfl); (case hg => (first | exact s0 _ (by first | exact hb0 | exact hb1 _) | exact t0 _ (by first | exact hb0 | exact hb1 _) | exact heap_alloc_new _ _))) | ((with_reducible apply csr_new_st); (case ho => exact rfl); (case hgd => exact rfl); (case hx => exact rfl); (case hy => exact rfl)))
        go_at_call 14; refine (K1.out _).mono ?_; rintro _ w2 ⟨rfl, hb'⟩
        have hb := hb'
        replace s0 := fun wr (h : On w2 wr) => s0 wr (hb.trans h)
        replace t0 := fun wr (h : On w2 wr) => t0 wr (hb.trans h)
        replace hb0 := On.refl w2
        replace hb1 : ∀ ob : Obj, On w2 (w2.alloc ob) := fun ob => (On.refl w2).alloc ob
        have HB := Lib.hid (HB.out.trans hb)
        clear hb hb'
        go_wp2_with (first | ((with_reducible apply csr_ld); (case ho => exact rfl); (case hgd => exact rfl); (case hx => exact rfl); (case hg => (first | exact s0 _ (by first | exact hb0 | exact hb1 _) | exact t0 _ (by first | exact hb0 | exact hb1 _) | exact heap_alloc_new _ _))) | ((with_reducible apply env_ld); (case ho => exact rfl); (case hgd => exact rfl); (case hx => exact rfl); (case hg => (first | exact s0 _ (by first | exact hb0 | exact hb1 _) | exact t0 _ (by first | exact hb0 | exact hb1 _) | exact heap_alloc_new _ _))) | ((with_reducible apply csr_new_st); (case ho => exact rfl); (case hgd => exact rfl); (case hx => exact rfl); (case hy => exact rfl)))
        go_at_call 14; refine (K3.out _).mono ?_; rintro _ w3 ⟨rfl, hb'⟩
        have hb := hb'
        replace s0 := fun wr (h : On w3 wr) => s0 wr (hb.trans h)
        replace t0 := fun wr (h : On w3 wr) => t0 wr (hb.trans h)
        replace hb0 := On.refl w3
        replace hb1 : ∀ ob : Obj, On w3 (w3.alloc ob) := fun ob => (On.refl w3).alloc ob
        have HB := Lib.hid (HB.out.trans hb)
        clear hb hb'
        go_wp2_with (first | ((with_reducible apply csr_ld); (case ho => exact rfl); (case hgd => exact rfl); (case hx => exact rfl); (case hg => (first | exact s0 _ (by first | exact hb0 | exact hb1 _) | exact t0 _ (by first | exact hb0 | exact hb1 _) | exact heap_alloc_new _ _))) | ((with_reducible apply env_ld); (case ho => exact rfl); (case hgd => exact rfl); (case hx => exact rfl); (case hg => (first | exact s0 _ (by first | exact hb0 | exact hb1 _) | exact t0 _ (by first | exact hb0 | exact hb1 _) | exact heap_alloc_new _ _))) | ((with_reducible apply csr_new_st); (case ho => exact rfl); (case hgd => exact rfl); (case hx => exact rfl); (case hy => exact rfl)))
        go_at_call 18; refine (J1.out _).mono ?_; rintro _ w4 ⟨rfl, hb'⟩
        have hb := hb'
        replace s0 := fun wr (h : On w4 wr) => s0 wr (hb.trans h)
        replace t0 := fun wr (h : On w4 wr) => t0 wr (hb.trans h)
        replace hb0 := On.refl w4
        replace hb1 : ∀ ob : Obj, On w4 (w4.alloc ob) := fun ob => (On.refl w4).alloc ob
        have HB := Lib.hid (HB.out.trans hb)
        clear hb hb'
        go_wp2_with (first | ((with_reducible apply csr_ld); (case ho => exact rfl); (case hgd => exact rfl); (case hx => exact rfl); (case hg => (first | exact s0 _ (by first | exact hb0 | exact hb1 _) | exact t0 _ (by first | exact hb0 | exact hb1 _) | exact heap_alloc_new _ _))) | ((with_reducible apply env_ld); (case ho => exact rfl); (case hgd => exact rfl); (case hx => exact rfl); (case hg => (first | exact s0 _ (by first | exact hb0 | exact hb1 _) | exact t0 _ (by first | exact hb0 | exact hb1 _) | exact heap_alloc_new _ _))) | ((with_reducible apply csr_new_st); (case ho => exact rfl); (case hgd => exact rfl); (case hx => exact rfl); (case hy => exact rfl)))
        go_at_call 18; refine (J3.out _).mono ?_; rintro _ w5 ⟨rfl, hb'⟩
        have s1 := fun wr (h : On w5 wr) => (hb'.trans h).keep (heap_alloc_new _ _)
        have hb := (hb1 _).trans hb'
        replace s0 := fun wr (h : On w5 wr) => s0 wr (hb.trans h)
        replace t0 := fun wr (h : On w5 wr) => t0 wr (hb.trans h)
        replace hb0 := On.refl w5
        replace hb1 : ∀ ob : Obj, On w5 (w5.alloc ob) := fun ob => (On.refl w5).alloc ob
        have HB := Lib.hid (HB.out.trans hb)
        clear hb hb'
        go_wp2_with (first | ((with_reducible apply csr_ld); (case ho => exact rfl); (case hgd => exact rfl); (case hx => exact rfl); (case hg => (first | exact s0 _ (by first | exact hb0 | exact hb1 _) | exact t0 _ (by first | exact hb0 | exact hb1 _) | exact s1 _ (by first | exact hb0 | exact hb1 _) | exact heap_alloc_new _ _))) | ((with_reducible apply env_ld); (case ho => exact rfl); (case hgd => exact rfl); (case hx => exact rfl); (case hg => (first | exact s0 _ (by first | exact hb0 | exact hb1 _) | exact t0 _ (by first | exact hb0 | exact hb1 _) | exact s1 _ (by first | exact hb0 | exact hb1 _) | exact heap_alloc_new _ _))) | ((with_reducible apply csr_new_st); (case ho => exact rfl); (case hgd => exact rfl); (case hx => exact rfl); (case hy => exact rfl)))
        go_at_call 16; refine (awake7_yes _).mono ?_; rintro _ w6 ⟨rfl, hb'⟩
        have s2 := fun wr (h : On w6 wr) => (hb'.trans h).keep (heap_alloc_new _ _)
        have hb := (hb1 _).trans hb'
        replace s0 := fun wr (h : On w6 wr) => s0 wr (hb.trans h)
        replace t0 := fun wr (h : On w6 wr) => t0 wr (hb.trans h)
        replace s1 := fun wr (h : On w6 wr) => s1 wr (hb.trans h)
        replace hb0 := On.refl w6
        replace hb1 : ∀ ob : Obj, On w6 (w6.alloc ob) := fun ob => (On.refl w6).alloc ob
        have HB := Lib.hid (HB.out.trans hb)
        clear hb hb'
        go_wp2_with (first | ((with_reducible apply csr_ld); (case ho => exact rfl); (case hgd => exact rfl); (case hx => exact rfl); (case hg => (first | exact s0 _ (by first | exact hb0 | exact hb1 _) | exact t0 _ (by first | exact hb0 | exact hb1 _) | exact s1 _ (by first | exact hb0 | exact hb1 _) | exact s2 _ (by first | exact hb0 | exact hb1 _) | exact heap_alloc_new _ _))) | ((with_reducible apply env_ld); (case ho => exact rfl); (case hgd => exact rfl); (case hx => exact rfl); (case hg => (first | exact s0 _ (by first | exact hb0 | exact hb1 _) | exact t0 _ (by first | exact hb0 | exact hb1 _) | exact s1 _ (by first | exact hb0 | exact hb1 _) | exact s2 _ (by first | exact hb0 | exact hb1 _) | exact heap_alloc_new _ _))) | ((with_reducible apply csr_new_st); (case ho => exact rfl); (case hgd => exact rfl); (case hx => exact rfl); (case hy => exact rfl)))
        go_ret
        exact ⟨rfl, HB.out⟩
    · cases h0 : rdb c a1 0
      · cases g1 : mayB c a1 1 true
        · cases g3 : mayB c a1 3 true
          · have K0 : Hid (∀ w, Calls Try.prog 14 #[.agg (cV c), .int .i64 a1, .int .i64 0, .agg (eV e p q)] w fun r w' => r = .returned (.tuple #[.int .u64 0, .int .i64 7]) ∧ On w w') := Lib.hid (fun w => read_no c e p q a1 0 h0 w)
            have K1 : Hid (∀ w, Calls Try.prog 14 #[.agg (cV c), .int .i64 a1, .int .i64 1, .agg (eV e p q)] w fun r w' => r = .returned (.tuple #[.int .u64 (u (rv c e a1)), .int .i64 0]) ∧ On w w') := Lib.hid (fun w => read_yes c e p q a1 1 h1 w)
            have K3 : Hid (∀ w, Calls Try.prog 14 #[.agg (cV c), .int .i64 a1, .int .i64 3, .agg (eV e p q)] w fun r w' => r = .returned (.tuple #[.int .u64 (u (rv c e a1)), .int .i64 0]) ∧ On w w') := Lib.hid (fun w => read_yes c e p q a1 3 h3 w)
            have J1 : Hid (∀ w, Calls Try.prog 18 #[.agg (cV c), .int .i64 a1, .int .i64 1, .int .u64 (u v), .agg (eV e p q)] w fun r w' => r = .returned (.tuple #[.agg (cV (wrC c e a1 1 v)), .int .i64 7]) ∧ On w w') := Lib.hid (fun w => by have := write_any c e p q a1 1 v w; rw [g1] at this; exact this)
            have J3 : Hid (∀ w, Calls Try.prog 18 #[.agg (cV c), .int .i64 a1, .int .i64 3, .int .u64 (u v), .agg (eV e p q)] w fun r w' => r = .returned (.tuple #[.agg (cV (wrC c e a1 3 v)), .int .i64 7]) ∧ On w w') := Lib.hid (fun w => by have := write_any c e p q a1 3 v w; rw [g3] at this; exact this)
            clear h0 h1 h3 g1 g3 M1 M3 N1 N3
            generalize rv c e a1 = y at *
            generalize wrC c e a1 1 v = x1 at *
            generalize wrC c e a1 3 v = x3 at *
            have s0 : ∀ wr, On ((w.alloc (.cells (cV c) 25)).alloc (.cells (eV e p q) 27)) wr → wr.heap[w.heap.size]? = some (.cells (cV c) 25 (0, 0)) := fun _ h => h.keep (box1 _ _ _)
            have t0 : ∀ wr, On ((w.alloc (.cells (cV c) 25)).alloc (.cells (eV e p q) 27)) wr → wr.heap[w.heap.size + 1]? = some (.cells (eV e p q) 27 (0, 0)) := fun _ h => h.keep (box2 _ _ _)
            have hb0 := On.refl (((w.alloc (.cells (cV c) 25)).alloc (.cells (eV e p q) 27)))
            have hb1 : ∀ ob : Obj, On (((w.alloc (.cells (cV c) 25)).alloc (.cells (eV e p q) 27))) ((((w.alloc (.cells (cV c) 25)).alloc (.cells (eV e p q) 27))).alloc ob) := fun ob => (On.refl _).alloc ob
            have HB : Hid (On w (((w.alloc (.cells (cV c) 25)).alloc (.cells (eV e p q) 27)))) := Lib.hid (((On.refl w).alloc _).alloc _)
            go_enter Try.func10, Try.ntmps10
            go_wp2_with (first | ((with_reducible apply csr_ld); (case ho => exact rfl); (case hgd => exact rfl); (case hx => exact rfl); (case hg => (first | exact s0 _ (by first | exact hb0 | exact hb1 _) | exact t0 _ (by first | exact hb0 | exact hb1 _) | exact heap_alloc_new _ _))) | ((with_reducible apply env_ld); (case ho => exact rfl); (case hgd => exact rfl); (case hx => exact rfl); (case hg => (first | exact s0 _ (by first | exact hb0 | exact hb1 _) | exact t0 _ (by first | exact hb0 | exact hb1 _) | exact heap_alloc_new _ _))) | ((with_reducible apply csr_new_st); (case ho => exact rfl); (case hgd => exact rfl); (case hx => exact rfl); (case hy => exact rfl)))
            go_at_call 14; refine (K0.out _).mono ?_; rintro _ w1 ⟨rfl, hb'⟩
            have hb := hb'
            replace s0 := fun wr (h : On w1 wr) => s0 wr (hb.trans h)
            replace t0 := fun wr (h : On w1 wr) => t0 wr (hb.trans h)
            replace hb0 := On.refl w1
            replace hb1 : ∀ ob : Obj, On w1 (w1.alloc ob) := fun ob => (On.refl w1).alloc ob
            have HB := Lib.hid (HB.out.trans hb)
            clear hb hb'
            go_wp2_with (first | ((with_reducible apply csr_ld); (case ho => exact rfl); (case hgd => exact rfl); (case hx => exact rfl); (case hg => (first | exact s0 _ (by first | exact hb0 | exact hb1 _) | exact t0 _ (by first | exact hb0 | exact hb1 _) | exact heap_alloc_new _ _))) | ((with_reducible apply env_ld); (case ho => exact rfl); (case hgd => exact rfl); (case hx => exact rfl); (case hg => (first | exact s0 _ (by first | exact hb0 | exact hb1 _) | exact t0 _ (by first | exact hb0 | exact hb1 _) | exact heap_alloc_new _ _))) | ((with_reducible apply csr_new_st); (case ho => exact rfl); (case hgd => exact rfl); (case hx => exact rfl); (case hy => exact rfl)))
            go_at_call 14; refine (K1.out _).mono ?_; rintro _ w2 ⟨rfl, hb'⟩
            have hb := hb'
            replace s0 := fun wr (h : On w2 wr) => s0 wr (hb.trans h)
            replace t0 := fun wr (h : On w2 wr) => t0 wr (hb.trans h)
            replace hb0 := On.refl w2
            replace hb1 : ∀ ob : Obj, On w2 (w2.alloc ob) := fun ob => (On.refl w2).alloc ob
            have HB := Lib.hid (HB.out.trans hb)
            clear hb hb'
            go_wp2_with (first | ((with_reducible apply csr_ld); (case ho => exact rfl); (case hgd => exact rfl); (case hx => exact rfl); (case hg => (first | exact s0 _ (by first | exact hb0 | exact hb1 _) | exact t0 _ (by first | exact hb0 | exact hb1 _) | exact heap_alloc_new _ _))) | ((with_reducible apply env_ld); (case ho => exact rfl); (case hgd => exact rfl); (case hx => exact rfl); (case hg => (first | exact s0 _ (by first | exact hb0 | exact hb1 _) | exact t0 _ (by first | exact hb0 | exact hb1 _) | exact heap_alloc_new _ _))) | ((with_reducible apply csr_new_st); (case ho => exact rfl); (case hgd => exact rfl); (case hx => exact rfl); (case hy => exact rfl)))
            go_at_call 14; refine (K3.out _).mono ?_; rintro _ w3 ⟨rfl, hb'⟩
            have hb := hb'
            replace s0 := fun wr (h : On w3 wr) => s0 wr (hb.trans h)
            replace t0 := fun wr (h : On w3 wr) => t0 wr (hb.trans h)
            replace hb0 := On.refl w3
            replace hb1 : ∀ ob : Obj, On w3 (w3.alloc ob) := fun ob => (On.refl w3).alloc ob
            have HB := Lib.hid (HB.out.trans hb)
            clear hb hb'
            go_wp2_with (first | ((with_reducible apply csr_ld); (case ho => exact rfl); (case hgd => exact rfl); (case hx => exact rfl); (case hg => (first | exact s0 _ (by first | exact hb0 | exact hb1 _) | exact t0 _ (by first | exact hb0 | exact hb1 _) | exact heap_alloc_new _ _))) | ((with_reducible apply env_ld); (case ho => exact rfl); (case hgd => exact rfl); (case hx => exact rfl); (case hg => (first | exact s0 _ (by first | exact hb0 | exact hb1 _) | exact t0 _ (by first | exact hb0 | exact hb1 _) | exact heap_alloc_new _ _))) | ((with_reducible apply csr_new_st); (case ho => exact rfl); (case hgd => exact rfl); (case hx => exact rfl); (case hy => exact rfl)))
            go_at_call 18; refine (J1.out _).mono ?_; rintro _ w4 ⟨rfl, hb'⟩
            have hb := hb'
            replace s0 := fun wr (h : On w4 wr) => s0 wr (hb.trans h)
            replace t0 := fun wr (h : On w4 wr) => t0 wr (hb.trans h)
            replace hb0 := On.refl w4
            replace hb1 : ∀ ob : Obj, On w4 (w4.alloc ob) := fun ob => (On.refl w4).alloc ob
            have HB := Lib.hid (HB.out.trans hb)
            clear hb hb'
            go_wp2_with (first | ((with_reducible apply csr_ld); (case ho => exact rfl); (case hgd => exact rfl); (case hx => exact rfl); (case hg => (first | exact s0 _ (by first | exact hb0 | exact hb1 _) | exact t0 _ (by first | exact hb0 | exact hb1 _) | exact heap_alloc_new _ _))) | ((with_reducible apply env_ld); (case ho => exact rfl); (case hgd => exact rfl); (case hx => exact rfl); (case hg => (first | exact s0 _ (by first | exact hb0 | exact hb1 _) | exact t0 _ (by first | exact hb0 | exact hb1 _) | exact heap_alloc_new _ _))) | ((with_reducible apply csr_new_st); (case ho => exact rfl); (case hgd => exact rfl); (case hx => exact rfl); (case hy => exact rfl)))
            go_at_call 18; refine (J3.out _).mono ?_; rintro _ w5 ⟨rfl, hb'⟩
            have s1 := fun wr (h : On w5 wr) => (hb'.trans h).keep (heap_alloc_new _ _)
            have hb := (hb1 _).trans hb'
            replace s0 := fun wr (h : On w5 wr) => s0 wr (hb.trans h)
            replace t0 := fun wr (h : On w5 wr) => t0 wr (hb.trans h)
            replace hb0 := On.refl w5
            replace hb1 : ∀ ob : Obj, On w5 (w5.alloc ob) := fun ob => (On.refl w5).alloc ob
            have HB := Lib.hid (HB.out.trans hb)
            clear hb hb'
            go_wp2_with (first | ((with_reducible apply csr_ld); (case ho => exact rfl); (case hgd => exact rfl); (case hx => exact rfl); (case hg => (first | exact s0 _ (by first | exact hb0 | exact hb1 _) | exact t0 _ (by first | exact hb0 | exact hb1 _) | exact s1 _ (by first | exact hb0 | exact hb1 _) | exact heap_alloc_new _ _))) | ((with_reducible apply env_ld); (case ho => exact rfl); (case hgd => exact rfl); (case hx => exact rfl); (case hg => (first | exact s0 _ (by first | exact hb0 | exact hb1 _) | exact t0 _ (by first | exact hb0 | exact hb1 _) | exact s1 _ (by first | exact hb0 | exact hb1 _) | exact heap_alloc_new _ _))) | ((with_reducible apply csr_new_st); (case ho => exact rfl); (case hgd => exact rfl); (case hx => exact rfl); (case hy => exact rfl)))
            go_at_call 16; refine (awake7_yes _).mono ?_; rintro _ w6 ⟨rfl, hb'⟩
            have s2 := fun wr (h : On w6 wr) => (hb'.trans h).keep (heap_alloc_new _ _)
            have hb := (hb1 _).trans hb'
            replace s0 := fun wr (h : On w6 wr) => s0 wr (hb.trans h)
            replace t0 := fun wr (h : On w6 wr) => t0 wr (hb.trans h)
            replace s1 := fun wr (h : On w6 wr) => s1 wr (hb.trans h)
            replace hb0 := On.refl w6
            replace hb1 : ∀ ob : Obj, On w6 (w6.alloc ob) := fun ob => (On.refl w6).alloc ob
            have HB := Lib.hid (HB.out.trans hb)
            clear hb hb'
            go_wp2_with (first | ((with_reducible apply csr_ld); (case ho => exact rfl); (case hgd => exact rfl); (case hx => exact rfl); (case hg => (first | exact s0 _ (by first | exact hb0 | exact hb1 _) | exact t0 _ (by first | exact hb0 | exact hb1 _) | exact s1 _ (by first | exact hb0 | exact hb1 _) | exact s2 _ (by first | exact hb0 | exact hb1 _) | exact heap_alloc_new _ _))) | ((with_reducible apply env_ld); (case ho => exact rfl); (case hgd => exact rfl); (case hx => exact rfl); (case hg => (first | exact s0 _ (by first | exact hb0 | exact hb1 _) | exact t0 _ (by first | exact hb0 | exact hb1 _) | exact s1 _ (by first | exact hb0 | exact hb1 _) | exact s2 _ (by first | exact hb0 | exact hb1 _) | exact heap_alloc_new _ _))) | ((with_reducible apply csr_new_st); (case ho => exact rfl); (case hgd => exact rfl); (case hx => exact rfl); (case hy => exact rfl)))
            go_ret
            exact ⟨rfl, HB.out⟩
          · have K0 : Hid (∀ w, Calls Try.prog 14 #[.agg (cV c), .int .i64 a1, .int .i64 0, .agg (eV e p q)] w fun r w' => r = .returned (.tuple #[.int .u64 0, .int .i64 7]) ∧ On w w') := Lib.hid (fun w => read_no c e p q a1 0 h0 w)
            have K1 : Hid (∀ w, Calls Try.prog 14 #[.agg (cV c), .int .i64 a1, .int .i64 1, .agg (eV e p q)] w fun r w' => r = .returned (.tuple #[.int .u64 (u (rv c e a1)), .int .i64 0]) ∧ On w w') := Lib.hid (fun w => read_yes c e p q a1 1 h1 w)
            have K3 : Hid (∀ w, Calls Try.prog 14 #[.agg (cV c), .int .i64 a1, .int .i64 3, .agg (eV e p q)] w fun r w' => r = .returned (.tuple #[.int .u64 (u (rv c e a1)), .int .i64 0]) ∧ On w w') := Lib.hid (fun w => read_yes c e p q a1 3 h3 w)
            have J1 : Hid (∀ w, Calls Try.prog 18 #[.agg (cV c), .int .i64 a1, .int .i64 1, .int .u64 (u v), .agg (eV e p q)] w fun r w' => r = .returned (.tuple #[.agg (cV (wrC c e a1 1 v)), .int .i64 7]) ∧ On w w') := Lib.hid (fun w => by have := write_any c e p q a1 1 v w; rw [g1] at this; exact this)
            have J3 : Hid (∀ w, Calls Try.prog 18 #[.agg (cV c), .int .i64 a1, .int .i64 3, .int .u64 (u v), .agg (eV e p q)] w fun r w' => r = .returned (.tuple #[.agg (cV (wrC c e a1 3 v)), .int .i64 0]) ∧ On w w') := Lib.hid (fun w => by have := write_any c e p q a1 3 v w; rw [g3] at this; exact this)
            clear h0 h1 h3 g1 g3 M1 M3 N1 N3
            generalize rv c e a1 = y at *
            generalize wrC c e a1 1 v = x1 at *
            generalize wrC c e a1 3 v = x3 at *
            have s0 : ∀ wr, On ((w.alloc (.cells (cV c) 25)).alloc (.cells (eV e p q) 27)) wr → wr.heap[w.heap.size]? = some (.cells (cV c) 25 (0, 0)) := fun _ h => h.keep (box1 _ _ _)
            have t0 : ∀ wr, On ((w.alloc (.cells (cV c) 25)).alloc (.cells (eV e p q) 27)) wr → wr.heap[w.heap.size + 1]? = some (.cells (eV e p q) 27 (0, 0)) := fun _ h => h.keep (box2 _ _ _)
            have hb0 := On.refl (((w.alloc (.cells (cV c) 25)).alloc (.cells (eV e p q) 27)))
            have hb1 : ∀ ob : Obj, On (((w.alloc (.cells (cV c) 25)).alloc (.cells (eV e p q) 27))) ((((w.alloc (.cells (cV c) 25)).alloc (.cells (eV e p q) 27))).alloc ob) := fun ob => (On.refl _).alloc ob
            have HB : Hid (On w (((w.alloc (.cells (cV c) 25)).alloc (.cells (eV e p q) 27)))) := Lib.hid (((On.refl w).alloc _).alloc _)
            go_enter Try.func10, Try.ntmps10
            go_wp2_with (first | ((with_reducible apply csr_ld); (case ho => exact rfl); (case hgd => exact rfl); (case hx => exact rfl); (case hg => (first | exact s0 _ (by first | exact hb0 | exact hb1 _) | exact t0 _ (by first | exact hb0 | exact hb1 _) | exact heap_alloc_new _ _))) | ((with_reducible apply env_ld); (case ho => exact rfl); (case hgd => exact rfl); (case hx => exact rfl); (case hg => (first | exact s0 _ (by first | exact hb0 | exact hb1 _) | exact t0 _ (by first | exact hb0 | exact hb1 _) | exact heap_alloc_new _ _))) | ((with_reducible apply csr_new_st); (case ho => exact rfl); (case hgd => exact rfl); (case hx => exact rfl); (case hy => exact rfl)))
            go_at_call 14; refine (K0.out _).mono ?_; rintro _ w1 ⟨rfl, hb'⟩
            have hb := hb'
            replace s0 := fun wr (h : On w1 wr) => s0 wr (hb.trans h)
            replace t0 := fun wr (h : On w1 wr) => t0 wr (hb.trans h)
            replace hb0 := On.refl w1
            replace hb1 : ∀ ob : Obj, On w1 (w1.alloc ob) := fun ob => (On.refl w1).alloc ob
            have HB := Lib.hid (HB.out.trans hb)
            clear hb hb'
            go_wp2_with (first | ((with_reducible apply csr_ld); (case ho => exact rfl); (case hgd => exact rfl); (case hx => exact rfl); (case hg => (first | exact s0 _ (by first | exact hb0 | exact hb1 _) | exact t0 _ (by first | exact hb0 | exact hb1 _) | exact heap_alloc_new _ _))) | ((with_reducible apply env_ld); (case ho => exact rfl); (case hgd => exact rfl); (case hx => exact rfl); (case hg => (first | exact s0 _ (by first | exact hb0 | exact hb1 _) | exact t0 _ (by first | exact hb0 | exact hb1 _) | exact heap_alloc_new _ _))) | ((with_reducible apply csr_new_st); (case ho => exact rfl); (case hgd => exact rfl); (case hx => exact rfl); (case hy => exact rfl)))
            go_at_call 14; refine (K1.out _).mono ?_; rintro _ w2 ⟨rfl, hb'⟩
            have hb := hb'
            replace s0 := fun wr (h : On w2 wr) => s0 wr (hb.trans h)
            replace t0 := fun wr (h : On w2 wr) => t0 wr (hb.trans h)
            replace hb0 := On.refl w2
            replace hb1 : ∀ ob : Obj, On w2 (w2.alloc ob) := fun ob => (On.refl w2).alloc ob
            have HB := Lib.hid (HB.out.trans hb)
            clear hb hb'
            go_wp2_with (first | ((with_reducible apply csr_ld); (case ho => exact rfl); (case hgd => exact rfl); (case hx => exact rfl); (case hg => (first | exact s0 _ (by first | exact hb0 | exact hb1 _) | exact t0 _ (by first | exact hb0 | exact hb1 _) | exact heap_alloc_new _ _))) | ((with_reducible apply env_ld); (case ho => exact rfl); (case hgd => exact rfl); (case hx => exact rfl); (case hg => (first | exact s0 _ (by first | exact hb0 | exact hb1 _) | exact t0 _ (by first | exact hb0 | exact hb1 _) | exact heap_alloc_new _ _))) | ((with_reducible apply csr_new_st); (case ho => exact rfl); (case hgd => exact rfl); (case hx => exact rfl); (case hy => exact rfl)))
            go_at_call 14; refine (K3.out _).mono ?_; rintro _ w3 ⟨rfl, hb'⟩
            have hb := hb'
            replace s0 := fun wr (h : On w3 wr) => s0 wr (hb.trans h)
            replace t0 := fun wr (h : On w3 wr) => t0 wr (hb.trans h)
            replace hb0 := On.refl w3
            replace hb1 : ∀ ob : Obj, On w3 (w3.alloc ob) := fun ob => (On.refl w3).alloc ob
            have HB := Lib.hid (HB.out.trans hb)
            clear hb hb'
            go_wp2_with (first | ((with_reducible apply csr_ld); (case ho => exact rfl); (case hgd => exact rfl); (case hx => exact rfl); (case hg => (first | exact s0 _ (by first | exact hb0 | exact hb1 _) | exact t0 _ (by first | exact hb0 | exact hb1 _) | exact heap_alloc_new _ _))) | ((with_reducible apply env_ld); (case ho => exact rfl); (case hgd => exact rfl); (case hx => exact rfl); (case hg => (first | exact s0 _ (by first | exact hb0 | exact hb1 _) | exact t0 _ (by first | exact hb0 | exact hb1 _) | exact heap_alloc_new _ _))) | ((with_reducible apply csr_new_st); (case ho => exact rfl); (case hgd => exact rfl); (case hx => exact rfl); (case hy => exact rfl)))
            go_at_call 18; refine (J1.out _).mono ?_; rintro _ w4 ⟨rfl, hb'⟩
            have hb := hb'
            replace s0 := fun wr (h : On w4 wr) => s0 wr (hb.trans h)
            replace t0 := fun wr (h : On w4 wr) => t0 wr (hb.trans h)
            replace hb0 := On.refl w4
            replace hb1 : ∀ ob : Obj, On w4 (w4.alloc ob) := fun ob => (On.refl w4).alloc ob
            have HB := Lib.hid (HB.out.trans hb)
            clear hb hb'
            go_wp2_with (first | ((with_reducible apply csr_ld); (case ho => exact rfl); (case hgd => exact rfl); (case hx => exact rfl); (case hg => (first | exact s0 _ (by first | exact hb0 | exact hb1 _) | exact t0 _ (by first | exact hb0 | exact hb1 _) | exact heap_alloc_new _ _))) | ((with_reducible apply env_ld); (case ho => exact rfl); (case hgd => exact rfl); (case hx => exact rfl); (case hg => (first | exact s0 _ (by first | exact hb0 | exact hb1 _) | exact t0 _ (by first | exact hb0 | exact hb1 _) | exact heap_alloc_new _ _))) | ((with_reducible apply csr_new_st); (case ho => exact rfl); (case hgd => exact rfl); (case hx => exact rfl); (case hy => exact rfl)))
            go_at_call 18; refine (J3.out _).mono ?_; rintro _ w5 ⟨rfl, hb'⟩
            have s1 := fun wr (h : On w5 wr) => (hb'.trans h).keep (heap_alloc_new _ _)
            have hb := (hb1 _).trans hb'
            replace s0 := fun wr (h : On w5 wr) => s0 wr (hb.trans h)
            replace t0 := fun wr (h : On w5 wr) => t0 wr (hb.trans h)
            replace hb0 := On.refl w5
            replace hb1 : ∀ ob : Obj, On w5 (w5.alloc ob) := fun ob => (On.refl w5).alloc ob
            have HB := Lib.hid (HB.out.trans hb)
            clear hb hb'
            go_wp2_with (first | ((with_reducible apply csr_ld); (case ho => exact rfl); (case hgd => exact rfl); (case hx => exact rfl); (case hg => (first | exact s0 _ (by first | exact hb0 | exact hb1 _) | exact t0 _ (by first | exact hb0 | exact hb1 _) | exact s1 _ (by first | exact hb0 | exact hb1 _) | exact heap_alloc_new _ _))) | ((with_reducible apply env_ld); (case ho => exact rfl); (case hgd => exact rfl); (case hx => exact rfl); (case hg => (first | exact s0 _ (by first | exact hb0 | exact hb1 _) | exact t0 _ (by first | exact hb0 | exact hb1 _) | exact s1 _ (by first | exact hb0 | exact hb1 _) | exact heap_alloc_new _ _))) | ((with_reducible apply csr_new_st); (case ho => exact rfl); (case hgd => exact rfl); (case hx => exact rfl); (case hy => exact rfl)))
            go_at_call 16; refine (awake7_yes _).mono ?_; rintro _ w6 ⟨rfl, hb'⟩
            have s2 := fun wr (h : On w6 wr) => (hb'.trans h).keep (heap_alloc_new _ _)
            have hb := (hb1 _).trans hb'
            replace s0 := fun wr (h : On w6 wr) => s0 wr (hb.trans h)
            replace t0 := fun wr (h : On w6 wr) => t0 wr (hb.trans h)
            replace s1 := fun wr (h : On w6 wr) => s1 wr (hb.trans h)
            replace hb0 := On.refl w6
            replace hb1 : ∀ ob : Obj, On w6 (w6.alloc ob) := fun ob => (On.refl w6).alloc ob
            have HB := Lib.hid (HB.out.trans hb)
            clear hb hb'
            go_wp2_with (first | ((with_reducible apply csr_ld); (case ho => exact rfl); (case hgd => exact rfl); (case hx => exact rfl); (case hg => (first | exact s0 _ (by first | exact hb0 | exact hb1 _) | exact t0 _ (by first | exact hb0 | exact hb1 _) | exact s1 _ (by first | exact hb0 | exact hb1 _) | exact s2 _ (by first | exact hb0 | exact hb1 _) | exact heap_alloc_new _ _))) | ((with_reducible apply env_ld); (case ho => exact rfl); (case hgd => exact rfl); (case hx => exact rfl); (case hg => (first | exact s0 _ (by first | exact hb0 | exact hb1 _) | exact t0 _ (by first | exact hb0 | exact hb1 _) | exact s1 _ (by first | exact hb0 | exact hb1 _) | exact s2 _ (by first | exact hb0 | exact hb1 _) | exact heap_alloc_new _ _))) | ((with_reducible apply csr_new_st); (case ho => exact rfl); (case hgd => exact rfl); (case hx => exact rfl); (case hy => exact rfl)))
            go_ret
            exact ⟨rfl, HB.out⟩
        · cases g3 : mayB c a1 3 true
          · have K0 : Hid (∀ w, Calls Try.prog 14 #[.agg (cV c), .int .i64 a1, .int .i64 0, .agg (eV e p q)] w fun r w' => r = .returned (.tuple #[.int .u64 0, .int .i64 7]) ∧ On w w') := Lib.hid (fun w => read_no c e p q a1 0 h0 w)
            have K1 : Hid (∀ w, Calls Try.prog 14 #[.agg (cV c), .int .i64 a1, .int .i64 1, .agg (eV e p q)] w fun r w' => r = .returned (.tuple #[.int .u64 (u (rv c e a1)), .int .i64 0]) ∧ On w w') := Lib.hid (fun w => read_yes c e p q a1 1 h1 w)
            have K3 : Hid (∀ w, Calls Try.prog 14 #[.agg (cV c), .int .i64 a1, .int .i64 3, .agg (eV e p q)] w fun r w' => r = .returned (.tuple #[.int .u64 (u (rv c e a1)), .int .i64 0]) ∧ On w w') := Lib.hid (fun w => read_yes c e p q a1 3 h3 w)
            have J1 : Hid (∀ w, Calls Try.prog 18 #[.agg (cV c), .int .i64 a1, .int .i64 1, .int .u64 (u v), .agg (eV e p q)] w fun r w' => r = .returned (.tuple #[.agg (cV (wrC c e a1 1 v)), .int .i64 0]) ∧ On w w') := Lib.hid (fun w => by have := write_any c e p q a1 1 v w; rw [g1] at this; exact this)
            have J3 : Hid (∀ w, Calls Try.prog 18 #[.agg (cV c), .int .i64 a1, .int .i64 3, .int .u64 (u v), .agg (eV e p q)] w fun r w' => r = .returned (.tuple #[.agg (cV (wrC c e a1 3 v)), .int .i64 7]) ∧ On w w') := Lib.hid (fun w => by have := write_any c e p q a1 3 v w; rw [g3] at this; exact this)
            clear h0 h1 h3 g1 g3 M1 M3 N1 N3
            generalize rv c e a1 = y at *
            generalize wrC c e a1 1 v = x1 at *
            generalize wrC c e a1 3 v = x3 at *
            have s0 : ∀ wr, On ((w.alloc (.cells (cV c) 25)).alloc (.cells (eV e p q) 27)) wr → wr.heap[w.heap.size]? = some (.cells (cV c) 25 (0, 0)) := fun _ h => h.keep (box1 _ _ _)
            have t0 : ∀ wr, On ((w.alloc (.cells (cV c) 25)).alloc (.cells (eV e p q) 27)) wr → wr.heap[w.heap.size + 1]? = some (.cells (eV e p q) 27 (0, 0)) := fun _ h => h.keep (box2 _ _ _)
            have hb0 := On.refl (((w.alloc (.cells (cV c) 25)).alloc (.cells (eV e p q) 27)))
            have hb1 : ∀ ob : Obj, On (((w.alloc (.cells (cV c) 25)).alloc (.cells (eV e p q) 27))) ((((w.alloc (.cells (cV c) 25)).alloc (.cells (eV e p q) 27))).alloc ob) := fun ob => (On.refl _).alloc ob
            have HB : Hid (On w (((w.alloc (.cells (cV c) 25)).alloc (.cells (eV e p q) 27)))) := Lib.hid (((On.refl w).alloc _).alloc _)
            go_enter Try.func10, Try.ntmps10
            go_wp2_with (first | ((with_reducible apply csr_ld); (case ho => exact rfl); (case hgd => exact rfl); (case hx => exact rfl); (case hg => (first | exact s0 _ (by first | exact hb0 | exact hb1 _) | exact t0 _ (by first | exact hb0 | exact hb1 _) | exact heap_alloc_new _ _))) | ((with_reducible apply env_ld); (case ho => exact rfl); (case hgd => exact rfl); (case hx => exact rfl); (case hg => (first | exact s0 _ (by first | exact hb0 | exact hb1 _) | exact t0 _ (by first | exact hb0 | exact hb1 _) | exact heap_alloc_new _ _))) | ((with_reducible apply csr_new_st); (case ho => exact rfl); (case hgd => exact rfl); (case hx => exact rfl); (case hy => exact rfl)))
            go_at_call 14; refine (K0.out _).mono ?_; rintro _ w1 ⟨rfl, hb'⟩
            have hb := hb'
            replace s0 := fun wr (h : On w1 wr) => s0 wr (hb.trans h)
            replace t0 := fun wr (h : On w1 wr) => t0 wr (hb.trans h)
            replace hb0 := On.refl w1
            replace hb1 : ∀ ob : Obj, On w1 (w1.alloc ob) := fun ob => (On.refl w1).alloc ob
            have HB := Lib.hid (HB.out.trans hb)
            clear hb hb'
            go_wp2_with (first | ((with_reducible apply csr_ld); (case ho => exact rfl); (case hgd => exact rfl); (case hx => exact rfl); (case hg => (first | exact s0 _ (by first | exact hb0 | exact hb1 _) | exact t0 _ (by first | exact hb0 | exact hb1 _) | exact heap_alloc_new _ _))) | ((with_reducible apply env_ld); (case ho => exact rfl); (case hgd => exact rfl); (case hx => exact rfl); (case hg => (first | exact s0 _ (by first | exact hb0 | exact hb1 _) | exact t0 _ (by first | exact hb0 | exact hb1 _) | exact heap_alloc_new _ _))) | ((with_reducible apply csr_new_st); (case ho => exact rfl); (case hgd => exact rfl); (case hx => exact rfl); (case hy => exact rfl)))
            go_at_call 14; refine (K1.out _).mono ?_; rintro _ w2 ⟨rfl, hb'⟩
            have hb := hb'
            replace s0 := fun wr (h : On w2 wr) => s0 wr (hb.trans h)
            replace t0 := fun wr (h : On w2 wr) => t0 wr (hb.trans h)
            replace hb0 := On.refl w2
            replace hb1 : ∀ ob : Obj, On w2 (w2.alloc ob) := fun ob => (On.refl w2).alloc ob
            have HB := Lib.hid (HB.out.trans hb)
            clear hb hb'
            go_wp2_with (first | ((with_reducible apply csr_ld); (case ho => exact rfl); (case hgd => exact rfl); (case hx => exact rfl); (case hg => (first | exact s0 _ (by first | exact hb0 | exact hb1 _) | exact t0 _ (by first | exact hb0 | exact hb1 _) | exact heap_alloc_new _ _))) | ((with_reducible apply env_ld); (case ho => exact rfl); (case hgd => exact rfl); (case hx => exact rfl); (case hg => (first | exact s0 _ (by first | exact hb0 | exact hb1 _) | exact t0 _ (by first | exact hb0 | exact hb1 _) | exact heap_alloc_new _ _))) | ((with_reducible apply csr_new_st); (case ho => exact rfl); (case hgd => exact rfl); (case hx => exact rfl); (case hy => exact rfl)))
            go_at_call 14; refine (K3.out _).mono ?_; rintro _ w3 ⟨rfl, hb'⟩
            have hb := hb'
            replace s0 := fun wr (h : On w3 wr) => s0 wr (hb.trans h)
            replace t0 := fun wr (h : On w3 wr) => t0 wr (hb.trans h)
            replace hb0 := On.refl w3
            replace hb1 : ∀ ob : Obj, On w3 (w3.alloc ob) := fun ob => (On.refl w3).alloc ob
            have HB := Lib.hid (HB.out.trans hb)
            clear hb hb'
            go_wp2_with (first | ((with_reducible apply csr_ld); (case ho => exact rfl); (case hgd => exact rfl); (case hx => exact rfl); (case hg => (first | exact s0 _ (by first | exact hb0 | exact hb1 _) | exact t0 _ (by first | exact hb0 | exact hb1 _) | exact heap_alloc_new _ _))) | ((with_reducible apply env_ld); (case ho => exact rfl); (case hgd => exact rfl); (case hx => exact rfl); (case hg => (first | exact s0 _ (by first | exact hb0 | exact hb1 _) | exact t0 _ (by first | exact hb0 | exact hb1 _) | exact heap_alloc_new _ _))) | ((with_reducible apply csr_new_st); (case ho => exact rfl); (case hgd => exact rfl); (case hx => exact rfl); (case hy => exact rfl)))
            go_at_call 18; refine (J1.out _).mono ?_; rintro _ w4 ⟨rfl, hb'⟩
            have hb := hb'
            replace s0 := fun wr (h : On w4 wr) => s0 wr (hb.trans h)
            replace t0 := fun wr (h : On w4 wr) => t0 wr (hb.trans h)
            replace hb0 := On.refl w4
            replace hb1 : ∀ ob : Obj, On w4 (w4.alloc ob) := fun ob => (On.refl w4).alloc ob
            have HB := Lib.hid (HB.out.trans hb)
            clear hb hb'
            go_wp2_with (first | ((with_reducible apply csr_ld); (case ho => exact rfl); (case hgd => exact rfl); (case hx => exact rfl); (case hg => (first | exact s0 _ (by first | exact hb0 | exact hb1 _) | exact t0 _ (by first | exact hb0 | exact hb1 _) | exact heap_alloc_new _ _))) | ((with_reducible apply env_ld); (case ho => exact rfl); (case hgd => exact rfl); (case hx => exact rfl); (case hg => (first | exact s0 _ (by first | exact hb0 | exact hb1 _) | exact t0 _ (by first | exact hb0 | exact hb1 _) | exact heap_alloc_new _ _))) | ((with_reducible apply csr_new_st); (case ho => exact rfl); (case hgd => exact rfl); (case hx => exact rfl); (case hy => exact rfl)))
            go_at_call 18; refine (J3.out _).mono ?_; rintro _ w5 ⟨rfl, hb'⟩
            have s1 := fun wr (h : On w5 wr) => (hb'.trans h).keep (heap_alloc_new _ _)
            have hb := (hb1 _).trans hb'
            replace s0 := fun wr (h : On w5 wr) => s0 wr (hb.trans h)
            replace t0 := fun wr (h : On w5 wr) => t0 wr (hb.trans h)
            replace hb0 := On.refl w5
            replace hb1 : ∀ ob : Obj, On w5 (w5.alloc ob) := fun ob => (On.refl w5).alloc ob
            have HB := Lib.hid (HB.out.trans hb)
            clear hb hb'
            go_wp2_with (first | ((with_reducible apply csr_ld); (case ho => exact rfl); (case hgd => exact rfl); (case hx => exact rfl); (case hg => (first | exact s0 _ (by first | exact hb0 | exact hb1 _) | exact t0 _ (by first | exact hb0 | exact hb1 _) | exact s1 _ (by first | exact hb0 | exact hb1 _) | exact heap_alloc_new _ _))) | ((with_reducible apply env_ld); (case ho => exact rfl); (case hgd => exact rfl); (case hx => exact rfl); (case hg => (first | exact s0 _ (by first | exact hb0 | exact hb1 _) | exact t0 _ (by first | exact hb0 | exact hb1 _) | exact s1 _ (by first | exact hb0 | exact hb1 _) | exact heap_alloc_new _ _))) | ((with_reducible apply csr_new_st); (case ho => exact rfl); (case hgd => exact rfl); (case hx => exact rfl); (case hy => exact rfl)))
            go_at_call 16; refine (awake7_yes _).mono ?_; rintro _ w6 ⟨rfl, hb'⟩
            have s2 := fun wr (h : On w6 wr) => (hb'.trans h).keep (heap_alloc_new _ _)
            have hb := (hb1 _).trans hb'
            replace s0 := fun wr (h : On w6 wr) => s0 wr (hb.trans h)
            replace t0 := fun wr (h : On w6 wr) => t0 wr (hb.trans h)
            replace s1 := fun wr (h : On w6 wr) => s1 wr (hb.trans h)
            replace hb0 := On.refl w6
            replace hb1 : ∀ ob : Obj, On w6 (w6.alloc ob) := fun ob => (On.refl w6).alloc ob
            have HB := Lib.hid (HB.out.trans hb)
            clear hb hb'
            go_wp2_with (first | ((with_reducible apply csr_ld); (case ho => exact rfl); (case hgd => exact rfl); (case hx => exact rfl); (case hg => (first | exact s0 _ (by first | exact hb0 | exact hb1 _) | exact t0 _ (by first | exact hb0 | exact hb1 _) | exact s1 _ (by first | exact hb0 | exact hb1 _) | exact s2 _ (by first | exact hb0 | exact hb1 _) | exact heap_alloc_new _ _))) | ((with_reducible apply env_ld); (case ho => exact rfl); (case hgd => exact rfl); (case hx => exact rfl); (case hg => (first | exact s0 _ (by first | exact hb0 | exact hb1 _) | exact t0 _ (by first | exact hb0 | exact hb1 _) | exact s1 _ (by first | exact hb0 | exact hb1 _) | exact s2 _ (by first | exact hb0 | exact hb1 _) | exact heap_alloc_new _ _))) | ((with_reducible apply csr_new_st); (case ho => exact rfl); (case hgd => exact rfl); (case hx => exact rfl); (case hy => exact rfl)))
            go_ret
            exact ⟨rfl, HB.out⟩
          · have K0 : Hid (∀ w, Calls Try.prog 14 #[.agg (cV c), .int .i64 a1, .int .i64 0, .agg (eV e p q)] w fun r w' => r = .returned (.tuple #[.int .u64 0, .int .i64 7]) ∧ On w w') := Lib.hid (fun w => read_no c e p q a1 0 h0 w)
            have K1 : Hid (∀ w, Calls Try.prog 14 #[.agg (cV c), .int .i64 a1, .int .i64 1, .agg (eV e p q)] w fun r w' => r = .returned (.tuple #[.int .u64 (u (rv c e a1)), .int .i64 0]) ∧ On w w') := Lib.hid (fun w => read_yes c e p q a1 1 h1 w)
            have K3 : Hid (∀ w, Calls Try.prog 14 #[.agg (cV c), .int .i64 a1, .int .i64 3, .agg (eV e p q)] w fun r w' => r = .returned (.tuple #[.int .u64 (u (rv c e a1)), .int .i64 0]) ∧ On w w') := Lib.hid (fun w => read_yes c e p q a1 3 h3 w)
            have J1 : Hid (∀ w, Calls Try.prog 18 #[.agg (cV c), .int .i64 a1, .int .i64 1, .int .u64 (u v), .agg (eV e p q)] w fun r w' => r = .returned (.tuple #[.agg (cV (wrC c e a1 1 v)), .int .i64 0]) ∧ On w w') := Lib.hid (fun w => by have := write_any c e p q a1 1 v w; rw [g1] at this; exact this)
            have J3 : Hid (∀ w, Calls Try.prog 18 #[.agg (cV c), .int .i64 a1, .int .i64 3, .int .u64 (u v), .agg (eV e p q)] w fun r w' => r = .returned (.tuple #[.agg (cV (wrC c e a1 3 v)), .int .i64 0]) ∧ On w w') := Lib.hid (fun w => by have := write_any c e p q a1 3 v w; rw [g3] at this; exact this)
            clear h0 h1 h3 g1 g3 M1 M3 N1 N3
            generalize rv c e a1 = y at *
            generalize wrC c e a1 1 v = x1 at *
            generalize wrC c e a1 3 v = x3 at *
            have s0 : ∀ wr, On ((w.alloc (.cells (cV c) 25)).alloc (.cells (eV e p q) 27)) wr → wr.heap[w.heap.size]? = some (.cells (cV c) 25 (0, 0)) := fun _ h => h.keep (box1 _ _ _)
            have t0 : ∀ wr, On ((w.alloc (.cells (cV c) 25)).alloc (.cells (eV e p q) 27)) wr → wr.heap[w.heap.size + 1]? = some (.cells (eV e p q) 27 (0, 0)) := fun _ h => h.keep (box2 _ _ _)
            have hb0 := On.refl (((w.alloc (.cells (cV c) 25)).alloc (.cells (eV e p q) 27)))
            have hb1 : ∀ ob : Obj, On (((w.alloc (.cells (cV c) 25)).alloc (.cells (eV e p q) 27))) ((((w.alloc (.cells (cV c) 25)).alloc (.cells (eV e p q) 27))).alloc ob) := fun ob => (On.refl _).alloc ob
            have HB : Hid (On w (((w.alloc (.cells (cV c) 25)).alloc (.cells (eV e p q) 27)))) := Lib.hid (((On.refl w).alloc _).alloc _)
            go_enter Try.func10, Try.ntmps10
            go_wp2_with (first | ((with_reducible apply csr_ld); (case ho => exact rfl); (case hgd => exact rfl); (case hx => exact rfl); (case hg => (first | exact s0 _ (by first | exact hb0 | exact hb1 _) | exact t0 _ (by first | exact hb0 | exact hb1 _) | exact heap_alloc_new _ _))) | ((with_reducible apply env_ld); (case ho => exact rfl); (case hgd => exact rfl); (case hx => exact rfl); (case hg => (first | exact s0 _ (by first | exact hb0 | exact hb1 _) | exact t0 _ (by first | exact hb0 | exact hb1 _) | exact heap_alloc_new _ _))) | ((with_reducible apply csr_new_st); (case ho => exact rfl); (case hgd => exact rfl); (case hx => exact rfl); (case hy => exact rfl)))
            go_at_call 14; refine (K0.out _).mono ?_; rintro _ w1 ⟨rfl, hb'⟩
            have hb := hb'
            replace s0 := fun wr (h : On w1 wr) => s0 wr (hb.trans h)
            replace t0 := fun wr (h : On w1 wr) => t0 wr (hb.trans h)
            replace hb0 := On.refl w1
            replace hb1 : ∀ ob : Obj, On w1 (w1.alloc ob) := fun ob => (On.refl w1).alloc ob
            have HB := Lib.hid (HB.out.trans hb)
            clear hb hb'
            go_wp2_with (first | ((with_reducible apply csr_ld); (case ho => exact rfl); (case hgd => exact rfl); (case hx => exact rfl); (case hg => (first | exact s0 _ (by first | exact hb0 | exact hb1 _) | exact t0 _ (by first | exact hb0 | exact hb1 _) | exact heap_alloc_new _ _))) | ((with_reducible apply env_ld); (case ho => exact rfl); (case hgd => exact rfl); (case hx => exact rfl); (case hg => (first | exact s0 _ (by first | exact hb0 | exact hb1 _) | exact t0 _ (by first | exact hb0 | exact hb1 _) | exact heap_alloc_new _ _))) | ((with_reducible apply csr_new_st); (case ho => exact rfl); (case hgd => exact rfl); (case hx => exact rfl); (case hy => exact rfl)))
            go_at_call 14; refine (K1.out _).mono ?_; rintro _ w2 ⟨rfl, hb'⟩
            have hb := hb'
            replace s0 := fun wr (h : On w2 wr) => s0 wr (hb.trans h)
            replace t0 := fun wr (h : On w2 wr) => t0 wr (hb.trans h)
            replace hb0 := On.refl w2
            replace hb1 : ∀ ob : Obj, On w2 (w2.alloc ob) := fun ob => (On.refl w2).alloc ob
            have HB := Lib.hid (HB.out.trans hb)
            clear hb hb'
            go_wp2_with (first | ((with_reducible apply csr_ld); (case ho => exact rfl); (case hgd => exact rfl); (case hx => exact rfl); (case hg => (first | exact s0 _ (by first | exact hb0 | exact hb1 _) | exact t0 _ (by first | exact hb0 | exact hb1 _) | exact heap_alloc_new _ _))) | ((with_reducible apply env_ld); (case ho => exact rfl); (case hgd => exact rfl); (case hx => exact rfl); (case hg => (first | exact s0 _ (by first | exact hb0 | exact hb1 _) | exact t0 _ (by first | exact hb0 | exact hb1 _) | exact heap_alloc_new _ _))) | ((with_reducible apply csr_new_st); (case ho => exact rfl); (case hgd => exact rfl); (case hx => exact rfl); (case hy => exact rfl)))
            go_at_call 14; refine (K3.out _).mono ?_; rintro _ w3 ⟨rfl, hb'⟩
            have hb := hb'
            replace s0 := fun wr (h : On w3 wr) => s0 wr (hb.trans h)
            replace t0 := fun wr (h : On w3 wr) => t0 wr (hb.trans h)
            replace hb0 := On.refl w3
            replace hb1 : ∀ ob : Obj, On w3 (w3.alloc ob) := fun ob => (On.refl w3).alloc ob
            have HB := Lib.hid (HB.out.trans hb)
            clear hb hb'
            go_wp2_with (first | ((with_reducible apply csr_ld); (case ho => exact rfl); (case hgd => exact rfl); (case hx => exact rfl); (case hg => (first | exact s0 _ (by first | exact hb0 | exact hb1 _) | exact t0 _ (by first | exact hb0 | exact hb1 _) | exact heap_alloc_new _ _))) | ((with_reducible apply env_ld); (case ho => exact rfl); (case hgd => exact rfl); (case hx => exact rfl); (case hg => (first | exact s0 _ (by first | exact hb0 | exact hb1 _) | exact t0 _ (by first | exact hb0 | exact hb1 _) | exact heap_alloc_new _ _))) | ((with_reducible apply csr_new_st); (case ho => exact rfl); (case hgd => exact rfl); (case hx => exact rfl); (case hy => exact rfl)))
            go_at_call 18; refine (J1.out _).mono ?_; rintro _ w4 ⟨rfl, hb'⟩
            have hb := hb'
            replace s0 := fun wr (h : On w4 wr) => s0 wr (hb.trans h)
            replace t0 := fun wr (h : On w4 wr) => t0 wr (hb.trans h)
            replace hb0 := On.refl w4
            replace hb1 : ∀ ob : Obj, On w4 (w4.alloc ob) := fun ob => (On.refl w4).alloc ob
            have HB := Lib.hid (HB.out.trans hb)
            clear hb hb'
            go_wp2_with (first | ((with_reducible apply csr_ld); (case ho => exact rfl); (case hgd => exact rfl); (case hx => exact rfl); (case hg => (first | exact s0 _ (by first | exact hb0 | exact hb1 _) | exact t0 _ (by first | exact hb0 | exact hb1 _) | exact heap_alloc_new _ _))) | ((with_reducible apply env_ld); (case ho => exact rfl); (case hgd => exact rfl); (case hx => exact rfl); (case hg => (first | exact s0 _ (by first | exact hb0 | exact hb1 _) | exact t0 _ (by first | exact hb0 | exact hb1 _) | exact heap_alloc_new _ _))) | ((with_reducible apply csr_new_st); (case ho => exact rfl); (case hgd => exact rfl); (case hx => exact rfl); (case hy => exact rfl)))
            go_at_call 18; refine (J3.out _).mono ?_; rintro _ w5 ⟨rfl, hb'⟩
            have s1 := fun wr (h : On w5 wr) => (hb'.trans h).keep (heap_alloc_new _ _)
            have hb := (hb1 _).trans hb'
            replace s0 := fun wr (h : On w5 wr) => s0 wr (hb.trans h)
            replace t0 := fun wr (h : On w5 wr) => t0 wr (hb.trans h)
            replace hb0 := On.refl w5
            replace hb1 : ∀ ob : Obj, On w5 (w5.alloc ob) := fun ob => (On.refl w5).alloc ob
            have HB := Lib.hid (HB.out.trans hb)
            clear hb hb'
            go_wp2_with (first | ((with_reducible apply csr_ld); (case ho => exact rfl); (case hgd => exact rfl); (case hx => exact rfl); (case hg => (first | exact s0 _ (by first | exact hb0 | exact hb1 _) | exact t0 _ (by first | exact hb0 | exact hb1 _) | exact s1 _ (by first | exact hb0 | exact hb1 _) | exact heap_alloc_new _ _))) | ((with_reducible apply env_ld); (case ho => exact rfl); (case hgd => exact rfl); (case hx => exact rfl); (case hg => (first | exact s0 _ (by first | exact hb0 | exact hb1 _) | exact t0 _ (by first | exact hb0 | exact hb1 _) | exact s1 _ (by first | exact hb0 | exact hb1 _) | exact heap_alloc_new _ _))) | ((with_reducible apply csr_new_st); (case ho => exact rfl); (case hgd => exact rfl); (case hx => exact rfl); (case hy => exact rfl)))
            go_at_call 16; refine (awake7_yes _).mono ?_; rintro _ w6 ⟨rfl, hb'⟩
            have s2 := fun wr (h : On w6 wr) => (hb'.trans h).keep (heap_alloc_new _ _)
            have hb := (hb1 _).trans hb'
            replace s0 := fun wr (h : On w6 wr) => s0 wr (hb.trans h)
            replace t0 := fun wr (h : On w6 wr) => t0 wr (hb.trans h)
            replace s1 := fun wr (h : On w6 wr) => s1 wr (hb.trans h)
            replace hb0 := On.refl w6
            replace hb1 : ∀ ob : Obj, On w6 (w6.alloc ob) := fun ob => (On.refl w6).alloc ob
            have HB := Lib.hid (HB.out.trans hb)
            clear hb hb'
            go_wp2_with (first | ((with_reducible apply csr_ld); (case ho => exact rfl); (case hgd => exact rfl); (case hx => exact rfl); (case hg => (first | exact s0 _ (by first | exact hb0 | exact hb1 _) | exact t0 _ (by first | exact hb0 | exact hb1 _) | exact s1 _ (by first | exact hb0 | exact hb1 _) | exact s2 _ (by first | exact hb0 | exact hb1 _) | exact heap_alloc_new _ _))) | ((with_reducible apply env_ld); (case ho => exact rfl); (case hgd => exact rfl); (case hx => exact rfl); (case hg => (first | exact s0 _ (by first | exact hb0 | exact hb1 _) | exact t0 _ (by first | exact hb0 | exact hb1 _) | exact s1 _ (by first | exact hb0 | exact hb1 _) | exact s2 _ (by first | exact hb0 | exact hb1 _) | exact heap_alloc_new _ _))) | ((with_reducible apply csr_new_st); (case ho => exact rfl); (case hgd => exact rfl); (case hx => exact rfl); (case hy => exact rfl)))
            go_ret
            exact ⟨rfl, HB.out⟩
      · cases g1 : mayB c a1 1 true
        · cases g3 : mayB c a1 3 true
          · have K0 : Hid (∀ w, Calls Try.prog 14 #[.agg (cV c), .int .i64 a1, .int .i64 0, .agg (eV e p q)] w fun r w' => r = .returned (.tuple #[.int .u64 (u (rv c e a1)), .int .i64 0]) ∧ On w w') := Lib.hid (fun w => read_yes c e p q a1 0 h0 w)
            have K1 : Hid (∀ w, Calls Try.prog 14 #[.agg (cV c), .int .i64 a1, .int .i64 1, .agg (eV e p q)] w fun r w' => r = .returned (.tuple #[.int .u64 (u (rv c e a1)), .int .i64 0]) ∧ On w w') := Lib.hid (fun w => read_yes c e p q a1 1 h1 w)
            have K3 : Hid (∀ w, Calls Try.prog 14 #[.agg (cV c), .int .i64 a1, .int .i64 3, .agg (eV e p q)] w fun r w' => r = .returned (.tuple #[.int .u64 (u (rv c e a1)), .int .i64 0]) ∧ On w w') := Lib.hid (fun w => read_yes c e p q a1 3 h3 w)
            have J1 : Hid (∀ w, Calls Try.prog 18 #[.agg (cV c), .int .i64 a1, .int .i64 1, .int .u64 (u v), .agg (eV e p q)] w fun r w' => r = .returned (.tuple #[.agg (cV (wrC c e a1 1 v)), .int .i64 7]) ∧ On w w') := Lib.hid (fun w => by have := write_any c e p q a1 1 v w; rw [g1] at this; exact this)
            have J3 : Hid (∀ w, Calls Try.prog 18 #[.agg (cV c), .int .i64 a1, .int .i64 3, .int .u64 (u v), .agg (eV e p q)] w fun r w' => r = .returned (.tuple #[.agg (cV (wrC c e a1 3 v)), .int .i64 7]) ∧ On w w') := Lib.hid (fun w => by have := write_any c e p q a1 3 v w; rw [g3] at this; exact this)
            clear h0 h1 h3 g1 g3 M1 M3 N1 N3
            generalize rv c e a1 = y at *
            generalize wrC c e a1 1 v = x1 at *
            generalize wrC c e a1 3 v = x3 at *
            have s0 : ∀ wr, On ((w.alloc (.cells (cV c) 25)).alloc (.cells (eV e p q) 27)) wr → wr.heap[w.heap.size]? = some (.cells (cV c) 25 (0, 0)) := fun _ h => h.keep (box1 _ _ _)
            have t0 : ∀ wr, On ((w.alloc (.cells (cV c) 25)).alloc (.cells (eV e p q) 27)) wr → wr.heap[w.heap.size + 1]? = some (.cells (eV e p q) 27 (0, 0)) := fun _ h => h.keep (box2 _ _ _)
            have hb0 := On.refl (((w.alloc (.cells (cV c) 25)).alloc (.cells (eV e p q) 27)))
            have hb1 : ∀ ob : Obj, On (((w.alloc (.cells (cV c) 25)).alloc (.cells (eV e p q) 27))) ((((w.alloc (.cells (cV c) 25)).alloc (.cells (eV e p q) 27))).alloc ob) := fun ob => (On.refl _).alloc ob
            have HB : Hid (On w (((w.alloc (.cells (cV c) 25)).alloc (.cells (eV e p q) 27)))) := Lib.hid (((On.refl w).alloc _).alloc _)
            go_enter Try.func10, Try.ntmps10
            go_wp2_with (first | ((with_reducible apply csr_ld); (case ho => exact rfl); (case hgd => exact rfl); (case hx => exact rfl); (case hg => (first | exact s0 _ (by first | exact hb0 | exact hb1 _) | exact t0 _ (by first | exact hb0 | exact hb1 _) | exact heap_alloc_new _ _))) | ((with_reducible apply env_ld); (case ho => exact rfl); (case hgd => exact rfl); (case hx => exact rfl); (case hg => (first | exact s0 _ (by first | exact hb0 | exact hb1 _) | exact t0 _ (by first | exact hb0 | exact hb1 _) | exact heap_alloc_new _ _))) | ((with_reducible apply csr_new_st); (case ho => exact rfl); (case hgd => exact rfl); (case hx => exact rfl); (case hy => exact rfl)))
            go_at_call 14; refine (K0.out _).mono ?_; rintro _ w1 ⟨rfl, hb'⟩
            have hb := hb'
            replace s0 := fun wr (h : On w1 wr) => s0 wr (hb.trans h)
            replace t0 := fun wr (h : On w1 wr) => t0 wr (hb.trans h)
            replace hb0 := On.refl w1
            replace hb1 : ∀ ob : Obj, On w1 (w1.alloc ob) := fun ob => (On.refl w1).alloc ob
            have HB := Lib.hid (HB.out.trans hb)
            clear hb hb'
            go_wp2_with (first | ((with_reducible apply csr_ld); (case ho => exact rfl); (case hgd => exact rfl); (case hx => exact rfl); (case hg => (first | exact s0 _ (by first | exact hb0 | exact hb1 _) | exact t0 _ (by first | exact hb0 | exact hb1 _) | exact heap_alloc_new _ _))) | ((with_reducible apply env_ld); (case ho => exact rfl); (case hgd => exact rfl); (case hx => exact rfl); (case hg => (first | exact s0 _ (by first | exact hb0 | exact hb1 _) | exact t0 _ (by first | exact hb0 | exact hb1 _) | exact heap_alloc_new _ _))) | ((with_reducible apply csr_new_st); (case ho => exact rfl); (case hgd => exact rfl); (case hx => exact rfl); (case hy => exact rfl)))
            go_at_call 14; refine (K1.out _).mono ?_; rintro _ w2 ⟨rfl, hb'⟩
            have hb := hb'
            replace s0 := fun wr (h : On w2 wr) => s0 wr (hb.trans h)
            replace t0 := fun wr (h : On w2 wr) => t0 wr (hb.trans h)
            replace hb0 := On.refl w2
            replace hb1 : ∀ ob : Obj, On w2 (w2.alloc ob) := fun ob => (On.refl w2).alloc ob
            have HB := Lib.hid (HB.out.trans hb)
            clear hb hb'
            go_wp2_with (first | ((with_reducible apply csr_ld); (case ho => exact rfl); (case hgd => exact rfl); (case hx => exact rfl); (case hg => (first | exact s0 _ (by first | exact hb0 | exact hb1 _) | exact t0 _ (by first | exact hb0 | exact hb1 _) | exact heap_alloc_new _ _))) | ((with_reducible apply env_ld); (case ho => exact rfl); (case hgd => exact rfl); (case hx => exact rfl); (case hg => (first | exact s0 _ (by first | exact hb0 | exact hb1 _) | exact t0 _ (by first | exact hb0 | exact hb1 _) | exact heap_alloc_new _ _))) | ((with_reducible apply csr_new_st); (case ho => exact rfl); (case hgd => exact rfl); (case hx => exact rfl); (case hy => exact rfl)))
            go_at_call 14; refine (K3.out _).mono ?_; rintro _ w3 ⟨rfl, hb'⟩
            have hb := hb'
            replace s0 := fun wr (h : On w3 wr) => s0 wr (hb.trans h)
            replace t0 := fun wr (h : On w3 wr) => t0 wr (hb.trans h)
            replace hb0 := On.refl w3
            replace hb1 : ∀ ob : Obj, On w3 (w3.alloc ob) := fun ob => (On.refl w3).alloc ob
            have HB := Lib.hid (HB.out.trans hb)
            clear hb hb'
            go_wp2_with (first | ((with_reducible apply csr_ld); (case ho => exact rfl); (case hgd => exact rfl); (case hx => exact rfl); (case hg => (first | exact s0 _ (by first | exact hb0 | exact hb1 _) | exact t0 _ (by first | exact hb0 | exact hb1 _) | exact heap_alloc_new _ _))) | ((with_reducible apply env_ld); (case ho => exact rfl); (case hgd => exact rfl); (case hx => exact rfl); (case hg => (first | exact s0 _ (by first | exact hb0 | exact hb1 _) | exact t0 _ (by first | exact hb0 | exact hb1 _) | exact heap_alloc_new _ _))) | ((with_reducible apply csr_new_st); (case ho => exact rfl); (case hgd => exact rfl); (case hx => exact rfl); (case hy => exact rfl)))
            go_at_call 18; refine (J1.out _).mono ?_; rintro _ w4 ⟨rfl, hb'⟩
            have hb := hb'
            replace s0 := fun wr (h : On w4 wr) => s0 wr (hb.trans h)
            replace t0 := fun wr (h : On w4 wr) => t0 wr (hb.trans h)
            replace hb0 := On.refl w4
            replace hb1 : ∀ ob : Obj, On w4 (w4.alloc ob) := fun ob => (On.refl w4).alloc ob
            have HB := Lib.hid (HB.out.trans hb)
            clear hb hb'
            go_wp2_with (first | ((with_reducible apply csr_ld); (case ho => exact rfl); (case hgd => exact rfl); (case hx => exact rfl); (case hg => (first | exact s0 _ (by first | exact hb0 | exact hb1 _) | exact t0 _ (by first | exact hb0 | exact hb1 _) | exact heap_alloc_new _ _))) | ((with_reducible apply env_ld); (case ho => exact rfl); (case hgd => exact rfl); (case hx => exact rfl); (case hg => (first | exact s0 _ (by first | exact hb0 | exact hb1 _) | exact t0 _ (by first | exact hb0 | exact hb1 _) | exact heap_alloc_new _ _))) | ((with_reducible apply csr_new_st); (case ho => exact rfl); (case hgd => exact rfl); (case hx => exact rfl); (case hy => exact rfl)))
            go_at_call 18; refine (J3.out _).mono ?_; rintro _ w5 ⟨rfl, hb'⟩
            have s1 := fun wr (h : On w5 wr) => (hb'.trans h).keep (heap_alloc_new _ _)
            have hb := (hb1 _).trans hb'
            replace s0 := fun wr (h : On w5 wr) => s0 wr (hb.trans h)
            replace t0 := fun wr (h : On w5 wr) => t0 wr (hb.trans h)
            replace hb0 := On.refl w5
            replace hb1 : ∀ ob : Obj, On w5 (w5.alloc ob) := fun ob => (On.refl w5).alloc ob
            have HB := Lib.hid (HB.out.trans hb)
            clear hb hb'
            go_wp2_with (first | ((with_reducible apply csr_ld); (case ho => exact rfl); (case hgd => exact rfl); (case hx => exact rfl); (case hg => (first | exact s0 _ (by first | exact hb0 | exact hb1 _) | exact t0 _ (by first | exact hb0 | exact hb1 _) | exact s1 _ (by first | exact hb0 | exact hb1 _) | exact heap_alloc_new _ _))) | ((with_reducible apply env_ld); (case ho => exact rfl); (case hgd => exact rfl); (case hx => exact rfl); (case hg => (first | exact s0 _ (by first | exact hb0 | exact hb1 _) | exact t0 _ (by first | exact hb0 | exact hb1 _) | exact s1 _ (by first | exact hb0 | exact hb1 _) | exact heap_alloc_new _ _))) | ((with_reducible apply csr_new_st); (case ho => exact rfl); (case hgd => exact rfl); (case hx => exact rfl); (case hy => exact rfl)))
            go_at_call 16; refine (awake7_yes _).mono ?_; rintro _ w6 ⟨rfl, hb'⟩
            have s2 := fun wr (h : On w6 wr) => (hb'.trans h).keep (heap_alloc_new _ _)
            have hb := (hb1 _).trans hb'
            replace s0 := fun wr (h : On w6 wr) => s0 wr (hb.trans h)
            replace t0 := fun wr (h : On w6 wr) => t0 wr (hb.trans h)
            replace s1 := fun wr (h : On w6 wr) => s1 wr (hb.trans h)
            replace hb0 := On.refl w6
            replace hb1 : ∀ ob : Obj, On w6 (w6.alloc ob) := fun ob => (On.refl w6).alloc ob
            have HB := Lib.hid (HB.out.trans hb)
            clear hb hb'
            go_wp2_with (first | ((with_reducible apply csr_ld); (case ho => exact rfl); (case hgd => exact rfl); (case hx => exact rfl); (case hg => (first | exact s0 _ (by first | exact hb0 | exact hb1 _) | exact t0 _ (by first | exact hb0 | exact hb1 _) | exact s1 _ (by first | exact hb0 | exact hb1 _) | exact s2 _ (by first | exact hb0 | exact hb1 _) | exact heap_alloc_new _ _))) | ((with_reducible apply env_ld); (case ho => exact rfl); (case hgd => exact rfl); (case hx => exact rfl); (case hg => (first | exact s0 _ (by first | exact hb0 | exact hb1 _) | exact t0 _ (by first | exact hb0 | exact hb1 _) | exact s1 _ (by first | exact hb0 | exact hb1 _) | exact s2 _ (by first | exact hb0 | exact hb1 _) | exact heap_alloc_new _ _))) | ((with_reducible apply csr_new_st); (case ho => exact rfl); (case hgd => exact rfl); (case hx => exact rfl); (case hy => exact rfl)))
            go_ret
            exact ⟨rfl, HB.out⟩
          · have K0 : Hid (∀ w, Calls Try.prog 14 #[.agg (cV c), .int .i64 a1, .int .i64 0, .agg (eV e p q)] w fun r w' => r = .returned (.tuple #[.int .u64 (u (rv c e a1)), .int .i64 0]) ∧ On w w') := Lib.hid (fun w => read_yes c e p q a1 0 h0 w)
            have K1 : Hid (∀ w, Calls Try.prog 14 #[.agg (cV c), .int .i64 a1, .int .i64 1, .agg (eV e p q)] w fun r w' => r = .returned (.tuple #[.int .u64 (u (rv c e a1)), .int .i64 0]) ∧ On w w') := Lib.hid (fun w => read_yes c e p q a1 1 h1 w)
            have K3 : Hid (∀ w, Calls Try.prog 14 #[.agg (cV c), .int .i64 a1, .int .i64 3, .agg (eV e p q)] w fun r w' => r = .returned (.tuple #[.int .u64 (u (rv c e a1)), .int .i64 0]) ∧ On w w') := Lib.hid (fun w => read_yes c e p q a1 3 h3 w)
            have J1 : Hid (∀ w, Calls Try.prog 18 #[.agg (cV c), .int .i64 a1, .int .i64 1, .int .u64 (u v), .agg (eV e p q)] w fun r w' => r = .returned (.tuple #[.agg (cV (wrC c e a1 1 v)), .int .i64 7]) ∧ On w w') := Lib.hid (fun w => by have := write_any c e p q a1 1 v w; rw [g1] at this; exact this)
            have J3 : Hid (∀ w, Calls Try.prog 18 #[.agg (cV c), .int .i64 a1, .int .i64 3, .int .u64 (u v), .agg (eV e p q)] w fun r w' => r = .returned (.tuple #[.agg (cV (wrC c e a1 3 v)), .int .i64 0]) ∧ On w w') := Lib.hid (fun w => by have := write_any c e p q a1 3 v w; rw [g3] at this; exact this)
            clear h0 h1 h3 g1 g3 M1 M3 N1 N3
            generalize rv c e a1 = y at *
            generalize wrC c e a1 1 v = x1 at *
            generalize wrC c e a1 3 v = x3 at *
            have s0 : ∀ wr, On ((w.alloc (.cells (cV c) 25)).alloc (.cells (eV e p q) 27)) wr → wr.heap[w.heap.size]? = some (.cells (cV c) 25 (0, 0)) := fun _ h => h.keep (box1 _ _ _)
            have t0 : ∀ wr, On ((w.alloc (.cells (cV c) 25)).alloc (.cells (eV e p q) 27)) wr → wr.heap[w.heap.size + 1]? = some (.cells (eV e p q) 27 (0, 0)) := fun _ h => h.keep (box2 _ _ _)
            have hb0 := On.refl (((w.alloc (.cells (cV c) 25)).alloc (.cells (eV e p q) 27)))
            have hb1 : ∀ ob : Obj, On (((w.alloc (.cells (cV c) 25)).alloc (.cells (eV e p q) 27))) ((((w.alloc (.cells (cV c) 25)).alloc (.cells (eV e p q) 27))).alloc ob) := fun ob => (On.refl _).alloc ob
            have HB : Hid (On w (((w.alloc (.cells (cV c) 25)).alloc (.cells (eV e p q) 27)))) := Lib.hid (((On.refl w).alloc _).alloc _)
            go_enter Try.func10, Try.ntmps10
            go_wp2_with (first | ((with_reducible apply csr_ld); (case ho => exact rfl); (case hgd => exact rfl); (case hx => exact rfl); (case hg => (first | exact s0 _ (by first | exact hb0 | exact hb1 _) | exact t0 _ (by first | exact hb0 | exact hb1 _) | exact heap_alloc_new _ _))) | ((with_reducible apply env_ld); (case ho => exact rfl); (case hgd => exact rfl); (case hx => exact rfl); (case hg => (first | exact s0 _ (by first | exact hb0 | exact hb1 _) | exact t0 _ (by first | exact hb0 | exact hb1 _) | exact heap_alloc_new _ _))) | ((with_reducible apply csr_new_st); (case ho => exact rfl); (case hgd => exact rfl); (case hx => exact rfl); (case hy => exact rfl)))
            go_at_call 14; refine (K0.out _).mono ?_; rintro _ w1 ⟨rfl, hb'⟩
            have hb := hb'
            replace s0 := fun wr (h : On w1 wr) => s0 wr (hb.trans h)
            replace t0 := fun wr (h : On w1 wr) => t0 wr (hb.trans h)
            replace hb0 := On.refl w1
            replace hb1 : ∀ ob : Obj, On w1 (w1.alloc ob) := fun ob => (On.refl w1).alloc ob
            have HB := Lib.hid (HB.out.trans hb)
            clear hb hb'
            go_wp2_with (first | ((with_reducible apply csr_ld); (case ho => exact rfl); (case hgd => exact rfl); (case hx => exact rfl); (case hg => (first | exact s0 _ (by first | exact hb0 | exact hb1 _) | exact t0 _ (by first | exact hb0 | exact hb1 _) | exact heap_alloc_new _ _))) | ((with_reducible apply env_ld); (case ho => exact rfl); (case hgd => exact rfl); (case hx => exact rfl); (case hg => (first | exact s0 _ (by first | exact hb0 | exact hb1 _) | exact t0 _ (by first | exact hb0 | exact hb1 _) | exact heap_alloc_new _ _))) | ((with_reducible apply csr_new_st); (case ho => exact rfl); (case hgd => exact rfl); (case hx => exact rfl); (case hy => exact rfl)))
            go_at_call 14; refine (K1.out _).mono ?_; rintro _ w2 ⟨rfl, hb'⟩
            have hb := hb'
            replace s0 := fun wr (h : On w2 wr) => s0 wr (hb.trans h)
            replace t0 := fun wr (h : On w2 wr) => t0 wr (hb.trans h)
            replace hb0 := On.refl w2
            replace hb1 : ∀ ob : Obj, On w2 (w2.alloc ob) := fun ob => (On.refl w2).alloc ob
            have HB := Lib.hid (HB.out.trans hb)
            clear hb hb'
            go_wp2_with (first | ((with_reducible apply csr_ld); (case ho => exact rfl); (case hgd => exact rfl); (case hx => exact rfl); (case hg => (first | exact s0 _ (by first | exact hb0 | exact hb1 _) | exact t0 _ (by first | exact hb0 | exact hb1 _) | exact heap_alloc_new _ _))) | ((with_reducible apply env_ld); (case ho => exact rfl); (case hgd => exact rfl); (case hx => exact rfl); (case hg => (first | exact s0 _ (by first | exact hb0 | exact hb1 _) | exact t0 _ (by first | exact hb0 | exact hb1 _) | exact heap_alloc_new _ _))) | ((with_reducible apply csr_new_st); (case ho => exact rfl); (case hgd => exact rfl); (case hx => exact rfl); (case hy => exact rfl)))
            go_at_call 14; refine (K3.out _).mono ?_; rintro _ w3 ⟨rfl, hb'⟩
            have hb := hb'
            replace s0 := fun wr (h : On w3 wr) => s0 wr (hb.trans h)
            replace t0 := fun wr (h : On w3 wr) => t0 wr (hb.trans h)
            replace hb0 := On.refl w3
            replace hb1 : ∀ ob : Obj, On w3 (w3.alloc ob) := fun ob => (On.refl w3).alloc ob
            have HB := Lib.hid (HB.out.trans hb)
            clear hb hb'
            go_wp2_with (first | ((with_reducible apply csr_ld); (case ho => exact rfl); (case hgd => exact rfl); (case hx => exact rfl); (case hg => (first | exact s0 _ (by first | exact hb0 | exact hb1 _) | exact t0 _ (by first | exact hb0 | exact hb1 _) | exact heap_alloc_new _ _))) | ((with_reducible apply env_ld); (case ho => exact rfl); (case hgd => exact rfl); (case hx => exact rfl); (case hg => (first | exact s0 _ (by first | exact hb0 | exact hb1 _) | exact t0 _ (by first | exact hb0 | exact hb1 _) | exact heap_alloc_new _ _))) | ((with_reducible apply csr_new_st); (case ho => exact rfl); (case hgd => exact rfl); (case hx => exact rfl); (case hy => exact rfl)))
            go_at_call 18; refine (J1.out _).mono ?_; rintro _ w4 ⟨rfl, hb'⟩
            have hb := hb'
            replace s0 := fun wr (h : On w4 wr) => s0 wr (hb.trans h)
            replace t0 := fun wr (h : On w4 wr) => t0 wr (hb.trans h)
            replace hb0 := On.refl w4
            replace hb1 : ∀ ob : Obj, On w4 (w4.alloc ob) := fun ob => (On.refl w4).alloc ob
            have HB := Lib.hid (HB.out.trans hb)
            clear hb hb'
            go_wp2_with (first | ((with_reducible apply csr_ld); (case ho => exact rfl); (case hgd => exact rfl); (case hx => exact rfl); (case hg => (first | exact s0 _ (by first | exact hb0 | exact hb1 _) | exact t0 _ (by first | exact hb0 | exact hb1 _) | exact heap_alloc_new _ _))) | ((with_reducible apply env_ld); (case ho => exact rfl); (case hgd => exact rfl); (case hx => exact rfl); (case hg => (first | exact s0 _ (by first | exact hb0 | exact hb1 _) | exact t0 _ (by first | exact hb0 | exact hb1 _) | exact heap_alloc_new _ _))) | ((with_reducible apply csr_new_st); (case ho => exact rfl); (case hgd => exact rfl); (case hx => exact rfl); (case hy => exact rfl)))
            go_at_call 18; refine (J3.out _).mono ?_; rintro _ w5 ⟨rfl, hb'⟩
            have s1 := fun wr (h : On w5 wr) => (hb'.trans h).keep (heap_alloc_new _ _)
            have hb := (hb1 _).trans hb'
            replace s0 := fun wr (h : On w5 wr) => s0 wr (hb.trans h)
            replace t0 := fun wr (h : On w5 wr) => t0 wr (hb.trans h)
            replace hb0 := On.refl w5
            replace hb1 : ∀ ob : Obj, On w5 (w5.alloc ob) := fun ob => (On.refl w5).alloc ob
            have HB := Lib.hid (HB.out.trans hb)
            clear hb hb'
            go_wp2_with (first | ((with_reducible apply csr_ld); (case ho => exact rfl); (case hgd => exact rfl); (case hx => exact rfl); (case hg => (first | exact s0 _ (by first | exact hb0 | exact hb1 _) | exact t0 _ (by first | exact hb0 | exact hb1 _) | exact s1 _ (by first | exact hb0 | exact hb1 _) | exact heap_alloc_new _ _))) | ((with_reducible apply env_ld); (case ho => exact rfl); (case hgd => exact rfl); (case hx => exact rfl); (case hg => (first | exact s0 _ (by first | exact hb0 | exact hb1 _) | exact t0 _ (by first | exact hb0 | exact hb1 _) | exact s1 _ (by first | exact hb0 | exact hb1 _) | exact heap_alloc_new _ _))) | ((with_reducible apply csr_new_st); (case ho => exact rfl); (case hgd => exact rfl); (case hx => exact rfl); (case hy => exact rfl)))
            go_at_call 16; refine (awake7_yes _).mono ?_; rintro _ w6 ⟨rfl, hb'⟩
            have s2 := fun wr (h : On w6 wr) => (hb'.trans h).keep (heap_alloc_new _ _)
            have hb := (hb1 _).trans hb'
            replace s0 := fun wr (h : On w6 wr) => s0 wr (hb.trans h)
            replace t0 := fun wr (h : On w6 wr) => t0 wr (hb.trans h)
            replace s1 := fun wr (h : On w6 wr) => s1 wr (hb.trans h)
            replace hb0 := On.refl w6
            replace hb1 : ∀ ob : Obj, On w6 (w6.alloc ob) := fun ob => (On.refl w6).alloc ob
            have HB := Lib.hid (HB.out.trans hb)
            clear hb hb'
            go_wp2_with (first | ((with_reducible apply csr_ld); (case ho => exact rfl); (case hgd => exact rfl); (case hx => exact rfl); (case hg => (first | exact s0 _ (by first | exact hb0 | exact hb1 _) | exact t0 _ (by first | exact hb0 | exact hb1 _) | exact s1 _ (by first | exact hb0 | exact hb1 _) | exact s2 _ (by first | exact hb0 | exact hb1 _) | exact heap_alloc_new _ _))) | ((with_reducible apply env_ld); (case ho => exact rfl); (case hgd => exact rfl); (case hx => exact rfl); (case hg => (first | exact s0 _ (by first | exact hb0 | exact hb1 _) | exact t0 _ (by first | exact hb0 | exact hb1 _) | exact s1 _ (by first | exact hb0 | exact hb1 _) | exact s2 _ (by first | exact hb0 | exact hb1 _) | exact heap_alloc_new _ _))) | ((with_reducible apply csr_new_st); (case ho => exact rfl); (case hgd => exact rfl); (case hx => exact rfl); (case hy => exact rfl)))
            go_ret
            exact ⟨rfl, HB.out⟩
        · cases g3 : mayB c a1 3 true
          · have K0 : Hid (∀ w, Calls Try.prog 14 #[.agg (cV c), .int .i64 a1, .int .i64 0, .agg (eV e p q)] w fun r w' => r = .returned (.tuple #[.int .u64 (u (rv c e a1)), .int .i64 0]) ∧ On w w') := Lib.hid (fun w => read_yes c e p q a1 0 h0 w)
            have K1 : Hid (∀ w, Calls Try.prog 14 #[.agg (cV c), .int .i64 a1, .int .i64 1, .agg (eV e p q)] w fun r w' => r = .returned (.tuple #[.int .u64 (u (rv c e a1)), .int .i64 0]) ∧ On w w') := Lib.hid (fun w => read_yes c e p q a1 1 h1 w)
            have K3 : Hid (∀ w, Calls Try.prog 14 #[.agg (cV c), .int .i64 a1, .int .i64 3, .agg (eV e p q)] w fun r w' => r = .returned (.tuple #[.int .u64 (u (rv c e a1)), .int .i64 0]) ∧ On w w') := Lib.hid (fun w => read_yes c e p q a1 3 h3 w)
            have J1 : Hid (∀ w, Calls Try.prog 18 #[.agg (cV c), .int .i64 a1, .int .i64 1, .int .u64 (u v), .agg (eV e p q)] w fun r w' => r = .returned (.tuple #[.agg (cV (wrC c e a1 1 v)), .int .i64 0]) ∧ On w w') := Lib.hid (fun w => by have := write_any c e p q a1 1 v w; rw [g1] at this; exact this)
            have J3 : Hid (∀ w, Calls Try.prog 18 #[.agg (cV c), .int .i64 a1, .int .i64 3, .int .u64 (u v), .agg (eV e p q)] w fun r w' => r = .returned (.tuple #[.agg (cV (wrC c e a1 3 v)), .int .i64 7]) ∧ On w w') := Lib.hid (fun w => by have := write_any c e p q a1 3 v w; rw [g3] at this; exact this)
            clear h0 h1 h3 g1 g3 M1 M3 N1 N3
            generalize rv c e a1 = y at *
            generalize wrC c e a1 1 v = x1 at *
            generalize wrC c e a1 3 v = x3 at *
            have s0 : ∀ wr, On ((w.alloc (.cells (cV c) 25)).alloc (.cells (eV e p q) 27)) wr → wr.heap[w.heap.size]? = some (.cells (cV c) 25 (0, 0)) := fun _ h => h.keep (box1 _ _ _)
            have t0 : ∀ wr, On ((w.alloc (.cells (cV c) 25)).alloc (.cells (eV e p q) 27)) wr → wr.heap[w.heap.size + 1]? = some (.cells (eV e p q) 27 (0, 0)) := fun _ h => h.keep (box2 _ _ _)
            have hb0 := On.refl (((w.alloc (.cells (cV c) 25)).alloc (.cells (eV e p q) 27)))
            have hb1 : ∀ ob : Obj, On (((w.alloc (.cells (cV c) 25)).alloc (.cells (eV e p q) 27))) ((((w.alloc (.cells (cV c) 25)).alloc (.cells (eV e p q) 27))).alloc ob) := fun ob => (On.refl _).alloc ob
            have HB : Hid (On w (((w.alloc (.cells (cV c) 25)).alloc (.cells (eV e p q) 27)))) := Lib.hid (((On.refl w).alloc _).alloc _)
            go_enter Try.func10, Try.ntmps10
            go_wp2_with (first | ((with_reducible apply csr_ld); (case ho => exact rfl); (case hgd => exact rfl); (case hx => exact rfl); (case hg => (first | exact s0 _ (by first | exact hb0 | exact hb1 _) | exact t0 _ (by first | exact hb0 | exact hb1 _) | exact heap_alloc_new _ _))) | ((with_reducible apply env_ld); (case ho => exact rfl); (case hgd => exact rfl); (case hx => exact rfl); (case hg => (first | exact s0 _ (by first | exact hb0 | exact hb1 _) | exact t0 _ (by first | exact hb0 | exact hb1 _) | exact heap_alloc_new _ _))) | ((with_reducible apply csr_new_st); (case ho => exact rfl); (case hgd => exact rfl); (case hx => exact rfl); (case hy => exact rfl)))
            go_at_call 14; refine (K0.out _).mono ?_; rintro _ w1 ⟨rfl, hb'⟩
            have hb := hb'
            replace s0 := fun wr (h : On w1 wr) => s0 wr (hb.trans h)
            replace t0 := fun wr (h : On w1 wr) => t0 wr (hb.trans h)
            replace hb0 := On.refl w1
            replace hb1 : ∀ ob : Obj, On w1 (w1.alloc ob) := fun ob => (On.refl w1).alloc ob
            have HB := Lib.hid (HB.out.trans hb)
            clear hb hb'
            go_wp2_with (first | ((with_reducible apply csr_ld); (case ho => exact rfl); (case hgd => exact rfl); (case hx => exact rfl); (case hg => (first | exact s0 _ (by first | exact hb0 | exact hb1 _) | exact t0 _ (by first | exact hb0 | exact hb1 _) | exact heap_alloc_new _ _))) | ((with_reducible apply env_ld); (case ho => exact rfl); (case hgd => exact rfl); (case hx => exact rfl); (case hg => (first | exact s0 _ (by first | exact hb0 | exact hb1 _) | exact t0 _ (by first | exact hb0 | exact hb1 _) | exact heap_alloc_new _ _))) | ((with_reducible apply csr_new_st); (case ho => exact rfl); (case hgd => exact rfl); (case hx => exact rfl); (case hy => exact rfl)))
            go_at_call 14; refine (K1.out _).mono ?_; rintro _ w2 ⟨rfl, hb'⟩
            have hb := hb'
            replace s0 := fun wr (h : On w2 wr) => s0 wr (hb.trans h)
            replace t0 := fun wr (h : On w2 wr) => t0 wr (hb.trans h)
            replace hb0 := On.refl w2
            replace hb1 : ∀ ob : Obj, On w2 (w2.alloc ob) := fun ob => (On.refl w2).alloc ob
            have HB := Lib.hid (HB.out.trans hb)
            clear hb hb'
            go_wp2_with (first | ((with_reducible apply csr_ld); (case ho => exact rfl); (case hgd => exact rfl); (case hx => exact rfl); (case hg => (first | exact s0 _ (by first | exact hb0 | exact hb1 _) | exact t0 _ (by first | exact hb0 | exact hb1 _) | exact heap_alloc_new _ _))) | ((with_reducible apply env_ld); (case ho => exact rfl); (case hgd => exact rfl); (case hx => exact rfl); (case hg => (first | exact s0 _ (by first | exact hb0 | exact hb1 _) | exact t0 _ (by first | exact hb0 | exact hb1 _) | exact heap_alloc_new _ _))) | ((with_reducible apply csr_new_st); (case ho => exact rfl); (case hgd => exact rfl); (case hx => exact rfl); (case hy => exact rfl)))
            go_at_call 14; refine (K3.out _).mono ?_; rintro _ w3 ⟨rfl, hb'⟩
            have hb := hb'
            replace s0 := fun wr (h : On w3 wr) => s0 wr (hb.trans h)
            replace t0 := fun wr (h : On w3 wr) => t0 wr (hb.trans h)
            replace hb0 := On.refl w3
            replace hb1 : ∀ ob : Obj, On w3 (w3.alloc ob) := fun ob => (On.refl w3).alloc ob
            have HB := Lib.hid (HB.out.trans hb)
            clear hb hb'
            go_wp2_with (first | ((with_reducible apply csr_ld); (case ho => exact rfl); (case hgd => exact rfl); (case hx => exact rfl); (case hg => (first | exact s0 _ (by first | exact hb0 | exact hb1 _) | exact t0 _ (by first | exact hb0 | exact hb1 _) | exact heap_alloc_new _ _))) | ((with_reducible apply env_ld); (case ho => exact rfl); (case hgd => exact rfl); (case hx => exact rfl); (case hg => (first | exact s0 _ (by first | exact hb0 | exact hb1 _) | exact t0 _ (by first | exact hb0 | exact hb1 _) | exact heap_alloc_new _ _))) | ((with_reducible apply csr_new_st); (case ho => exact rfl); (case hgd => exact rfl); (case hx => exact rfl); (case hy => exact rfl)))
            go_at_call 18; refine (J1.out _).mono ?_; rintro _ w4 ⟨rfl, hb'⟩
            have hb := hb'
            replace s0 := fun wr (h : On w4 wr) => s0 wr (hb.trans h)
            replace t0 := fun wr (h : On w4 wr) => t0 wr (hb.trans h)
            replace hb0 := On.refl w4
            replace hb1 : ∀ ob : Obj, On w4 (w4.alloc ob) := fun ob => (On.refl w4).alloc ob
            have HB := Lib.hid (HB.out.trans hb)
            clear hb hb'
            go_wp2_with (first | ((with_reducible apply csr_ld); (case ho => exact rfl); (case hgd => exact rfl); (case hx => exact rfl); (case hg => (first | exact s0 _ (by first | exact hb0 | exact hb1 _) | exact t0 _ (by first | exact hb0 | exact hb1 _) | exact heap_alloc_new _ _))) | ((with_reducible apply env_ld); (case ho => exact rfl); (case hgd => exact rfl); (case hx => exact rfl); (case hg => (first | exact s0 _ (by first | exact hb0 | exact hb1 _) | exact t0 _ (by first | exact hb0 | exact hb1 _) | exact heap_alloc_new _ _))) | ((with_reducible apply csr_new_st); (case ho => exact rfl); (case hgd => exact rfl); (case hx => exact rfl); (case hy => exact rfl)))
            go_at_call 18; refine (J3.out _).mono ?_; rintro _ w5 ⟨rfl, hb'⟩
            have s1 := fun wr (h : On w5 wr) => (hb'.trans h).keep (heap_alloc_new _ _)
            have hb := (hb1 _).trans hb'
            replace s0 := fun wr (h : On w5 wr) => s0 wr (hb.trans h)
            replace t0 := fun wr (h : On w5 wr) => t0 wr (hb.trans h)
            replace hb0 := On.refl w5
            replace hb1 : ∀ ob : Obj, On w5 (w5.alloc ob) := fun ob => (On.refl w5).alloc ob
            have HB := Lib.hid (HB.out.trans hb)
            clear hb hb'
            go_wp2_with (first | ((with_reducible apply csr_ld); (case ho => exact rfl); (case hgd => exact rfl); (case hx => exact rfl); (case hg => (first | exact s0 _ (by first | exact hb0 | exact hb1 _) | exact t0 _ (by first | exact hb0 | exact hb1 _) | exact s1 _ (by first | exact hb0 | exact hb1 _) | exact heap_alloc_new _ _))) | ((with_reducible apply env_ld); (case ho => exact rfl); (case hgd => exact rfl); (case hx => exact rfl); (case hg => (first | exact s0 _ (by first | exact hb0 | exact hb1 _) | exact t0 _ (by first | exact hb0 | exact hb1 _) | exact s1 _ (by first | exact hb0 | exact hb1 _) | exact heap_alloc_new _ _))) | ((with_reducible apply csr_new_st); (case ho => exact rfl); (case hgd => exact rfl); (case hx => exact rfl); (case hy => exact rfl)))
            go_at_call 16; refine (awake7_yes _).mono ?_; rintro _ w6 ⟨rfl, hb'⟩
            have s2 := fun wr (h : On w6 wr) => (hb'.trans h).keep (heap_alloc_new _ _)
            have hb := (hb1 _).trans hb'
            replace s0 := fun wr (h : On w6 wr) => s0 wr (hb.trans h)
            replace t0 := fun wr (h : On w6 wr) => t0 wr (hb.trans h)
            replace s1 := fun wr (h : On w6 wr) => s1 wr (hb.trans h)
            replace hb0 := On.refl w6
            replace hb1 : ∀ ob : Obj, On w6 (w6.alloc ob) := fun ob => (On.refl w6).alloc ob
            have HB := Lib.hid (HB.out.trans hb)
            clear hb hb'
            go_wp2_with (first | ((with_reducible apply csr_ld); (case ho => exact rfl); (case hgd => exact rfl); (case hx => exact rfl); (case hg => (first | exact s0 _ (by first | exact hb0 | exact hb1 _) | exact t0 _ (by first | exact hb0 | exact hb1 _) | exact s1 _ (by first | exact hb0 | exact hb1 _) | exact s2 _ (by first | exact hb0 | exact hb1 _) | exact heap_alloc_new _ _))) | ((with_reducible apply env_ld); (case ho => exact rfl); (case hgd => exact rfl); (case hx => exact rfl); (case hg => (first | exact s0 _ (by first | exact hb0 | exact hb1 _) | exact t0 _ (by first | exact hb0 | exact hb1 _) | exact s1 _ (by first | exact hb0 | exact hb1 _) | exact s2 _ (by first | exact hb0 | exact hb1 _) | exact heap_alloc_new _ _))) | ((with_reducible apply csr_new_st); (case ho => exact rfl); (case hgd => exact rfl); (case hx => exact rfl); (case hy => exact rfl)))
            go_ret
            exact ⟨rfl, HB.out⟩
          · have K0 : Hid (∀ w, Calls Try.prog 14 #[.agg (cV c), .int .i64 a1, .int .i64 0, .agg (eV e p q)] w fun r w' => r = .returned (.tuple #[.int .u64 (u (rv c e a1)), .int .i64 0]) ∧ On w w') := Lib.hid (fun w => read_yes c e p q a1 0 h0 w)
            have K1 : Hid (∀ w, Calls Try.prog 14 #[.agg (cV c), .int .i64 a1, .int .i64 1, .agg (eV e p q)] w fun r w' => r = .returned (.tuple #[.int .u64 (u (rv c e a1)), .int .i64 0]) ∧ On w w') := Lib.hid (fun w => read_yes c e p q a1 1 h1 w)
            have K3 : Hid (∀ w, Calls Try.prog 14 #[.agg (cV c), .int .i64 a1, .int .i64 3, .agg (eV e p q)] w fun r w' => r = .returned (.tuple #[.int .u64 (u (rv c e a1)), .int .i64 0]) ∧ On w w') := Lib.hid (fun w => read_yes c e p q a1 3 h3 w)
            have J1 : Hid (∀ w, Calls Try.prog 18 #[.agg (cV c), .int .i64 a1, .int .i64 1, .int .u64 (u v), .agg (eV e p q)] w fun r w' => r = .returned (.tuple #[.agg (cV (wrC c e a1 1 v)), .int .i64 0]) ∧ On w w') := Lib.hid (fun w => by have := write_any c e p q a1 1 v w; rw [g1] at this; exact this)
            have J3 : Hid (∀ w, Calls Try.prog 18 #[.agg (cV c), .int .i64 a1, .int .i64 3, .int .u64 (u v), .agg (eV e p q)] w fun r w' => r = .returned (.tuple #[.agg (cV (wrC c e a1 3 v)), .int .i64 0]) ∧ On w w') := Lib.hid (fun w => by have := write_any c e p q a1 3 v w; rw [g3] at this; exact this)
            clear h0 h1 h3 g1 g3 M1 M3 N1 N3
            generalize rv c e a1 = y at *
            generalize wrC c e a1 1 v = x1 at *
            generalize wrC c e a1 3 v = x3 at *
            have s0 : ∀ wr, On ((w.alloc (.cells (cV c) 25)).alloc (.cells (eV e p q) 27)) wr → wr.heap[w.heap.size]? = some (.cells (cV c) 25 (0, 0)) := fun _ h => h.keep (box1 _ _ _)
            have t0 : ∀ wr, On ((w.alloc (.cells (cV c) 25)).alloc (.cells (eV e p q) 27)) wr → wr.heap[w.heap.size + 1]? = some (.cells (eV e p q) 27 (0, 0)) := fun _ h => h.keep (box2 _ _ _)
            have hb0 := On.refl (((w.alloc (.cells (cV c) 25)).alloc (.cells (eV e p q) 27)))
            have hb1 : ∀ ob : Obj, On (((w.alloc (.cells (cV c) 25)).alloc (.cells (eV e p q) 27))) ((((w.alloc (.cells (cV c) 25)).alloc (.cells (eV e p q) 27))).alloc ob) := fun ob => (On.refl _).alloc ob
            have HB : Hid (On w (((w.alloc (.cells (cV c) 25)).alloc (.cells (eV e p q) 27)))) := Lib.hid (((On.refl w).alloc _).alloc _)
            go_enter Try.func10, Try.ntmps10
            go_wp2_with (first | ((with_reducible apply csr_ld); (case ho => exact rfl); (case hgd => exact rfl); (case hx => exact rfl); (case hg => (first | exact s0 _ (by first | exact hb0 | exact hb1 _) | exact t0 _ (by first | exact hb0 | exact hb1 _) | exact heap_alloc_new _ _))) | ((with_reducible apply env_ld); (case ho => exact rfl); (case hgd => exact rfl); (case hx => exact rfl); (case hg => (first | exact s0 _ (by first | exact hb0 | exact hb1 _) | exact t0 _ (by first | exact hb0 | exact hb1 _) | exact heap_alloc_new _ _))) | ((with_reducible apply csr_new_st); (case ho => exact rfl); (case hgd => exact rfl); (case hx => exact rfl); (case hy => exact rfl)))
            go_at_call 14; refine (K0.out _).mono ?_; rintro _ w1 ⟨rfl, hb'⟩
            have hb := hb'
            replace s0 := fun wr (h : On w1 wr) => s0 wr (hb.trans h)
            replace t0 := fun wr (h : On w1 wr) => t0 wr (hb.trans h)
            replace hb0 := On.refl w1
            replace hb1 : ∀ ob : Obj, On w1 (w1.alloc ob) := fun ob => (On.refl w1).alloc ob
            have HB := Lib.hid (HB.out.trans hb)
            clear hb hb'
            go_wp2_with (first | ((with_reducible apply csr_ld); (case ho => exact rfl); (case hgd => exact rfl); (case hx => exact rfl); (case hg => (first | exact s0 _ (by first | exact hb0 | exact hb1 _) | exact t0 _ (by first | exact hb0 | exact hb1 _) | exact heap_alloc_new _ _))) | ((with_reducible apply env_ld); (case ho => exact rfl); (case hgd => exact rfl); (case hx => exact rfl); (case hg => (first | exact s0 _ (by first | exact hb0 | exact hb1 _) | exact t0 _ (by first | exact hb0 | exact hb1 _) | exact heap_alloc_new _ _))) | ((with_reducible apply csr_new_st); (case ho => exact rfl); (case hgd => exact rfl); (case hx => exact rfl); (case hy => exact rfl)))
            go_at_call 14; refine (K1.out _).mono ?_; rintro _ w2 ⟨rfl, hb'⟩
            have hb := hb'
            replace s0 := fun wr (h : On w2 wr) => s0 wr (hb.trans h)
            replace t0 := fun wr (h : On w2 wr) => t0 wr (hb.trans h)
            replace hb0 := On.refl w2
            replace hb1 : ∀ ob : Obj, On w2 (w2.alloc ob) := fun ob => (On.refl w2).alloc ob
            have HB := Lib.hid (HB.out.trans hb)
            clear hb hb'
            go_wp2_with (first | ((with_reducible apply csr_ld); (case ho => exact rfl); (case hgd => exact rfl); (case hx => exact rfl); (case hg => (first | exact s0 _ (by first | exact hb0 | exact hb1 _) | exact t0 _ (by first | exact hb0 | exact hb1 _) | exact heap_alloc_new _ _))) | ((with_reducible apply env_ld); (case ho => exact rfl); (case hgd => exact rfl); (case hx => exact rfl); (case hg => (first | exact s0 _ (by first | exact hb0 | exact hb1 _) | exact t0 _ (by first | exact hb0 | exact hb1 _) | exact heap_alloc_new _ _))) | ((with_reducible apply csr_new_st); (case ho => exact rfl); (case hgd => exact rfl); (case hx => exact rfl); (case hy => exact rfl)))
            go_at_call 14; refine (K3.out _).mono ?_; rintro _ w3 ⟨rfl, hb'⟩
            have hb := hb'
            replace s0 := fun wr (h : On w3 wr) => s0 wr (hb.trans h)
            replace t0 := fun wr (h : On w3 wr) => t0 wr (hb.trans h)
            replace hb0 := On.refl w3
            replace hb1 : ∀ ob : Obj, On w3 (w3.alloc ob) := fun ob => (On.refl w3).alloc ob
            have HB := Lib.hid (HB.out.trans hb)
            clear hb hb'
            go_wp2_with (first | ((with_reducible apply csr_ld); (case ho => exact rfl); (case hgd => exact rfl); (case hx => exact rfl); (case hg => (first | exact s0 _ (by first | exact hb0 | exact hb1 _) | exact t0 _ (by first | exact hb0 | exact hb1 _) | exact heap_alloc_new _ _))) | ((with_reducible apply env_ld); (case ho => exact rfl); (case hgd => exact rfl); (case hx => exact rfl); (case hg => (first | exact s0 _ (by first | exact hb0 | exact hb1 _) | exact t0 _ (by first | exact hb0 | exact hb1 _) | exact heap_alloc_new _ _))) | ((with_reducible apply csr_new_st); (case ho => exact rfl); (case hgd => exact rfl); (case hx => exact rfl); (case hy => exact rfl)))
            go_at_call 18; refine (J1.out _).mono ?_; rintro _ w4 ⟨rfl, hb'⟩
            have hb := hb'
            replace s0 := fun wr (h : On w4 wr) => s0 wr (hb.trans h)
            replace t0 := fun wr (h : On w4 wr) => t0 wr (hb.trans h)
            replace hb0 := On.refl w4
            replace hb1 : ∀ ob : Obj, On w4 (w4.alloc ob) := fun ob => (On.refl w4).alloc ob
            have HB := Lib.hid (HB.out.trans hb)
            clear hb hb'
            go_wp2_with (first | ((with_reducible apply csr_ld); (case ho => exact rfl); (case hgd => exact rfl); (case hx => exact rfl); (case hg => (first | exact s0 _ (by first | exact hb0 | exact hb1 _) | exact t0 _ (by first | exact hb0 | exact hb1 _) | exact heap_alloc_new _ _))) | ((with_reducible apply env_ld); (case ho => exact rfl); (case hgd => exact rfl); (case hx => exact rfl); (case hg => (first | exact s0 _ (by first | exact hb0 | exact hb1 _) | exact t0 _ (by first | exact hb0 | exact hb1 _) | exact heap_alloc_new _ _))) | ((with_reducible apply csr_new_st); (case ho => exact rfl); (case hgd => exact rfl); (case hx => exact rfl); (case hy => exact rfl)))
            go_at_call 18; refine (J3.out _).mono ?_; rintro _ w5 ⟨rfl, hb'⟩
            have s1 := fun wr (h : On w5 wr) => (hb'.trans h).keep (heap_alloc_new _ _)
            have hb := (hb1 _).trans hb'
            replace s0 := fun wr (h : On w5 wr) => s0 wr (hb.trans h)
            replace t0 := fun wr (h : On w5 wr) => t0 wr (hb.trans h)
            replace hb0 := On.refl w5
            replace hb1 : ∀ ob : Obj, On w5 (w5.alloc ob) := fun ob => (On.refl w5).alloc ob
            have HB := Lib.hid (HB.out.trans hb)
            clear hb hb'
            go_wp2_with (first | ((with_reducible apply csr_ld); (case ho => exact rfl); (case hgd => exact rfl); (case hx => exact rfl); (case hg => (first | exact s0 _ (by first | exact hb0 | exact hb1 _) | exact t0 _ (by first | exact hb0 | exact hb1 _) | exact s1 _ (by first | exact hb0 | exact hb1 _) | exact heap_alloc_new _ _))) | ((with_reducible apply env_ld); (case ho => exact rfl); (case hgd => exact rfl); (case hx => exact rfl); (case hg => (first | exact s0 _ (by first | exact hb0 | exact hb1 _) | exact t0 _ (by first | exact hb0 | exact hb1 _) | exact s1 _ (by first | exact hb0 | exact hb1 _) | exact heap_alloc_new _ _))) | ((with_reducible apply csr_new_st); (case ho => exact rfl); (case hgd => exact rfl); (case hx => exact rfl); (case hy => exact rfl)))
            go_at_call 16; refine (awake7_yes _).mono ?_; rintro _ w6 ⟨rfl, hb'⟩
            have s2 := fun wr (h : On w6 wr) => (hb'.trans h).keep (heap_alloc_new _ _)
            have hb := (hb1 _).trans hb'
            replace s0 := fun wr (h : On w6 wr) => s0 wr (hb.trans h)
            replace t0 := fun wr (h : On w6 wr) => t0 wr (hb.trans h)
            replace s1 := fun wr (h : On w6 wr) => s1 wr (hb.trans h)
            replace hb0 := On.refl w6
            replace hb1 : ∀ ob : Obj, On w6 (w6.alloc ob) := fun ob => (On.refl w6).alloc ob
            have HB := Lib.hid (HB.out.trans hb)
            clear hb hb'
            go_wp2_with (first | ((with_reducible apply csr_ld); (case ho => exact rfl); (case hgd => exact rfl); (case hx => exact rfl); (case hg => (first | exact s0 _ (by first | exact hb0 | exact hb1 _) | exact t0 _ (by first | exact hb0 | exact hb1 _) | exact s1 _ (by first | exact hb0 | exact hb1 _) | exact s2 _ (by first | exact hb0 | exact hb1 _) | exact heap_alloc_new _ _))) | ((with_reducible apply env_ld); (case ho => exact rfl); (case hgd => exact rfl); (case hx => exact rfl); (case hg => (first | exact s0 _ (by first | exact hb0 | exact hb1 _) | exact t0 _ (by first | exact hb0 | exact hb1 _) | exact s1 _ (by first | exact hb0 | exact hb1 _) | exact s2 _ (by first | exact hb0 | exact hb1 _) | exact heap_alloc_new _ _))) | ((with_reducible apply csr_new_st); (case ho => exact rfl); (case hgd => exact rfl); (case hx => exact rfl); (case hy => exact rfl)))
            go_ret
            exact ⟨rfl, HB.out⟩

set_option maxRecDepth 100000 in
theorem lifted (os : Os) (started : os.Started) (H : Type) (enc : TypeId × Value → H) :
    ReturnsInHanded {} Try.checked os 10 .any (Rows.csrHigherSpec.pre6 enc Try.prog Try.f10 Rows.csrHigherRow.domain false) (Rows.csrHigherSpec.post enc Try.prog Try.f10 false true false false) := by
  refine returnsInHanded_of_change (C := Try.checked) own started (by kernel_rfl) Try.func10
    (ChangeSpec.witness6 (enc := enc) (C := Try.checked) false ⟨#[], #[.agg #[.int .u64 0, .int .u64 0, .int .u64 0, .int .u64 0, .int .u64 0, .int .u64 0, .int .u64 0, .int .u64 0, .int .u64 0, .int .u64 0, .int .u64 0, .int .u64 0, .int .u64 0, .int .u64 0, .int .u64 0, .int .u64 0, .int .u64 0, .int .u64 0, .int .u64 0, .int .u64 0, .int .u64 0, .int .u64 0, .int .u64 0, .int .u64 0, .int .u64 0, .int .u64 0, .int .u64 0, .int .u64 0, .int .u64 0, .int .u64 0], .int .i64 0, .int .u64 0, .agg #[.int .u64 0, .int .u64 0, .int .u64 0, .int .u64 0, .int .u64 0, .int .u64 0, .int .u64 0, .bool false, .int .u64 0, .bool false]], []⟩ 12 (by kernel_rfl) (by kernel_rfl) (by kernel_rfl) (by kernel_rfl)) ?_
  intro W base args ds gs before hval0 hW hcnd _
  have hval : ∀ (j : Nat) t v, Try.f10.params[j]? = some t → args[j]? = some v → Value.okWide Try.prog W .any base t v := hval0
  have hW' := hW
  obtain ⟨p, q, hA0, hV, rfl, hfz, hnd⟩ := hW
  have hA : DataW.TrodAll enc Try.prog W 0 (fun _ => true) true Try.f10.params.toList args.toList ds p := hA0
  rw [Try.params10] at hA hval
  obtain ⟨v0, vs0, d0, ds0, p0, q0, hargs, rfl, rfl, h0, r0⟩ := trodAll_cons hA
  obtain ⟨v1, vs1, d1, ds1, p1, q1, rfl, rfl, rfl, h1, r1⟩ := trodAll_cons r0
  obtain ⟨v2, vs2, d2, ds2, p2, q2, rfl, rfl, rfl, h2, r2⟩ := trodAll_cons r1
  obtain ⟨v3, vs3, d3, ds3, p3, q3, rfl, rfl, rfl, h3, r3⟩ := trodAll_cons r2
  obtain ⟨rfl, rfl, rfl⟩ := trodAll_nil r3
  obtain rfl : args = #[v0, v1, v2, v3] := by cases args; simp_all
  obtain ⟨rfl, rfl⟩ := trodVars_none hV
  have k0 := h0
  have l0 : ∀ x ∈ p0, x.block < W.heap.size := fun x hx => by have := hW'.lt x (by simp [hx]); simpa using this
  obtain ⟨c0, rfl, f0⟩ := open_flat 12 [.int .u64, .int .u64, .int .u64, .int .u64, .int .u64, .int .u64, .int .u64, .int .u64, .int .u64, .int .u64, .int .u64, .int .u64, .int .u64, .int .u64, .int .u64, .int .u64, .int .u64, .int .u64, .int .u64, .int .u64, .int .u64, .int .u64, .int .u64, .int .u64, .int .u64, .int .u64, .int .u64, .int .u64, .int .u64, .int .u64] (by kernel_rfl) (by kernel_rfl) (.inl ⟨_, Try.underlying25⟩) (hval 0 25 v0 rfl rfl) h0
  clear h0
  obtain ⟨a1, rfl, rfl, rfl, w1⟩ := open_int Try.underlying3 (hval 1 3 v1 rfl rfl) h1
  obtain ⟨a2, rfl, rfl, rfl, w2⟩ := open_int Try.underlying22 (hval 2 22 v2 rfl rfl) h2
  have k3 := h3
  have l3 : ∀ x ∈ p3, x.block < W.heap.size := fun x hx => by have := hW'.lt x (by simp [hx]); simpa using this
  obtain ⟨c3, rfl, f3⟩ := open_flat 12 [.int .u64, .int .u64, .int .u64, .int .u64, .int .u64, .int .u64, .int .u64, .bool, .int .u64, .bool] (by kernel_rfl) (by kernel_rfl) (.inl ⟨_, Try.underlying27⟩) (hval 3 27 v3 rfl rfl) h3
  clear h3
  clear hA0 hval0
  refine (walk c0 f0 a1 w1 a2 w2 c3 f3 W).mono fun e W' ⟨he, bel⟩ => ?_
  subst he
  exact ⟨_, rfl, _, _, _, [], _, [], hW', trodAll_mk1 (shut_bool Try.underlying4 _), (trodAll_cons_mk (Below.trod (by kernel_rfl) (by kernel_rfl) (of_decide_eq_true (by kernel_rfl)) k0 bel l0) (trodAll_cons_mk (shut_int Try.underlying3 w1) (trodAll_cons_mk (shut_int Try.underlying22 w2) (trodAll_cons_mk (Below.trod (by kernel_rfl) (by kernel_rfl) (of_decide_eq_true (by kernel_rfl)) k3 bel l3) trodAll_mk0)))), rfl, bel.frame _, fun h => by cases h⟩

theorem over : Rows.csrHigherRow.holds Try.pinned (OpenSpec.ofChange Rows.csrHigherSpec) :=
  OpenClaim.holds_of_wide 10 Try.f10 rfl rfl rfl rfl rfl rfl rfl ⟨rfl, rfl, rfl, rfl, rfl⟩ rfl rfl rfl rfl rfl (by kernel_rfl) Try.func10 (by kernel_rfl)
    (of_decide_eq_true (by kernel_rfl)) (by unfold Func.isWrapper; first | (rw [if_pos (by decide +kernel)]; kernel_rfl) | (rw [if_neg (by decide +kernel)]; exact ⟨rfl, rfl⟩))
    (fun os started H enc _ => lifted os started H enc)

theorem proved : Rows.CsrHigherSaid :=
  over
#print axioms proved
end Go.Proofs.Ytoobbapdjoajgaa.csrHigher
