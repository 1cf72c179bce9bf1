/- Proves that of the scratch registers what is set is set, what is cleared is not, and all other bits stay, and that a read alone changes nothing, for any state of the CSRs and any two words, and that the first test of the law holds. Conditions: none. -/
import Derived.Test.YtoobbapdjoajgaaRows
import Derived.Test.YtoobbapdjoajgaaCsrL
import Derived.Test.YtoobbapdjoajgaaFlat
import Derived.WalkKit
import Derived.ProofKit
import Derived.OpenShut
import Derived.Below
import Derived.Carry
import Derived.ShutString
namespace Go.Proofs.Ytoobbapdjoajgaa.csrBits
open Go.ChangeShapes Go.WideShapes Go.ChangeAt Go.RowKit
set_option linter.unusedVariables false

theorem own : ownKnob Try.prog.godebug = none := by kernel_rfl

set_option maxRecDepth 100000 in
set_option maxHeartbeats 2000000 in
theorem walk (c0 : List Value) (f0 : Fits [.int .u64, .int .u64, .int .u64, .int .u64, .int .u64, .int .u64, .int .u64, .int .u64, .int .u64, .int .u64, .int .u64, .int .u64, .int .u64, .int .u64, .int .u64, .int .u64, .int .u64, .int .u64, .int .u64, .int .u64, .int .u64, .int .u64, .int .u64, .int .u64, .int .u64, .int .u64, .int .u64, .int .u64, .int .u64, .int .u64] c0) (a1 : Int) (w1 : (Lit.int .u64 a1).wf = true) (a2 : Int) (w2 : (Lit.int .u64 a2).wf = true) (a3 : Bool) (c4 : List Value) (f4 : Fits [.int .u64, .int .u64, .int .u64, .int .u64, .int .u64, .int .u64, .int .u64, .bool, .int .u64, .bool] c4) (w : World) :
    Calls Try.prog 11 #[.agg c0.toArray, .int .u64 a1, .int .u64 a2, .bool a3, .agg c4.toArray] w fun e w' => e = .returned (.bool true) ∧ Below w.heap.size w w' := by
  have f0 : Fits csrLeaves c0 := f0
  obtain ⟨c, hc⟩ := cV_of f0
  rw [hc]
  have f4 : Fits (List.replicate 7 (.int .u64) ++ [.bool, .int .u64, .bool]) c4 := f4
  obtain ⟨e, p, q, he⟩ := eV_of f4
  rw [he]
  clear hc f0 he f4
  obtain ⟨a, rfl⟩ := u_of w1
  obtain ⟨b, rfl⟩ := u_of w2
  clear w1 w2
  have hZ := fun w => csr_zero w
  have hq := fun c w => csr_eql c w
  cases a3
  · have hO : bits .or .u64 (u (c 7)) (u a) = u (c 7 ||| a) := u_or _ _
    have hN : bits .andNot .u64 (u (c 7 ||| a)) (u b) = u ((c 7 ||| a) &&& ~~~b) := u_andNot _ _
    have K1 : Hid (∀ w, Calls Try.prog 20 #[.agg (cV c), .int .i64 832, .int .i64 3, .int .i64 2, .int .u64 (u a), .bool true, .agg (eV e p q)] w fun r w' => r = .returned (.tuple #[.int .u64 (u (c 7)), .agg (cV (upd c 7 (c 7 ||| a))), .int .i64 0]) ∧ On w w') := Lib.hid (fun w => by exact bits_832_2 c e p q a w)
    have K2 : Hid (∀ w, Calls Try.prog 20 #[.agg (cV (upd c 7 (c 7 ||| a))), .int .i64 832, .int .i64 3, .int .i64 3, .int .u64 (u b), .bool true, .agg (eV e p q)] w fun r w' => r = .returned (.tuple #[.int .u64 (u (c 7 ||| a)), .agg (cV (upd (upd c 7 (c 7 ||| a)) 7 ((c 7 ||| a) &&& ~~~b))), .int .i64 0]) ∧ On w w') := Lib.hid (fun w => by have := bits_832_3 (upd c 7 (c 7 ||| a)) e p q b w; rw [upd_self] at this; exact this)
    have K3 : Hid (∀ w, Calls Try.prog 20 #[.agg (cV (upd (upd c 7 (c 7 ||| a)) 7 ((c 7 ||| a) &&& ~~~b))), .int .i64 832, .int .i64 3, .int .i64 1, .int .u64 0, .bool false, .agg (eV e p q)] w fun r w' => r = .returned (.tuple #[.int .u64 (u ((c 7 ||| a) &&& ~~~b)), .agg (cV (upd (upd c 7 (c 7 ||| a)) 7 ((c 7 ||| a) &&& ~~~b))), .int .i64 0]) ∧ On w w') := Lib.hid (fun w => by have := bits_832_1 (upd (upd c 7 (c 7 ||| a)) 7 ((c 7 ||| a) &&& ~~~b)) e p q w; rw [upd_self] at this; exact this)
    generalize hc3 : (upd (upd c 7 (c 7 ||| a)) 7 ((c 7 ||| a) &&& ~~~b)) = x3 at *
    clear hc3
    generalize hc2 : (upd c 7 (c 7 ||| a)) = x2 at *
    clear hc2
    have s0 : ∀ wr, On ((w.alloc (.cells (cV c) 25)).alloc (.cells (eV e p q) 27)) wr → wr.heap[w.heap.size]? = some (.cells (cV c) 25 (0, 0)) := fun _ h => h.keep (box1 _ _ _)
    have t0 : ∀ wr, On ((w.alloc (.cells (cV c) 25)).alloc (.cells (eV e p q) 27)) wr → wr.heap[w.heap.size + 1]? = some (.cells (eV e p q) 27 (0, 0)) := fun _ h => h.keep (box2 _ _ _)
    have hb0 := On.refl (((w.alloc (.cells (cV c) 25)).alloc (.cells (eV e p q) 27)))
    have hb1 : ∀ ob : Obj, On (((w.alloc (.cells (cV c) 25)).alloc (.cells (eV e p q) 27))) ((((w.alloc (.cells (cV c) 25)).alloc (.cells (eV e p q) 27))).alloc ob) := fun ob => (On.refl _).alloc ob
    have HB : Hid (On w (((w.alloc (.cells (cV c) 25)).alloc (.cells (eV e p q) 27)))) := Lib.hid (((On.refl w).alloc _).alloc _)
    go_enter Try.func11, Try.ntmps11
    go_wp2_with (first | ((with_reducible apply csr_ld); (case ho => exact rfl); (case hgd => exact rfl); (case hx => exact rfl); (case hg => (first | exact s0 _ (by first | exact hb0 | exact hb1 _) | exact t0 _ (by first | exact hb0 | exact hb1 _) | exact heap_alloc_new _ _))) | ((with_reducible apply env_ld); (case ho => exact rfl); (case hgd => exact rfl); (case hx => exact rfl); (case hg => (first | exact s0 _ (by first | exact hb0 | exact hb1 _) | exact t0 _ (by first | exact hb0 | exact hb1 _) | exact heap_alloc_new _ _))) | ((with_reducible apply csr_new_st); (case ho => exact rfl); (case hgd => exact rfl); (case hx => exact rfl); (case hy => exact rfl)))
    go_at_call 20; refine (K1.out _).mono ?_; rintro _ w1 ⟨rfl, hb'⟩
    have hb := hb'
    replace s0 := fun wr (h : On w1 wr) => s0 wr (hb.trans h)
    replace t0 := fun wr (h : On w1 wr) => t0 wr (hb.trans h)
    replace hb0 := On.refl w1
    replace hb1 : ∀ ob : Obj, On w1 (w1.alloc ob) := fun ob => (On.refl w1).alloc ob
    have HB := Lib.hid (HB.out.trans hb)
    clear hb hb'
    go_wp2_with (first | ((with_reducible apply csr_ld); (case ho => exact rfl); (case hgd => exact rfl); (case hx => exact rfl); (case hg => (first | exact s0 _ (by first | exact hb0 | exact hb1 _) | exact t0 _ (by first | exact hb0 | exact hb1 _) | exact heap_alloc_new _ _))) | ((with_reducible apply env_ld); (case ho => exact rfl); (case hgd => exact rfl); (case hx => exact rfl); (case hg => (first | exact s0 _ (by first | exact hb0 | exact hb1 _) | exact t0 _ (by first | exact hb0 | exact hb1 _) | exact heap_alloc_new _ _))) | ((with_reducible apply csr_new_st); (case ho => exact rfl); (case hgd => exact rfl); (case hx => exact rfl); (case hy => exact rfl)))
    go_at_call 20; refine (K2.out _).mono ?_; rintro _ w2 ⟨rfl, hb'⟩
    have s1 := fun wr (h : On w2 wr) => (hb'.trans h).keep (heap_alloc_new _ _)
    have hb := (hb1 _).trans hb'
    replace s0 := fun wr (h : On w2 wr) => s0 wr (hb.trans h)
    replace t0 := fun wr (h : On w2 wr) => t0 wr (hb.trans h)
    replace hb0 := On.refl w2
    replace hb1 : ∀ ob : Obj, On w2 (w2.alloc ob) := fun ob => (On.refl w2).alloc ob
    have HB := Lib.hid (HB.out.trans hb)
    clear hb hb'
    go_wp2_with (first | ((with_reducible apply csr_ld); (case ho => exact rfl); (case hgd => exact rfl); (case hx => exact rfl); (case hg => (first | exact s0 _ (by first | exact hb0 | exact hb1 _) | exact t0 _ (by first | exact hb0 | exact hb1 _) | exact s1 _ (by first | exact hb0 | exact hb1 _) | exact heap_alloc_new _ _))) | ((with_reducible apply env_ld); (case ho => exact rfl); (case hgd => exact rfl); (case hx => exact rfl); (case hg => (first | exact s0 _ (by first | exact hb0 | exact hb1 _) | exact t0 _ (by first | exact hb0 | exact hb1 _) | exact s1 _ (by first | exact hb0 | exact hb1 _) | exact heap_alloc_new _ _))) | ((with_reducible apply csr_new_st); (case ho => exact rfl); (case hgd => exact rfl); (case hx => exact rfl); (case hy => exact rfl)))
    go_at_call 20; refine (K3.out _).mono ?_; rintro _ w3 ⟨rfl, hb'⟩
    have s2 := fun wr (h : On w3 wr) => (hb'.trans h).keep (heap_alloc_new _ _)
    have hb := (hb1 _).trans hb'
    replace s0 := fun wr (h : On w3 wr) => s0 wr (hb.trans h)
    replace t0 := fun wr (h : On w3 wr) => t0 wr (hb.trans h)
    replace s1 := fun wr (h : On w3 wr) => s1 wr (hb.trans h)
    replace hb0 := On.refl w3
    replace hb1 : ∀ ob : Obj, On w3 (w3.alloc ob) := fun ob => (On.refl w3).alloc ob
    have HB := Lib.hid (HB.out.trans hb)
    clear hb hb'
    go_wp2_with (first | ((with_reducible apply csr_ld); (case ho => exact rfl); (case hgd => exact rfl); (case hx => exact rfl); (case hg => (first | exact s0 _ (by first | exact hb0 | exact hb1 _) | exact t0 _ (by first | exact hb0 | exact hb1 _) | exact s1 _ (by first | exact hb0 | exact hb1 _) | exact s2 _ (by first | exact hb0 | exact hb1 _) | exact heap_alloc_new _ _))) | ((with_reducible apply env_ld); (case ho => exact rfl); (case hgd => exact rfl); (case hx => exact rfl); (case hg => (first | exact s0 _ (by first | exact hb0 | exact hb1 _) | exact t0 _ (by first | exact hb0 | exact hb1 _) | exact s1 _ (by first | exact hb0 | exact hb1 _) | exact s2 _ (by first | exact hb0 | exact hb1 _) | exact heap_alloc_new _ _))) | ((with_reducible apply csr_new_st); (case ho => exact rfl); (case hgd => exact rfl); (case hx => exact rfl); (case hy => exact rfl)))
    go_at_call 16; refine (awake7_yes _).mono ?_; rintro _ w4 ⟨rfl, hb'⟩
    have s3 := fun wr (h : On w4 wr) => (hb'.trans h).keep (heap_alloc_new _ _)
    have hb := (hb1 _).trans hb'
    replace s0 := fun wr (h : On w4 wr) => s0 wr (hb.trans h)
    replace t0 := fun wr (h : On w4 wr) => t0 wr (hb.trans h)
    replace s1 := fun wr (h : On w4 wr) => s1 wr (hb.trans h)
    replace s2 := fun wr (h : On w4 wr) => s2 wr (hb.trans h)
    replace hb0 := On.refl w4
    replace hb1 : ∀ ob : Obj, On w4 (w4.alloc ob) := fun ob => (On.refl w4).alloc ob
    have HB := Lib.hid (HB.out.trans hb)
    clear hb hb'
    go_wp2_with (first | ((with_reducible apply csr_ld); (case ho => exact rfl); (case hgd => exact rfl); (case hx => exact rfl); (case hg => (first | exact s0 _ (by first | exact hb0 | exact hb1 _) | exact t0 _ (by first | exact hb0 | exact hb1 _) | exact s1 _ (by first | exact hb0 | exact hb1 _) | exact s2 _ (by first | exact hb0 | exact hb1 _) | exact s3 _ (by first | exact hb0 | exact hb1 _) | exact heap_alloc_new _ _))) | ((with_reducible apply env_ld); (case ho => exact rfl); (case hgd => exact rfl); (case hx => exact rfl); (case hg => (first | exact s0 _ (by first | exact hb0 | exact hb1 _) | exact t0 _ (by first | exact hb0 | exact hb1 _) | exact s1 _ (by first | exact hb0 | exact hb1 _) | exact s2 _ (by first | exact hb0 | exact hb1 _) | exact s3 _ (by first | exact hb0 | exact hb1 _) | exact heap_alloc_new _ _))) | ((with_reducible apply csr_new_st); (case ho => exact rfl); (case hgd => exact rfl); (case hx => exact rfl); (case hy => exact rfl)))
    go_ret
    exact ⟨rfl, HB.out⟩
  · have hO : bits .or .u64 (u (c 13)) (u a) = u (c 13 ||| a) := u_or _ _
    have hN : bits .andNot .u64 (u (c 13 ||| a)) (u b) = u ((c 13 ||| a) &&& ~~~b) := u_andNot _ _
    have K1 : Hid (∀ w, Calls Try.prog 20 #[.agg (cV c), .int .i64 320, .int .i64 3, .int .i64 2, .int .u64 (u a), .bool true, .agg (eV e p q)] w fun r w' => r = .returned (.tuple #[.int .u64 (u (c 13)), .agg (cV (upd c 13 (c 13 ||| a))), .int .i64 0]) ∧ On w w') := Lib.hid (fun w => by exact bits_320_2 c e p q a w)
    have K2 : Hid (∀ w, Calls Try.prog 20 #[.agg (cV (upd c 13 (c 13 ||| a))), .int .i64 320, .int .i64 3, .int .i64 3, .int .u64 (u b), .bool true, .agg (eV e p q)] w fun r w' => r = .returned (.tuple #[.int .u64 (u (c 13 ||| a)), .agg (cV (upd (upd c 13 (c 13 ||| a)) 13 ((c 13 ||| a) &&& ~~~b))), .int .i64 0]) ∧ On w w') := Lib.hid (fun w => by have := bits_320_3 (upd c 13 (c 13 ||| a)) e p q b w; rw [upd_self] at this; exact this)
    have K3 : Hid (∀ w, Calls Try.prog 20 #[.agg (cV (upd (upd c 13 (c 13 ||| a)) 13 ((c 13 ||| a) &&& ~~~b))), .int .i64 320, .int .i64 3, .int .i64 1, .int .u64 0, .bool false, .agg (eV e p q)] w fun r w' => r = .returned (.tuple #[.int .u64 (u ((c 13 ||| a) &&& ~~~b)), .agg (cV (upd (upd c 13 (c 13 ||| a)) 13 ((c 13 ||| a) &&& ~~~b))), .int .i64 0]) ∧ On w w') := Lib.hid (fun w => by have := bits_320_1 (upd (upd c 13 (c 13 ||| a)) 13 ((c 13 ||| a) &&& ~~~b)) e p q w; rw [upd_self] at this; exact this)
    generalize hc3 : (upd (upd c 13 (c 13 ||| a)) 13 ((c 13 ||| a) &&& ~~~b)) = x3 at *
    clear hc3
    generalize hc2 : (upd c 13 (c 13 ||| a)) = x2 at *
    clear hc2
    have s0 : ∀ wr, On ((w.alloc (.cells (cV c) 25)).alloc (.cells (eV e p q) 27)) wr → wr.heap[w.heap.size]? = some (.cells (cV c) 25 (0, 0)) := fun _ h => h.keep (box1 _ _ _)
    have t0 : ∀ wr, On ((w.alloc (.cells (cV c) 25)).alloc (.cells (eV e p q) 27)) wr → wr.heap[w.heap.size + 1]? = some (.cells (eV e p q) 27 (0, 0)) := fun _ h => h.keep (box2 _ _ _)
    have hb0 := On.refl (((w.alloc (.cells (cV c) 25)).alloc (.cells (eV e p q) 27)))
    have hb1 : ∀ ob : Obj, On (((w.alloc (.cells (cV c) 25)).alloc (.cells (eV e p q) 27))) ((((w.alloc (.cells (cV c) 25)).alloc (.cells (eV e p q) 27))).alloc ob) := fun ob => (On.refl _).alloc ob
    have HB : Hid (On w (((w.alloc (.cells (cV c) 25)).alloc (.cells (eV e p q) 27)))) := Lib.hid (((On.refl w).alloc _).alloc _)
    go_enter Try.func11, Try.ntmps11
    go_wp2_with (first | ((with_reducible apply csr_ld); (case ho => exact rfl); (case hgd => exact rfl); (case hx => exact rfl); (case hg => (first | exact s0 _ (by first | exact hb0 | exact hb1 _) | exact t0 _ (by first | exact hb0 | exact hb1 _) | exact heap_alloc_new _ _))) | ((with_reducible apply env_ld); (case ho => exact rfl); (case hgd => exact rfl); (case hx => exact rfl); (case hg => (first | exact s0 _ (by first | exact hb0 | exact hb1 _) | exact t0 _ (by first | exact hb0 | exact hb1 _) | exact heap_alloc_new _ _))) | ((with_reducible apply csr_new_st); (case ho => exact rfl); (case hgd => exact rfl); (case hx => exact rfl); (case hy => exact rfl)))
    go_at_call 20; refine (K1.out _).mono ?_; rintro _ w1 ⟨rfl, hb'⟩
    have hb := hb'
    replace s0 := fun wr (h : On w1 wr) => s0 wr (hb.trans h)
    replace t0 := fun wr (h : On w1 wr) => t0 wr (hb.trans h)
    replace hb0 := On.refl w1
    replace hb1 : ∀ ob : Obj, On w1 (w1.alloc ob) := fun ob => (On.refl w1).alloc ob
    have HB := Lib.hid (HB.out.trans hb)
    clear hb hb'
    go_wp2_with (first | ((with_reducible apply csr_ld); (case ho => exact rfl); (case hgd => exact rfl); (case hx => exact rfl); (case hg => (first | exact s0 _ (by first | exact hb0 | exact hb1 _) | exact t0 _ (by first | exact hb0 | exact hb1 _) | exact heap_alloc_new _ _))) | ((with_reducible apply env_ld); (case ho => exact rfl); (case hgd => exact rfl); (case hx => exact rfl); (case hg => (first | exact s0 _ (by first | exact hb0 | exact hb1 _) | exact t0 _ (by first | exact hb0 | exact hb1 _) | exact heap_alloc_new _ _))) | ((with_reducible apply csr_new_st); (case ho => exact rfl); (case hgd => exact rfl); (case hx => exact rfl); (case hy => exact rfl)))
    go_at_call 20; refine (K2.out _).mono ?_; rintro _ w2 ⟨rfl, hb'⟩
    have s1 := fun wr (h : On w2 wr) => (hb'.trans h).keep (heap_alloc_new _ _)
    have hb := (hb1 _).trans hb'
    replace s0 := fun wr (h : On w2 wr) => s0 wr (hb.trans h)
    replace t0 := fun wr (h : On w2 wr) => t0 wr (hb.trans h)
    replace hb0 := On.refl w2
    replace hb1 : ∀ ob : Obj, On w2 (w2.alloc ob) := fun ob => (On.refl w2).alloc ob
    have HB := Lib.hid (HB.out.trans hb)
    clear hb hb'
    go_wp2_with (first | ((with_reducible apply csr_ld); (case ho => exact rfl); (case hgd => exact rfl); (case hx => exact rfl); (case hg => (first | exact s0 _ (by first | exact hb0 | exact hb1 _) | exact t0 _ (by first | exact hb0 | exact hb1 _) | exact s1 _ (by first | exact hb0 | exact hb1 _) | exact heap_alloc_new _ _))) | ((with_reducible apply env_ld); (case ho => exact rfl); (case hgd => exact rfl); (case hx => exact rfl); (case hg => (first | exact s0 _ (by first | exact hb0 | exact hb1 _) | exact t0 _ (by first | exact hb0 | exact hb1 _) | exact s1 _ (by first | exact hb0 | exact hb1 _) | exact heap_alloc_new _ _))) | ((with_reducible apply csr_new_st); (case ho => exact rfl); (case hgd => exact rfl); (case hx => exact rfl); (case hy => exact rfl)))
    go_at_call 20; refine (K3.out _).mono ?_; rintro _ w3 ⟨rfl, hb'⟩
    have s2 := fun wr (h : On w3 wr) => (hb'.trans h).keep (heap_alloc_new _ _)
    have hb := (hb1 _).trans hb'
    replace s0 := fun wr (h : On w3 wr) => s0 wr (hb.trans h)
    replace t0 := fun wr (h : On w3 wr) => t0 wr (hb.trans h)
    replace s1 := fun wr (h : On w3 wr) => s1 wr (hb.trans h)
    replace hb0 := On.refl w3
    replace hb1 : ∀ ob : Obj, On w3 (w3.alloc ob) := fun ob => (On.refl w3).alloc ob
    have HB := Lib.hid (HB.out.trans hb)
    clear hb hb'
    go_wp2_with (first | ((with_reducible apply csr_ld); (case ho => exact rfl); (case hgd => exact rfl); (case hx => exact rfl); (case hg => (first | exact s0 _ (by first | exact hb0 | exact hb1 _) | exact t0 _ (by first | exact hb0 | exact hb1 _) | exact s1 _ (by first | exact hb0 | exact hb1 _) | exact s2 _ (by first | exact hb0 | exact hb1 _) | exact heap_alloc_new _ _))) | ((with_reducible apply env_ld); (case ho => exact rfl); (case hgd => exact rfl); (case hx => exact rfl); (case hg => (first | exact s0 _ (by first | exact hb0 | exact hb1 _) | exact t0 _ (by first | exact hb0 | exact hb1 _) | exact s1 _ (by first | exact hb0 | exact hb1 _) | exact s2 _ (by first | exact hb0 | exact hb1 _) | exact heap_alloc_new _ _))) | ((with_reducible apply csr_new_st); (case ho => exact rfl); (case hgd => exact rfl); (case hx => exact rfl); (case hy => exact rfl)))
    go_at_call 16; refine (awake7_yes _).mono ?_; rintro _ w4 ⟨rfl, hb'⟩
    have s3 := fun wr (h : On w4 wr) => (hb'.trans h).keep (heap_alloc_new _ _)
    have hb := (hb1 _).trans hb'
    replace s0 := fun wr (h : On w4 wr) => s0 wr (hb.trans h)
    replace t0 := fun wr (h : On w4 wr) => t0 wr (hb.trans h)
    replace s1 := fun wr (h : On w4 wr) => s1 wr (hb.trans h)
    replace s2 := fun wr (h : On w4 wr) => s2 wr (hb.trans h)
    replace hb0 := On.refl w4
    replace hb1 : ∀ ob : Obj, On w4 (w4.alloc ob) := fun ob => (On.refl w4).alloc ob
    have HB := Lib.hid (HB.out.trans hb)
    clear hb hb'
    go_wp2_with (first | ((with_reducible apply csr_ld); (case ho => exact rfl); (case hgd => exact rfl); (case hx => exact rfl); (case hg => (first | exact s0 _ (by first | exact hb0 | exact hb1 _) | exact t0 _ (by first | exact hb0 | exact hb1 _) | exact s1 _ (by first | exact hb0 | exact hb1 _) | exact s2 _ (by first | exact hb0 | exact hb1 _) | exact s3 _ (by first | exact hb0 | exact hb1 _) | exact heap_alloc_new _ _))) | ((with_reducible apply env_ld); (case ho => exact rfl); (case hgd => exact rfl); (case hx => exact rfl); (case hg => (first | exact s0 _ (by first | exact hb0 | exact hb1 _) | exact t0 _ (by first | exact hb0 | exact hb1 _) | exact s1 _ (by first | exact hb0 | exact hb1 _) | exact s2 _ (by first | exact hb0 | exact hb1 _) | exact s3 _ (by first | exact hb0 | exact hb1 _) | exact heap_alloc_new _ _))) | ((with_reducible apply csr_new_st); (case ho => exact rfl); (case hgd => exact rfl); (case hx => exact rfl); (case hy => exact rfl)))
    go_ret
    exact ⟨rfl, HB.out⟩

set_option maxRecDepth 100000 in
theorem lifted (os : Os) (started : os.Started) (H : Type) (enc : TypeId × Value → H) :
    ReturnsInHanded {} Try.checked os 11 .any (Rows.csrBitsSpec.pre6 enc Try.prog Try.f11 Rows.csrBitsRow.domain false) (Rows.csrBitsSpec.post enc Try.prog Try.f11 false true false false) := by
  refine returnsInHanded_of_change (C := Try.checked) own started (by kernel_rfl) Try.func11
    (ChangeSpec.witness6 (enc := enc) (C := Try.checked) false ⟨#[], #[.agg #[.int .u64 0, .int .u64 0, .int .u64 0, .int .u64 0, .int .u64 0, .int .u64 0, .int .u64 0, .int .u64 0, .int .u64 0, .int .u64 0, .int .u64 0, .int .u64 0, .int .u64 0, .int .u64 0, .int .u64 0, .int .u64 0, .int .u64 0, .int .u64 0, .int .u64 0, .int .u64 0, .int .u64 0, .int .u64 0, .int .u64 0, .int .u64 0, .int .u64 0, .int .u64 0, .int .u64 0, .int .u64 0, .int .u64 0, .int .u64 0], .int .u64 0, .int .u64 0, .bool false, .agg #[.int .u64 0, .int .u64 0, .int .u64 0, .int .u64 0, .int .u64 0, .int .u64 0, .int .u64 0, .bool false, .int .u64 0, .bool false]], []⟩ 12 (by kernel_rfl) (by kernel_rfl) (by kernel_rfl) (by kernel_rfl)) ?_
  intro W base args ds gs before hval0 hW hcnd _
  have hval : ∀ (j : Nat) t v, Try.f11.params[j]? = some t → args[j]? = some v → Value.okWide Try.prog W .any base t v := hval0
  have hW' := hW
  obtain ⟨p, q, hA0, hV, rfl, hfz, hnd⟩ := hW
  have hA : DataW.TrodAll enc Try.prog W 0 (fun _ => true) true Try.f11.params.toList args.toList ds p := hA0
  rw [Try.params11] at hA hval
  obtain ⟨v0, vs0, d0, ds0, p0, q0, hargs, rfl, rfl, h0, r0⟩ := trodAll_cons hA
  obtain ⟨v1, vs1, d1, ds1, p1, q1, rfl, rfl, rfl, h1, r1⟩ := trodAll_cons r0
  obtain ⟨v2, vs2, d2, ds2, p2, q2, rfl, rfl, rfl, h2, r2⟩ := trodAll_cons r1
  obtain ⟨v3, vs3, d3, ds3, p3, q3, rfl, rfl, rfl, h3, r3⟩ := trodAll_cons r2
  obtain ⟨v4, vs4, d4, ds4, p4, q4, rfl, rfl, rfl, h4, r4⟩ := trodAll_cons r3
  obtain ⟨rfl, rfl, rfl⟩ := trodAll_nil r4
  obtain rfl : args = #[v0, v1, v2, v3, v4] := by cases args; simp_all
  obtain ⟨rfl, rfl⟩ := trodVars_none hV
  have k0 := h0
  have l0 : ∀ x ∈ p0, x.block < W.heap.size := fun x hx => by have := hW'.lt x (by simp [hx]); simpa using this
  obtain ⟨c0, rfl, f0⟩ := open_flat 12 [.int .u64, .int .u64, .int .u64, .int .u64, .int .u64, .int .u64, .int .u64, .int .u64, .int .u64, .int .u64, .int .u64, .int .u64, .int .u64, .int .u64, .int .u64, .int .u64, .int .u64, .int .u64, .int .u64, .int .u64, .int .u64, .int .u64, .int .u64, .int .u64, .int .u64, .int .u64, .int .u64, .int .u64, .int .u64, .int .u64] (by kernel_rfl) (by kernel_rfl) (.inl ⟨_, Try.underlying25⟩) (hval 0 25 v0 rfl rfl) h0
  clear h0
  obtain ⟨a1, rfl, rfl, rfl, w1⟩ := open_int Try.underlying22 (hval 1 22 v1 rfl rfl) h1
  obtain ⟨a2, rfl, rfl, rfl, w2⟩ := open_int Try.underlying22 (hval 2 22 v2 rfl rfl) h2
  obtain ⟨a3, rfl, rfl, rfl⟩ := open_bool Try.underlying4 (hval 3 4 v3 rfl rfl) h3
  have k4 := h4
  have l4 : ∀ x ∈ p4, x.block < W.heap.size := fun x hx => by have := hW'.lt x (by simp [hx]); simpa using this
  obtain ⟨c4, rfl, f4⟩ := open_flat 12 [.int .u64, .int .u64, .int .u64, .int .u64, .int .u64, .int .u64, .int .u64, .bool, .int .u64, .bool] (by kernel_rfl) (by kernel_rfl) (.inl ⟨_, Try.underlying27⟩) (hval 4 27 v4 rfl rfl) h4
  clear h4
  clear hA0 hval0
  refine (walk c0 f0 a1 w1 a2 w2 a3 c4 f4 W).mono fun e W' ⟨he, bel⟩ => ?_
  subst he
  exact ⟨_, rfl, _, _, _, [], _, [], hW', trodAll_mk1 (shut_bool Try.underlying4 _), (trodAll_cons_mk (Below.trod (by kernel_rfl) (by kernel_rfl) (of_decide_eq_true (by kernel_rfl)) k0 bel l0) (trodAll_cons_mk (shut_int Try.underlying22 w1) (trodAll_cons_mk (shut_int Try.underlying22 w2) (trodAll_cons_mk (shut_bool Try.underlying4 _) (trodAll_cons_mk (Below.trod (by kernel_rfl) (by kernel_rfl) (of_decide_eq_true (by kernel_rfl)) k4 bel l4) trodAll_mk0))))), rfl, bel.frame _, fun h => by cases h⟩

theorem over : Rows.csrBitsRow.holds Try.pinned (OpenSpec.ofChange Rows.csrBitsSpec) :=
  OpenClaim.holds_of_wide 11 Try.f11 rfl rfl rfl rfl rfl rfl rfl ⟨rfl, rfl, rfl, rfl, rfl⟩ rfl rfl rfl rfl rfl (by kernel_rfl) Try.func11 (by kernel_rfl)
    (of_decide_eq_true (by kernel_rfl)) (by unfold Func.isWrapper; first | (rw [if_pos (by decide +kernel)]; kernel_rfl) | (rw [if_neg (by decide +kernel)]; exact ⟨rfl, rfl⟩))
    (fun os started H enc _ => lifted os started H enc)

theorem proved : Rows.CsrBitsSaid :=
  over
#print axioms proved
end Go.Proofs.Ytoobbapdjoajgaa.csrBits
