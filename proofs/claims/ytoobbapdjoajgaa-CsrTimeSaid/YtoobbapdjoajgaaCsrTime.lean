/- Proves that the counter of cycles goes on with the cycles from whatever was written, stands while it is inhibited, and goes on from there when it is let go, for any state of the CSRs and any four words, and that the first test of the law holds. Conditions: none. -/
import Derived.Test.YtoobbapdjoajgaaRows
import Derived.Test.YtoobbapdjoajgaaCsrL
import Derived.Test.YtoobbapdjoajgaaFlat
import Derived.WalkKit
import Derived.ProofKit
import Derived.OpenShut
import Derived.Below
import Derived.Carry
import Derived.ShutString
namespace Go.Proofs.Ytoobbapdjoajgaa.csrTime
open Go.ChangeShapes Go.WideShapes Go.ChangeAt Go.RowKit
set_option linter.unusedVariables false

theorem own : ownKnob Try.prog.godebug = none := by kernel_rfl

set_option maxRecDepth 100000 in
set_option maxHeartbeats 2000000 in
theorem walk (c0 : List Value) (f0 : Fits [.int .u64, .int .u64, .int .u64, .int .u64, .int .u64, .int .u64, .int .u64, .int .u64, .int .u64, .int .u64, .int .u64, .int .u64, .int .u64, .int .u64, .int .u64, .int .u64, .int .u64, .int .u64, .int .u64, .int .u64, .int .u64, .int .u64, .int .u64, .int .u64, .int .u64, .int .u64, .int .u64, .int .u64, .int .u64, .int .u64] c0) (a1 : Int) (w1 : (Lit.int .u64 a1).wf = true) (a2 : Int) (w2 : (Lit.int .u64 a2).wf = true) (a3 : Int) (w3 : (Lit.int .u64 a3).wf = true) (a4 : Int) (w4 : (Lit.int .u64 a4).wf = true) (w : World) :
    Calls Try.prog 12 #[.agg c0.toArray, .int .u64 a1, .int .u64 a2, .int .u64 a3, .int .u64 a4] w fun e w' => e = .returned (.bool true) ∧ Below w.heap.size w w' := by
  have f0 : Fits csrLeaves c0 := f0
  obtain ⟨c, hc⟩ := cV_of f0
  rw [hc]
  clear hc f0
  obtain ⟨v, rfl⟩ := u_of w1
  obtain ⟨at', rfl⟩ := u_of w2
  obtain ⟨mo, rfl⟩ := u_of w3
  obtain ⟨re, rfl⟩ := u_of w4
  clear w1 w2 w3 w4
  have hZ := fun w => csr_zero w
  have A1 : IntKind.u64.wrap (u at' + u mo) = u (at' + mo) := u_add _ _
  have A2 : IntKind.u64.wrap (u (at' + mo) + u re) = u (at' + mo + re) := u_add _ _
  have A3 : IntKind.u64.wrap (u (at' + mo + re) + 7) = u (at' + mo + re + 7#64) := u_add _ 7#64
  have A4 : IntKind.u64.wrap (u v + u mo) = u (v + mo) := u_add _ _
  have A5 : IntKind.u64.wrap (u (v + mo) + 7) = u (v + mo + 7#64) := u_add _ 7#64
  have K1 : Hid (∀ w, Calls Try.prog 18 #[.agg (cV c), .int .i64 800, .int .i64 3, .int .u64 0, .agg #[.int .u64 (u (at')), .int .u64 0, .int .u64 0, .int .u64 0, .int .u64 0, .int .u64 0, .int .u64 0, .bool false, .int .u64 0, .bool false]] w fun r w' => r = .returned (.tuple #[.agg (cV (tmX c at')), .int .i64 0]) ∧ On w w') := Lib.hid (fun w => by rw [← eV_at]; exact write_yes c (eT at') false false 800 3 0#64 (rdb_800 c) rfl w)
  have K2 : Hid (∀ w, Calls Try.prog 18 #[.agg (cV (tmX c at')), .int .i64 2816, .int .i64 3, .int .u64 (u v), .agg #[.int .u64 (u (at')), .int .u64 0, .int .u64 0, .int .u64 0, .int .u64 0, .int .u64 0, .int .u64 0, .bool false, .int .u64 0, .bool false]] w fun r w' => r = .returned (.tuple #[.agg (cV (tmY c v at')), .int .i64 0]) ∧ On w w') := Lib.hid (fun w => by rw [← eV_at]; exact write_yes _ (eT at') false false 2816 3 v (rdb_2816 _) rfl w)
  have K3 : Hid (∀ w, Calls Try.prog 18 #[.agg (cV (tmY c v at')), .int .i64 800, .int .i64 3, .int .u64 1, .agg #[.int .u64 (u (at' + mo)), .int .u64 0, .int .u64 0, .int .u64 0, .int .u64 0, .int .u64 0, .int .u64 0, .bool false, .int .u64 0, .bool false]] w fun r w' => r = .returned (.tuple #[.agg (cV (tmZ c v at' mo)), .int .i64 0]) ∧ On w w') := Lib.hid (fun w => by rw [← eV_at]; exact write_yes _ (eT (at' + mo)) false false 800 3 1#64 (rdb_800 _) rfl w)
  have K4 : Hid (∀ w, Calls Try.prog 18 #[.agg (cV (tmZ c v at' mo)), .int .i64 800, .int .i64 3, .int .u64 0, .agg #[.int .u64 (u (at' + mo + re)), .int .u64 0, .int .u64 0, .int .u64 0, .int .u64 0, .int .u64 0, .int .u64 0, .bool false, .int .u64 0, .bool false]] w fun r w' => r = .returned (.tuple #[.agg (cV (tmU c v at' mo re)), .int .i64 0]) ∧ On w w') := Lib.hid (fun w => by rw [← eV_at]; exact write_yes _ (eT (at' + mo + re)) false false 800 3 0#64 (rdb_800 _) rfl w)
  have J1 : Hid (∀ w, Calls Try.prog 24 #[.agg (cV (tmY c v at')), .agg #[.int .u64 (u (at' + mo)), .int .u64 0, .int .u64 0, .int .u64 0, .int .u64 0, .int .u64 0, .int .u64 0, .bool false, .int .u64 0, .bool false]] w fun r w' => r = .returned (.int .u64 (u (v + mo))) ∧ On w w') := Lib.hid (fun w => by rw [← eV_at, ← tm_1 c v at' mo]; exact cyc_any _ _ _ _ w)
  have J2 : Hid (∀ w, Calls Try.prog 24 #[.agg (cV (tmZ c v at' mo)), .agg #[.int .u64 (u (at' + mo + re)), .int .u64 0, .int .u64 0, .int .u64 0, .int .u64 0, .int .u64 0, .int .u64 0, .bool false, .int .u64 0, .bool false]] w fun r w' => r = .returned (.int .u64 (u (v + mo))) ∧ On w w') := Lib.hid (fun w => by rw [← eV_at, ← tm_2 c v at' mo re]; exact cyc_any _ _ _ _ w)
  have J3 : Hid (∀ w, Calls Try.prog 24 #[.agg (cV (tmU c v at' mo re)), .agg #[.int .u64 (u (at' + mo + re + 7#64)), .int .u64 0, .int .u64 0, .int .u64 0, .int .u64 0, .int .u64 0, .int .u64 0, .bool false, .int .u64 0, .bool false]] w fun r w' => r = .returned (.int .u64 (u (v + mo + 7#64))) ∧ On w w') := Lib.hid (fun w => by rw [← eV_at, ← tm_3 c v at' mo re]; exact cyc_any _ _ _ _ w)
  generalize tmU c v at' mo re = u' at *
  generalize tmZ c v at' mo = z' at *
  generalize tmY c v at' = y' at *
  generalize tmX c at' = x' at *
  have s0 : ∀ wr, On (w.alloc (.cells (cV c) 25)) wr → wr.heap[w.heap.size]? = some (.cells (cV c) 25 (0, 0)) := fun _ h => h.keep (heap_alloc_new _ _)
  have hb0 := On.refl ((w.alloc (.cells (cV c) 25)))
  have hb1 : ∀ ob : Obj, On ((w.alloc (.cells (cV c) 25))) (((w.alloc (.cells (cV c) 25))).alloc ob) := fun ob => (On.refl _).alloc ob
  have HB : Hid (On w ((w.alloc (.cells (cV c) 25)))) := Lib.hid ((On.refl w).alloc _)
  go_enter Try.func12, Try.ntmps12
  go_wp2_with (first | ((with_reducible apply csr_ld); (case ho => exact rfl); (case hgd => exact rfl); (case hx => exact rfl); (case hg => (first | exact s0 _ (by first | exact hb0 | exact hb1 _) | exact heap_alloc_new _ _))) | ((with_reducible apply env_ld); (case ho => exact rfl); (case hgd => exact rfl); (case hx => exact rfl); (case hg => (first | exact s0 _ (by first | exact hb0 | exact hb1 _) | exact heap_alloc_new _ _))) | ((with_reducible apply csr_new_st); (case ho => exact rfl); (case hgd => exact rfl); (case hx => exact rfl); (case hy => exact rfl)))
  go_at_call 16; refine (awake7_yes _).mono ?_; rintro _ w1 ⟨rfl, hb'⟩
  have hb := hb'
  replace s0 := fun wr (h : On w1 wr) => s0 wr (hb.trans h)
  replace hb0 := On.refl w1
  replace hb1 : ∀ ob : Obj, On w1 (w1.alloc ob) := fun ob => (On.refl w1).alloc ob
  have HB := Lib.hid (HB.out.trans hb)
  clear hb hb'
  go_wp2_with (first | ((with_reducible apply csr_ld); (case ho => exact rfl); (case hgd => exact rfl); (case hx => exact rfl); (case hg => (first | exact s0 _ (by first | exact hb0 | exact hb1 _) | exact heap_alloc_new _ _))) | ((with_reducible apply env_ld); (case ho => exact rfl); (case hgd => exact rfl); (case hx => exact rfl); (case hg => (first | exact s0 _ (by first | exact hb0 | exact hb1 _) | exact heap_alloc_new _ _))) | ((with_reducible apply csr_new_st); (case ho => exact rfl); (case hgd => exact rfl); (case hx => exact rfl); (case hy => exact rfl)))
  go_at_call 18; refine (K1.out _).mono ?_; rintro _ w2 ⟨rfl, hb'⟩
  have hb := hb'
  replace s0 := fun wr (h : On w2 wr) => s0 wr (hb.trans h)
  replace hb0 := On.refl w2
  replace hb1 : ∀ ob : Obj, On w2 (w2.alloc ob) := fun ob => (On.refl w2).alloc ob
  have HB := Lib.hid (HB.out.trans hb)
  clear hb hb'
  go_wp2_with (first | ((with_reducible apply csr_ld); (case ho => exact rfl); (case hgd => exact rfl); (case hx => exact rfl); (case hg => (first | exact s0 _ (by first | exact hb0 | exact hb1 _) | exact heap_alloc_new _ _))) | ((with_reducible apply env_ld); (case ho => exact rfl); (case hgd => exact rfl); (case hx => exact rfl); (case hg => (first | exact s0 _ (by first | exact hb0 | exact hb1 _) | exact heap_alloc_new _ _))) | ((with_reducible apply csr_new_st); (case ho => exact rfl); (case hgd => exact rfl); (case hx => exact rfl); (case hy => exact rfl)))
  go_at_call 18; refine (K2.out _).mono ?_; rintro _ w3 ⟨rfl, hb'⟩
  have s1 := fun wr (h : On w3 wr) => (hb'.trans h).keep (heap_alloc_new _ _)
  have hb := (hb1 _).trans hb'
  replace s0 := fun wr (h : On w3 wr) => s0 wr (hb.trans h)
  replace hb0 := On.refl w3
  replace hb1 : ∀ ob : Obj, On w3 (w3.alloc ob) := fun ob => (On.refl w3).alloc ob
  have HB := Lib.hid (HB.out.trans hb)
  clear hb hb'
  go_wp2_with (first | ((with_reducible apply csr_ld); (case ho => exact rfl); (case hgd => exact rfl); (case hx => exact rfl); (case hg => (first | exact s0 _ (by first | exact hb0 | exact hb1 _) | exact s1 _ (by first | exact hb0 | exact hb1 _) | exact heap_alloc_new _ _))) | ((with_reducible apply env_ld); (case ho => exact rfl); (case hgd => exact rfl); (case hx => exact rfl); (case hg => (first | exact s0 _ (by first | exact hb0 | exact hb1 _) | exact s1 _ (by first | exact hb0 | exact hb1 _) | exact heap_alloc_new _ _))) | ((with_reducible apply csr_new_st); (case ho => exact rfl); (case hgd => exact rfl); (case hx => exact rfl); (case hy => exact rfl)))
  go_at_call 18; refine (K3.out _).mono ?_; rintro _ w4 ⟨rfl, hb'⟩
  have s2 := fun wr (h : On w4 wr) => (hb'.trans h).keep (heap_alloc_new _ _)
  have hb := (hb1 _).trans hb'
  replace s0 := fun wr (h : On w4 wr) => s0 wr (hb.trans h)
  replace s1 := fun wr (h : On w4 wr) => s1 wr (hb.trans h)
  replace hb0 := On.refl w4
  replace hb1 : ∀ ob : Obj, On w4 (w4.alloc ob) := fun ob => (On.refl w4).alloc ob
  have HB := Lib.hid (HB.out.trans hb)
  clear hb hb'
  go_wp2_with (first | ((with_reducible apply csr_ld); (case ho => exact rfl); (case hgd => exact rfl); (case hx => exact rfl); (case hg => (first | exact s0 _ (by first | exact hb0 | exact hb1 _) | exact s1 _ (by first | exact hb0 | exact hb1 _) | exact s2 _ (by first | exact hb0 | exact hb1 _) | exact heap_alloc_new _ _))) | ((with_reducible apply env_ld); (case ho => exact rfl); (case hgd => exact rfl); (case hx => exact rfl); (case hg => (first | exact s0 _ (by first | exact hb0 | exact hb1 _) | exact s1 _ (by first | exact hb0 | exact hb1 _) | exact s2 _ (by first | exact hb0 | exact hb1 _) | exact heap_alloc_new _ _))) | ((with_reducible apply csr_new_st); (case ho => exact rfl); (case hgd => exact rfl); (case hx => exact rfl); (case hy => exact rfl)))
  go_at_call 18; refine (K4.out _).mono ?_; rintro _ w5 ⟨rfl, hb'⟩
  have s3 := fun wr (h : On w5 wr) => (hb'.trans h).keep (heap_alloc_new _ _)
  have hb := (hb1 _).trans hb'
  replace s0 := fun wr (h : On w5 wr) => s0 wr (hb.trans h)
  replace s1 := fun wr (h : On w5 wr) => s1 wr (hb.trans h)
  replace s2 := fun wr (h : On w5 wr) => s2 wr (hb.trans h)
  replace hb0 := On.refl w5
  replace hb1 : ∀ ob : Obj, On w5 (w5.alloc ob) := fun ob => (On.refl w5).alloc ob
  have HB := Lib.hid (HB.out.trans hb)
  clear hb hb'
  go_wp2_with (first | ((with_reducible apply csr_ld); (case ho => exact rfl); (case hgd => exact rfl); (case hx => exact rfl); (case hg => (first | exact s0 _ (by first | exact hb0 | exact hb1 _) | exact s1 _ (by first | exact hb0 | exact hb1 _) | exact s2 _ (by first | exact hb0 | exact hb1 _) | exact s3 _ (by first | exact hb0 | exact hb1 _) | exact heap_alloc_new _ _))) | ((with_reducible apply env_ld); (case ho => exact rfl); (case hgd => exact rfl); (case hx => exact rfl); (case hg => (first | exact s0 _ (by first | exact hb0 | exact hb1 _) | exact s1 _ (by first | exact hb0 | exact hb1 _) | exact s2 _ (by first | exact hb0 | exact hb1 _) | exact s3 _ (by first | exact hb0 | exact hb1 _) | exact heap_alloc_new _ _))) | ((with_reducible apply csr_new_st); (case ho => exact rfl); (case hgd => exact rfl); (case hx => exact rfl); (case hy => exact rfl)))
  go_at_call 24; refine (J1.out _).mono ?_; rintro _ w6 ⟨rfl, hb'⟩
  have s4 := fun wr (h : On w6 wr) => (hb'.trans h).keep (heap_alloc_new _ _)
  have hb := (hb1 _).trans hb'
  replace s0 := fun wr (h : On w6 wr) => s0 wr (hb.trans h)
  replace s1 := fun wr (h : On w6 wr) => s1 wr (hb.trans h)
  replace s2 := fun wr (h : On w6 wr) => s2 wr (hb.trans h)
  replace s3 := fun wr (h : On w6 wr) => s3 wr (hb.trans h)
  replace hb0 := On.refl w6
  replace hb1 : ∀ ob : Obj, On w6 (w6.alloc ob) := fun ob => (On.refl w6).alloc ob
  have HB := Lib.hid (HB.out.trans hb)
  clear hb hb'
  go_wp2_with (first | ((with_reducible apply csr_ld); (case ho => exact rfl); (case hgd => exact rfl); (case hx => exact rfl); (case hg => (first | exact s0 _ (by first | exact hb0 | exact hb1 _) | exact s1 _ (by first | exact hb0 | exact hb1 _) | exact s2 _ (by first | exact hb0 | exact hb1 _) | exact s3 _ (by first | exact hb0 | exact hb1 _) | exact s4 _ (by first | exact hb0 | exact hb1 _) | exact heap_alloc_new _ _))) | ((with_reducible apply env_ld); (case ho => exact rfl); (case hgd => exact rfl); (case hx => exact rfl); (case hg => (first | exact s0 _ (by first | exact hb0 | exact hb1 _) | exact s1 _ (by first | exact hb0 | exact hb1 _) | exact s2 _ (by first | exact hb0 | exact hb1 _) | exact s3 _ (by first | exact hb0 | exact hb1 _) | exact s4 _ (by first | exact hb0 | exact hb1 _) | exact heap_alloc_new _ _))) | ((with_reducible apply csr_new_st); (case ho => exact rfl); (case hgd => exact rfl); (case hx => exact rfl); (case hy => exact rfl)))
  go_at_call 24; refine (J2.out _).mono ?_; rintro _ w7 ⟨rfl, hb'⟩
  have hb := hb'
  replace s0 := fun wr (h : On w7 wr) => s0 wr (hb.trans h)
  replace s1 := fun wr (h : On w7 wr) => s1 wr (hb.trans h)
  replace s2 := fun wr (h : On w7 wr) => s2 wr (hb.trans h)
  replace s3 := fun wr (h : On w7 wr) => s3 wr (hb.trans h)
  replace s4 := fun wr (h : On w7 wr) => s4 wr (hb.trans h)
  replace hb0 := On.refl w7
  replace hb1 : ∀ ob : Obj, On w7 (w7.alloc ob) := fun ob => (On.refl w7).alloc ob
  have HB := Lib.hid (HB.out.trans hb)
  clear hb hb'
  go_wp2_with (first | ((with_reducible apply csr_ld); (case ho => exact rfl); (case hgd => exact rfl); (case hx => exact rfl); (case hg => (first | exact s0 _ (by first | exact hb0 | exact hb1 _) | exact s1 _ (by first | exact hb0 | exact hb1 _) | exact s2 _ (by first | exact hb0 | exact hb1 _) | exact s3 _ (by first | exact hb0 | exact hb1 _) | exact s4 _ (by first | exact hb0 | exact hb1 _) | exact heap_alloc_new _ _))) | ((with_reducible apply env_ld); (case ho => exact rfl); (case hgd => exact rfl); (case hx => exact rfl); (case hg => (first | exact s0 _ (by first | exact hb0 | exact hb1 _) | exact s1 _ (by first | exact hb0 | exact hb1 _) | exact s2 _ (by first | exact hb0 | exact hb1 _) | exact s3 _ (by first | exact hb0 | exact hb1 _) | exact s4 _ (by first | exact hb0 | exact hb1 _) | exact heap_alloc_new _ _))) | ((with_reducible apply csr_new_st); (case ho => exact rfl); (case hgd => exact rfl); (case hx => exact rfl); (case hy => exact rfl)))
  go_at_call 24; refine (J3.out _).mono ?_; rintro _ w8 ⟨rfl, hb'⟩
  have hb := hb'
  replace s0 := fun wr (h : On w8 wr) => s0 wr (hb.trans h)
  replace s1 := fun wr (h : On w8 wr) => s1 wr (hb.trans h)
  replace s2 := fun wr (h : On w8 wr) => s2 wr (hb.trans h)
  replace s3 := fun wr (h : On w8 wr) => s3 wr (hb.trans h)
  replace s4 := fun wr (h : On w8 wr) => s4 wr (hb.trans h)
  replace hb0 := On.refl w8
  replace hb1 : ∀ ob : Obj, On w8 (w8.alloc ob) := fun ob => (On.refl w8).alloc ob
  have HB := Lib.hid (HB.out.trans hb)
  clear hb hb'
  go_wp2_with (first | ((with_reducible apply csr_ld); (case ho => exact rfl); (case hgd => exact rfl); (case hx => exact rfl); (case hg => (first | exact s0 _ (by first | exact hb0 | exact hb1 _) | exact s1 _ (by first | exact hb0 | exact hb1 _) | exact s2 _ (by first | exact hb0 | exact hb1 _) | exact s3 _ (by first | exact hb0 | exact hb1 _) | exact s4 _ (by first | exact hb0 | exact hb1 _) | exact heap_alloc_new _ _))) | ((with_reducible apply env_ld); (case ho => exact rfl); (case hgd => exact rfl); (case hx => exact rfl); (case hg => (first | exact s0 _ (by first | exact hb0 | exact hb1 _) | exact s1 _ (by first | exact hb0 | exact hb1 _) | exact s2 _ (by first | exact hb0 | exact hb1 _) | exact s3 _ (by first | exact hb0 | exact hb1 _) | exact s4 _ (by first | exact hb0 | exact hb1 _) | exact heap_alloc_new _ _))) | ((with_reducible apply csr_new_st); (case ho => exact rfl); (case hgd => exact rfl); (case hx => exact rfl); (case hy => exact rfl)))
  go_ret
  exact ⟨rfl, HB.out⟩

set_option maxRecDepth 100000 in
theorem lifted (os : Os) (started : os.Started) (H : Type) (enc : TypeId × Value → H) :
    ReturnsInHanded {} Try.checked os 12 .any (Rows.csrTimeSpec.pre6 enc Try.prog Try.f12 Rows.csrTimeRow.domain false) (Rows.csrTimeSpec.post enc Try.prog Try.f12 false true false false) := by
  refine returnsInHanded_of_change (C := Try.checked) own started (by kernel_rfl) Try.func12
    (ChangeSpec.witness6 (enc := enc) (C := Try.checked) false ⟨#[], #[.agg #[.int .u64 0, .int .u64 0, .int .u64 0, .int .u64 0, .int .u64 0, .int .u64 0, .int .u64 0, .int .u64 0, .int .u64 0, .int .u64 0, .int .u64 0, .int .u64 0, .int .u64 0, .int .u64 0, .int .u64 0, .int .u64 0, .int .u64 0, .int .u64 0, .int .u64 0, .int .u64 0, .int .u64 0, .int .u64 0, .int .u64 0, .int .u64 0, .int .u64 0, .int .u64 0, .int .u64 0, .int .u64 0, .int .u64 0, .int .u64 0], .int .u64 0, .int .u64 0, .int .u64 0, .int .u64 0], []⟩ 12 (by kernel_rfl) (by kernel_rfl) (by kernel_rfl) (by kernel_rfl)) ?_
  intro W base args ds gs before hval0 hW hcnd _
  have hval : ∀ (j : Nat) t v, Try.f12.params[j]? = some t → args[j]? = some v → Value.okWide Try.prog W .any base t v := hval0
  have hW' := hW
  obtain ⟨p, q, hA0, hV, rfl, hfz, hnd⟩ := hW
  have hA : DataW.TrodAll enc Try.prog W 0 (fun _ => true) true Try.f12.params.toList args.toList ds p := hA0
  rw [Try.params12] at hA hval
  obtain ⟨v0, vs0, d0, ds0, p0, q0, hargs, rfl, rfl, h0, r0⟩ := trodAll_cons hA
  obtain ⟨v1, vs1, d1, ds1, p1, q1, rfl, rfl, rfl, h1, r1⟩ := trodAll_cons r0
  obtain ⟨v2, vs2, d2, ds2, p2, q2, rfl, rfl, rfl, h2, r2⟩ := trodAll_cons r1
  obtain ⟨v3, vs3, d3, ds3, p3, q3, rfl, rfl, rfl, h3, r3⟩ := trodAll_cons r2
  obtain ⟨v4, vs4, d4, ds4, p4, q4, rfl, rfl, rfl, h4, r4⟩ := trodAll_cons r3
  obtain ⟨rfl, rfl, rfl⟩ := trodAll_nil r4
  obtain rfl : args = #[v0, v1, v2, v3, v4] := by cases args; simp_all
  obtain ⟨rfl, rfl⟩ := trodVars_none hV
  have k0 := h0
  have l0 : ∀ x ∈ p0, x.block < W.heap.size := fun x hx => by have := hW'.lt x (by simp [hx]); simpa using this
  obtain ⟨c0, rfl, f0⟩ := open_flat 12 [.int .u64, .int .u64, .int .u64, .int .u64, .int .u64, .int .u64, .int .u64, .int .u64, .int .u64, .int .u64, .int .u64, .int .u64, .int .u64, .int .u64, .int .u64, .int .u64, .int .u64, .int .u64, .int .u64, .int .u64, .int .u64, .int .u64, .int .u64, .int .u64, .int .u64, .int .u64, .int .u64, .int .u64, .int .u64, .int .u64] (by kernel_rfl) (by kernel_rfl) (.inl ⟨_, Try.underlying25⟩) (hval 0 25 v0 rfl rfl) h0
  clear h0
  obtain ⟨a1, rfl, rfl, rfl, w1⟩ := open_int Try.underlying22 (hval 1 22 v1 rfl rfl) h1
  obtain ⟨a2, rfl, rfl, rfl, w2⟩ := open_int Try.underlying22 (hval 2 22 v2 rfl rfl) h2
  obtain ⟨a3, rfl, rfl, rfl, w3⟩ := open_int Try.underlying22 (hval 3 22 v3 rfl rfl) h3
  obtain ⟨a4, rfl, rfl, rfl, w4⟩ := open_int Try.underlying22 (hval 4 22 v4 rfl rfl) h4
  clear hA0 hval0
  refine (walk c0 f0 a1 w1 a2 w2 a3 w3 a4 w4 W).mono fun e W' ⟨he, bel⟩ => ?_
  subst he
  exact ⟨_, rfl, _, _, _, [], _, [], hW', trodAll_mk1 (shut_bool Try.underlying4 _), (trodAll_cons_mk (Below.trod (by kernel_rfl) (by kernel_rfl) (of_decide_eq_true (by kernel_rfl)) k0 bel l0) (trodAll_cons_mk (shut_int Try.underlying22 w1) (trodAll_cons_mk (shut_int Try.underlying22 w2) (trodAll_cons_mk (shut_int Try.underlying22 w3) (trodAll_cons_mk (shut_int Try.underlying22 w4) trodAll_mk0))))), rfl, bel.frame _, fun h => by cases h⟩

theorem over : Rows.csrTimeRow.holds Try.pinned (OpenSpec.ofChange Rows.csrTimeSpec) :=
  OpenClaim.holds_of_wide 12 Try.f12 rfl rfl rfl rfl rfl rfl rfl ⟨rfl, rfl, rfl, rfl, rfl⟩ rfl rfl rfl rfl rfl (by kernel_rfl) Try.func12 (by kernel_rfl)
    (of_decide_eq_true (by kernel_rfl)) (by unfold Func.isWrapper; first | (rw [if_pos (by decide +kernel)]; kernel_rfl) | (rw [if_neg (by decide +kernel)]; exact ⟨rfl, rfl⟩))
    (fun os started H enc _ => lifted os started H enc)

theorem proved : Rows.CsrTimeSaid :=
  over
#print axioms proved
end Go.Proofs.Ytoobbapdjoajgaa.csrTime
