/- Proves that what is written in Machine is read as far as it is kept: written again as it is read it changes nothing (but for the line of the external interrupt), and it is read the same, from whatever state a script of up to 40 accesses makes, and that the first test of the law holds. Conditions: none. -/
import Derived.Test.YtoobbapdjoajgaaRows
import Derived.Test.YtoobbapdjoajgaaCsrU
import Derived.Test.YtoobbapdjoajgaaFlat
import Derived.Test.YtoobbapdjoajgaaRow
import Derived.WalkKit
import Derived.ProofKit
import Derived.OpenShut
import Derived.Below
import Derived.Carry
import Derived.ShutString
namespace Go.Proofs.Ytoobbapdjoajgaa.csrBack
open Go.ChangeShapes Go.WideShapes Go.ChangeAt Go.RowKit
set_option linter.unusedVariables false

theorem own : ownKnob Try.prog.godebug = none := by kernel_rfl

set_option maxRecDepth 100000 in
set_option maxHeartbeats 20000000 in
theorem walk (w : World) (a0 : Option Addr) (l0 c0 : Nat) (w0 : IsRow [.int .i64, .int .i64, .int .i64, .int .u64, .bool, .int .u64, .int .u64, .int .u64, .int .u64, .int .u64, .int .u64, .int .u64, .bool, .int .u64, .bool] w a0 l0) (a1 : Int) (w1 : (Lit.int .i64 a1).wf = true) (a2 : Int) (w2 : (Lit.int .u64 a2).wf = true) (c3 : List Value) (f3 : Fits [.int .u64, .int .u64, .int .u64, .int .u64, .int .u64, .int .u64, .int .u64, .bool, .int .u64, .bool] c3) :
    Calls Try.prog 8 #[.slice a0 l0 c0, .int .i64 a1, .int .u64 a2, .agg c3.toArray] w fun e w' => e = .returned (.bool true) ∧ Below w.heap.size w w' := by
  have f3 : Fits (List.replicate 7 (.int .u64) ++ [.bool, .int .u64, .bool]) c3 := f3
  obtain ⟨e, p, q, he⟩ := eV_of f3
  rw [he]
  clear he f3
  obtain ⟨v, rfl⟩ := u_of w2
  clear w1 w2
  obtain ⟨hlen, hrow⟩ := w0
  unfold maxLen at hlen
  have hZ := fun w => csr_zero w
  have hq := fun c w => csr_eql c w
  have hT := heap_alloc_new w (.cells (eV e p q) 27)
  have HO : Hid (On w (w.alloc (.cells (eV e p q) 27))) := Lib.hid ((On.refl w).alloc _)
  go_enter Try.func8, Try.ntmps8
  go_wp2_with fail
  generalize w.alloc (.cells (eV e p q) 27) = w0 at *
  go_at_call 17; refine (reset_any _).mono ?_; rintro _ w1 ⟨rfl, h1⟩
  go_wp2_with ((with_reducible apply csr_new_st); (case ho => exact rfl); (case hgd => exact rfl); (case hx => exact rfl); (case hy => exact rfl))
  go_at_call 16; refine (awake7_yes _).mono ?_; rintro _ w2 ⟨rfl, h2⟩
  have HI : Hid (Kq w0 w2 w1.heap.size) := Lib.hid (Kq.mk' (c := zC) ((h1.alloc _).trans h2) h1.size (h2.keep (heap_alloc_new _ _)))
  have HROW := Lib.hid hrow
  have HT := Lib.hid hT
  clear h1 h2 hrow hT
  generalize w1.heap.size = C at *
  skip
  go_wp2_with fail
  go_loopw [10] (fun i wr => ∃ k : Nat, k ≤ l0 ∧ i = .int .i64 k ∧ Hid (Kq w0 wr C)) (fun i _ => l0 - (intOf i).toNat)
  case atStart => exact ⟨0, by omega, rfl, HI⟩
  case round =>
    clear HI
    obtain ⟨k, hk, rfl, HI⟩ := hrel
    by_cases hlive : k < l0 ∧ k < 40
    · obtain ⟨hkl, h40⟩ := hlive
      rcases HROW.out with h0 | ⟨bl, off, rfl, hbl, hcs⟩
      · omega
      · obtain ⟨cs, hfit, hcell⟩ := hcs k hkl
        have hfit : Fits accLeaves cs := hfit
        obtain ⟨n, m, f, x, o, e', p', q', ha⟩ := aV_of hfit
        obtain ⟨c, hok, hon, hge, hlt, hc⟩ := HI.out.out
        have HA : Hid (∀ j v, (aV n m f x o e' p' q')[j]? = some v → wr.cell? ((⟨bl, off + k * 15, none⟩ : Addr).add j) = some v) := Lib.hid fun j v hv => by
          have hj : j < 15 := by have := (Array.getElem?_eq_some_iff.1 hv).1; rw [aV_size] at this; exact this
          rw [← ha] at hv
          rw [Go.WideShapes.add_plain]
          exact ((Below.cell (HO.out.trans hon) (p := ⟨bl, off + k * 15 + j, none⟩) hbl).trans (hcell j hj)).trans (by simpa using hv)
        clear hcell hfit ha hcs
        have hc' : (wr.alloc (.cells (aV n m f x o e' p' q') 38)).heap[C]? = some (.cells (cV c) 25 (0, 0)) := ((On.refl _).alloc _).keep hc
        have hr' : (wr.alloc (.cells (aV n m f x o e' p' q') 38)).heap[wr.heap.size]? = some (.cells (aV n m f x o e' p' q') 38 (0, 0)) := heap_alloc_new _ _
        have n0 := blk_cell hr' 0 (aV_0 n m f x o e' p' q')
        have n1 := blk_cell hr' 1 (aV_1 n m f x o e' p' q')
        have n2 := blk_cell hr' 2 (aV_2 n m f x o e' p' q')
        have n3 := blk_cell hr' 3 (aV_3 n m f x o e' p' q')
        have n4 := blk_cell hr' 4 (aV_4 n m f x o e' p' q')
        go_wp2_with (first | ((with_reducible apply csr_ld); (case ho => exact rfl); (case hgd => exact rfl); (case hx => exact rfl); (case hg => exact hc')) | ((with_reducible apply acc_env); (case ho => exact rfl); (case hgd => exact rfl); (case hx => exact rfl); (case hg => exact hr')) | ((with_reducible apply cells_ld); (case hT => exact accT); (case ho => exact rfl); (case hgd => exact rfl); (case hx => exact rfl); (case hc => exact HA.out); (case hs => exact aV_size ..)) | ((with_reducible apply acc_new_st); (case ho => exact rfl); (case hgd => exact rfl); (case hx => exact rfl); (case hy => exact rfl); (case hold => exact rfl); (case hs => exact aV_size ..); (case h1 => exact aV_one ..)))
        go_at_call 20; refine (modify_any c e' p' q' n m f x o _).mono ?_; rintro _ w5 ⟨rfl, h5⟩
        have hc5 := h5.keep hc'
        have hon5 : On w0 w5 := (hon.alloc _).trans h5
        skip
        have hlt5 : C < w5.heap.size := blk_lt hc5
        clear hc' hr' n0 n1 n2 n3 n4 h5 hc HA hon
        generalize mdC c e' n m f x o = z at *
        generalize mdV c e' n m f o = y at *
        have hcz : (w5.alloc (.cells (cV z) 25)).heap[C]? = some (.cells (cV c) 25 (0, 0)) := ((On.refl _).alloc _).keep hc5
        cases mdB c n m f o
        · have hk0 : okE false = 7 := rfl
          rw [hk0]
          have hc7 : (w5.alloc (.cells (cV z) 25)).heap[C]? = some (.cells (cV c) 25 (0, 0)) := hcz
          have hon7 : On w0 (w5.alloc (.cells (cV z) 25)) := hon5.alloc _
          go_wp2_with (first | ((with_reducible apply csr_new_st); (case ho => exact rfl); (case hgd => exact rfl); (case hx => exact rfl); (case hy => exact rfl)) | ((with_reducible apply csr_ld); (case ho => exact rfl); (case hgd => exact rfl); (case hx => exact rfl); (case hg => exact heap_alloc_new _ _)) | ((with_reducible apply csr_st); (case ho => exact rfl); (case hgd => exact rfl); (case hx => exact rfl); (case hy => exact rfl); (case hg => exact hcz)))
          have HN := Lib.hid (Kq.mk' hon7 hge hc7)
          clear hcz hc5 hc7 hon7 hon5 hge hlt hlt5
          go_roundw
          case rel => exact ⟨k + 1, by omega, by go_num, HN⟩
          case measure => simp [intOf]; omega
        · have hk0 : okE true = 0 := rfl
          rw [hk0]
          have hc7 : ((w5.alloc (.cells (cV z) 25)).setRow C (cV z)).heap[C]? = some (.cells (cV z) 25 (0, 0)) := set_row hcz
          have hon7 : On w0 ((w5.alloc (.cells (cV z) 25)).setRow C (cV z)) := (hon5.alloc _).row _ _ hge
          go_wp2_with (first | ((with_reducible apply csr_new_st); (case ho => exact rfl); (case hgd => exact rfl); (case hx => exact rfl); (case hy => exact rfl)) | ((with_reducible apply csr_ld); (case ho => exact rfl); (case hgd => exact rfl); (case hx => exact rfl); (case hg => exact heap_alloc_new _ _)) | ((with_reducible apply csr_st); (case ho => exact rfl); (case hgd => exact rfl); (case hx => exact rfl); (case hy => exact rfl); (case hg => exact hcz)))
          have HN := Lib.hid (Kq.mk' hon7 hge hc7)
          clear hcz hc5 hc7 hon7 hon5 hge hlt hlt5
          go_roundw
          case rel => exact ⟨k + 1, by omega, by go_num, HN⟩
          case measure => simp [intOf]; omega
    · have hg : k ≥ l0 ∨ (k < l0 ∧ ¬ k < 40) := by omega
      clear hlive
      rcases hg with hg | ⟨hkl, h40⟩
      · have hkl : ¬ k < l0 := by omega
        clear hg
        obtain ⟨c, _, hon, hge, hlt, hc⟩ := HI.out.out
        have hT := hon.keep HT.out
        have HB0 : Hid (On w wr) := Lib.hid (HO.out.trans hon)
        clear HI HROW HT HO hon hge hlt
        cases hm : mayB c a1 3 true
        · have K1 : Hid (∀ w, Calls Try.prog 18 #[.agg (cV c), .int .i64 a1, .int .i64 3, .int .u64 (u v), .agg (eV e p q)] w fun r w' => r = .returned (.tuple #[.agg (cV zC), .int .i64 7]) ∧ On w w') := Lib.hid (fun w => by have := write_any c e p q a1 3 v w; unfold wrC at this; rw [hm] at this; exact this)
          clear hm
          have s0 : ∀ wq, On wr wq → wq.heap[C]? = some (.cells (cV c) 25 (0, 0)) := fun _ h => h.keep (hc)
          have t0 : ∀ wq, On wr wq → wq.heap[w.heap.size]? = some (.cells (eV e p q) 27 (0, 0)) := fun _ h => h.keep (hT)
          have hb0 := On.refl (wr)
          have hb1 : ∀ ob : Obj, On (wr) ((wr).alloc ob) := fun ob => (On.refl _).alloc ob
          have e2 : ∀ wq, On wr wq → wq.cell? ⟨w.heap.size, 2, none⟩ = some (.int .u64 (u (e 2))) := fun _ h => blk_cell (t0 _ h) 2 (eV_get e p q 2 (by omega))
          have HB := HB0
          go_wp2_with (first | ((with_reducible apply csr_ld); (case ho => exact rfl); (case hgd => exact rfl); (case hx => exact rfl); (case hg => (first | exact s0 _ (by first | exact hb0 | exact hb1 _) | exact t0 _ (by first | exact hb0 | exact hb1 _) | exact heap_alloc_new _ _))) | ((with_reducible apply env_ld); (case ho => exact rfl); (case hgd => exact rfl); (case hx => exact rfl); (case hg => (first | exact s0 _ (by first | exact hb0 | exact hb1 _) | exact t0 _ (by first | exact hb0 | exact hb1 _) | exact heap_alloc_new _ _))) | ((with_reducible apply csr_new_st); (case ho => exact rfl); (case hgd => exact rfl); (case hx => exact rfl); (case hy => exact rfl)))
          go_at_call 18; refine (K1.out _).mono ?_; rintro _ w1 ⟨rfl, hb'⟩
          have hb := hb'
          replace s0 := fun wq (h : On w1 wq) => s0 wq (hb.trans h)
          replace t0 := fun wq (h : On w1 wq) => t0 wq (hb.trans h)
          replace e2 := fun wq (h : On w1 wq) => e2 wq (hb.trans h)
          replace hb0 := On.refl w1
          replace hb1 : ∀ ob : Obj, On w1 (w1.alloc ob) := fun ob => (On.refl w1).alloc ob
          have HB := Lib.hid (HB.out.trans hb)
          clear hb hb'
          go_wp2_with (first | ((with_reducible apply csr_ld); (case ho => exact rfl); (case hgd => exact rfl); (case hx => exact rfl); (case hg => (first | exact s0 _ (by first | exact hb0 | exact hb1 _) | exact t0 _ (by first | exact hb0 | exact hb1 _) | exact heap_alloc_new _ _))) | ((with_reducible apply env_ld); (case ho => exact rfl); (case hgd => exact rfl); (case hx => exact rfl); (case hg => (first | exact s0 _ (by first | exact hb0 | exact hb1 _) | exact t0 _ (by first | exact hb0 | exact hb1 _) | exact heap_alloc_new _ _))) | ((with_reducible apply csr_new_st); (case ho => exact rfl); (case hgd => exact rfl); (case hx => exact rfl); (case hy => exact rfl)))
          go_ret
          exact ⟨rfl, HB.out.alloc _⟩
        · by_cases h836 : a1 = 836
          · subst h836
            by_cases hl : e 2 &&& 0x200#64 = 0#64
            · have hd : rdb c 836 3 = true := by unfold mayB at hm; exact (Bool.and_eq_true_iff.1 hm).1
              have hd' : ∀ x, rdb x 836 3 = true := fun x => (rdb_3 x c 836).trans hd
              have hr : ron 836 = false := by unfold mayB at hm; rw [hd] at hm; simpa using hm
              have K1 : Hid (∀ w, Calls Try.prog 18 #[.agg (cV c), .int .i64 836, .int .i64 3, .int .u64 (u v), .agg (eV e p q)] w fun r w' => r = .returned (.tuple #[.agg (cV (kp c e 836 v)), .int .i64 0]) ∧ On w w') := Lib.hid (fun w => write_yes c e p q 836 3 v hd hr w)
              have K2 : Hid (∀ w, Calls Try.prog 14 #[.agg (cV (kp c e 836 v)), .int .i64 836, .int .i64 3, .agg (eV e p q)] w fun r w' => r = .returned (.tuple #[.int .u64 (u (rv (kp c e 836 v) e 836)), .int .i64 0]) ∧ On w w') := Lib.hid (fun w => read_yes (kp c e 836 v) e p q 836 3 (hd' _) w)
              have K3 : Hid (∀ w, Calls Try.prog 18 #[.agg (cV (kp c e 836 v)), .int .i64 836, .int .i64 3, .int .u64 (u (rv (kp c e 836 v) e 836)), .agg (eV e p q)] w fun r w' => r = .returned (.tuple #[.agg (cV (kp c e 836 v)), .int .i64 0]) ∧ On w w') := Lib.hid (fun w => by have := write_yes (kp c e 836 v) e p q 836 3 (rv (kp c e 836 v) e 836) (hd' _) hr w; rw [ip_back c e v hl] at this; exact this)
              have K4 : Hid (∀ w, Calls Try.prog 14 #[.agg (cV (kp c e 836 v)), .int .i64 836, .int .i64 3, .agg (eV e p q)] w fun r w' => r = .returned (.tuple #[.int .u64 (u (rv (kp c e 836 v) e 836)), .int .i64 0]) ∧ On w w') := Lib.hid (fun w => read_yes (kp c e 836 v) e p q 836 3 (hd' _) w)
              have tl : (bits .and .u64 (u (e 2)) 512 != 0) = false := by rw [show (512 : Int) = u 0x200#64 from rfl, u_and, bne, show (0 : Int) = u 0#64 from rfl, u_beq]; simp [hl]
              clear hm hd hd' hr hl
              generalize hw : (rv (kp c e 836 v) e 836) = r at *
              clear hw
              generalize (kp c e 836 v) = x at *
              have s0 : ∀ wq, On wr wq → wq.heap[C]? = some (.cells (cV c) 25 (0, 0)) := fun _ h => h.keep (hc)
              have t0 : ∀ wq, On wr wq → wq.heap[w.heap.size]? = some (.cells (eV e p q) 27 (0, 0)) := fun _ h => h.keep (hT)
              have hb0 := On.refl (wr)
              have hb1 : ∀ ob : Obj, On (wr) ((wr).alloc ob) := fun ob => (On.refl _).alloc ob
              have e2 : ∀ wq, On wr wq → wq.cell? ⟨w.heap.size, 2, none⟩ = some (.int .u64 (u (e 2))) := fun _ h => blk_cell (t0 _ h) 2 (eV_get e p q 2 (by omega))
              have HB := HB0
              go_wp2_with (first | ((with_reducible apply csr_ld); (case ho => exact rfl); (case hgd => exact rfl); (case hx => exact rfl); (case hg => (first | exact s0 _ (by first | exact hb0 | exact hb1 _) | exact t0 _ (by first | exact hb0 | exact hb1 _) | exact heap_alloc_new _ _))) | ((with_reducible apply env_ld); (case ho => exact rfl); (case hgd => exact rfl); (case hx => exact rfl); (case hg => (first | exact s0 _ (by first | exact hb0 | exact hb1 _) | exact t0 _ (by first | exact hb0 | exact hb1 _) | exact heap_alloc_new _ _))) | ((with_reducible apply csr_new_st); (case ho => exact rfl); (case hgd => exact rfl); (case hx => exact rfl); (case hy => exact rfl)))
              go_at_call 18; refine (K1.out _).mono ?_; rintro _ w1 ⟨rfl, hb'⟩
              have hb := hb'
              replace s0 := fun wq (h : On w1 wq) => s0 wq (hb.trans h)
              replace t0 := fun wq (h : On w1 wq) => t0 wq (hb.trans h)
              replace e2 := fun wq (h : On w1 wq) => e2 wq (hb.trans h)
              replace hb0 := On.refl w1
              replace hb1 : ∀ ob : Obj, On w1 (w1.alloc ob) := fun ob => (On.refl w1).alloc ob
              have HB := Lib.hid (HB.out.trans hb)
              clear hb hb'
              go_wp2_with (first | ((with_reducible apply csr_ld); (case ho => exact rfl); (case hgd => exact rfl); (case hx => exact rfl); (case hg => (first | exact s0 _ (by first | exact hb0 | exact hb1 _) | exact t0 _ (by first | exact hb0 | exact hb1 _) | exact heap_alloc_new _ _))) | ((with_reducible apply env_ld); (case ho => exact rfl); (case hgd => exact rfl); (case hx => exact rfl); (case hg => (first | exact s0 _ (by first | exact hb0 | exact hb1 _) | exact t0 _ (by first | exact hb0 | exact hb1 _) | exact heap_alloc_new _ _))) | ((with_reducible apply csr_new_st); (case ho => exact rfl); (case hgd => exact rfl); (case hx => exact rfl); (case hy => exact rfl)))
              go_at_call 14; refine (K2.out _).mono ?_; rintro _ w2 ⟨rfl, hb'⟩
              have s1 := fun wq (h : On w2 wq) => (hb'.trans h).keep (heap_alloc_new _ _)
              have hb := (hb1 _).trans hb'
              replace s0 := fun wq (h : On w2 wq) => s0 wq (hb.trans h)
              replace t0 := fun wq (h : On w2 wq) => t0 wq (hb.trans h)
              replace e2 := fun wq (h : On w2 wq) => e2 wq (hb.trans h)
              replace hb0 := On.refl w2
              replace hb1 : ∀ ob : Obj, On w2 (w2.alloc ob) := fun ob => (On.refl w2).alloc ob
              have HB := Lib.hid (HB.out.trans hb)
              clear hb hb'
              go_wp2_with (first | ((with_reducible apply csr_ld); (case ho => exact rfl); (case hgd => exact rfl); (case hx => exact rfl); (case hg => (first | exact s0 _ (by first | exact hb0 | exact hb1 _) | exact t0 _ (by first | exact hb0 | exact hb1 _) | exact s1 _ (by first | exact hb0 | exact hb1 _) | exact heap_alloc_new _ _))) | ((with_reducible apply env_ld); (case ho => exact rfl); (case hgd => exact rfl); (case hx => exact rfl); (case hg => (first | exact s0 _ (by first | exact hb0 | exact hb1 _) | exact t0 _ (by first | exact hb0 | exact hb1 _) | exact s1 _ (by first | exact hb0 | exact hb1 _) | exact heap_alloc_new _ _))) | ((with_reducible apply csr_new_st); (case ho => exact rfl); (case hgd => exact rfl); (case hx => exact rfl); (case hy => exact rfl)))
              go_at_call 18; refine (K3.out _).mono ?_; rintro _ w3 ⟨rfl, hb'⟩
              have hb := hb'
              replace s0 := fun wq (h : On w3 wq) => s0 wq (hb.trans h)
              replace t0 := fun wq (h : On w3 wq) => t0 wq (hb.trans h)
              replace s1 := fun wq (h : On w3 wq) => s1 wq (hb.trans h)
              replace e2 := fun wq (h : On w3 wq) => e2 wq (hb.trans h)
              replace hb0 := On.refl w3
              replace hb1 : ∀ ob : Obj, On w3 (w3.alloc ob) := fun ob => (On.refl w3).alloc ob
              have HB := Lib.hid (HB.out.trans hb)
              clear hb hb'
              go_wp2_with (first | ((with_reducible apply csr_ld); (case ho => exact rfl); (case hgd => exact rfl); (case hx => exact rfl); (case hg => (first | exact s0 _ (by first | exact hb0 | exact hb1 _) | exact t0 _ (by first | exact hb0 | exact hb1 _) | exact s1 _ (by first | exact hb0 | exact hb1 _) | exact heap_alloc_new _ _))) | ((with_reducible apply env_ld); (case ho => exact rfl); (case hgd => exact rfl); (case hx => exact rfl); (case hg => (first | exact s0 _ (by first | exact hb0 | exact hb1 _) | exact t0 _ (by first | exact hb0 | exact hb1 _) | exact s1 _ (by first | exact hb0 | exact hb1 _) | exact heap_alloc_new _ _))) | ((with_reducible apply csr_new_st); (case ho => exact rfl); (case hgd => exact rfl); (case hx => exact rfl); (case hy => exact rfl)))
              go_at_call 14; refine (K4.out _).mono ?_; rintro _ w4 ⟨rfl, hb'⟩
              have s2 := fun wq (h : On w4 wq) => (hb'.trans h).keep (heap_alloc_new _ _)
              have hb := (hb1 _).trans hb'
              replace s0 := fun wq (h : On w4 wq) => s0 wq (hb.trans h)
              replace t0 := fun wq (h : On w4 wq) => t0 wq (hb.trans h)
              replace s1 := fun wq (h : On w4 wq) => s1 wq (hb.trans h)
              replace e2 := fun wq (h : On w4 wq) => e2 wq (hb.trans h)
              replace hb0 := On.refl w4
              replace hb1 : ∀ ob : Obj, On w4 (w4.alloc ob) := fun ob => (On.refl w4).alloc ob
              have HB := Lib.hid (HB.out.trans hb)
              clear hb hb'
              go_wp2_with (first | ((with_reducible apply csr_ld); (case ho => exact rfl); (case hgd => exact rfl); (case hx => exact rfl); (case hg => (first | exact s0 _ (by first | exact hb0 | exact hb1 _) | exact t0 _ (by first | exact hb0 | exact hb1 _) | exact s1 _ (by first | exact hb0 | exact hb1 _) | exact s2 _ (by first | exact hb0 | exact hb1 _) | exact heap_alloc_new _ _))) | ((with_reducible apply env_ld); (case ho => exact rfl); (case hgd => exact rfl); (case hx => exact rfl); (case hg => (first | exact s0 _ (by first | exact hb0 | exact hb1 _) | exact t0 _ (by first | exact hb0 | exact hb1 _) | exact s1 _ (by first | exact hb0 | exact hb1 _) | exact s2 _ (by first | exact hb0 | exact hb1 _) | exact heap_alloc_new _ _))) | ((with_reducible apply csr_new_st); (case ho => exact rfl); (case hgd => exact rfl); (case hx => exact rfl); (case hy => exact rfl)))
              go_ret
              exact ⟨rfl, HB.out⟩
            · have hd : rdb c 836 3 = true := by unfold mayB at hm; exact (Bool.and_eq_true_iff.1 hm).1
              have hd' : ∀ x, rdb x 836 3 = true := fun x => (rdb_3 x c 836).trans hd
              have hr : ron 836 = false := by unfold mayB at hm; rw [hd] at hm; simpa using hm
              have K1 : Hid (∀ w, Calls Try.prog 18 #[.agg (cV c), .int .i64 836, .int .i64 3, .int .u64 (u v), .agg (eV e p q)] w fun r w' => r = .returned (.tuple #[.agg (cV (kp c e 836 v)), .int .i64 0]) ∧ On w w') := Lib.hid (fun w => write_yes c e p q 836 3 v hd hr w)
              have K2 : Hid (∀ w, Calls Try.prog 14 #[.agg (cV (kp c e 836 v)), .int .i64 836, .int .i64 3, .agg (eV e p q)] w fun r w' => r = .returned (.tuple #[.int .u64 (u (rv (kp c e 836 v) e 836)), .int .i64 0]) ∧ On w w') := Lib.hid (fun w => read_yes (kp c e 836 v) e p q 836 3 (hd' _) w)
              have K3 : Hid (∀ w, Calls Try.prog 18 #[.agg (cV (kp c e 836 v)), .int .i64 836, .int .i64 3, .int .u64 (u (rv (kp c e 836 v) e 836)), .agg (eV e p q)] w fun r w' => r = .returned (.tuple #[.agg (cV (kp (kp c e 836 v) e 836 (rv (kp c e 836 v) e 836))), .int .i64 0]) ∧ On w w') := Lib.hid (fun w => by have := write_yes (kp c e 836 v) e p q 836 3 (rv (kp c e 836 v) e 836) (hd' _) hr w; exact this)
              have K4 : Hid (∀ w, Calls Try.prog 14 #[.agg (cV (kp (kp c e 836 v) e 836 (rv (kp c e 836 v) e 836))), .int .i64 836, .int .i64 3, .agg (eV e p q)] w fun r w' => r = .returned (.tuple #[.int .u64 (u (rv (kp c e 836 v) e 836)), .int .i64 0]) ∧ On w w') := Lib.hid (fun w => by have := read_yes (kp (kp c e 836 v) e 836 (rv (kp c e 836 v) e 836)) e p q 836 3 (hd' _) w; rw [ip_again] at this; exact this)
              have tl : (bits .and .u64 (u (e 2)) 512 != 0) = true := by rw [show (512 : Int) = u 0x200#64 from rfl, u_and, bne, show (0 : Int) = u 0#64 from rfl, u_beq]; simp [hl]
              clear hm hd hd' hr hl
              generalize hy : (kp (kp c e 836 v) e 836 (rv (kp c e 836 v) e 836)) = y at *
              clear hy
              generalize hw : (rv (kp c e 836 v) e 836) = r at *
              clear hw
              generalize (kp c e 836 v) = x at *
              have s0 : ∀ wq, On wr wq → wq.heap[C]? = some (.cells (cV c) 25 (0, 0)) := fun _ h => h.keep (hc)
              have t0 : ∀ wq, On wr wq → wq.heap[w.heap.size]? = some (.cells (eV e p q) 27 (0, 0)) := fun _ h => h.keep (hT)
              have hb0 := On.refl (wr)
              have hb1 : ∀ ob : Obj, On (wr) ((wr).alloc ob) := fun ob => (On.refl _).alloc ob
              have e2 : ∀ wq, On wr wq → wq.cell? ⟨w.heap.size, 2, none⟩ = some (.int .u64 (u (e 2))) := fun _ h => blk_cell (t0 _ h) 2 (eV_get e p q 2 (by omega))
              have HB := HB0
              go_wp2_with (first | ((with_reducible apply csr_ld); (case ho => exact rfl); (case hgd => exact rfl); (case hx => exact rfl); (case hg => (first | exact s0 _ (by first | exact hb0 | exact hb1 _) | exact t0 _ (by first | exact hb0 | exact hb1 _) | exact heap_alloc_new _ _))) | ((with_reducible apply env_ld); (case ho => exact rfl); (case hgd => exact rfl); (case hx => exact rfl); (case hg => (first | exact s0 _ (by first | exact hb0 | exact hb1 _) | exact t0 _ (by first | exact hb0 | exact hb1 _) | exact heap_alloc_new _ _))) | ((with_reducible apply csr_new_st); (case ho => exact rfl); (case hgd => exact rfl); (case hx => exact rfl); (case hy => exact rfl)))
              go_at_call 18; refine (K1.out _).mono ?_; rintro _ w1 ⟨rfl, hb'⟩
              have hb := hb'
              replace s0 := fun wq (h : On w1 wq) => s0 wq (hb.trans h)
              replace t0 := fun wq (h : On w1 wq) => t0 wq (hb.trans h)
              replace e2 := fun wq (h : On w1 wq) => e2 wq (hb.trans h)
              replace hb0 := On.refl w1
              replace hb1 : ∀ ob : Obj, On w1 (w1.alloc ob) := fun ob => (On.refl w1).alloc ob
              have HB := Lib.hid (HB.out.trans hb)
              clear hb hb'
              go_wp2_with (first | ((with_reducible apply csr_ld); (case ho => exact rfl); (case hgd => exact rfl); (case hx => exact rfl); (case hg => (first | exact s0 _ (by first | exact hb0 | exact hb1 _) | exact t0 _ (by first | exact hb0 | exact hb1 _) | exact heap_alloc_new _ _))) | ((with_reducible apply env_ld); (case ho => exact rfl); (case hgd => exact rfl); (case hx => exact rfl); (case hg => (first | exact s0 _ (by first | exact hb0 | exact hb1 _) | exact t0 _ (by first | exact hb0 | exact hb1 _) | exact heap_alloc_new _ _))) | ((with_reducible apply csr_new_st); (case ho => exact rfl); (case hgd => exact rfl); (case hx => exact rfl); (case hy => exact rfl)))
              go_at_call 14; refine (K2.out _).mono ?_; rintro _ w2 ⟨rfl, hb'⟩
              have s1 := fun wq (h : On w2 wq) => (hb'.trans h).keep (heap_alloc_new _ _)
              have hb := (hb1 _).trans hb'
              replace s0 := fun wq (h : On w2 wq) => s0 wq (hb.trans h)
              replace t0 := fun wq (h : On w2 wq) => t0 wq (hb.trans h)
              replace e2 := fun wq (h : On w2 wq) => e2 wq (hb.trans h)
              replace hb0 := On.refl w2
              replace hb1 : ∀ ob : Obj, On w2 (w2.alloc ob) := fun ob => (On.refl w2).alloc ob
              have HB := Lib.hid (HB.out.trans hb)
              clear hb hb'
              go_wp2_with (first | ((with_reducible apply csr_ld); (case ho => exact rfl); (case hgd => exact rfl); (case hx => exact rfl); (case hg => (first | exact s0 _ (by first | exact hb0 | exact hb1 _) | exact t0 _ (by first | exact hb0 | exact hb1 _) | exact s1 _ (by first | exact hb0 | exact hb1 _) | exact heap_alloc_new _ _))) | ((with_reducible apply env_ld); (case ho => exact rfl); (case hgd => exact rfl); (case hx => exact rfl); (case hg => (first | exact s0 _ (by first | exact hb0 | exact hb1 _) | exact t0 _ (by first | exact hb0 | exact hb1 _) | exact s1 _ (by first | exact hb0 | exact hb1 _) | exact heap_alloc_new _ _))) | ((with_reducible apply csr_new_st); (case ho => exact rfl); (case hgd => exact rfl); (case hx => exact rfl); (case hy => exact rfl)))
              go_at_call 18; refine (K3.out _).mono ?_; rintro _ w3 ⟨rfl, hb'⟩
              have hb := hb'
              replace s0 := fun wq (h : On w3 wq) => s0 wq (hb.trans h)
              replace t0 := fun wq (h : On w3 wq) => t0 wq (hb.trans h)
              replace s1 := fun wq (h : On w3 wq) => s1 wq (hb.trans h)
              replace e2 := fun wq (h : On w3 wq) => e2 wq (hb.trans h)
              replace hb0 := On.refl w3
              replace hb1 : ∀ ob : Obj, On w3 (w3.alloc ob) := fun ob => (On.refl w3).alloc ob
              have HB := Lib.hid (HB.out.trans hb)
              clear hb hb'
              go_wp2_with (first | ((with_reducible apply csr_ld); (case ho => exact rfl); (case hgd => exact rfl); (case hx => exact rfl); (case hg => (first | exact s0 _ (by first | exact hb0 | exact hb1 _) | exact t0 _ (by first | exact hb0 | exact hb1 _) | exact s1 _ (by first | exact hb0 | exact hb1 _) | exact heap_alloc_new _ _))) | ((with_reducible apply env_ld); (case ho => exact rfl); (case hgd => exact rfl); (case hx => exact rfl); (case hg => (first | exact s0 _ (by first | exact hb0 | exact hb1 _) | exact t0 _ (by first | exact hb0 | exact hb1 _) | exact s1 _ (by first | exact hb0 | exact hb1 _) | exact heap_alloc_new _ _))) | ((with_reducible apply csr_new_st); (case ho => exact rfl); (case hgd => exact rfl); (case hx => exact rfl); (case hy => exact rfl)))
              go_at_call 14; refine (K4.out _).mono ?_; rintro _ w4 ⟨rfl, hb'⟩
              have s2 := fun wq (h : On w4 wq) => (hb'.trans h).keep (heap_alloc_new _ _)
              have hb := (hb1 _).trans hb'
              replace s0 := fun wq (h : On w4 wq) => s0 wq (hb.trans h)
              replace t0 := fun wq (h : On w4 wq) => t0 wq (hb.trans h)
              replace s1 := fun wq (h : On w4 wq) => s1 wq (hb.trans h)
              replace e2 := fun wq (h : On w4 wq) => e2 wq (hb.trans h)
              replace hb0 := On.refl w4
              replace hb1 : ∀ ob : Obj, On w4 (w4.alloc ob) := fun ob => (On.refl w4).alloc ob
              have HB := Lib.hid (HB.out.trans hb)
              clear hb hb'
              go_wp2_with (first | ((with_reducible apply csr_ld); (case ho => exact rfl); (case hgd => exact rfl); (case hx => exact rfl); (case hg => (first | exact s0 _ (by first | exact hb0 | exact hb1 _) | exact t0 _ (by first | exact hb0 | exact hb1 _) | exact s1 _ (by first | exact hb0 | exact hb1 _) | exact s2 _ (by first | exact hb0 | exact hb1 _) | exact heap_alloc_new _ _))) | ((with_reducible apply env_ld); (case ho => exact rfl); (case hgd => exact rfl); (case hx => exact rfl); (case hg => (first | exact s0 _ (by first | exact hb0 | exact hb1 _) | exact t0 _ (by first | exact hb0 | exact hb1 _) | exact s1 _ (by first | exact hb0 | exact hb1 _) | exact s2 _ (by first | exact hb0 | exact hb1 _) | exact heap_alloc_new _ _))) | ((with_reducible apply csr_new_st); (case ho => exact rfl); (case hgd => exact rfl); (case hx => exact rfl); (case hy => exact rfl)))
              go_ret
              exact ⟨rfl, HB.out⟩
          · have hd : rdb c a1 3 = true := by unfold mayB at hm; exact (Bool.and_eq_true_iff.1 hm).1
            have hd' : ∀ x, rdb x a1 3 = true := fun x => (rdb_3 x c a1).trans hd
            have hr : ron a1 = false := by unfold mayB at hm; rw [hd] at hm; simpa using hm
            have K1 : Hid (∀ w, Calls Try.prog 18 #[.agg (cV c), .int .i64 a1, .int .i64 3, .int .u64 (u v), .agg (eV e p q)] w fun r w' => r = .returned (.tuple #[.agg (cV (kp c e a1 v)), .int .i64 0]) ∧ On w w') := Lib.hid (fun w => write_yes c e p q a1 3 v hd hr w)
            have K2 : Hid (∀ w, Calls Try.prog 14 #[.agg (cV (kp c e a1 v)), .int .i64 a1, .int .i64 3, .agg (eV e p q)] w fun r w' => r = .returned (.tuple #[.int .u64 (u (rv (kp c e a1 v) e a1)), .int .i64 0]) ∧ On w w') := Lib.hid (fun w => read_yes (kp c e a1 v) e p q a1 3 (hd' _) w)
            have K3 : Hid (∀ w, Calls Try.prog 18 #[.agg (cV (kp c e a1 v)), .int .i64 a1, .int .i64 3, .int .u64 (u (rv (kp c e a1 v) e a1)), .agg (eV e p q)] w fun r w' => r = .returned (.tuple #[.agg (cV (kp c e a1 v)), .int .i64 0]) ∧ On w w') := Lib.hid (fun w => by have := write_yes (kp c e a1 v) e p q a1 3 (rv (kp c e a1 v) e a1) (hd' _) hr w; rw [kp_back c e a1 v (rdb_ex hd) h836] at this; exact this)
            have K4 : Hid (∀ w, Calls Try.prog 14 #[.agg (cV (kp c e a1 v)), .int .i64 a1, .int .i64 3, .agg (eV e p q)] w fun r w' => r = .returned (.tuple #[.int .u64 (u (rv (kp c e a1 v) e a1)), .int .i64 0]) ∧ On w w') := Lib.hid (fun w => read_yes (kp c e a1 v) e p q a1 3 (hd' _) w)
            have t836 : (a1 == 836) = false := beq_eq_false_iff_ne.2 h836
            clear hm hd hd' hr h836
            generalize hw : (rv (kp c e a1 v) e a1) = r at *
            clear hw
            generalize (kp c e a1 v) = x at *
            have s0 : ∀ wq, On wr wq → wq.heap[C]? = some (.cells (cV c) 25 (0, 0)) := fun _ h => h.keep (hc)
            have t0 : ∀ wq, On wr wq → wq.heap[w.heap.size]? = some (.cells (eV e p q) 27 (0, 0)) := fun _ h => h.keep (hT)
            have hb0 := On.refl (wr)
            have hb1 : ∀ ob : Obj, On (wr) ((wr).alloc ob) := fun ob => (On.refl _).alloc ob
            have e2 : ∀ wq, On wr wq → wq.cell? ⟨w.heap.size, 2, none⟩ = some (.int .u64 (u (e 2))) := fun _ h => blk_cell (t0 _ h) 2 (eV_get e p q 2 (by omega))
            have HB := HB0
            go_wp2_with (first | ((with_reducible apply csr_ld); (case ho => exact rfl); (case hgd => exact rfl); (case hx => exact rfl); (case hg => (first | exact s0 _ (by first | exact hb0 | exact hb1 _) | exact t0 _ (by first | exact hb0 | exact hb1 _) | exact heap_alloc_new _ _))) | ((with_reducible apply env_ld); (case ho => exact rfl); (case hgd => exact rfl); (case hx => exact rfl); (case hg => (first | exact s0 _ (by first | exact hb0 | exact hb1 _) | exact t0 _ (by first | exact hb0 | exact hb1 _) | exact heap_alloc_new _ _))) | ((with_reducible apply csr_new_st); (case ho => exact rfl); (case hgd => exact rfl); (case hx => exact rfl); (case hy => exact rfl)))
            go_at_call 18; refine (K1.out _).mono ?_; rintro _ w1 ⟨rfl, hb'⟩
            have hb := hb'
            replace s0 := fun wq (h : On w1 wq) => s0 wq (hb.trans h)
            replace t0 := fun wq (h : On w1 wq) => t0 wq (hb.trans h)
            replace e2 := fun wq (h : On w1 wq) => e2 wq (hb.trans h)
            replace hb0 := On.refl w1
            replace hb1 : ∀ ob : Obj, On w1 (w1.alloc ob) := fun ob => (On.refl w1).alloc ob
            have HB := Lib.hid (HB.out.trans hb)
            clear hb hb'
            go_wp2_with (first | ((with_reducible apply csr_ld); (case ho => exact rfl); (case hgd => exact rfl); (case hx => exact rfl); (case hg => (first | exact s0 _ (by first | exact hb0 | exact hb1 _) | exact t0 _ (by first | exact hb0 | exact hb1 _) | exact heap_alloc_new _ _))) | ((with_reducible apply env_ld); (case ho => exact rfl); (case hgd => exact rfl); (case hx => exact rfl); (case hg => (first | exact s0 _ (by first | exact hb0 | exact hb1 _) | exact t0 _ (by first | exact hb0 | exact hb1 _) | exact heap_alloc_new _ _))) | ((with_reducible apply csr_new_st); (case ho => exact rfl); (case hgd => exact rfl); (case hx => exact rfl); (case hy => exact rfl)))
            go_at_call 14; refine (K2.out _).mono ?_; rintro _ w2 ⟨rfl, hb'⟩
            have s1 := fun wq (h : On w2 wq) => (hb'.trans h).keep (heap_alloc_new _ _)
            have hb := (hb1 _).trans hb'
            replace s0 := fun wq (h : On w2 wq) => s0 wq (hb.trans h)
            replace t0 := fun wq (h : On w2 wq) => t0 wq (hb.trans h)
            replace e2 := fun wq (h : On w2 wq) => e2 wq (hb.trans h)
            replace hb0 := On.refl w2
            replace hb1 : ∀ ob : Obj, On w2 (w2.alloc ob) := fun ob => (On.refl w2).alloc ob
            have HB := Lib.hid (HB.out.trans hb)
            clear hb hb'
            go_wp2_with (first | ((with_reducible apply csr_ld); (case ho => exact rfl); (case hgd => exact rfl); (case hx => exact rfl); (case hg => (first | exact s0 _ (by first | exact hb0 | exact hb1 _) | exact t0 _ (by first | exact hb0 | exact hb1 _) | exact s1 _ (by first | exact hb0 | exact hb1 _) | exact heap_alloc_new _ _))) | ((with_reducible apply env_ld); (case ho => exact rfl); (case hgd => exact rfl); (case hx => exact rfl); (case hg => (first | exact s0 _ (by first | exact hb0 | exact hb1 _) | exact t0 _ (by first | exact hb0 | exact hb1 _) | exact s1 _ (by first | exact hb0 | exact hb1 _) | exact heap_alloc_new _ _))) | ((with_reducible apply csr_new_st); (case ho => exact rfl); (case hgd => exact rfl); (case hx => exact rfl); (case hy => exact rfl)))
            go_at_call 18; refine (K3.out _).mono ?_; rintro _ w3 ⟨rfl, hb'⟩
            have hb := hb'
            replace s0 := fun wq (h : On w3 wq) => s0 wq (hb.trans h)
            replace t0 := fun wq (h : On w3 wq) => t0 wq (hb.trans h)
            replace s1 := fun wq (h : On w3 wq) => s1 wq (hb.trans h)
            replace e2 := fun wq (h : On w3 wq) => e2 wq (hb.trans h)
            replace hb0 := On.refl w3
            replace hb1 : ∀ ob : Obj, On w3 (w3.alloc ob) := fun ob => (On.refl w3).alloc ob
            have HB := Lib.hid (HB.out.trans hb)
            clear hb hb'
            go_wp2_with (first | ((with_reducible apply csr_ld); (case ho => exact rfl); (case hgd => exact rfl); (case hx => exact rfl); (case hg => (first | exact s0 _ (by first | exact hb0 | exact hb1 _) | exact t0 _ (by first | exact hb0 | exact hb1 _) | exact s1 _ (by first | exact hb0 | exact hb1 _) | exact heap_alloc_new _ _))) | ((with_reducible apply env_ld); (case ho => exact rfl); (case hgd => exact rfl); (case hx => exact rfl); (case hg => (first | exact s0 _ (by first | exact hb0 | exact hb1 _) | exact t0 _ (by first | exact hb0 | exact hb1 _) | exact s1 _ (by first | exact hb0 | exact hb1 _) | exact heap_alloc_new _ _))) | ((with_reducible apply csr_new_st); (case ho => exact rfl); (case hgd => exact rfl); (case hx => exact rfl); (case hy => exact rfl)))
            go_at_call 14; refine (K4.out _).mono ?_; rintro _ w4 ⟨rfl, hb'⟩
            have s2 := fun wq (h : On w4 wq) => (hb'.trans h).keep (heap_alloc_new _ _)
            have hb := (hb1 _).trans hb'
            replace s0 := fun wq (h : On w4 wq) => s0 wq (hb.trans h)
            replace t0 := fun wq (h : On w4 wq) => t0 wq (hb.trans h)
            replace s1 := fun wq (h : On w4 wq) => s1 wq (hb.trans h)
            replace e2 := fun wq (h : On w4 wq) => e2 wq (hb.trans h)
            replace hb0 := On.refl w4
            replace hb1 : ∀ ob : Obj, On w4 (w4.alloc ob) := fun ob => (On.refl w4).alloc ob
            have HB := Lib.hid (HB.out.trans hb)
            clear hb hb'
            go_wp2_with (first | ((with_reducible apply csr_ld); (case ho => exact rfl); (case hgd => exact rfl); (case hx => exact rfl); (case hg => (first | exact s0 _ (by first | exact hb0 | exact hb1 _) | exact t0 _ (by first | exact hb0 | exact hb1 _) | exact s1 _ (by first | exact hb0 | exact hb1 _) | exact s2 _ (by first | exact hb0 | exact hb1 _) | exact heap_alloc_new _ _))) | ((with_reducible apply env_ld); (case ho => exact rfl); (case hgd => exact rfl); (case hx => exact rfl); (case hg => (first | exact s0 _ (by first | exact hb0 | exact hb1 _) | exact t0 _ (by first | exact hb0 | exact hb1 _) | exact s1 _ (by first | exact hb0 | exact hb1 _) | exact s2 _ (by first | exact hb0 | exact hb1 _) | exact heap_alloc_new _ _))) | ((with_reducible apply csr_new_st); (case ho => exact rfl); (case hgd => exact rfl); (case hx => exact rfl); (case hy => exact rfl)))
            go_ret
            exact ⟨rfl, HB.out⟩
      · obtain ⟨c, _, hon, hge, hlt, hc⟩ := HI.out.out
        have hT := hon.keep HT.out
        have HB0 : Hid (On w wr) := Lib.hid (HO.out.trans hon)
        clear HI HROW HT HO hon hge hlt
        cases hm : mayB c a1 3 true
        · have K1 : Hid (∀ w, Calls Try.prog 18 #[.agg (cV c), .int .i64 a1, .int .i64 3, .int .u64 (u v), .agg (eV e p q)] w fun r w' => r = .returned (.tuple #[.agg (cV zC), .int .i64 7]) ∧ On w w') := Lib.hid (fun w => by have := write_any c e p q a1 3 v w; unfold wrC at this; rw [hm] at this; exact this)
          clear hm
          have s0 : ∀ wq, On wr wq → wq.heap[C]? = some (.cells (cV c) 25 (0, 0)) := fun _ h => h.keep (hc)
          have t0 : ∀ wq, On wr wq → wq.heap[w.heap.size]? = some (.cells (eV e p q) 27 (0, 0)) := fun _ h => h.keep (hT)
          have hb0 := On.refl (wr)
          have hb1 : ∀ ob : Obj, On (wr) ((wr).alloc ob) := fun ob => (On.refl _).alloc ob
          have e2 : ∀ wq, On wr wq → wq.cell? ⟨w.heap.size, 2, none⟩ = some (.int .u64 (u (e 2))) := fun _ h => blk_cell (t0 _ h) 2 (eV_get e p q 2 (by omega))
          have HB := HB0
          go_wp2_with (first | ((with_reducible apply csr_ld); (case ho => exact rfl); (case hgd => exact rfl); (case hx => exact rfl); (case hg => (first | exact s0 _ (by first | exact hb0 | exact hb1 _) | exact t0 _ (by first | exact hb0 | exact hb1 _) | exact heap_alloc_new _ _))) | ((with_reducible apply env_ld); (case ho => exact rfl); (case hgd => exact rfl); (case hx => exact rfl); (case hg => (first | exact s0 _ (by first | exact hb0 | exact hb1 _) | exact t0 _ (by first | exact hb0 | exact hb1 _) | exact heap_alloc_new _ _))) | ((with_reducible apply csr_new_st); (case ho => exact rfl); (case hgd => exact rfl); (case hx => exact rfl); (case hy => exact rfl)))
          go_at_call 18; refine (K1.out _).mono ?_; rintro _ w1 ⟨rfl, hb'⟩
          have hb := hb'
          replace s0 := fun wq (h : On w1 wq) => s0 wq (hb.trans h)
          replace t0 := fun wq (h : On w1 wq) => t0 wq (hb.trans h)
          replace e2 := fun wq (h : On w1 wq) => e2 wq (hb.trans h)
          replace hb0 := On.refl w1
          replace hb1 : ∀ ob : Obj, On w1 (w1.alloc ob) := fun ob => (On.refl w1).alloc ob
          have HB := Lib.hid (HB.out.trans hb)
          clear hb hb'
          go_wp2_with (first | ((with_reducible apply csr_ld); (case ho => exact rfl); (case hgd => exact rfl); (case hx => exact rfl); (case hg => (first | exact s0 _ (by first | exact hb0 | exact hb1 _) | exact t0 _ (by first | exact hb0 | exact hb1 _) | exact heap_alloc_new _ _))) | ((with_reducible apply env_ld); (case ho => exact rfl); (case hgd => exact rfl); (case hx => exact rfl); (case hg => (first | exact s0 _ (by first | exact hb0 | exact hb1 _) | exact t0 _ (by first | exact hb0 | exact hb1 _) | exact heap_alloc_new _ _))) | ((with_reducible apply csr_new_st); (case ho => exact rfl); (case hgd => exact rfl); (case hx => exact rfl); (case hy => exact rfl)))
          go_ret
          exact ⟨rfl, HB.out.alloc _⟩
        · by_cases h836 : a1 = 836
          · subst h836
            by_cases hl : e 2 &&& 0x200#64 = 0#64
            · have hd : rdb c 836 3 = true := by unfold mayB at hm; exact (Bool.and_eq_true_iff.1 hm).1
              have hd' : ∀ x, rdb x 836 3 = true := fun x => (rdb_3 x c 836).trans hd
              have hr : ron 836 = false := by unfold mayB at hm; rw [hd] at hm; simpa using hm
              have K1 : Hid (∀ w, Calls Try.prog 18 #[.agg (cV c), .int .i64 836, .int .i64 3, .int .u64 (u v), .agg (eV e p q)] w fun r w' => r = .returned (.tuple #[.agg (cV (kp c e 836 v)), .int .i64 0]) ∧ On w w') := Lib.hid (fun w => write_yes c e p q 836 3 v hd hr w)
              have K2 : Hid (∀ w, Calls Try.prog 14 #[.agg (cV (kp c e 836 v)), .int .i64 836, .int .i64 3, .agg (eV e p q)] w fun r w' => r = .returned (.tuple #[.int .u64 (u (rv (kp c e 836 v) e 836)), .int .i64 0]) ∧ On w w') := Lib.hid (fun w => read_yes (kp c e 836 v) e p q 836 3 (hd' _) w)
              have K3 : Hid (∀ w, Calls Try.prog 18 #[.agg (cV (kp c e 836 v)), .int .i64 836, .int .i64 3, .int .u64 (u (rv (kp c e 836 v) e 836)), .agg (eV e p q)] w fun r w' => r = .returned (.tuple #[.agg (cV (kp c e 836 v)), .int .i64 0]) ∧ On w w') := Lib.hid (fun w => by have := write_yes (kp c e 836 v) e p q 836 3 (rv (kp c e 836 v) e 836) (hd' _) hr w; rw [ip_back c e v hl] at this; exact this)
              have K4 : Hid (∀ w, Calls Try.prog 14 #[.agg (cV (kp c e 836 v)), .int .i64 836, .int .i64 3, .agg (eV e p q)] w fun r w' => r = .returned (.tuple #[.int .u64 (u (rv (kp c e 836 v) e 836)), .int .i64 0]) ∧ On w w') := Lib.hid (fun w => read_yes (kp c e 836 v) e p q 836 3 (hd' _) w)
              have tl : (bits .and .u64 (u (e 2)) 512 != 0) = false := by rw [show (512 : Int) = u 0x200#64 from rfl, u_and, bne, show (0 : Int) = u 0#64 from rfl, u_beq]; simp [hl]
              clear hm hd hd' hr hl
              generalize hw : (rv (kp c e 836 v) e 836) = r at *
              clear hw
              generalize (kp c e 836 v) = x at *
              have s0 : ∀ wq, On wr wq → wq.heap[C]? = some (.cells (cV c) 25 (0, 0)) := fun _ h => h.keep (hc)
              have t0 : ∀ wq, On wr wq → wq.heap[w.heap.size]? = some (.cells (eV e p q) 27 (0, 0)) := fun _ h => h.keep (hT)
              have hb0 := On.refl (wr)
              have hb1 : ∀ ob : Obj, On (wr) ((wr).alloc ob) := fun ob => (On.refl _).alloc ob
              have e2 : ∀ wq, On wr wq → wq.cell? ⟨w.heap.size, 2, none⟩ = some (.int .u64 (u (e 2))) := fun _ h => blk_cell (t0 _ h) 2 (eV_get e p q 2 (by omega))
              have HB := HB0
              go_wp2_with (first | ((with_reducible apply csr_ld); (case ho => exact rfl); (case hgd => exact rfl); (case hx => exact rfl); (case hg => (first | exact s0 _ (by first | exact hb0 | exact hb1 _) | exact t0 _ (by first | exact hb0 | exact hb1 _) | exact heap_alloc_new _ _))) | ((with_reducible apply env_ld); (case ho => exact rfl); (case hgd => exact rfl); (case hx => exact rfl); (case hg => (first | exact s0 _ (by first | exact hb0 | exact hb1 _) | exact t0 _ (by first | exact hb0 | exact hb1 _) | exact heap_alloc_new _ _))) | ((with_reducible apply csr_new_st); (case ho => exact rfl); (case hgd => exact rfl); (case hx => exact rfl); (case hy => exact rfl)))
              go_at_call 18; refine (K1.out _).mono ?_; rintro _ w1 ⟨rfl, hb'⟩
              have hb := hb'
              replace s0 := fun wq (h : On w1 wq) => s0 wq (hb.trans h)
              replace t0 := fun wq (h : On w1 wq) => t0 wq (hb.trans h)
              replace e2 := fun wq (h : On w1 wq) => e2 wq (hb.trans h)
              replace hb0 := On.refl w1
              replace hb1 : ∀ ob : Obj, On w1 (w1.alloc ob) := fun ob => (On.refl w1).alloc ob
              have HB := Lib.hid (HB.out.trans hb)
              clear hb hb'
              go_wp2_with (first | ((with_reducible apply csr_ld); (case ho => exact rfl); (case hgd => exact rfl); (case hx => exact rfl); (case hg => (first | exact s0 _ (by first | exact hb0 | exact hb1 _) | exact t0 _ (by first | exact hb0 | exact hb1 _) | exact heap_alloc_new _ _))) | ((with_reducible apply env_ld); (case ho => exact rfl); (case hgd => exact rfl); (case hx => exact rfl); (case hg => (first | exact s0 _ (by first | exact hb0 | exact hb1 _) | exact t0 _ (by first | exact hb0 | exact hb1 _) | exact heap_alloc_new _ _))) | ((with_reducible apply csr_new_st); (case ho => exact rfl); (case hgd => exact rfl); (case hx => exact rfl); (case hy => exact rfl)))
              go_at_call 14; refine (K2.out _).mono ?_; rintro _ w2 ⟨rfl, hb'⟩
              have s1 := fun wq (h : On w2 wq) => (hb'.trans h).keep (heap_alloc_new _ _)
              have hb := (hb1 _).trans hb'
              replace s0 := fun wq (h : On w2 wq) => s0 wq (hb.trans h)
              replace t0 := fun wq (h : On w2 wq) => t0 wq (hb.trans h)
              replace e2 := fun wq (h : On w2 wq) => e2 wq (hb.trans h)
              replace hb0 := On.refl w2
              replace hb1 : ∀ ob : Obj, On w2 (w2.alloc ob) := fun ob => (On.refl w2).alloc ob
              have HB := Lib.hid (HB.out.trans hb)
              clear hb hb'
              go_wp2_with (first | ((with_reducible apply csr_ld); (case ho => exact rfl); (case hgd => exact rfl); (case hx => exact rfl); (case hg => (first | exact s0 _ (by first | exact hb0 | exact hb1 _) | exact t0 _ (by first | exact hb0 | exact hb1 _) | exact s1 _ (by first | exact hb0 | exact hb1 _) | exact heap_alloc_new _ _))) | ((with_reducible apply env_ld); (case ho => exact rfl); (case hgd => exact rfl); (case hx => exact rfl); (case hg => (first | exact s0 _ (by first | exact hb0 | exact hb1 _) | exact t0 _ (by first | exact hb0 | exact hb1 _) | exact s1 _ (by first | exact hb0 | exact hb1 _) | exact heap_alloc_new _ _))) | ((with_reducible apply csr_new_st); (case ho => exact rfl); (case hgd => exact rfl); (case hx => exact rfl); (case hy => exact rfl)))
              go_at_call 18; refine (K3.out _).mono ?_; rintro _ w3 ⟨rfl, hb'⟩
              have hb := hb'
              replace s0 := fun wq (h : On w3 wq) => s0 wq (hb.trans h)
              replace t0 := fun wq (h : On w3 wq) => t0 wq (hb.trans h)
              replace s1 := fun wq (h : On w3 wq) => s1 wq (hb.trans h)
              replace e2 := fun wq (h : On w3 wq) => e2 wq (hb.trans h)
              replace hb0 := On.refl w3
              replace hb1 : ∀ ob : Obj, On w3 (w3.alloc ob) := fun ob => (On.refl w3).alloc ob
              have HB := Lib.hid (HB.out.trans hb)
              clear hb hb'
              go_wp2_with (first | ((with_reducible apply csr_ld); (case ho => exact rfl); (case hgd => exact rfl); (case hx => exact rfl); (case hg => (first | exact s0 _ (by first | exact hb0 | exact hb1 _) | exact t0 _ (by first | exact hb0 | exact hb1 _) | exact s1 _ (by first | exact hb0 | exact hb1 _) | exact heap_alloc_new _ _))) | ((with_reducible apply env_ld); (case ho => exact rfl); (case hgd => exact rfl); (case hx => exact rfl); (case hg => (first | exact s0 _ (by first | exact hb0 | exact hb1 _) | exact t0 _ (by first | exact hb0 | exact hb1 _) | exact s1 _ (by first | exact hb0 | exact hb1 _) | exact heap_alloc_new _ _))) | ((with_reducible apply csr_new_st); (case ho => exact rfl); (case hgd => exact rfl); (case hx => exact rfl); (case hy => exact rfl)))
              go_at_call 14; refine (K4.out _).mono ?_; rintro _ w4 ⟨rfl, hb'⟩
              have s2 := fun wq (h : On w4 wq) => (hb'.trans h).keep (heap_alloc_new _ _)
              have hb := (hb1 _).trans hb'
              replace s0 := fun wq (h : On w4 wq) => s0 wq (hb.trans h)
              replace t0 := fun wq (h : On w4 wq) => t0 wq (hb.trans h)
              replace s1 := fun wq (h : On w4 wq) => s1 wq (hb.trans h)
              replace e2 := fun wq (h : On w4 wq) => e2 wq (hb.trans h)
              replace hb0 := On.refl w4
              replace hb1 : ∀ ob : Obj, On w4 (w4.alloc ob) := fun ob => (On.refl w4).alloc ob
              have HB := Lib.hid (HB.out.trans hb)
              clear hb hb'
              go_wp2_with (first | ((with_reducible apply csr_ld); (case ho => exact rfl); (case hgd => exact rfl); (case hx => exact rfl); (case hg => (first | exact s0 _ (by first | exact hb0 | exact hb1 _) | exact t0 _ (by first | exact hb0 | exact hb1 _) | exact s1 _ (by first | exact hb0 | exact hb1 _) | exact s2 _ (by first | exact hb0 | exact hb1 _) | exact heap_alloc_new _ _))) | ((with_reducible apply env_ld); (case ho => exact rfl); (case hgd => exact rfl); (case hx => exact rfl); (case hg => (first | exact s0 _ (by first | exact hb0 | exact hb1 _) | exact t0 _ (by first | exact hb0 | exact hb1 _) | exact s1 _ (by first | exact hb0 | exact hb1 _) | exact s2 _ (by first | exact hb0 | exact hb1 _) | exact heap_alloc_new _ _))) | ((with_reducible apply csr_new_st); (case ho => exact rfl); (case hgd => exact rfl); (case hx => exact rfl); (case hy => exact rfl)))
              go_ret
              exact ⟨rfl, HB.out⟩
            · have hd : rdb c 836 3 = true := by unfold mayB at hm; exact (Bool.and_eq_true_iff.1 hm).1
              have hd' : ∀ x, rdb x 836 3 = true := fun x => (rdb_3 x c 836).trans hd
              have hr : ron 836 = false := by unfold mayB at hm; rw [hd] at hm; simpa using hm
              have K1 : Hid (∀ w, Calls Try.prog 18 #[.agg (cV c), .int .i64 836, .int .i64 3, .int .u64 (u v), .agg (eV e p q)] w fun r w' => r = .returned (.tuple #[.agg (cV (kp c e 836 v)), .int .i64 0]) ∧ On w w') := Lib.hid (fun w => write_yes c e p q 836 3 v hd hr w)
              have K2 : Hid (∀ w, Calls Try.prog 14 #[.agg (cV (kp c e 836 v)), .int .i64 836, .int .i64 3, .agg (eV e p q)] w fun r w' => r = .returned (.tuple #[.int .u64 (u (rv (kp c e 836 v) e 836)), .int .i64 0]) ∧ On w w') := Lib.hid (fun w => read_yes (kp c e 836 v) e p q 836 3 (hd' _) w)
              have K3 : Hid (∀ w, Calls Try.prog 18 #[.agg (cV (kp c e 836 v)), .int .i64 836, .int .i64 3, .int .u64 (u (rv (kp c e 836 v) e 836)), .agg (eV e p q)] w fun r w' => r = .returned (.tuple #[.agg (cV (kp (kp c e 836 v) e 836 (rv (kp c e 836 v) e 836))), .int .i64 0]) ∧ On w w') := Lib.hid (fun w => by have := write_yes (kp c e 836 v) e p q 836 3 (rv (kp c e 836 v) e 836) (hd' _) hr w; exact this)
              have K4 : Hid (∀ w, Calls Try.prog 14 #[.agg (cV (kp (kp c e 836 v) e 836 (rv (kp c e 836 v) e 836))), .int .i64 836, .int .i64 3, .agg (eV e p q)] w fun r w' => r = .returned (.tuple #[.int .u64 (u (rv (kp c e 836 v) e 836)), .int .i64 0]) ∧ On w w') := Lib.hid (fun w => by have := read_yes (kp (kp c e 836 v) e 836 (rv (kp c e 836 v) e 836)) e p q 836 3 (hd' _) w; rw [ip_again] at this; exact this)
              have tl : (bits .and .u64 (u (e 2)) 512 != 0) = true := by rw [show (512 : Int) = u 0x200#64 from rfl, u_and, bne, show (0 : Int) = u 0#64 from rfl, u_beq]; simp [hl]
              clear hm hd hd' hr hl
              generalize hy : (kp (kp c e 836 v) e 836 (rv (kp c e 836 v) e 836)) = y at *
              clear hy
              generalize hw : (rv (kp c e 836 v) e 836) = r at *
              clear hw
              generalize (kp c e 836 v) = x at *
              have s0 : ∀ wq, On wr wq → wq.heap[C]? = some (.cells (cV c) 25 (0, 0)) := fun _ h => h.keep (hc)
              have t0 : ∀ wq, On wr wq → wq.heap[w.heap.size]? = some (.cells (eV e p q) 27 (0, 0)) := fun _ h => h.keep (hT)
              have hb0 := On.refl (wr)
              have hb1 : ∀ ob : Obj, On (wr) ((wr).alloc ob) := fun ob => (On.refl _).alloc ob
              have e2 : ∀ wq, On wr wq → wq.cell? ⟨w.heap.size, 2, none⟩ = some (.int .u64 (u (e 2))) := fun _ h => blk_cell (t0 _ h) 2 (eV_get e p q 2 (by omega))
              have HB := HB0
              go_wp2_with (first | ((with_reducible apply csr_ld); (case ho => exact rfl); (case hgd => exact rfl); (case hx => exact rfl); (case hg => (first | exact s0 _ (by first | exact hb0 | exact hb1 _) | exact t0 _ (by first | exact hb0 | exact hb1 _) | exact heap_alloc_new _ _))) | ((with_reducible apply env_ld); (case ho => exact rfl); (case hgd => exact rfl); (case hx => exact rfl); (case hg => (first | exact s0 _ (by first | exact hb0 | exact hb1 _) | exact t0 _ (by first | exact hb0 | exact hb1 _) | exact heap_alloc_new _ _))) | ((with_reducible apply csr_new_st); (case ho => exact rfl); (case hgd => exact rfl); (case hx => exact rfl); (case hy => exact rfl)))
              go_at_call 18; refine (K1.out _).mono ?_; rintro _ w1 ⟨rfl, hb'⟩
              have hb := hb'
              replace s0 := fun wq (h : On w1 wq) => s0 wq (hb.trans h)
              replace t0 := fun wq (h : On w1 wq) => t0 wq (hb.trans h)
              replace e2 := fun wq (h : On w1 wq) => e2 wq (hb.trans h)
              replace hb0 := On.refl w1
              replace hb1 : ∀ ob : Obj, On w1 (w1.alloc ob) := fun ob => (On.refl w1).alloc ob
              have HB := Lib.hid (HB.out.trans hb)
              clear hb hb'
              go_wp2_with (first | ((with_reducible apply csr_ld); (case ho => exact rfl); (case hgd => exact rfl); (case hx => exact rfl); (case hg => (first | exact s0 _ (by first | exact hb0 | exact hb1 _) | exact t0 _ (by first | exact hb0 | exact hb1 _) | exact heap_alloc_new _ _))) | ((with_reducible apply env_ld); (case ho => exact rfl); (case hgd => exact rfl); (case hx => exact rfl); (case hg => (first | exact s0 _ (by first | exact hb0 | exact hb1 _) | exact t0 _ (by first | exact hb0 | exact hb1 _) | exact heap_alloc_new _ _))) | ((with_reducible apply csr_new_st); (case ho => exact rfl); (case hgd => exact rfl); (case hx => exact rfl); (case hy => exact rfl)))
              go_at_call 14; refine (K2.out _).mono ?_; rintro _ w2 ⟨rfl, hb'⟩
              have s1 := fun wq (h : On w2 wq) => (hb'.trans h).keep (heap_alloc_new _ _)
              have hb := (hb1 _).trans hb'
              replace s0 := fun wq (h : On w2 wq) => s0 wq (hb.trans h)
              replace t0 := fun wq (h : On w2 wq) => t0 wq (hb.trans h)
              replace e2 := fun wq (h : On w2 wq) => e2 wq (hb.trans h)
              replace hb0 := On.refl w2
              replace hb1 : ∀ ob : Obj, On w2 (w2.alloc ob) := fun ob => (On.refl w2).alloc ob
              have HB := Lib.hid (HB.out.trans hb)
              clear hb hb'
              go_wp2_with (first | ((with_reducible apply csr_ld); (case ho => exact rfl); (case hgd => exact rfl); (case hx => exact rfl); (case hg => (first | exact s0 _ (by first | exact hb0 | exact hb1 _) | exact t0 _ (by first | exact hb0 | exact hb1 _) | exact s1 _ (by first | exact hb0 | exact hb1 _) | exact heap_alloc_new _ _))) | ((with_reducible apply env_ld); (case ho => exact rfl); (case hgd => exact rfl); (case hx => exact rfl); (case hg => (first | exact s0 _ (by first | exact hb0 | exact hb1 _) | exact t0 _ (by first | exact hb0 | exact hb1 _) | exact s1 _ (by first | exact hb0 | exact hb1 _) | exact heap_alloc_new _ _))) | ((with_reducible apply csr_new_st); (case ho => exact rfl); (case hgd => exact rfl); (case hx => exact rfl); (case hy => exact rfl)))
              go_at_call 18; refine (K3.out _).mono ?_; rintro _ w3 ⟨rfl, hb'⟩
              have hb := hb'
              replace s0 := fun wq (h : On w3 wq) => s0 wq (hb.trans h)
              replace t0 := fun wq (h : On w3 wq) => t0 wq (hb.trans h)
              replace s1 := fun wq (h : On w3 wq) => s1 wq (hb.trans h)
              replace e2 := fun wq (h : On w3 wq) => e2 wq (hb.trans h)
              replace hb0 := On.refl w3
              replace hb1 : ∀ ob : Obj, On w3 (w3.alloc ob) := fun ob => (On.refl w3).alloc ob
              have HB := Lib.hid (HB.out.trans hb)
              clear hb hb'
              go_wp2_with (first | ((with_reducible apply csr_ld); (case ho => exact rfl); (case hgd => exact rfl); (case hx => exact rfl); (case hg => (first | exact s0 _ (by first | exact hb0 | exact hb1 _) | exact t0 _ (by first | exact hb0 | exact hb1 _) | exact s1 _ (by first | exact hb0 | exact hb1 _) | exact heap_alloc_new _ _))) | ((with_reducible apply env_ld); (case ho => exact rfl); (case hgd => exact rfl); (case hx => exact rfl); (case hg => (first | exact s0 _ (by first | exact hb0 | exact hb1 _) | exact t0 _ (by first | exact hb0 | exact hb1 _) | exact s1 _ (by first | exact hb0 | exact hb1 _) | exact heap_alloc_new _ _))) | ((with_reducible apply csr_new_st); (case ho => exact rfl); (case hgd => exact rfl); (case hx => exact rfl); (case hy => exact rfl)))
              go_at_call 14; refine (K4.out _).mono ?_; rintro _ w4 ⟨rfl, hb'⟩
              have s2 := fun wq (h : On w4 wq) => (hb'.trans h).keep (heap_alloc_new _ _)
              have hb := (hb1 _).trans hb'
              replace s0 := fun wq (h : On w4 wq) => s0 wq (hb.trans h)
              replace t0 := fun wq (h : On w4 wq) => t0 wq (hb.trans h)
              replace s1 := fun wq (h : On w4 wq) => s1 wq (hb.trans h)
              replace e2 := fun wq (h : On w4 wq) => e2 wq (hb.trans h)
              replace hb0 := On.refl w4
              replace hb1 : ∀ ob : Obj, On w4 (w4.alloc ob) := fun ob => (On.refl w4).alloc ob
              have HB := Lib.hid (HB.out.trans hb)
              clear hb hb'
              go_wp2_with (first | ((with_reducible apply csr_ld); (case ho => exact rfl); (case hgd => exact rfl); (case hx => exact rfl); (case hg => (first | exact s0 _ (by first | exact hb0 | exact hb1 _) | exact t0 _ (by first | exact hb0 | exact hb1 _) | exact s1 _ (by first | exact hb0 | exact hb1 _) | exact s2 _ (by first | exact hb0 | exact hb1 _) | exact heap_alloc_new _ _))) | ((with_reducible apply env_ld); (case ho => exact rfl); (case hgd => exact rfl); (case hx => exact rfl); (case hg => (first | exact s0 _ (by first | exact hb0 | exact hb1 _) | exact t0 _ (by first | exact hb0 | exact hb1 _) | exact s1 _ (by first | exact hb0 | exact hb1 _) | exact s2 _ (by first | exact hb0 | exact hb1 _) | exact heap_alloc_new _ _))) | ((with_reducible apply csr_new_st); (case ho => exact rfl); (case hgd => exact rfl); (case hx => exact rfl); (case hy => exact rfl)))
              go_ret
              exact ⟨rfl, HB.out⟩
          · have hd : rdb c a1 3 = true := by unfold mayB at hm; exact (Bool.and_eq_true_iff.1 hm).1
            have hd' : ∀ x, rdb x a1 3 = true := fun x => (rdb_3 x c a1).trans hd
            have hr : ron a1 = false := by unfold mayB at hm; rw [hd] at hm; simpa using hm
            have K1 : Hid (∀ w, Calls Try.prog 18 #[.agg (cV c), .int .i64 a1, .int .i64 3, .int .u64 (u v), .agg (eV e p q)] w fun r w' => r = .returned (.tuple #[.agg (cV (kp c e a1 v)), .int .i64 0]) ∧ On w w') := Lib.hid (fun w => write_yes c e p q a1 3 v hd hr w)
            have K2 : Hid (∀ w, Calls Try.prog 14 #[.agg (cV (kp c e a1 v)), .int .i64 a1, .int .i64 3, .agg (eV e p q)] w fun r w' => r = .returned (.tuple #[.int .u64 (u (rv (kp c e a1 v) e a1)), .int .i64 0]) ∧ On w w') := Lib.hid (fun w => read_yes (kp c e a1 v) e p q a1 3 (hd' _) w)
            have K3 : Hid (∀ w, Calls Try.prog 18 #[.agg (cV (kp c e a1 v)), .int .i64 a1, .int .i64 3, .int .u64 (u (rv (kp c e a1 v) e a1)), .agg (eV e p q)] w fun r w' => r = .returned (.tuple #[.agg (cV (kp c e a1 v)), .int .i64 0]) ∧ On w w') := Lib.hid (fun w => by have := write_yes (kp c e a1 v) e p q a1 3 (rv (kp c e a1 v) e a1) (hd' _) hr w; rw [kp_back c e a1 v (rdb_ex hd) h836] at this; exact this)
            have K4 : Hid (∀ w, Calls Try.prog 14 #[.agg (cV (kp c e a1 v)), .int .i64 a1, .int .i64 3, .agg (eV e p q)] w fun r w' => r = .returned (.tuple #[.int .u64 (u (rv (kp c e a1 v) e a1)), .int .i64 0]) ∧ On w w') := Lib.hid (fun w => read_yes (kp c e a1 v) e p q a1 3 (hd' _) w)
            have t836 : (a1 == 836) = false := beq_eq_false_iff_ne.2 h836
            clear hm hd hd' hr h836
            generalize hw : (rv (kp c e a1 v) e a1) = r at *
            clear hw
            generalize (kp c e a1 v) = x at *
            have s0 : ∀ wq, On wr wq → wq.heap[C]? = some (.cells (cV c) 25 (0, 0)) := fun _ h => h.keep (hc)
            have t0 : ∀ wq, On wr wq → wq.heap[w.heap.size]? = some (.cells (eV e p q) 27 (0, 0)) := fun _ h => h.keep (hT)
            have hb0 := On.refl (wr)
            have hb1 : ∀ ob : Obj, On (wr) ((wr).alloc ob) := fun ob => (On.refl _).alloc ob
            have e2 : ∀ wq, On wr wq → wq.cell? ⟨w.heap.size, 2, none⟩ = some (.int .u64 (u (e 2))) := fun _ h => blk_cell (t0 _ h) 2 (eV_get e p q 2 (by omega))
            have HB := HB0
            go_wp2_with (first | ((with_reducible apply csr_ld); (case ho => exact rfl); (case hgd => exact rfl); (case hx => exact rfl); (case hg => (first | exact s0 _ (by first | exact hb0 | exact hb1 _) | exact t0 _ (by first | exact hb0 | exact hb1 _) | exact heap_alloc_new _ _))) | ((with_reducible apply env_ld); (case ho => exact rfl); (case hgd => exact rfl); (case hx => exact rfl); (case hg => (first | exact s0 _ (by first | exact hb0 | exact hb1 _) | exact t0 _ (by first | exact hb0 | exact hb1 _) | exact heap_alloc_new _ _))) | ((with_reducible apply csr_new_st); (case ho => exact rfl); (case hgd => exact rfl); (case hx => exact rfl); (case hy => exact rfl)))
            go_at_call 18; refine (K1.out _).mono ?_; rintro _ w1 ⟨rfl, hb'⟩
            have hb := hb'
            replace s0 := fun wq (h : On w1 wq) => s0 wq (hb.trans h)
            replace t0 := fun wq (h : On w1 wq) => t0 wq (hb.trans h)
            replace e2 := fun wq (h : On w1 wq) => e2 wq (hb.trans h)
            replace hb0 := On.refl w1
            replace hb1 : ∀ ob : Obj, On w1 (w1.alloc ob) := fun ob => (On.refl w1).alloc ob
            have HB := Lib.hid (HB.out.trans hb)
            clear hb hb'
            go_wp2_with (first | ((with_reducible apply csr_ld); (case ho => exact rfl); (case hgd => exact rfl); (case hx => exact rfl); (case hg => (first | exact s0 _ (by first | exact hb0 | exact hb1 _) | exact t0 _ (by first | exact hb0 | exact hb1 _) | exact heap_alloc_new _ _))) | ((with_reducible apply env_ld); (case ho => exact rfl); (case hgd => exact rfl); (case hx => exact rfl); (case hg => (first | exact s0 _ (by first | exact hb0 | exact hb1 _) | exact t0 _ (by first | exact hb0 | exact hb1 _) | exact heap_alloc_new _ _))) | ((with_reducible apply csr_new_st); (case ho => exact rfl); (case hgd => exact rfl); (case hx => exact rfl); (case hy => exact rfl)))
            go_at_call 14; refine (K2.out _).mono ?_; rintro _ w2 ⟨rfl, hb'⟩
            have s1 := fun wq (h : On w2 wq) => (hb'.trans h).keep (heap_alloc_new _ _)
            have hb := (hb1 _).trans hb'
            replace s0 := fun wq (h : On w2 wq) => s0 wq (hb.trans h)
            replace t0 := fun wq (h : On w2 wq) => t0 wq (hb.trans h)
            replace e2 := fun wq (h : On w2 wq) => e2 wq (hb.trans h)
            replace hb0 := On.refl w2
            replace hb1 : ∀ ob : Obj, On w2 (w2.alloc ob) := fun ob => (On.refl w2).alloc ob
            have HB := Lib.hid (HB.out.trans hb)
            clear hb hb'
            go_wp2_with (first | ((with_reducible apply csr_ld); (case ho => exact rfl); (case hgd => exact rfl); (case hx => exact rfl); (case hg => (first | exact s0 _ (by first | exact hb0 | exact hb1 _) | exact t0 _ (by first | exact hb0 | exact hb1 _) | exact s1 _ (by first | exact hb0 | exact hb1 _) | exact heap_alloc_new _ _))) | ((with_reducible apply env_ld); (case ho => exact rfl); (case hgd => exact rfl); (case hx => exact rfl); (case hg => (first | exact s0 _ (by first | exact hb0 | exact hb1 _) | exact t0 _ (by first | exact hb0 | exact hb1 _) | exact s1 _ (by first | exact hb0 | exact hb1 _) | exact heap_alloc_new _ _))) | ((with_reducible apply csr_new_st); (case ho => exact rfl); (case hgd => exact rfl); (case hx => exact rfl); (case hy => exact rfl)))
            go_at_call 18; refine (K3.out _).mono ?_; rintro _ w3 ⟨rfl, hb'⟩
            have hb := hb'
            replace s0 := fun wq (h : On w3 wq) => s0 wq (hb.trans h)
            replace t0 := fun wq (h : On w3 wq) => t0 wq (hb.trans h)
            replace s1 := fun wq (h : On w3 wq) => s1 wq (hb.trans h)
            replace e2 := fun wq (h : On w3 wq) => e2 wq (hb.trans h)
            replace hb0 := On.refl w3
            replace hb1 : ∀ ob : Obj, On w3 (w3.alloc ob) := fun ob => (On.refl w3).alloc ob
            have HB := Lib.hid (HB.out.trans hb)
            clear hb hb'
            go_wp2_with (first | ((with_reducible apply csr_ld); (case ho => exact rfl); (case hgd => exact rfl); (case hx => exact rfl); (case hg => (first | exact s0 _ (by first | exact hb0 | exact hb1 _) | exact t0 _ (by first | exact hb0 | exact hb1 _) | exact s1 _ (by first | exact hb0 | exact hb1 _) | exact heap_alloc_new _ _))) | ((with_reducible apply env_ld); (case ho => exact rfl); (case hgd => exact rfl); (case hx => exact rfl); (case hg => (first | exact s0 _ (by first | exact hb0 | exact hb1 _) | exact t0 _ (by first | exact hb0 | exact hb1 _) | exact s1 _ (by first | exact hb0 | exact hb1 _) | exact heap_alloc_new _ _))) | ((with_reducible apply csr_new_st); (case ho => exact rfl); (case hgd => exact rfl); (case hx => exact rfl); (case hy => exact rfl)))
            go_at_call 14; refine (K4.out _).mono ?_; rintro _ w4 ⟨rfl, hb'⟩
            have s2 := fun wq (h : On w4 wq) => (hb'.trans h).keep (heap_alloc_new _ _)
            have hb := (hb1 _).trans hb'
            replace s0 := fun wq (h : On w4 wq) => s0 wq (hb.trans h)
            replace t0 := fun wq (h : On w4 wq) => t0 wq (hb.trans h)
            replace s1 := fun wq (h : On w4 wq) => s1 wq (hb.trans h)
            replace e2 := fun wq (h : On w4 wq) => e2 wq (hb.trans h)
            replace hb0 := On.refl w4
            replace hb1 : ∀ ob : Obj, On w4 (w4.alloc ob) := fun ob => (On.refl w4).alloc ob
            have HB := Lib.hid (HB.out.trans hb)
            clear hb hb'
            go_wp2_with (first | ((with_reducible apply csr_ld); (case ho => exact rfl); (case hgd => exact rfl); (case hx => exact rfl); (case hg => (first | exact s0 _ (by first | exact hb0 | exact hb1 _) | exact t0 _ (by first | exact hb0 | exact hb1 _) | exact s1 _ (by first | exact hb0 | exact hb1 _) | exact s2 _ (by first | exact hb0 | exact hb1 _) | exact heap_alloc_new _ _))) | ((with_reducible apply env_ld); (case ho => exact rfl); (case hgd => exact rfl); (case hx => exact rfl); (case hg => (first | exact s0 _ (by first | exact hb0 | exact hb1 _) | exact t0 _ (by first | exact hb0 | exact hb1 _) | exact s1 _ (by first | exact hb0 | exact hb1 _) | exact s2 _ (by first | exact hb0 | exact hb1 _) | exact heap_alloc_new _ _))) | ((with_reducible apply csr_new_st); (case ho => exact rfl); (case hgd => exact rfl); (case hx => exact rfl); (case hy => exact rfl)))
            go_ret
            exact ⟨rfl, HB.out⟩

set_option maxRecDepth 100000 in
theorem lifted (os : Os) (started : os.Started) (H : Type) (enc : TypeId × Value → H) :
    ReturnsInHanded {} Try.checked os 8 .any (Rows.csrBackSpec.pre6 enc Try.prog Try.f8 Rows.csrBackRow.domain false) (Rows.csrBackSpec.post enc Try.prog Try.f8 false true false false) := by
  refine returnsInHanded_of_change (C := Try.checked) own started (by kernel_rfl) Try.func8
    (ChangeSpec.witness6 (enc := enc) (C := Try.checked) false ⟨#[], #[.slice none 0 0, .int .i64 0, .int .u64 0, .agg #[.int .u64 0, .int .u64 0, .int .u64 0, .int .u64 0, .int .u64 0, .int .u64 0, .int .u64 0, .bool false, .int .u64 0, .bool false]], []⟩ 12 (by kernel_rfl) (by kernel_rfl) (by kernel_rfl) (by kernel_rfl)) ?_
  intro W base args ds gs before hval0 hW hcnd _
  have hval : ∀ (j : Nat) t v, Try.f8.params[j]? = some t → args[j]? = some v → Value.okWide Try.prog W .any base t v := hval0
  have hW' := hW
  obtain ⟨p, q, hA0, hV, rfl, hfz, hnd⟩ := hW
  have hA : DataW.TrodAll enc Try.prog W 0 (fun _ => true) true Try.f8.params.toList args.toList ds p := hA0
  rw [Try.params8] at hA hval
  obtain ⟨v0, vs0, d0, ds0, p0, q0, hargs, rfl, rfl, h0, r0⟩ := trodAll_cons hA
  obtain ⟨v1, vs1, d1, ds1, p1, q1, rfl, rfl, rfl, h1, r1⟩ := trodAll_cons r0
  obtain ⟨v2, vs2, d2, ds2, p2, q2, rfl, rfl, rfl, h2, r2⟩ := trodAll_cons r1
  obtain ⟨v3, vs3, d3, ds3, p3, q3, rfl, rfl, rfl, h3, r3⟩ := trodAll_cons r2
  obtain ⟨rfl, rfl, rfl⟩ := trodAll_nil r3
  obtain rfl : args = #[v0, v1, v2, v3] := by cases args; simp_all
  obtain ⟨rfl, rfl⟩ := trodVars_none hV
  have k0 := h0
  have lt0 : ∀ x ∈ p0, x.block < W.heap.size := fun x hx => by have := hW'.lt x (by simp [hx]); simpa using this
  obtain ⟨a0, l0, c0, rfl, w0⟩ := open_row 12 [.int .i64, .int .i64, .int .i64, .int .u64, .bool, .int .u64, .int .u64, .int .u64, .int .u64, .int .u64, .int .u64, .int .u64, .bool, .int .u64, .bool] (by kernel_rfl) (by kernel_rfl) (by decide) Try.underlying45 (hval 0 45 v0 rfl rfl) h0
  clear h0
  obtain ⟨a1, rfl, rfl, rfl, w1⟩ := open_int Try.underlying3 (hval 1 3 v1 rfl rfl) h1
  obtain ⟨a2, rfl, rfl, rfl, w2⟩ := open_int Try.underlying22 (hval 2 22 v2 rfl rfl) h2
  have k3 := h3
  have l3 : ∀ x ∈ p3, x.block < W.heap.size := fun x hx => by have := hW'.lt x (by simp [hx]); simpa using this
  obtain ⟨c3, rfl, f3⟩ := open_flat 12 [.int .u64, .int .u64, .int .u64, .int .u64, .int .u64, .int .u64, .int .u64, .bool, .int .u64, .bool] (by kernel_rfl) (by kernel_rfl) (.inl ⟨_, Try.underlying27⟩) (hval 3 27 v3 rfl rfl) h3
  clear h3
  clear hA0 hval0
  refine (walk W a0 l0 c0 w0 a1 w1 a2 w2 c3 f3).mono fun e W' ⟨he, bel⟩ => ?_
  subst he
  exact ⟨_, rfl, _, _, _, [], _, [], hW', trodAll_mk1 (shut_bool Try.underlying4 _), (trodAll_cons_mk (Below.trod (by kernel_rfl) (by kernel_rfl) (of_decide_eq_true (by kernel_rfl)) k0 bel lt0) (trodAll_cons_mk (shut_int Try.underlying3 w1) (trodAll_cons_mk (shut_int Try.underlying22 w2) (trodAll_cons_mk (Below.trod (by kernel_rfl) (by kernel_rfl) (of_decide_eq_true (by kernel_rfl)) k3 bel l3) trodAll_mk0)))), rfl, bel.frame _, fun h => by cases h⟩

theorem over : Rows.csrBackRow.holds Try.pinned (OpenSpec.ofChange Rows.csrBackSpec) :=
  OpenClaim.holds_of_wide 8 Try.f8 rfl rfl rfl rfl rfl rfl rfl ⟨rfl, rfl, rfl, rfl, rfl⟩ rfl rfl rfl rfl rfl (by kernel_rfl) Try.func8 (by kernel_rfl)
    (of_decide_eq_true (by kernel_rfl)) (by unfold Func.isWrapper; first | (rw [if_pos (by decide +kernel)]; kernel_rfl) | (rw [if_neg (by decide +kernel)]; exact ⟨rfl, rfl⟩))
    (fun os started H enc _ => lifted os started H enc)

theorem proved : Rows.CsrBackSaid :=
  over
#print axioms proved
end Go.Proofs.Ytoobbapdjoajgaa.csrBack
