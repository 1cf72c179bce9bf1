/- Proves that from the state in which all is zero on, whatever accesses a script of up to 200 makes, after each the state is one that writes leave, and that the first test of the law holds. Conditions: none. -/
import Derived.Test.YtoobbapdjoajgaaRows
import Derived.Test.YtoobbapdjoajgaaCsrO
import Derived.Test.YtoobbapdjoajgaaRow
import Derived.WalkKit
import Derived.ProofKit
import Derived.OpenShut
import Derived.Below
import Derived.Carry
import Derived.ShutString
namespace Go.Proofs.Ytoobbapdjoajgaa.csrKeeps
open Go.ChangeShapes Go.WideShapes Go.ChangeAt Go.RowKit
set_option linter.unusedVariables false

theorem own : ownKnob Try.prog.godebug = none := by kernel_rfl

set_option maxRecDepth 100000 in
set_option maxHeartbeats 8000000 in
theorem walk (w : World) (a0 : Option Addr) (l0 c0 : Nat) (w0 : IsRow [.int .i64, .int .i64, .int .i64, .int .u64, .bool, .int .u64, .int .u64, .int .u64, .int .u64, .int .u64, .int .u64, .int .u64, .bool, .int .u64, .bool] w a0 l0) :
    Calls Try.prog 7 #[.slice a0 l0 c0] w fun e w' => e = .returned (.bool true) ∧ Below w.heap.size w w' := by
  obtain ⟨hlen, hrow⟩ := w0
  unfold maxLen at hlen
  have hZ := fun w => csr_zero w
  go_enter Try.func7, Try.ntmps7
  go_wp2_with fail
  go_at_call 17; refine (reset_any _).mono ?_; rintro _ w1 ⟨rfl, h1⟩
  go_wp2_with ((with_reducible apply csr_new_st); (case ho => exact rfl); (case hgd => exact rfl); (case hx => exact rfl); (case hy => exact rfl))
  go_at_call 16; refine (awake7_yes _).mono ?_; rintro _ w2 ⟨rfl, h2⟩
  have HI : Hid (Kp w w2 w1.heap.size) := Lib.hid (Kp.mk' okS_zero ((h1.alloc _).trans h2) h1.size (h2.keep (heap_alloc_new _ _)))
  have HROW := Lib.hid hrow
  clear h1 h2 hrow
  generalize w1.heap.size = C at *
  go_wp2_with fail
  go_loopw [4] (fun i wr => ∃ k : Nat, k ≤ l0 ∧ i = .int .i64 k ∧ Hid (Kp w wr C)) (fun i _ => l0 - (intOf i).toNat)
  case atStart => exact ⟨0, by omega, rfl, HI⟩
  case round =>
    clear HI
    obtain ⟨k, hk, rfl, HI⟩ := hrel
    by_cases hkl : k < l0
    · by_cases h200 : k < 200
      · rcases HROW.out with h0 | ⟨bl, off, rfl, hbl, hcs⟩
        · omega
        · obtain ⟨cs, hfit, hcell⟩ := hcs k hkl
          have hfit : Fits accLeaves cs := hfit
          obtain ⟨n, m, f, x, o, e, p, q, ha⟩ := aV_of hfit
          obtain ⟨c, hok, hon, hge, hlt, hc⟩ := HI.out.out
          have HA : Hid (∀ j v, (aV n m f x o e p q)[j]? = some v → wr.cell? ((⟨bl, off + k * 15, none⟩ : Addr).add j) = some v) := Lib.hid fun j v hv => by
            have hj : j < 15 := by have := (Array.getElem?_eq_some_iff.1 hv).1; rw [aV_size] at this; exact this
            rw [← ha] at hv
            rw [Go.WideShapes.add_plain]
            exact ((Below.cell hon (p := ⟨bl, off + k * 15 + j, none⟩) hbl).trans (hcell j hj)).trans (by simpa using hv)
          clear hcell hfit ha hcs
          have hc' : (wr.alloc (.cells (aV n m f x o e p q) 38)).heap[C]? = some (.cells (cV c) 25 (0, 0)) := ((On.refl _).alloc _).keep hc
          have hr' : (wr.alloc (.cells (aV n m f x o e p q) 38)).heap[wr.heap.size]? = some (.cells (aV n m f x o e p q) 38 (0, 0)) := heap_alloc_new _ _
          have n0 := blk_cell hr' 0 (aV_0 n m f x o e p q)
          have n1 := blk_cell hr' 1 (aV_1 n m f x o e p q)
          have n2 := blk_cell hr' 2 (aV_2 n m f x o e p q)
          have n3 := blk_cell hr' 3 (aV_3 n m f x o e p q)
          have n4 := blk_cell hr' 4 (aV_4 n m f x o e p q)
          go_wp2_with (first | ((with_reducible apply csr_ld); (case ho => exact rfl); (case hgd => exact rfl); (case hx => exact rfl); (case hg => exact hc')) | ((with_reducible apply acc_env); (case ho => exact rfl); (case hgd => exact rfl); (case hx => exact rfl); (case hg => exact hr')) | ((with_reducible apply cells_ld); (case hT => exact accT); (case ho => exact rfl); (case hgd => exact rfl); (case hx => exact rfl); (case hc => exact HA.out); (case hs => exact aV_size ..)) | ((with_reducible apply acc_new_st); (case ho => exact rfl); (case hgd => exact rfl); (case hx => exact rfl); (case hy => exact rfl); (case hold => exact rfl); (case hs => exact aV_size ..); (case h1 => exact aV_one ..)))
          go_at_call 20; refine (modify_any c e p q n m f x o _).mono ?_; rintro _ w5 ⟨rfl, h5⟩
          have hc5 := h5.keep hc'
          have hon5 : On w w5 := (hon.alloc _).trans h5
          have hok5 := @mdC_ok c e n m f x o hok
          have hlt5 : C < w5.heap.size := blk_lt hc5
          clear hc' hr' n0 n1 n2 n3 n4 h5 hc HA hon
          generalize mdC c e n m f x o = z at *
          generalize mdV c e n m f o = y at *
          have hcz : (w5.alloc (.cells (cV z) 25)).heap[C]? = some (.cells (cV c) 25 (0, 0)) := ((On.refl _).alloc _).keep hc5
          cases mdB c n m f o
          · have hk0 : okE false = 7 := rfl
            rw [hk0]
            have hc7 : (w5.alloc (.cells (cV z) 25)).heap[C]? = some (.cells (cV c) 25 (0, 0)) := hcz
            have hon7 : On w (w5.alloc (.cells (cV z) 25)) := hon5.alloc _
            go_wp2_with (first | ((with_reducible apply csr_new_st); (case ho => exact rfl); (case hgd => exact rfl); (case hx => exact rfl); (case hy => exact rfl)) | ((with_reducible apply csr_ld); (case ho => exact rfl); (case hgd => exact rfl); (case hx => exact rfl); (case hg => exact heap_alloc_new _ _)) | ((with_reducible apply csr_st); (case ho => exact rfl); (case hgd => exact rfl); (case hx => exact rfl); (case hy => exact rfl); (case hg => exact hcz)) | ((with_reducible apply csr_ld); (case ho => exact rfl); (case hgd => exact rfl); (case hx => exact rfl); (case hg => exact hc7)))
            go_at_call 28; refine (rmay_ok _ hok _).mono ?_; rintro _ w8 ⟨rfl, h8⟩
            have HN := Lib.hid (Kp.mk' hok (hon7.trans h8) hge (h8.keep hc7))
            clear hcz hc5 hc7 hon7 h8 hon5 hge hlt hlt5
            go_wp2
            go_roundw
            case rel => exact ⟨k + 1, by omega, by go_num, HN⟩
            case measure => simp [intOf]; omega
          · have hk0 : okE true = 0 := rfl
            rw [hk0]
            have hc7 : ((w5.alloc (.cells (cV z) 25)).setRow C (cV z)).heap[C]? = some (.cells (cV z) 25 (0, 0)) := set_row hcz
            have hon7 : On w ((w5.alloc (.cells (cV z) 25)).setRow C (cV z)) := (hon5.alloc _).row _ _ hge
            go_wp2_with (first | ((with_reducible apply csr_new_st); (case ho => exact rfl); (case hgd => exact rfl); (case hx => exact rfl); (case hy => exact rfl)) | ((with_reducible apply csr_ld); (case ho => exact rfl); (case hgd => exact rfl); (case hx => exact rfl); (case hg => exact heap_alloc_new _ _)) | ((with_reducible apply csr_st); (case ho => exact rfl); (case hgd => exact rfl); (case hx => exact rfl); (case hy => exact rfl); (case hg => exact hcz)) | ((with_reducible apply csr_ld); (case ho => exact rfl); (case hgd => exact rfl); (case hx => exact rfl); (case hg => exact hc7)))
            go_at_call 28; refine (rmay_ok _ hok5 _).mono ?_; rintro _ w8 ⟨rfl, h8⟩
            have HN := Lib.hid (Kp.mk' hok5 (hon7.trans h8) hge (h8.keep hc7))
            clear hcz hc5 hc7 hon7 h8 hon5 hge hlt hlt5
            go_wp2
            go_roundw
            case rel => exact ⟨k + 1, by omega, by go_num, HN⟩
            case measure => simp [intOf]; omega
      · obtain ⟨c, hok, hon, hge, hlt, hc⟩ := HI.out.out
        go_wp2
        go_ret
        exact ⟨rfl, hon⟩
    · obtain ⟨c, hok, hon, hge, hlt, hc⟩ := HI.out.out
      go_wp2
      go_ret
      exact ⟨rfl, hon⟩

set_option maxRecDepth 100000 in
theorem lifted (os : Os) (started : os.Started) (H : Type) (enc : TypeId × Value → H) :
    ReturnsInHanded {} Try.checked os 7 .any (Rows.csrKeepsSpec.pre6 enc Try.prog Try.f7 Rows.csrKeepsRow.domain false) (Rows.csrKeepsSpec.post enc Try.prog Try.f7 false true false false) := by
  refine returnsInHanded_of_change (C := Try.checked) own started (by kernel_rfl) Try.func7
    (ChangeSpec.witness6 (enc := enc) (C := Try.checked) false ⟨#[], #[.slice none 0 0], []⟩ 12 (by kernel_rfl) (by kernel_rfl) (by kernel_rfl) (by kernel_rfl)) ?_
  intro W base args ds gs before hval0 hW hcnd _
  have hval : ∀ (j : Nat) t v, Try.f7.params[j]? = some t → args[j]? = some v → Value.okWide Try.prog W .any base t v := hval0
  have hW' := hW
  obtain ⟨p, q, hA0, hV, rfl, hfz, hnd⟩ := hW
  have hA : DataW.TrodAll enc Try.prog W 0 (fun _ => true) true Try.f7.params.toList args.toList ds p := hA0
  rw [Try.params7] at hA hval
  obtain ⟨v0, vs0, d0, ds0, p0, q0, hargs, rfl, rfl, h0, r0⟩ := trodAll_cons hA
  obtain ⟨rfl, rfl, rfl⟩ := trodAll_nil r0
  obtain rfl : args = #[v0] := by cases args; simp_all
  obtain ⟨rfl, rfl⟩ := trodVars_none hV
  have k0 := h0
  have lt0 : ∀ x ∈ p0, x.block < W.heap.size := fun x hx => by have := hW'.lt x (by simp [hx]); simpa using this
  obtain ⟨a0, l0, c0, rfl, w0⟩ := open_row 12 [.int .i64, .int .i64, .int .i64, .int .u64, .bool, .int .u64, .int .u64, .int .u64, .int .u64, .int .u64, .int .u64, .int .u64, .bool, .int .u64, .bool] (by kernel_rfl) (by kernel_rfl) (by decide) Try.underlying45 (hval 0 45 v0 rfl rfl) h0
  clear h0
  clear hA0 hval0
  refine (walk W a0 l0 c0 w0).mono fun e W' ⟨he, bel⟩ => ?_
  subst he
  exact ⟨_, rfl, _, _, _, [], _, [], hW', trodAll_mk1 (shut_bool Try.underlying4 _), (trodAll_cons_mk (Below.trod (by kernel_rfl) (by kernel_rfl) (of_decide_eq_true (by kernel_rfl)) k0 bel lt0) trodAll_mk0), rfl, bel.frame _, fun h => by cases h⟩

theorem over : Rows.csrKeepsRow.holds Try.pinned (OpenSpec.ofChange Rows.csrKeepsSpec) :=
  OpenClaim.holds_of_wide 7 Try.f7 rfl rfl rfl rfl rfl rfl rfl ⟨rfl, rfl, rfl, rfl, rfl⟩ rfl rfl rfl rfl rfl (by kernel_rfl) Try.func7 (by kernel_rfl)
    (of_decide_eq_true (by kernel_rfl)) (by unfold Func.isWrapper; first | (rw [if_pos (by decide +kernel)]; kernel_rfl) | (rw [if_neg (by decide +kernel)]; exact ⟨rfl, rfl⟩))
    (fun os started H enc _ => lifted os started H enc)

theorem proved : Rows.CsrKeepsSaid :=
  over
#print axioms proved
end Go.Proofs.Ytoobbapdjoajgaa.csrKeeps
