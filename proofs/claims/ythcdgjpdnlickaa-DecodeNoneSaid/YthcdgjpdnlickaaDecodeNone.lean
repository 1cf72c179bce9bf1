/- Proves that what is no instruction is zero in all, and that what is one has registers from 0 to 31 and a size that the document names, and that the first test of the law holds. Conditions: none. -/
import Derived.Test.YthcdgjpdnlickaaRows
import Derived.Test.YthcdgjpdnlickaaDecA
import Derived.Test.YthcdgjpdnlickaaDecP
import Derived.WalkKit
import Derived.ProofKit
import Derived.OpenShut
import Derived.Below
import Derived.Carry
import Derived.ShutString
import Derived.Lib.QuietBelow
namespace Go.Proofs.Ythcdgjpdnlickaa.decodeNone
open Go.ChangeShapes Go.WideShapes Go.ChangeAt Go.RowKit
set_option linter.unusedVariables false

theorem own : ownKnob Try.prog.godebug = none := by kernel_rfl

set_option maxRecDepth 100000 in
set_option maxHeartbeats 8000000 in
theorem walk (a0 : Int) (w0 : (Lit.int .u32 a0).wf = true) (w : World) :
    Calls Try.prog 4 #[.int .u32 a0] w fun e w' => e = .returned (.bool true) ∧ Below w.heap.size w w' := by
  obtain ⟨x, rfl⟩ := q_of w0
  clear w0
  have HB := Lib.hid (On.refl w)
  have hd := decode_any x
  rcases dec_good x with hz | ⟨⟨g1, g2, g3, ⟨g4, g5⟩, ⟨g6, g7⟩, ⟨g8, g9⟩, g10⟩, g11⟩
  · rw [hz] at hd
    have hd' : ∀ w, Calls Try.prog 7 #[.int .u32 (q x)] w fun e w' => e = .returned (.agg #[.int .i64 0, .int .i64 0, .int .i64 0, .int .i64 0, .int .i64 0, .int .u64 0, .int .i64 0, .bool false, .bool false, .bool false, .int .i64 0]) ∧ On w w' := hd
    have HD := Lib.hid hd'
    clear hd hd' hz
    go_enter Try.func4, Try.ntmps4
    go_wp2_with (first | (go_at_call 7; refine (HD.out _).mono ?_; rintro e wn ⟨rfl, h⟩; replace HB := tr HB h; clear h) | (go_at_call 6; refine (awake3_yes _).mono ?_; rintro e wm ⟨rfl, h⟩; obtain ⟨k0, k1, k2, k3, k4, k5, k6, k7, k8, k9, k10, kf, hlt⟩ := own11 h; replace HB := tr1 HB h; clear h) | (go_at_call 6; refine (awake3_yes _).mono ?_; rintro e wx ⟨rfl, h⟩; have h11 := keep11 h hlt k0 k1 k2 k3 k4 k5 k6 k7 k8 k9 k10 kf; replace HB := tr HB h; clear h hlt k0 k1 k2 k3 k4 k5 k6 k7 k8 k9 k10 kf; obtain ⟨k0, k1, k2, k3, k4, k5, k6, k7, k8, k9, k10, kf, hlt⟩ := h11))
    go_ret
    exact ⟨by first | rfl | simp, HB.out⟩
  · obtain ⟨i, hi⟩ : ∃ i, decOf x = i := ⟨_, rfl⟩
    rw [hi] at hd g1 g2 g3 g4 g5 g6 g7 g8 g9 g10
    clear hi
    obtain ⟨o, f, d, s, t, m, z, a, b, c, k⟩ := i
    have hd' : ∀ w, Calls Try.prog 7 #[.int .u32 (q x)] w fun e w' => e = .returned (.agg #[.int .i64 o, .int .i64 f, .int .i64 d, .int .i64 s, .int .i64 t, .int .u64 (u m), .int .i64 z, .bool a, .bool b, .bool c, .int .i64 k]) ∧ On w w' := hd
    dsimp only at g1 g2 g3 g4 g5 g6 g7 g8 g9 g10
    have b0 : (o == 0) = false := by simp; omega
    have b1 : decide (0 < o) = true := decide_eq_true g1
    have b2 : decide (o ≤ 22) = true := decide_eq_true g2
    have b3 : decide (0 ≤ d) = true := decide_eq_true g4
    have b4 : decide (d < 32) = true := decide_eq_true g5
    have b5 : decide (0 ≤ s) = true := decide_eq_true g6
    have b6 : decide (s < 32) = true := decide_eq_true g7
    have b7 : decide (0 ≤ t) = true := decide_eq_true g8
    have b8 : decide (t < 32) = true := decide_eq_true g9
    have b9 : (bits .and .u32 (q x) 3 == 3) = true := low2_test g11
    have HD := Lib.hid hd'
    clear hd hd' g1 g2 g4 g5 g6 g7 g8 g9 g11
    rcases g3 with rfl | rfl | rfl | rfl | rfl
    all_goals (
      replace g10 := g10.symm
      simp only [Int.lt_irrefl, decide_false, decide_true, Int.reduceLT] at g10
      go_enter Try.func4, Try.ntmps4
      go_wp2_with (first | (go_at_call 7; refine (HD.out _).mono ?_; rintro e wn ⟨rfl, h⟩; replace HB := tr HB h; clear h) | (go_at_call 6; refine (awake3_yes _).mono ?_; rintro e wm ⟨rfl, h⟩; obtain ⟨k0, k1, k2, k3, k4, k5, k6, k7, k8, k9, k10, kf, hlt⟩ := own11 h; replace HB := tr1 HB h; clear h) | (go_at_call 6; refine (awake3_yes _).mono ?_; rintro e wx ⟨rfl, h⟩; have h11 := keep11 h hlt k0 k1 k2 k3 k4 k5 k6 k7 k8 k9 k10 kf; replace HB := tr HB h; clear h hlt k0 k1 k2 k3 k4 k5 k6 k7 k8 k9 k10 kf; obtain ⟨k0, k1, k2, k3, k4, k5, k6, k7, k8, k9, k10, kf, hlt⟩ := h11))
      have c0 := fun d' os' => cell_regrown k0 d' os'
      have c1 := fun d' os' => cell_regrown k1 d' os'
      have c2 := fun d' os' => cell_regrown k2 d' os'
      have c3 := fun d' os' => cell_regrown k3 d' os'
      have c4 := fun d' os' => cell_regrown k4 d' os'
      have c5 := fun d' os' => cell_regrown k5 d' os'
      have c6 := fun d' os' => cell_regrown k6 d' os'
      have c7 := fun d' os' => cell_regrown k7 d' os'
      have c8 := fun d' os' => cell_regrown k8 d' os'
      have c9 := fun d' os' => cell_regrown k9 d' os'
      have c10 := fun d' os' => cell_regrown k10 d' os'
      refine wp_region_quiet_below (by kernel_rfl) (by kernel_rfl) ?_
      repeat (go_big_quiet_step (first | (go_at_call 9; exact Calls.on_of (mem_any _ _ _ _ _ _ _ _ _ _ _ _))))
      refine wpQuiet_nil ?_
      intro _ hw'
      obtain ⟨⟨dq, osq⟩, hw''⟩ := hw'
      subst hw''
      go_wp2
      go_ret
      exact ⟨by first | rfl | simp, HB.out.grow _ _⟩)

set_option maxRecDepth 100000 in
theorem lifted (os : Os) (started : os.Started) (H : Type) (enc : TypeId × Value → H) :
    ReturnsInHanded {} Try.checked os 4 .any (Rows.decodeNoneSpec.pre6 enc Try.prog Try.f4 Rows.decodeNoneRow.domain false) (Rows.decodeNoneSpec.post enc Try.prog Try.f4 false true false false) := by
  refine returnsInHanded_of_change (C := Try.checked) own started (by kernel_rfl) Try.func4
    (ChangeSpec.witness6 (enc := enc) (C := Try.checked) false ⟨#[], #[.int .u32 0], []⟩ 12 (by kernel_rfl) (by kernel_rfl) (by kernel_rfl) (by kernel_rfl)) ?_
  intro W base args ds gs before hval0 hW hcnd _
  have hval : ∀ (j : Nat) t v, Try.f4.params[j]? = some t → args[j]? = some v → Value.okWide Try.prog W .any base t v := hval0
  have hW' := hW
  obtain ⟨p, q, hA0, hV, rfl, hfz, hnd⟩ := hW
  have hA : DataW.TrodAll enc Try.prog W 0 (fun _ => true) true Try.f4.params.toList args.toList ds p := hA0
  rw [Try.params4] at hA hval
  obtain ⟨v0, vs0, d0, ds0, p0, q0, hargs, rfl, rfl, h0, r0⟩ := trodAll_cons hA
  obtain ⟨rfl, rfl, rfl⟩ := trodAll_nil r0
  obtain rfl : args = #[v0] := by cases args; simp_all
  obtain ⟨rfl, rfl⟩ := trodVars_none hV
  obtain ⟨a0, rfl, rfl, rfl, w0⟩ := open_int Try.underlying22 (hval 0 22 v0 rfl rfl) h0
  clear hA0 hval0
  refine (walk a0 w0 W).mono fun e W' ⟨he, bel⟩ => ?_
  subst he
  exact ⟨_, rfl, _, _, _, [], _, [], hW', trodAll_mk1 (shut_bool Try.underlying4 _), (trodAll_cons_mk (shut_int Try.underlying22 w0) trodAll_mk0), rfl, bel.frame _, fun h => by cases h⟩

theorem over : Rows.decodeNoneRow.holds Try.pinned (OpenSpec.ofChange Rows.decodeNoneSpec) :=
  OpenClaim.holds_of_wide 4 Try.f4 rfl rfl rfl rfl rfl rfl rfl ⟨rfl, rfl, rfl, rfl, rfl⟩ rfl rfl rfl rfl rfl (by kernel_rfl) Try.func4 (by kernel_rfl)
    (of_decide_eq_true (by kernel_rfl)) (by unfold Func.isWrapper; first | (rw [if_pos (by decide +kernel)]; kernel_rfl) | (rw [if_neg (by decide +kernel)]; exact ⟨rfl, rfl⟩))
    (fun os started H enc _ => lifted os started H enc)

theorem proved : Rows.DecodeNoneSaid :=
  over
#print axioms proved
end Go.Proofs.Ythcdgjpdnlickaa.decodeNone
