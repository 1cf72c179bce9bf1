/- Proves that for every word and every three numbers two fields side by side are the field of both, and that the bytes of two halves, one behind the other, are the word's, and that the first test of the law holds. Conditions: none. -/
import Derived.Test.YtlicpmokcnoeoaaRows
import Derived.Test.YtlicpmokcnoeoaaAwake
import Derived.Test.YtlicpmokcnoeoaaHelp
import Derived.Test.YtlicpmokcnoeoaaFacts
import Derived.WalkKit
import Derived.ProofKit
import Derived.OpenShut
import Derived.Below
import Derived.ShutString
namespace Go.Proofs.Ytlicpmokcnoeoaa.bitsJoin
open Go.ChangeShapes Go.WideShapes Go.ChangeAt Go.RowKit
open Go.ChangeMaps (open_string shut_string)
set_option linter.unusedVariables false

theorem own : ownKnob Try.prog.godebug = none := by kernel_rfl

theorem walk (a0 : Int) (a1 : Int) (a2 : Int) (a3 : Int) (w0 : (Lit.int .u64 a0).wf = true) (w1 : (Lit.int .i64 a1).wf = true) (w2 : (Lit.int .i64 a2).wf = true) (w3 : (Lit.int .i64 a3).wf = true) (w : World) :
    Calls Try.prog 9 #[.int .u64 a0, .int .i64 a1, .int .i64 a2, .int .i64 a3] w fun e w' => e = .returned (.bool true) ∧ Below w.heap.size w w' := by
  obtain ⟨v, rfl⟩ := u_of w0
  clear w0 w1 w2 w3
  obtain ⟨i0, hi, hz0, hz1, hz2⟩ := info_parts u8_info
  have HX : Hid (u v / 4294967296 = u (v >>> 32)) := Lib.hid (u_shr v 32)
  by_cases h1 : a3 < 0
  · have e1 : decide (a3 < 0) = true := decide_eq_true h1
    go_enter Try.func9, Try.ntmps9
    go_wp2_with fail
    refine (awake_yes _).mono ?_
    rintro e w1 ⟨rfl, n1, hw1⟩
    have HW1 := Lib.hid hw1
    clear hw1
    go_wp2_with fail
    refine (awake_yes _).mono ?_
    rintro e w2 ⟨rfl, n2, hw2⟩
    have HW2 := Lib.hid hw2
    clear hw2
    go_wp2_with fail
    refine (bytes_four rfl w2).mono ?_
    rintro e w3 ⟨rfl, hw3⟩
    have HW3 := Lib.hid hw3
    have hs3 : w3.heap.size = w2.heap.size + 1 := by rw [hw3]; simp
    clear hw3
    go_wp2_with fail
    refine (bytes_four HX.out w3).mono ?_
    rintro e w4 ⟨rfl, hw4⟩
    have HH : Hid (Halves v w2 w4) := Lib.hid (halves_made v w2 w3 w4 HW3.out hw4)
    have HS3 := Lib.hid hs3
    clear hw4 hs3
    go_wp2_with (at_builtin; refine wpList_wanted rfl (fun K hK => ?_); refine wp_append_own _ _ _ 29 rfl w2.heap.size 5 i0 (.int .u8 0) 1 1 Try.underlying29 hi hz0 hz1 hz2 rfl (by decide) _ 4 _ rfl HH.out.left ⟨w3.heap.size, 0, none⟩ 4 4 (rowTo (v >>> 32) 4 4).toList rfl HH.out.length (by rw [HS3.out]; exact HH.out.right) HH.out.one (by unfold maxLen; omega) (by omega) HH.out.size ?_; intro r w5 hown hgrow _; refine hK _ _ ?_; have HO := Lib.hid hown; have HG := Lib.hid hgrow; clear hown hgrow hK K)
    refine (bytes_eight v w5).mono ?_
    rintro e w6 ⟨rfl, hw6⟩
    have HW6 := Lib.hid hw6
    clear hw6
    go_wp2_with fail
    refine (same_bytes_yes (join_left HO.out HW6.out) (join_right HW6.out)).mono ?_
    rintro e w' ⟨rfl, rfl⟩
    go_wp2_with fail
    go_ret
    exact ⟨rfl, join_below HW1.out HW2.out HH.out HG.out HW6.out⟩
  have e1 : decide (a3 < 0) = false := decide_eq_false h1
  by_cases h2 : a2 < a3
  · have e2 : decide (a2 < a3) = true := decide_eq_true h2
    go_enter Try.func9, Try.ntmps9
    go_wp2_with fail
    refine (awake_yes _).mono ?_
    rintro e w1 ⟨rfl, n1, hw1⟩
    have HW1 := Lib.hid hw1
    clear hw1
    go_wp2_with fail
    refine (awake_yes _).mono ?_
    rintro e w2 ⟨rfl, n2, hw2⟩
    have HW2 := Lib.hid hw2
    clear hw2
    go_wp2_with fail
    refine (bytes_four rfl w2).mono ?_
    rintro e w3 ⟨rfl, hw3⟩
    have HW3 := Lib.hid hw3
    have hs3 : w3.heap.size = w2.heap.size + 1 := by rw [hw3]; simp
    clear hw3
    go_wp2_with fail
    refine (bytes_four HX.out w3).mono ?_
    rintro e w4 ⟨rfl, hw4⟩
    have HH : Hid (Halves v w2 w4) := Lib.hid (halves_made v w2 w3 w4 HW3.out hw4)
    have HS3 := Lib.hid hs3
    clear hw4 hs3
    go_wp2_with (at_builtin; refine wpList_wanted rfl (fun K hK => ?_); refine wp_append_own _ _ _ 29 rfl w2.heap.size 5 i0 (.int .u8 0) 1 1 Try.underlying29 hi hz0 hz1 hz2 rfl (by decide) _ 4 _ rfl HH.out.left ⟨w3.heap.size, 0, none⟩ 4 4 (rowTo (v >>> 32) 4 4).toList rfl HH.out.length (by rw [HS3.out]; exact HH.out.right) HH.out.one (by unfold maxLen; omega) (by omega) HH.out.size ?_; intro r w5 hown hgrow _; refine hK _ _ ?_; have HO := Lib.hid hown; have HG := Lib.hid hgrow; clear hown hgrow hK K)
    refine (bytes_eight v w5).mono ?_
    rintro e w6 ⟨rfl, hw6⟩
    have HW6 := Lib.hid hw6
    clear hw6
    go_wp2_with fail
    refine (same_bytes_yes (join_left HO.out HW6.out) (join_right HW6.out)).mono ?_
    rintro e w' ⟨rfl, rfl⟩
    go_wp2_with fail
    go_ret
    exact ⟨rfl, join_below HW1.out HW2.out HH.out HG.out HW6.out⟩
  have e2 : decide (a2 < a3) = false := decide_eq_false h2
  by_cases h3 : a1 ≤ a2
  · have e3 : decide (a1 ≤ a2) = true := decide_eq_true h3
    go_enter Try.func9, Try.ntmps9
    go_wp2_with fail
    refine (awake_yes _).mono ?_
    rintro e w1 ⟨rfl, n1, hw1⟩
    have HW1 := Lib.hid hw1
    clear hw1
    go_wp2_with fail
    refine (awake_yes _).mono ?_
    rintro e w2 ⟨rfl, n2, hw2⟩
    have HW2 := Lib.hid hw2
    clear hw2
    go_wp2_with fail
    refine (bytes_four rfl w2).mono ?_
    rintro e w3 ⟨rfl, hw3⟩
    have HW3 := Lib.hid hw3
    have hs3 : w3.heap.size = w2.heap.size + 1 := by rw [hw3]; simp
    clear hw3
    go_wp2_with fail
    refine (bytes_four HX.out w3).mono ?_
    rintro e w4 ⟨rfl, hw4⟩
    have HH : Hid (Halves v w2 w4) := Lib.hid (halves_made v w2 w3 w4 HW3.out hw4)
    have HS3 := Lib.hid hs3
    clear hw4 hs3
    go_wp2_with (at_builtin; refine wpList_wanted rfl (fun K hK => ?_); refine wp_append_own _ _ _ 29 rfl w2.heap.size 5 i0 (.int .u8 0) 1 1 Try.underlying29 hi hz0 hz1 hz2 rfl (by decide) _ 4 _ rfl HH.out.left ⟨w3.heap.size, 0, none⟩ 4 4 (rowTo (v >>> 32) 4 4).toList rfl HH.out.length (by rw [HS3.out]; exact HH.out.right) HH.out.one (by unfold maxLen; omega) (by omega) HH.out.size ?_; intro r w5 hown hgrow _; refine hK _ _ ?_; have HO := Lib.hid hown; have HG := Lib.hid hgrow; clear hown hgrow hK K)
    refine (bytes_eight v w5).mono ?_
    rintro e w6 ⟨rfl, hw6⟩
    have HW6 := Lib.hid hw6
    clear hw6
    go_wp2_with fail
    refine (same_bytes_yes (join_left HO.out HW6.out) (join_right HW6.out)).mono ?_
    rintro e w' ⟨rfl, rfl⟩
    go_wp2_with fail
    go_ret
    exact ⟨rfl, join_below HW1.out HW2.out HH.out HG.out HW6.out⟩
  have e3 : decide (a1 ≤ a2) = false := decide_eq_false h3
  by_cases h4 : 63 < a1
  · have e4 : decide (63 < a1) = true := decide_eq_true h4
    go_enter Try.func9, Try.ntmps9
    go_wp2_with fail
    refine (awake_yes _).mono ?_
    rintro e w1 ⟨rfl, n1, hw1⟩
    have HW1 := Lib.hid hw1
    clear hw1
    go_wp2_with fail
    refine (awake_yes _).mono ?_
    rintro e w2 ⟨rfl, n2, hw2⟩
    have HW2 := Lib.hid hw2
    clear hw2
    go_wp2_with fail
    refine (bytes_four rfl w2).mono ?_
    rintro e w3 ⟨rfl, hw3⟩
    have HW3 := Lib.hid hw3
    have hs3 : w3.heap.size = w2.heap.size + 1 := by rw [hw3]; simp
    clear hw3
    go_wp2_with fail
    refine (bytes_four HX.out w3).mono ?_
    rintro e w4 ⟨rfl, hw4⟩
    have HH : Hid (Halves v w2 w4) := Lib.hid (halves_made v w2 w3 w4 HW3.out hw4)
    have HS3 := Lib.hid hs3
    clear hw4 hs3
    go_wp2_with (at_builtin; refine wpList_wanted rfl (fun K hK => ?_); refine wp_append_own _ _ _ 29 rfl w2.heap.size 5 i0 (.int .u8 0) 1 1 Try.underlying29 hi hz0 hz1 hz2 rfl (by decide) _ 4 _ rfl HH.out.left ⟨w3.heap.size, 0, none⟩ 4 4 (rowTo (v >>> 32) 4 4).toList rfl HH.out.length (by rw [HS3.out]; exact HH.out.right) HH.out.one (by unfold maxLen; omega) (by omega) HH.out.size ?_; intro r w5 hown hgrow _; refine hK _ _ ?_; have HO := Lib.hid hown; have HG := Lib.hid hgrow; clear hown hgrow hK K)
    refine (bytes_eight v w5).mono ?_
    rintro e w6 ⟨rfl, hw6⟩
    have HW6 := Lib.hid hw6
    clear hw6
    go_wp2_with fail
    refine (same_bytes_yes (join_left HO.out HW6.out) (join_right HW6.out)).mono ?_
    rintro e w' ⟨rfl, rfl⟩
    go_wp2_with fail
    go_ret
    exact ⟨rfl, join_below HW1.out HW2.out HH.out HG.out HW6.out⟩
  have e4 : decide (63 < a1) = false := decide_eq_false h4
  have hj := fld_join v a1 a2 a3 (by omega) (by omega) (by omega) (by omega)
  have HJ : Hid ((u (fld v a1 a3) == bits BinOp.or IntKind.u64 (IntKind.u64.wrap (u (fld v a1 (a2 + 1)) * 2 ^ (a2 + 1 - a3).toNat)) (u (fld v a2 a3))) = true) := Lib.hid (by rw [hj, u_shl, u_or]; simp)
  clear hj
  go_enter Try.func9, Try.ntmps9
  go_wp2_with (first | (go_at_call 11; refine (awake_yes _).mono ?_; rintro e w' ⟨rfl, n1, rfl⟩) | (go_at_call 12; refine (field_any _ _ _ _).mono ?_; rintro e w' ⟨rfl, n2, rfl⟩))
  go_ret
  exact ⟨congrArg (fun b => Ending.returned (Value.bool b)) HJ.out, below_drawn _ _ _⟩

set_option maxRecDepth 100000 in
theorem lifted (os : Os) (started : os.Started) (H : Type) (enc : TypeId × Value → H) :
    ReturnsInHanded {} Try.checked os 9 .any (Rows.bitsJoinSpec.pre6 enc Try.prog Try.f9 Rows.bitsJoinRow.domain false) (Rows.bitsJoinSpec.post enc Try.prog Try.f9 false true false false) := by
  refine returnsInHanded_of_change (C := Try.checked) own started (by kernel_rfl) Try.func9
    (ChangeSpec.witness6 (enc := enc) (C := Try.checked) false ⟨#[], #[.int .u64 0, .int .i64 0, .int .i64 0, .int .i64 0], []⟩ 8 (by kernel_rfl) (by kernel_rfl) (by kernel_rfl) (by kernel_rfl)) ?_
  intro W base args ds gs before hval0 hW hcnd _
  have hval : ∀ (j : Nat) t v, Try.f9.params[j]? = some t → args[j]? = some v → Value.okWide Try.prog W .any base t v := hval0
  have hW' := hW
  obtain ⟨p, q, hA0, hV, rfl, hfz, hnd⟩ := hW
  have hA : DataW.TrodAll enc Try.prog W 0 (fun _ => true) true Try.f9.params.toList args.toList ds p := hA0
  rw [Try.params9] at hA hval
  obtain ⟨v0, vs0, d0, ds0, p0, q0, hargs, rfl, rfl, h0, r0⟩ := trodAll_cons hA
  obtain ⟨v1, vs1, d1, ds1, p1, q1, rfl, rfl, rfl, h1, r1⟩ := trodAll_cons r0
  obtain ⟨v2, vs2, d2, ds2, p2, q2, rfl, rfl, rfl, h2, r2⟩ := trodAll_cons r1
  obtain ⟨v3, vs3, d3, ds3, p3, q3, rfl, rfl, rfl, h3, r3⟩ := trodAll_cons r2
  obtain ⟨rfl, rfl, rfl⟩ := trodAll_nil r3
  obtain rfl : args = #[v0, v1, v2, v3] := by cases args; simp_all
  obtain ⟨rfl, rfl⟩ := trodVars_none hV
  obtain ⟨a0, rfl, rfl, rfl, w0⟩ := open_int Try.underlying22 (hval 0 22 v0 rfl rfl) h0
  obtain ⟨a1, rfl, rfl, rfl, w1⟩ := open_int Try.underlying3 (hval 1 3 v1 rfl rfl) h1
  obtain ⟨a2, rfl, rfl, rfl, w2⟩ := open_int Try.underlying3 (hval 2 3 v2 rfl rfl) h2
  obtain ⟨a3, rfl, rfl, rfl, w3⟩ := open_int Try.underlying3 (hval 3 3 v3 rfl rfl) h3
  clear hA0 hval0
  refine (walk a0 a1 a2 a3 w0 w1 w2 w3 W).mono fun e W' ⟨he, bel⟩ => ?_
  subst he
  exact ⟨_, rfl, _, _, _, [], _, [], hW', trodAll_mk1 (shut_bool Try.underlying4 _), (trodAll_cons_mk (shut_int Try.underlying22 w0) (trodAll_cons_mk (shut_int Try.underlying3 w1) (trodAll_cons_mk (shut_int Try.underlying3 w2) (trodAll_cons_mk (shut_int Try.underlying3 w3) trodAll_mk0)))), rfl, bel.frame _, fun h => by cases h⟩

theorem over : Rows.bitsJoinRow.holds Try.pinned (OpenSpec.ofChange Rows.bitsJoinSpec) :=
  OpenClaim.holds_of_wide 9 Try.f9 rfl rfl rfl rfl rfl rfl rfl ⟨rfl, rfl, rfl, rfl, rfl⟩ rfl rfl rfl rfl rfl (by kernel_rfl) Try.func9 (by kernel_rfl)
    (of_decide_eq_true (by kernel_rfl)) (by unfold Func.isWrapper; first | (rw [if_pos (by decide +kernel)]; kernel_rfl) | (rw [if_neg (by decide +kernel)]; exact ⟨rfl, rfl⟩))
    (fun os started H enc _ => lifted os started H enc)

theorem proved : Rows.BitsJoinSaid :=
  over
#print axioms proved
end Go.Proofs.Ytlicpmokcnoeoaa.bitsJoin
