/- Proves that for any two words, of either size, the least and the greatest are these two, with signs and without, that the least is not above the greatest, that what is swapped in is the word, and that the first test of the law holds. Conditions: none. -/
import Derived.Test.YthafghechghbpaaRows
import Derived.Test.YthafghechghbpaaAmoR
import Derived.WalkKit
import Derived.ProofKit
import Derived.OpenShut
import Derived.Below
import Derived.Carry
import Derived.ShutString
import Derived.Laws.EntriesVeiled
import Derived.BigQuiet
import Derived.Deep.QuietTactic
namespace Go.Proofs.Ythafghechghbpaa.amoPairs
open Go.ChangeShapes Go.WideShapes Go.ChangeAt Go.RowKit
set_option linter.unusedVariables false

theorem own : ownKnob Try.prog.godebug = none := by kernel_rfl

set_option maxRecDepth 100000 in
set_option maxHeartbeats 1000000 in
theorem walk (a0 : Int) (w0 : (Lit.int .u64 a0).wf = true) (a1 : Int) (w1 : (Lit.int .u64 a1).wf = true) (a2 : Bool) (w : World) :
    Calls Try.prog 6 #[.int .u64 a0, .int .u64 a1, .bool a2] w fun e w' => e = .returned (.bool true) ∧ Below w.heap.size w w' := by
  obtain ⟨a, rfl⟩ := u_of w0
  obtain ⟨b, rfl⟩ := u_of w1
  clear w0 w1
  cases a2
  · have E1 : amE 16 4 = 0 := rfl
    have E2 : amE 20 4 = 0 := rfl
    have E3 : amE 24 4 = 0 := rfl
    have E4 : amE 28 4 = 0 := rfl
    have E5 : amE 1 4 = 0 := rfl
    go_enter Try.func6, Try.ntmps6
    go_wp2_with (first | (go_at_call 9; refine (new_any _ _ _ _ _).mono ?_; rintro e wn ⟨rfl, rfl⟩) | (go_at_call 11; refine (awake6_yes _).mono ?_; rintro e wn ⟨rfl, rfl⟩))
    have P1 := Lib.hid (pair_4 16 20 a b rfl rfl (pair_s _ _))
    have P2 := Lib.hid (pair_4 24 28 a b rfl rfl (pair_u _ _))
    have L1 : u (amV 24 4 a b) ≤ u (amV 28 4 a b) := leu_4 a b
    have L2 : wrap64 (u (ext (amV 16 4 a b) 4 true)) ≤ wrap64 (u (ext (amV 20 4 a b) 4 true)) := les_4 a b
    have S : (u (amV 1 4 a b) == u (ext b 4 false)) = true := by rw [swp_4]; exact beq_self_eq_true _
    generalize amV 16 4 a b = V1 at *
    generalize amV 20 4 a b = V2 at *
    generalize amV 24 4 a b = V3 at *
    generalize amV 28 4 a b = V4 at *
    generalize amV 1 4 a b = V5 at *
    obtain ⟨h3, h4, h7, h8⟩ := four_cells w 22 22 3 38 (.int .u64 (u a)) (.int .u64 (u b)) (.int .i64 4) (.func (.func 22) #[] #[.pointer (some ⟨w.heap.size + 1 + 1, 0, none⟩)])
    have HB : Hid (On w ((((w.alloc (.cells #[.int .u64 (u a)] 22)).alloc (.cells #[.int .u64 (u b)] 22)).alloc (.cells #[.int .i64 4] 3)).alloc (.cells #[.func (.func 22) #[] #[.pointer (some ⟨w.heap.size + 1 + 1, 0, none⟩)]] 38))) := Lib.hid (((((On.refl w).alloc _).alloc _).alloc _).alloc _)
    generalize ((((w.alloc (.cells #[.int .u64 (u a)] 22)).alloc (.cells #[.int .u64 (u b)] 22)).alloc (.cells #[.int .i64 4] 3)).alloc (.cells #[.func (.func 22) #[] #[.pointer (some ⟨w.heap.size + 1 + 1, 0, none⟩)]] 38)) = WR at *
    have K7 := Lib.hid h7
    have K8 := Lib.hid h8
    have K3 := Lib.hid h3
    have K4 := Lib.hid h4
    go_quiet ((first | (go_at_call 23; exact two_q _ _ a b 4 _ _ _ _ WR K7 K8 K3 K4 (by first | exact P1 | exact P2) _) | (go_at_call 22; exact cut_q _ 4 _ WR K7 _) | (go_at_call 12; exact ext_q _ _ _ WR _)))
    go_wp2
    go_ret
    exact ⟨rfl, HB.out.drewN _⟩
  · have E1 : amE 16 8 = 0 := rfl
    have E2 : amE 20 8 = 0 := rfl
    have E3 : amE 24 8 = 0 := rfl
    have E4 : amE 28 8 = 0 := rfl
    have E5 : amE 1 8 = 0 := rfl
    go_enter Try.func6, Try.ntmps6
    go_wp2_with (first | (go_at_call 9; refine (new_any _ _ _ _ _).mono ?_; rintro e wn ⟨rfl, rfl⟩) | (go_at_call 11; refine (awake6_yes _).mono ?_; rintro e wn ⟨rfl, rfl⟩))
    have P1 := Lib.hid (pair_8 16 20 a b rfl rfl (pair_s _ _))
    have P2 := Lib.hid (pair_8 24 28 a b rfl rfl (pair_u _ _))
    have L1 : u (amV 24 8 a b) ≤ u (amV 28 8 a b) := leu_8 a b
    have L2 : wrap64 (u (ext (amV 16 8 a b) 8 true)) ≤ wrap64 (u (ext (amV 20 8 a b) 8 true)) := les_8 a b
    have S : (u (amV 1 8 a b) == u (ext b 8 false)) = true := by rw [swp_8]; exact beq_self_eq_true _
    generalize amV 16 8 a b = V1 at *
    generalize amV 20 8 a b = V2 at *
    generalize amV 24 8 a b = V3 at *
    generalize amV 28 8 a b = V4 at *
    generalize amV 1 8 a b = V5 at *
    obtain ⟨h3, h4, h7, h8⟩ := four_cells w 22 22 3 38 (.int .u64 (u a)) (.int .u64 (u b)) (.int .i64 8) (.func (.func 22) #[] #[.pointer (some ⟨w.heap.size + 1 + 1, 0, none⟩)])
    have HB : Hid (On w ((((w.alloc (.cells #[.int .u64 (u a)] 22)).alloc (.cells #[.int .u64 (u b)] 22)).alloc (.cells #[.int .i64 8] 3)).alloc (.cells #[.func (.func 22) #[] #[.pointer (some ⟨w.heap.size + 1 + 1, 0, none⟩)]] 38))) := Lib.hid (((((On.refl w).alloc _).alloc _).alloc _).alloc _)
    generalize ((((w.alloc (.cells #[.int .u64 (u a)] 22)).alloc (.cells #[.int .u64 (u b)] 22)).alloc (.cells #[.int .i64 8] 3)).alloc (.cells #[.func (.func 22) #[] #[.pointer (some ⟨w.heap.size + 1 + 1, 0, none⟩)]] 38)) = WR at *
    have K7 := Lib.hid h7
    have K8 := Lib.hid h8
    have K3 := Lib.hid h3
    have K4 := Lib.hid h4
    go_quiet ((first | (go_at_call 23; exact two_q _ _ a b 8 _ _ _ _ WR K7 K8 K3 K4 (by first | exact P1 | exact P2) _) | (go_at_call 22; exact cut_q _ 8 _ WR K7 _) | (go_at_call 12; exact ext_q _ _ _ WR _)))
    go_wp2
    go_ret
    exact ⟨rfl, HB.out.drewN _⟩

set_option maxRecDepth 100000 in
theorem lifted (os : Os) (started : os.Started) (H : Type) (enc : TypeId × Value → H) :
    ReturnsInHanded {} Try.checked os 6 .any (Rows.amoPairsSpec.pre6 enc Try.prog Try.f6 Rows.amoPairsRow.domain false) (Rows.amoPairsSpec.post enc Try.prog Try.f6 false true false false) := by
  refine returnsInHanded_of_change (C := Try.checked) own started (by kernel_rfl) Try.func6
    (ChangeSpec.witness6 (enc := enc) (C := Try.checked) false ⟨#[], #[.int .u64 0, .int .u64 0, .bool false], []⟩ 12 (by kernel_rfl) (by kernel_rfl) (by kernel_rfl) (by kernel_rfl)) ?_
  intro W base args ds gs before hval0 hW hcnd _
  have hval : ∀ (j : Nat) t v, Try.f6.params[j]? = some t → args[j]? = some v → Value.okWide Try.prog W .any base t v := hval0
  have hW' := hW
  obtain ⟨p, q, hA0, hV, rfl, hfz, hnd⟩ := hW
  have hA : DataW.TrodAll enc Try.prog W 0 (fun _ => true) true Try.f6.params.toList args.toList ds p := hA0
  rw [Try.params6] at hA hval
  obtain ⟨v0, vs0, d0, ds0, p0, q0, hargs, rfl, rfl, h0, r0⟩ := trodAll_cons hA
  obtain ⟨v1, vs1, d1, ds1, p1, q1, rfl, rfl, rfl, h1, r1⟩ := trodAll_cons r0
  obtain ⟨v2, vs2, d2, ds2, p2, q2, rfl, rfl, rfl, h2, r2⟩ := trodAll_cons r1
  obtain ⟨rfl, rfl, rfl⟩ := trodAll_nil r2
  obtain rfl : args = #[v0, v1, v2] := by cases args; simp_all
  obtain ⟨rfl, rfl⟩ := trodVars_none hV
  obtain ⟨a0, rfl, rfl, rfl, w0⟩ := open_int Try.underlying22 (hval 0 22 v0 rfl rfl) h0
  obtain ⟨a1, rfl, rfl, rfl, w1⟩ := open_int Try.underlying22 (hval 1 22 v1 rfl rfl) h1
  obtain ⟨a2, rfl, rfl, rfl⟩ := open_bool Try.underlying4 (hval 2 4 v2 rfl rfl) h2
  clear hA0 hval0
  refine (walk a0 w0 a1 w1 a2 W).mono fun e W' ⟨he, bel⟩ => ?_
  subst he
  exact ⟨_, rfl, _, _, _, [], _, [], hW', trodAll_mk1 (shut_bool Try.underlying4 _), (trodAll_cons_mk (shut_int Try.underlying22 w0) (trodAll_cons_mk (shut_int Try.underlying22 w1) (trodAll_cons_mk (shut_bool Try.underlying4 _) trodAll_mk0))), rfl, bel.frame _, fun h => by cases h⟩

theorem over : Rows.amoPairsRow.holds Try.pinned (OpenSpec.ofChange Rows.amoPairsSpec) :=
  OpenClaim.holds_of_wide 6 Try.f6 rfl rfl rfl rfl rfl rfl rfl ⟨rfl, rfl, rfl, rfl, rfl⟩ rfl rfl rfl rfl rfl (by kernel_rfl) Try.func6 (by kernel_rfl)
    (of_decide_eq_true (by kernel_rfl)) (by unfold Func.isWrapper; first | (rw [if_pos (by decide +kernel)]; kernel_rfl) | (rw [if_neg (by decide +kernel)]; exact ⟨rfl, rfl⟩))
    (fun os started H enc _ => lifted os started H enc)

theorem proved : Rows.AmoPairsSaid :=
  over
#print axioms proved
end Go.Proofs.Ythafghechghbpaa.amoPairs
