/- Proves that for any word and any number the word that is extended twice, with a sign or without, is the one that is extended once, that without a sign nothing is above its lowest bytes, and that all eight bytes are the word itself, and that the first test of the law holds. Conditions: none. -/
import Derived.Test.YthafghechghbpaaRows
import Derived.Test.YthafghechghbpaaAmoQ
import Derived.WalkKit
import Derived.ProofKit
import Derived.OpenShut
import Derived.Below
import Derived.Carry
import Derived.ShutString
namespace Go.Proofs.Ythafghechghbpaa.amoLoads
open Go.ChangeShapes Go.WideShapes Go.ChangeAt Go.RowKit
set_option linter.unusedVariables false

theorem own : ownKnob Try.prog.godebug = none := by kernel_rfl

set_option maxRecDepth 100000 in
set_option maxHeartbeats 1000000 in
theorem walk (a0 : Int) (w0 : (Lit.int .u64 a0).wf = true) (a1 : Int) (w1 : (Lit.int .i64 a1).wf = true) (w : World) :
    Calls Try.prog 8 #[.int .u64 a0, .int .i64 a1] w fun e w' => e = .returned (.bool true) ∧ Below w.heap.size w w' := by
  obtain ⟨v, rfl⟩ := u_of w0
  clear w0 w1
  have HB := Lib.hid (On.refl w)
  obtain ⟨j, hj, hk⟩ := and3 a1
  rcases hj with rfl | rfl | rfl | rfl
  · have t1 : (u (ext (ext v 1 true) 1 true) == u (ext v 1 true)) = true := by rw [ss v 1 (by omega)]; exact beq_self_eq_true _
    have t2 : (u (ext (ext v 1 true) 1 false) == u (ext v 1 false)) = true := by rw [sz v 1 (by omega)]; exact beq_self_eq_true _
    have t3 : (u (ext (ext v 1 false) 1 true) == u (ext v 1 true)) = true := by rw [zs v 1 (by omega)]; exact beq_self_eq_true _
    have t4 : (u (ext v 1 false) / 256 == 0) = true := zxt_shr v 8
    go_enter Try.func8, Try.ntmps8
    go_wp2_with (first | (go_at_call 12; refine (ext_any _ _ _ _).mono ?_; rintro e wn ⟨rfl, rfl⟩) | (go_at_call 11; refine (awake6_yes _).mono ?_; rintro e wn ⟨rfl, rfl⟩))
    go_ret
    exact ⟨rfl, HB.out⟩
  · have t1 : (u (ext (ext v 2 true) 2 true) == u (ext v 2 true)) = true := by rw [ss v 2 (by omega)]; exact beq_self_eq_true _
    have t2 : (u (ext (ext v 2 true) 2 false) == u (ext v 2 false)) = true := by rw [sz v 2 (by omega)]; exact beq_self_eq_true _
    have t3 : (u (ext (ext v 2 false) 2 true) == u (ext v 2 true)) = true := by rw [zs v 2 (by omega)]; exact beq_self_eq_true _
    have t4 : (u (ext v 2 false) / 65536 == 0) = true := zxt_shr v 16
    go_enter Try.func8, Try.ntmps8
    go_wp2_with (first | (go_at_call 12; refine (ext_any _ _ _ _).mono ?_; rintro e wn ⟨rfl, rfl⟩) | (go_at_call 11; refine (awake6_yes _).mono ?_; rintro e wn ⟨rfl, rfl⟩))
    go_ret
    exact ⟨rfl, HB.out⟩
  · have t1 : (u (ext (ext v 4 true) 4 true) == u (ext v 4 true)) = true := by rw [ss v 4 (by omega)]; exact beq_self_eq_true _
    have t2 : (u (ext (ext v 4 true) 4 false) == u (ext v 4 false)) = true := by rw [sz v 4 (by omega)]; exact beq_self_eq_true _
    have t3 : (u (ext (ext v 4 false) 4 true) == u (ext v 4 true)) = true := by rw [zs v 4 (by omega)]; exact beq_self_eq_true _
    have t4 : (u (ext v 4 false) / 4294967296 == 0) = true := zxt_shr v 32
    go_enter Try.func8, Try.ntmps8
    go_wp2_with (first | (go_at_call 12; refine (ext_any _ _ _ _).mono ?_; rintro e wn ⟨rfl, rfl⟩) | (go_at_call 11; refine (awake6_yes _).mono ?_; rintro e wn ⟨rfl, rfl⟩))
    go_ret
    exact ⟨rfl, HB.out⟩
  · have t1 : (u (ext (ext v 8 true) 8 true) == u (ext v 8 true)) = true := by rw [ss v 8 (by omega)]; exact beq_self_eq_true _
    have t2 : (u (ext (ext v 8 true) 8 false) == u (ext v 8 false)) = true := by rw [sz v 8 (by omega)]; exact beq_self_eq_true _
    have t3 : (u (ext (ext v 8 false) 8 true) == u (ext v 8 true)) = true := by rw [zs v 8 (by omega)]; exact beq_self_eq_true _
    have t4 : (u (ext v 8 true) == u v) = true := by rw [(ext_8 v).1]; exact beq_self_eq_true _
    have t5 : (u (ext v 8 false) == u v) = true := by rw [(ext_8 v).2]; exact beq_self_eq_true _
    go_enter Try.func8, Try.ntmps8
    go_wp2_with (first | (go_at_call 12; refine (ext_any _ _ _ _).mono ?_; rintro e wn ⟨rfl, rfl⟩) | (go_at_call 11; refine (awake6_yes _).mono ?_; rintro e wn ⟨rfl, rfl⟩))
    go_ret
    exact ⟨rfl, HB.out⟩

set_option maxRecDepth 100000 in
theorem lifted (os : Os) (started : os.Started) (H : Type) (enc : TypeId × Value → H) :
    ReturnsInHanded {} Try.checked os 8 .any (Rows.amoLoadsSpec.pre6 enc Try.prog Try.f8 Rows.amoLoadsRow.domain false) (Rows.amoLoadsSpec.post enc Try.prog Try.f8 false true false false) := by
  refine returnsInHanded_of_change (C := Try.checked) own started (by kernel_rfl) Try.func8
    (ChangeSpec.witness6 (enc := enc) (C := Try.checked) false ⟨#[], #[.int .u64 0, .int .i64 0], []⟩ 12 (by kernel_rfl) (by kernel_rfl) (by kernel_rfl) (by kernel_rfl)) ?_
  intro W base args ds gs before hval0 hW hcnd _
  have hval : ∀ (j : Nat) t v, Try.f8.params[j]? = some t → args[j]? = some v → Value.okWide Try.prog W .any base t v := hval0
  have hW' := hW
  obtain ⟨p, q, hA0, hV, rfl, hfz, hnd⟩ := hW
  have hA : DataW.TrodAll enc Try.prog W 0 (fun _ => true) true Try.f8.params.toList args.toList ds p := hA0
  rw [Try.params8] at hA hval
  obtain ⟨v0, vs0, d0, ds0, p0, q0, hargs, rfl, rfl, h0, r0⟩ := trodAll_cons hA
  obtain ⟨v1, vs1, d1, ds1, p1, q1, rfl, rfl, rfl, h1, r1⟩ := trodAll_cons r0
  obtain ⟨rfl, rfl, rfl⟩ := trodAll_nil r1
  obtain rfl : args = #[v0, v1] := by cases args; simp_all
  obtain ⟨rfl, rfl⟩ := trodVars_none hV
  obtain ⟨a0, rfl, rfl, rfl, w0⟩ := open_int Try.underlying22 (hval 0 22 v0 rfl rfl) h0
  obtain ⟨a1, rfl, rfl, rfl, w1⟩ := open_int Try.underlying3 (hval 1 3 v1 rfl rfl) h1
  clear hA0 hval0
  refine (walk a0 w0 a1 w1 W).mono fun e W' ⟨he, bel⟩ => ?_
  subst he
  exact ⟨_, rfl, _, _, _, [], _, [], hW', trodAll_mk1 (shut_bool Try.underlying4 _), (trodAll_cons_mk (shut_int Try.underlying22 w0) (trodAll_cons_mk (shut_int Try.underlying3 w1) trodAll_mk0)), rfl, bel.frame _, fun h => by cases h⟩

theorem over : Rows.amoLoadsRow.holds Try.pinned (OpenSpec.ofChange Rows.amoLoadsSpec) :=
  OpenClaim.holds_of_wide 8 Try.f8 rfl rfl rfl rfl rfl rfl rfl ⟨rfl, rfl, rfl, rfl, rfl⟩ rfl rfl rfl rfl rfl (by kernel_rfl) Try.func8 (by kernel_rfl)
    (of_decide_eq_true (by kernel_rfl)) (by unfold Func.isWrapper; first | (rw [if_pos (by decide +kernel)]; kernel_rfl) | (rw [if_neg (by decide +kernel)]; exact ⟨rfl, rfl⟩))
    (fun os started H enc _ => lifted os started H enc)

theorem proved : Rows.AmoLoadsSaid :=
  over
#print axioms proved
end Go.Proofs.Ythafghechghbpaa.amoLoads
