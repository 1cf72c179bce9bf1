/- Proves that for any two words a sum less one of both is the other one, and likewise with words of 32 bits, as far as their signs go, and that the first test of the law holds. Conditions: none. -/
import Derived.Test.YtomecgfodchegaaRows
import Derived.Test.YtomecgfodchegaaAluT
import Derived.Test.YtomecgfodchegaaAluV
import Derived.WalkKit
import Derived.ProofKit
import Derived.OpenShut
import Derived.Below
import Derived.Carry
import Derived.ShutString
namespace Go.Proofs.Ytomecgfodchegaa.aluSums
open Go.ChangeShapes Go.WideShapes Go.ChangeAt Go.RowKit
set_option linter.unusedVariables false

theorem own : ownKnob Try.prog.godebug = none := by kernel_rfl

theorem walk (a0 : Int) (w0 : (Lit.int .u64 a0).wf = true) (a1 : Int) (w1 : (Lit.int .u64 a1).wf = true) (a2 : Bool) (w : World) :
    Calls Try.prog 5 #[.int .u64 a0, .int .u64 a1, .bool a2] w fun e w' => e = .returned (.bool true) ∧ Below w.heap.size w w' := by
  obtain ⟨a, rfl⟩ := u_of w0
  obtain ⟨b, rfl⟩ := u_of w1
  clear w0 w1
  have HB := Lib.hid (On.refl w)
  cases a2
  · have t1 : (u (al 8 false (al 0 false a b) b) == u a) = true := by rw [u_beq]; show (a + b - b == a) = true; rw [BitVec.add_sub_cancel]; simp
    have t2 : (u (al 0 false b a) == u (al 0 false a b)) = true := by rw [u_beq]; show (b + a == a + b) = true; rw [BitVec.add_comm]; simp
    go_enter Try.func5, Try.ntmps5
    go_wp2_with (first | (go_at_call 11; refine (awake4_yes _).mono ?_; rintro e wn ⟨rfl, rfl⟩) | (go_at_call 12; refine (alu_any _ _ _ _ _).mono ?_; rintro e wn ⟨rfl, rfl⟩))
    go_ret
    exact ⟨rfl, HB.out⟩
  · have t1 : (u (al 8 true (al 0 true a b) b) % 4294967296 == u a % 4294967296) = true := by
      rw [mod_lo, mod_lo, q_beq]; show (lo32 (s32 (s32 (a + b) - b)) == lo32 a) = true
      rw [lo32_s32, lo_sub, lo32_s32, ← lo_sub, BitVec.add_sub_cancel]; simp
    have t2 : (wrap64 (u (al 0 true a b)) == wrap64 (wrap32 (u (al 0 true a b) % 4294967296))) = true := s32_test (a + b)
    have t3 : (u (al 0 true b a) == u (al 0 true a b)) = true := by rw [u_beq]; show (s32 (b + a) == s32 (a + b)) = true; rw [BitVec.add_comm]; simp
    go_enter Try.func5, Try.ntmps5
    go_wp2_with (first | (go_at_call 11; refine (awake4_yes _).mono ?_; rintro e wn ⟨rfl, rfl⟩) | (go_at_call 12; refine (alu_any _ _ _ _ _).mono ?_; rintro e wn ⟨rfl, rfl⟩))
    go_ret
    exact ⟨rfl, HB.out⟩

set_option maxRecDepth 100000 in
theorem lifted (os : Os) (started : os.Started) (H : Type) (enc : TypeId × Value → H) :
    ReturnsInHanded {} Try.checked os 5 .any (Rows.aluSumsSpec.pre6 enc Try.prog Try.f5 Rows.aluSumsRow.domain false) (Rows.aluSumsSpec.post enc Try.prog Try.f5 false true false false) := by
  refine returnsInHanded_of_change (C := Try.checked) own started (by kernel_rfl) Try.func5
    (ChangeSpec.witness6 (enc := enc) (C := Try.checked) false ⟨#[], #[.int .u64 0, .int .u64 0, .bool false], []⟩ 12 (by kernel_rfl) (by kernel_rfl) (by kernel_rfl) (by kernel_rfl)) ?_
  intro W base args ds gs before hval0 hW hcnd _
  have hval : ∀ (j : Nat) t v, Try.f5.params[j]? = some t → args[j]? = some v → Value.okWide Try.prog W .any base t v := hval0
  have hW' := hW
  obtain ⟨p, q, hA0, hV, rfl, hfz, hnd⟩ := hW
  have hA : DataW.TrodAll enc Try.prog W 0 (fun _ => true) true Try.f5.params.toList args.toList ds p := hA0
  rw [Try.params5] at hA hval
  obtain ⟨v0, vs0, d0, ds0, p0, q0, hargs, rfl, rfl, h0, r0⟩ := trodAll_cons hA
  obtain ⟨v1, vs1, d1, ds1, p1, q1, rfl, rfl, rfl, h1, r1⟩ := trodAll_cons r0
  obtain ⟨v2, vs2, d2, ds2, p2, q2, rfl, rfl, rfl, h2, r2⟩ := trodAll_cons r1
  obtain ⟨rfl, rfl, rfl⟩ := trodAll_nil r2
  obtain rfl : args = #[v0, v1, v2] := by cases args; simp_all
  obtain ⟨rfl, rfl⟩ := trodVars_none hV
  obtain ⟨a0, rfl, rfl, rfl, w0⟩ := open_int Try.underlying22 (hval 0 22 v0 rfl rfl) h0
  obtain ⟨a1, rfl, rfl, rfl, w1⟩ := open_int Try.underlying22 (hval 1 22 v1 rfl rfl) h1
  obtain ⟨a2, rfl, rfl, rfl⟩ := open_bool Try.underlying4 (hval 2 4 v2 rfl rfl) h2
  clear hA0 hval0
  refine (walk a0 w0 a1 w1 a2 W).mono fun e W' ⟨he, bel⟩ => ?_
  subst he
  exact ⟨_, rfl, _, _, _, [], _, [], hW', trodAll_mk1 (shut_bool Try.underlying4 _), (trodAll_cons_mk (shut_int Try.underlying22 w0) (trodAll_cons_mk (shut_int Try.underlying22 w1) (trodAll_cons_mk (shut_bool Try.underlying4 _) trodAll_mk0))), rfl, bel.frame _, fun h => by cases h⟩

theorem over : Rows.aluSumsRow.holds Try.pinned (OpenSpec.ofChange Rows.aluSumsSpec) :=
  OpenClaim.holds_of_wide 5 Try.f5 rfl rfl rfl rfl rfl rfl rfl ⟨rfl, rfl, rfl, rfl, rfl⟩ rfl rfl rfl rfl rfl (by kernel_rfl) Try.func5 (by kernel_rfl)
    (of_decide_eq_true (by kernel_rfl)) (by unfold Func.isWrapper; first | (rw [if_pos (by decide +kernel)]; kernel_rfl) | (rw [if_neg (by decide +kernel)]; exact ⟨rfl, rfl⟩))
    (fun os started H enc _ => lifted os started H enc)

theorem proved : Rows.AluSumsSaid :=
  over
#print axioms proved
end Go.Proofs.Ytomecgfodchegaa.aluSums
