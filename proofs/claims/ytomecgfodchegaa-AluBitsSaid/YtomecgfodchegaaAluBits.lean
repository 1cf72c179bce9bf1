/- Proves that for any two words what is in one of both alone, in both, and in one at least, are bound up as the law says, and that the first test of the law holds. Conditions: none. -/
import Derived.Test.YtomecgfodchegaaRows
import Derived.Test.YtomecgfodchegaaAluT
import Derived.WalkKit
import Derived.ProofKit
import Derived.OpenShut
import Derived.Below
import Derived.Carry
import Derived.ShutString
namespace Go.Proofs.Ytomecgfodchegaa.aluBits
open Go.ChangeShapes Go.WideShapes Go.ChangeAt Go.RowKit
set_option linter.unusedVariables false

theorem own : ownKnob Try.prog.godebug = none := by kernel_rfl

theorem walk (a0 : Int) (w0 : (Lit.int .u64 a0).wf = true) (a1 : Int) (w1 : (Lit.int .u64 a1).wf = true) (w : World) :
    Calls Try.prog 8 #[.int .u64 a0, .int .u64 a1] w fun e w' => e = .returned (.bool true) ∧ Below w.heap.size w w' := by
  obtain ⟨a, rfl⟩ := u_of w0
  obtain ⟨b, rfl⟩ := u_of w1
  clear w0 w1
  have HB := Lib.hid (On.refl w)
  have d1 : (a ^^^ b) &&& (a &&& b) = 0 := by
    apply BitVec.eq_of_getLsbD_eq; intro i hi; rw [BitVec.getLsbD_and, BitVec.getLsbD_xor, BitVec.getLsbD_and]
    cases a.getLsbD i <;> cases b.getLsbD i <;> simp
  have d2 : (a ^^^ b) ||| (a &&& b) = a ||| b := by
    apply BitVec.eq_of_getLsbD_eq; intro i hi; rw [BitVec.getLsbD_or, BitVec.getLsbD_xor, BitVec.getLsbD_and, BitVec.getLsbD_or]
    cases a.getLsbD i <;> cases b.getLsbD i <;> rfl
  have d3 : (a ^^^ b) + (a &&& b) = a ||| b := by rw [BitVec.add_eq_or_of_and_eq_zero _ _ d1, d2]
  have d4 : (a &&& ~~~b) + (a &&& b) = a := by
    rw [BitVec.add_eq_or_of_and_eq_zero _ _ (by
      apply BitVec.eq_of_getLsbD_eq; intro i hi; simp only [BitVec.getLsbD_and, BitVec.getLsbD_not, hi, decide_true, Bool.true_and]
      cases a.getLsbD i <;> cases b.getLsbD i <;> simp)]
    apply BitVec.eq_of_getLsbD_eq; intro i hi; simp only [BitVec.getLsbD_or, BitVec.getLsbD_and, BitVec.getLsbD_not, hi, decide_true, Bool.true_and]
    cases a.getLsbD i <;> cases b.getLsbD i <;> rfl
  have d5 : (a &&& ~~~b) + b = a ||| b := by
    rw [BitVec.add_eq_or_of_and_eq_zero _ _ (by
      apply BitVec.eq_of_getLsbD_eq; intro i hi; simp only [BitVec.getLsbD_and, BitVec.getLsbD_not, hi, decide_true, Bool.true_and]
      cases a.getLsbD i <;> cases b.getLsbD i <;> simp)]
    apply BitVec.eq_of_getLsbD_eq; intro i hi; simp only [BitVec.getLsbD_or, BitVec.getLsbD_and, BitVec.getLsbD_not, hi, decide_true, Bool.true_and]
    cases a.getLsbD i <;> cases b.getLsbD i <;> rfl
  have t1 : (bits BinOp.and IntKind.u64 (u (al 4 false a b)) (u (al 7 false a b)) == 0) = true := by
    rw [u_and, u_zero, u_beq]; show ((a ^^^ b) &&& (a &&& b) == 0) = true; rw [d1]; rfl
  have t2 : (bits BinOp.or IntKind.u64 (u (al 4 false a b)) (u (al 7 false a b)) == u (al 6 false a b)) = true := by
    rw [u_or, u_beq]; show ((a ^^^ b) ||| (a &&& b) == a ||| b) = true; rw [d2]; simp
  have t3 : (IntKind.u64.wrap (u (al 4 false a b) + u (al 7 false a b)) == u (al 6 false a b)) = true := by
    rw [u_add, u_beq]; show ((a ^^^ b) + (a &&& b) == a ||| b) = true; rw [d3]; simp
  have t4 : (u (al 4 false (al 4 false a b) b) == u a) = true := by
    rw [u_beq]; show ((a ^^^ b) ^^^ b == a) = true; rw [BitVec.xor_assoc, BitVec.xor_self, BitVec.xor_zero]; simp
  have t5 : (IntKind.u64.wrap (u (al 6 false a b) + u (al 7 false a b)) == IntKind.u64.wrap (u a + u b)) = true := by
    rw [u_add, u_add, u_beq]; show ((a ||| b) + (a &&& b) == a + b) = true
    rw [← d5, BitVec.add_assoc, BitVec.add_comm b, ← BitVec.add_assoc, d4]; simp
  clear d1 d2 d3 d4 d5
  go_enter Try.func8, Try.ntmps8
  go_wp2_with (first | (go_at_call 11; refine (awake4_yes _).mono ?_; rintro e wn ⟨rfl, rfl⟩) | (go_at_call 12; refine (alu_any _ _ _ _ _).mono ?_; rintro e wn ⟨rfl, rfl⟩))
  go_ret
  exact ⟨rfl, HB.out⟩

set_option maxRecDepth 100000 in
theorem lifted (os : Os) (started : os.Started) (H : Type) (enc : TypeId × Value → H) :
    ReturnsInHanded {} Try.checked os 8 .any (Rows.aluBitsSpec.pre6 enc Try.prog Try.f8 Rows.aluBitsRow.domain false) (Rows.aluBitsSpec.post enc Try.prog Try.f8 false true false false) := by
  refine returnsInHanded_of_change (C := Try.checked) own started (by kernel_rfl) Try.func8
    (ChangeSpec.witness6 (enc := enc) (C := Try.checked) false ⟨#[], #[.int .u64 0, .int .u64 0], []⟩ 12 (by kernel_rfl) (by kernel_rfl) (by kernel_rfl) (by kernel_rfl)) ?_
  intro W base args ds gs before hval0 hW hcnd _
  have hval : ∀ (j : Nat) t v, Try.f8.params[j]? = some t → args[j]? = some v → Value.okWide Try.prog W .any base t v := hval0
  have hW' := hW
  obtain ⟨p, q, hA0, hV, rfl, hfz, hnd⟩ := hW
  have hA : DataW.TrodAll enc Try.prog W 0 (fun _ => true) true Try.f8.params.toList args.toList ds p := hA0
  rw [Try.params8] at hA hval
  obtain ⟨v0, vs0, d0, ds0, p0, q0, hargs, rfl, rfl, h0, r0⟩ := trodAll_cons hA
  obtain ⟨v1, vs1, d1, ds1, p1, q1, rfl, rfl, rfl, h1, r1⟩ := trodAll_cons r0
  obtain ⟨rfl, rfl, rfl⟩ := trodAll_nil r1
  obtain rfl : args = #[v0, v1] := by cases args; simp_all
  obtain ⟨rfl, rfl⟩ := trodVars_none hV
  obtain ⟨a0, rfl, rfl, rfl, w0⟩ := open_int Try.underlying22 (hval 0 22 v0 rfl rfl) h0
  obtain ⟨a1, rfl, rfl, rfl, w1⟩ := open_int Try.underlying22 (hval 1 22 v1 rfl rfl) h1
  clear hA0 hval0
  refine (walk a0 w0 a1 w1 W).mono fun e W' ⟨he, bel⟩ => ?_
  subst he
  exact ⟨_, rfl, _, _, _, [], _, [], hW', trodAll_mk1 (shut_bool Try.underlying4 _), (trodAll_cons_mk (shut_int Try.underlying22 w0) (trodAll_cons_mk (shut_int Try.underlying22 w1) trodAll_mk0)), rfl, bel.frame _, fun h => by cases h⟩

theorem over : Rows.aluBitsRow.holds Try.pinned (OpenSpec.ofChange Rows.aluBitsSpec) :=
  OpenClaim.holds_of_wide 8 Try.f8 rfl rfl rfl rfl rfl rfl rfl ⟨rfl, rfl, rfl, rfl, rfl⟩ rfl rfl rfl rfl rfl (by kernel_rfl) Try.func8 (by kernel_rfl)
    (of_decide_eq_true (by kernel_rfl)) (by unfold Func.isWrapper; first | (rw [if_pos (by decide +kernel)]; kernel_rfl) | (rw [if_neg (by decide +kernel)]; exact ⟨rfl, rfl⟩))
    (fun os started H enc _ => lifted os started H enc)

theorem proved : Rows.AluBitsSaid :=
  over
#print axioms proved
end Go.Proofs.Ytomecgfodchegaa.aluBits
