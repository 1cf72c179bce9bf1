/- Proves that the product of 128 bits of any two words is the same the other way round, and that of a sum of two that does not go round it is the sum of the products, with what is carried, and that the first test of the law holds. Conditions: none. -/
import Derived.Test.YtapaddbgmbkelaaRows
import Derived.Test.YtapaddbgmbkelaaMulA
import Derived.WalkKit
import Derived.ProofKit
import Derived.OpenShut
import Derived.Below
import Derived.Carry
import Derived.ShutString
namespace Go.Proofs.Ytapaddbgmbkelaa.mulWide
open Go.ChangeShapes Go.WideShapes Go.ChangeAt Go.RowKit
set_option linter.unusedVariables false

theorem own : ownKnob Try.prog.godebug = none := by kernel_rfl

theorem walk (a0 : Int) (w0 : (Lit.int .u64 a0).wf = true) (a1 : Int) (w1 : (Lit.int .u64 a1).wf = true) (a2 : Int) (w2 : (Lit.int .u64 a2).wf = true) (w : World) :
    Calls Try.prog 6 #[.int .u64 a0, .int .u64 a1, .int .u64 a2] w fun e w' => e = .returned (.bool true) ∧ Below w.heap.size w w' := by
  obtain ⟨a, rfl⟩ := u_of w0
  obtain ⟨b, rfl⟩ := u_of w1
  obtain ⟨c, rfl⟩ := u_of w2
  clear w0 w1 w2
  have HB := Lib.hid (On.refl w)
  have hl : ∀ x y, mres 0 false x y = x * y := fun _ _ => rfl
  have hh : ∀ x y, mres 3 false x y = mhu x y := fun _ _ => rfl
  have k0 : mres 0 false b a = mres 0 false a b := by rw [hl, hl, BitVec.mul_comm]
  have k3 : mres 3 false b a = mres 3 false a b := by rw [hh, hh]; unfold mhu; rw [Nat.mul_comm]
  have t1 : (u (mres 0 false a b) != u (mres 0 false b a)) = false := by rw [k0]; simp
  have t2 : (u (mres 3 false a b) != u (mres 3 false b a)) = false := by rw [k3]; simp
  have t3 : (u (mres 0 false a b) == u (mres 0 false b a)) = true := by rw [k0]; simp
  have t4 : (u (mres 3 false a b) == u (mres 3 false b a)) = true := by rw [k3]; simp
  clear k0 k3
  obtain ⟨s, hs⟩ : ∃ s, b + c = s := ⟨_, rfl⟩
  have h5 : IntKind.u64.wrap (u b + u c) = u s := by rw [u_add, hs]
  cases h6 : decide (u s < u b)
  · have g1 : mres 0 false a s = mres 0 false a b + mres 0 false a c := by rw [hl, hl, hl, ← hs, BitVec.mul_add]
    have hsn : s.toNat = b.toNat + c.toNat := by
      have := of_decide_eq_false h6
      unfold u at this; rw [← hs, BitVec.toNat_add] at this ⊢; have := b.isLt; have := c.isLt; omega
    have key : mhu a s = mhu a b + mhu a c + if (a * b).toNat + (a * c).toNat < 2 ^ 64 then 0 else 1 := by
      apply BitVec.eq_of_toNat_eq
      have f := full_lt a s
      unfold mhu
      rw [BitVec.toNat_add, BitVec.toNat_add, BitVec.toNat_ofNat, BitVec.toNat_ofNat, BitVec.toNat_ofNat, BitVec.toNat_mul, BitVec.toNat_mul]
      rw [hsn, Nat.mul_add] at f ⊢
      generalize a.toNat * b.toNat = p at *
      generalize a.toNat * c.toNat = q at *
      split
      · rw [show (0 : BitVec 64).toNat = 0 from rfl]; omega
      · rw [show (1 : BitVec 64).toNat = 1 from rfl]; omega
    have hc : decide (IntKind.u64.wrap (u (mres 0 false a b) + u (mres 0 false a c)) < u (mres 0 false a b)) = !decide ((a * b).toNat + (a * c).toNat < 2 ^ 64) := by
      rw [hl, hl, u_add, ← decide_not, decide_eq_decide]; unfold u; rw [BitVec.toNat_add]
      have := (a * b).isLt; have := (a * c).isLt; omega
    have t5 : (u (mres 0 false a s) == IntKind.u64.wrap (u (mres 0 false a b) + u (mres 0 false a c))) = true := by rw [g1, u_add]; simp
    clear g1 hsn
    cases hq : decide ((a * b).toNat + (a * c).toNat < 2 ^ 64)
    · rw [hq] at hc
      rw [if_neg (by simpa using hq), ← hh, ← hh, ← hh] at key
      have t6 : (u (mres 3 false a s) == IntKind.u64.wrap (IntKind.u64.wrap (u (mres 3 false a b) + u (mres 3 false a c)) + 1)) = true := by rw [key, u_add, u_one, u_add]; simp
      clear key hl hh hs hq
      go_enter Try.func6, Try.ntmps6
      go_wp2_with (first | (go_at_call 11; refine (awake5_yes _).mono ?_; rintro e wn ⟨rfl, hb⟩; have HB := Lib.hid (HB.out.trans hb); clear hb) | (go_at_call 12; refine (mresult_any _ _ _ _ _).mono ?_; rintro e wn ⟨rfl, hb⟩; have HB := Lib.hid (HB.out.trans hb); clear hb))
      go_ret
      exact ⟨rfl, HB.out⟩
    · rw [hq] at hc
      rw [if_pos (by simpa using hq), ← hh, ← hh, ← hh, show ∀ x : BitVec 64, x + 0 = x from fun x => by simp] at key
      have t6 : (u (mres 3 false a s) == IntKind.u64.wrap (u (mres 3 false a b) + u (mres 3 false a c))) = true := by rw [key, u_add]; simp
      have t7 : ∀ x y : BitVec 64, IntKind.u64.wrap (IntKind.u64.wrap (u x + u y) + 0) = IntKind.u64.wrap (u x + u y) := fun x y => by rw [Int.add_zero, u_add, wrap_u]
      have t8 : ∀ x y : BitVec 64, IntKind.u64.wrap (IntKind.u64.wrap (u x + u y)) = IntKind.u64.wrap (u x + u y) := fun x y => by rw [u_add, wrap_u]
      clear key hl hh hs hq
      go_enter Try.func6, Try.ntmps6
      go_wp2_with (first | (go_at_call 11; refine (awake5_yes _).mono ?_; rintro e wn ⟨rfl, hb⟩; have HB := Lib.hid (HB.out.trans hb); clear hb) | (go_at_call 12; refine (mresult_any _ _ _ _ _).mono ?_; rintro e wn ⟨rfl, hb⟩; have HB := Lib.hid (HB.out.trans hb); clear hb))
      go_ret
      exact ⟨rfl, HB.out⟩
  · clear hl hh hs
    go_enter Try.func6, Try.ntmps6
    go_wp2_with (first | (go_at_call 11; refine (awake5_yes _).mono ?_; rintro e wn ⟨rfl, hb⟩; have HB := Lib.hid (HB.out.trans hb); clear hb) | (go_at_call 12; refine (mresult_any _ _ _ _ _).mono ?_; rintro e wn ⟨rfl, hb⟩; have HB := Lib.hid (HB.out.trans hb); clear hb))
    go_ret
    exact ⟨rfl, HB.out⟩

set_option maxRecDepth 100000 in
theorem lifted (os : Os) (started : os.Started) (H : Type) (enc : TypeId × Value → H) :
    ReturnsInHanded {} Try.checked os 6 .any (Rows.mulWideSpec.pre6 enc Try.prog Try.f6 Rows.mulWideRow.domain false) (Rows.mulWideSpec.post enc Try.prog Try.f6 false true false false) := by
  refine returnsInHanded_of_change (C := Try.checked) own started (by kernel_rfl) Try.func6
    (ChangeSpec.witness6 (enc := enc) (C := Try.checked) false ⟨#[], #[.int .u64 0, .int .u64 0, .int .u64 0], []⟩ 12 (by kernel_rfl) (by kernel_rfl) (by kernel_rfl) (by kernel_rfl)) ?_
  intro W base args ds gs before hval0 hW hcnd _
  have hval : ∀ (j : Nat) t v, Try.f6.params[j]? = some t → args[j]? = some v → Value.okWide Try.prog W .any base t v := hval0
  have hW' := hW
  obtain ⟨p, q, hA0, hV, rfl, hfz, hnd⟩ := hW
  have hA : DataW.TrodAll enc Try.prog W 0 (fun _ => true) true Try.f6.params.toList args.toList ds p := hA0
  rw [Try.params6] at hA hval
  obtain ⟨v0, vs0, d0, ds0, p0, q0, hargs, rfl, rfl, h0, r0⟩ := trodAll_cons hA
  obtain ⟨v1, vs1, d1, ds1, p1, q1, rfl, rfl, rfl, h1, r1⟩ := trodAll_cons r0
  obtain ⟨v2, vs2, d2, ds2, p2, q2, rfl, rfl, rfl, h2, r2⟩ := trodAll_cons r1
  obtain ⟨rfl, rfl, rfl⟩ := trodAll_nil r2
  obtain rfl : args = #[v0, v1, v2] := by cases args; simp_all
  obtain ⟨rfl, rfl⟩ := trodVars_none hV
  obtain ⟨a0, rfl, rfl, rfl, w0⟩ := open_int Try.underlying22 (hval 0 22 v0 rfl rfl) h0
  obtain ⟨a1, rfl, rfl, rfl, w1⟩ := open_int Try.underlying22 (hval 1 22 v1 rfl rfl) h1
  obtain ⟨a2, rfl, rfl, rfl, w2⟩ := open_int Try.underlying22 (hval 2 22 v2 rfl rfl) h2
  clear hA0 hval0
  refine (walk a0 w0 a1 w1 a2 w2 W).mono fun e W' ⟨he, bel⟩ => ?_
  subst he
  exact ⟨_, rfl, _, _, _, [], _, [], hW', trodAll_mk1 (shut_bool Try.underlying4 _), (trodAll_cons_mk (shut_int Try.underlying22 w0) (trodAll_cons_mk (shut_int Try.underlying22 w1) (trodAll_cons_mk (shut_int Try.underlying22 w2) trodAll_mk0))), rfl, bel.frame _, fun h => by cases h⟩

theorem over : Rows.mulWideRow.holds Try.pinned (OpenSpec.ofChange Rows.mulWideSpec) :=
  OpenClaim.holds_of_wide 6 Try.f6 rfl rfl rfl rfl rfl rfl rfl ⟨rfl, rfl, rfl, rfl, rfl⟩ rfl rfl rfl rfl rfl (by kernel_rfl) Try.func6 (by kernel_rfl)
    (of_decide_eq_true (by kernel_rfl)) (by unfold Func.isWrapper; first | (rw [if_pos (by decide +kernel)]; kernel_rfl) | (rw [if_neg (by decide +kernel)]; exact ⟨rfl, rfl⟩))
    (fun os started H enc _ => lifted os started H enc)

theorem proved : Rows.MulWideSaid :=
  over
#print axioms proved
end Go.Proofs.Ytapaddbgmbkelaa.mulWide
