/- Proves that for every word the bits set in it and in its complement are together 64, and that Low, High and Ones of package bits hang together as the law says, and that the first test of the law holds. Conditions: none. -/
import Derived.Test.YtlicpmokcnoeoaaRows
import Derived.Test.YtlicpmokcnoeoaaAwake
import Derived.Test.YtlicpmokcnoeoaaFacts
import Derived.WalkKit
import Derived.ProofKit
import Derived.OpenShut
namespace Go.Proofs.Ytlicpmokcnoeoaa.bitsTurned
open Go.ChangeShapes Go.WideShapes Go.ChangeAt Go.RowKit
set_option linter.unusedVariables false

theorem own : ownKnob Try.prog.godebug = none := by kernel_rfl

theorem walk (a0 : Int) (w0 : (Lit.int .u64 a0).wf = true) (w : World) :
    Calls Try.prog 10 #[.int .u64 a0] w fun e w' => e = .returned (.bool true) ∧ Grown w w' := by
  obtain ⟨v, rfl⟩ := u_of w0
  clear w0
  have hx : Hid (bits BinOp.xor IntKind.u64 18446744073709551615 (u v) = u (~~~v)) := Lib.hid (by rw [u_ones, u_xor, BitVec.allOnes_xor])
  have hc1 := cnt_le v 64
  have hc2 := cnt_le (~~~v) 64
  have hl := lowest_lt v
  have hh := highest_lt v
  have t1 : ((cnt v 64 : Int) + (cnt (~~~v) 64 : Int) != 64) = false := by
    have := cnt_not v 64 (by omega); rw [bne_eq_false_iff_eq]; omega
  by_cases hv : v = 0
  · have hz : none0 v = true := by rw [hv]; decide
    have hz1 : (u v != 0) = false := by rw [hv]; decide
    have Hv := Lib.hid hv
    clear hv
    go_enter Try.func10, Try.ntmps10
    go_wp2_with (first | (go_at_call 11; refine (awake_yes _).mono ?_; rintro e w' ⟨rfl, n1, rfl⟩) | (go_at_call 29; refine (high_any _ _).mono ?_; rintro e w' ⟨rfl, rfl⟩) | (go_at_call 31; refine (low_any _ _).mono ?_; rintro e w' ⟨rfl, rfl⟩))
    refine (ones_any _ _).mono ?_
    rintro e w' ⟨rfl, rfl⟩
    go_wp2_with fail
    refine (ones_at hx.out _).mono ?_
    rintro e w' ⟨rfl, rfl⟩
    go_wp2_with fail
    go_ret
    exact ⟨rfl, grown_drawn _ _⟩
  · have hz : none0 v = false := by unfold none0; simpa using hv
    have hz1 : (u v != 0) = true := by rw [show (0 : Int) = u 0 from rfl, bne, u_beq]; simpa using hv
    obtain ⟨s1, s2⟩ := lowest_spec hv
    have hd := cnt_drop v (lowest v) s2 64 (by omega)
    rw [if_pos hl] at hd
    have hx2 : Hid (bits BinOp.andNot IntKind.u64 (u v) (IntKind.u64.wrap (2 ^ lowest v)) = u (v &&& ~~~((1 : BitVec 64) <<< lowest v))) := Lib.hid (by rw [← Int.one_mul (2 ^ lowest v), u_one_shl, u_andNot])
    have t2 : ((cnt (v &&& ~~~((1 : BitVec 64) <<< lowest v)) 64 : Int) == (cnt v 64 : Int) - 1) = true := by rw [beq_iff_eq]; omega
    have t3 : decide (lowest v ≤ highest v) = true := decide_eq_true (lowest_le_highest v hv)
    have t4 : (u v / 2 ^ highest v == 1) = true := by rw [u_shr, shr_highest v hv]; decide
    have t5 : (IntKind.u64.wrap (u v * 2 ^ (63 - lowest v)) == 9223372036854775808) = true := by rw [u_shl, shl_lowest v hv, u_top]; simp
    clear hd s1 s2
    generalize v &&& ~~~((1 : BitVec 64) <<< lowest v) = x at hx2 t2
    have Hv := Lib.hid hv
    clear hv
    go_enter Try.func10, Try.ntmps10
    go_wp2_with (first | (go_at_call 11; refine (awake_yes _).mono ?_; rintro e w' ⟨rfl, n1, rfl⟩) | (go_at_call 29; refine (high_any _ _).mono ?_; rintro e w' ⟨rfl, rfl⟩) | (go_at_call 31; refine (low_any _ _).mono ?_; rintro e w' ⟨rfl, rfl⟩))
    refine (ones_any _ _).mono ?_
    rintro e w' ⟨rfl, rfl⟩
    go_wp2_with fail
    refine (ones_at hx.out _).mono ?_
    rintro e w' ⟨rfl, rfl⟩
    go_wp2_with fail
    refine (ones_at hx2.out _).mono ?_
    rintro e w' ⟨rfl, rfl⟩
    go_wp2_with fail
    refine (ones_any _ _).mono ?_
    rintro e w' ⟨rfl, rfl⟩
    go_wp2_with fail
    go_ret
    exact ⟨rfl, grown_drawn _ _⟩

set_option maxRecDepth 100000 in
theorem lifted (os : Os) (started : os.Started) (H : Type) (enc : TypeId × Value → H) :
    ReturnsInHanded {} Try.checked os 10 .any (Rows.bitsTurnedSpec.pre6 enc Try.prog Try.f10 Rows.bitsTurnedRow.domain false) (Rows.bitsTurnedSpec.post enc Try.prog Try.f10 false true false false) := by
  refine returnsInHanded_of_change (C := Try.checked) own started (by kernel_rfl) Try.func10
    (ChangeSpec.witness6 (enc := enc) (C := Try.checked) false ⟨#[], #[.int .u64 0], []⟩ 8 (by kernel_rfl) (by kernel_rfl) (by kernel_rfl) (by kernel_rfl)) ?_
  intro W base args ds gs before hval0 hW hcnd _
  have hval : ∀ (j : Nat) t v, Try.f10.params[j]? = some t → args[j]? = some v → Value.okWide Try.prog W .any base t v := hval0
  have hW' := hW
  obtain ⟨p, q, hA0, hV, rfl, hfz, hnd⟩ := hW
  have hA : DataW.TrodAll enc Try.prog W 0 (fun _ => true) true Try.f10.params.toList args.toList ds p := hA0
  rw [Try.params10] at hA hval
  obtain ⟨v0, vs0, d0, ds0, p0, q0, hargs, rfl, rfl, h0, r0⟩ := trodAll_cons hA
  obtain ⟨rfl, rfl, rfl⟩ := trodAll_nil r0
  obtain rfl : args = #[v0] := by cases args; simp_all
  obtain ⟨rfl, rfl⟩ := trodVars_none hV
  obtain ⟨a0, rfl, rfl, rfl, w0⟩ := open_int Try.underlying22 (hval 0 22 v0 rfl rfl) h0
  clear hA0 hval0
  simp only [List.append_nil] at hW'
  refine (walk a0 w0 W).mono fun e W' ⟨he, hg⟩ => ?_
  subst he
  exact ⟨_, rfl, post_of_same (pa := []) (pv := []) hW' (fun _ _ _ => (trodAll_cons_mk (shut_bool Try.underlying4 _) trodAll_mk0)) (fun sp _ => (trodAll_cons_mk (shut_int Try.underlying22 w0) trodAll_mk0)) (fun _ _ => rfl) rfl
    (hg.frame _) hg.2.1 (ok_one (by kernel_rfl) rfl (okWide_bool_mk Try.underlying4 _))⟩

theorem over : Rows.bitsTurnedRow.holds Try.pinned (OpenSpec.ofChange Rows.bitsTurnedSpec) :=
  OpenClaim.holds_of_wide 10 Try.f10 rfl rfl rfl rfl rfl rfl rfl ⟨rfl, rfl, rfl, rfl, rfl⟩ rfl rfl rfl rfl rfl (by kernel_rfl) Try.func10 (by kernel_rfl)
    (of_decide_eq_true (by kernel_rfl)) (by unfold Func.isWrapper; first | (rw [if_pos (by decide +kernel)]; kernel_rfl) | (rw [if_neg (by decide +kernel)]; exact ⟨rfl, rfl⟩))
    (fun os started H enc _ => lifted os started H enc)

theorem proved : Rows.BitsTurnedSaid :=
  over
#print axioms proved
end Go.Proofs.Ytlicpmokcnoeoaa.bitsTurned
