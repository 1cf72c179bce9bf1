/- Proves that the ordering bits of atomic operations, and all but the kind of a fence, play no part, and that the first test of the law holds. Conditions: none. -/
import Derived.Test.YthcdgjpdnlickaaRows
import Derived.Test.YthcdgjpdnlickaaDecA
import Derived.Test.YthcdgjpdnlickaaDecP
import Derived.WalkKit
import Derived.ProofKit
import Derived.OpenShut
import Derived.Below
import Derived.Carry
import Derived.ShutString
import Derived.Deep.RegionWith
namespace Go.Proofs.Ythcdgjpdnlickaa.decodeOrder
open Go.ChangeShapes Go.WideShapes Go.ChangeAt Go.RowKit
set_option linter.unusedVariables false

theorem own : ownKnob Try.prog.godebug = none := by kernel_rfl

set_option maxRecDepth 100000 in
set_option maxHeartbeats 8000000 in
theorem walk (a0 : Int) (w0 : (Lit.int .u32 a0).wf = true) (a1 : Int) (w1 : (Lit.int .u32 a1).wf = true) (w : World) :
    Calls Try.prog 5 #[.int .u32 a0, .int .u32 a1] w fun e w' => e = .returned (.bool true) ∧ Below w.heap.size w w' := by
  obtain ⟨x, rfl⟩ := q_of w0
  obtain ⟨y, rfl⟩ := q_of w1
  clear w0 w1
  have HB := Lib.hid (On.refl w)
  have hd := decode_any x
  have e1 : bits .xor .u32 (q x) (bits .and .u32 (q y) 100663296) = q (x ^^^ (y &&& 0x06000000#32)) := by rw [show (100663296 : Int) = q 0x06000000#32 by rfl, q_and, q_xor]
  have e2 : bits .xor .u32 (q x) (bits .andNot .u32 (q y) 28799) = q (x ^^^ (y &&& ~~~28799#32)) := by rw [show (28799 : Int) = q 28799#32 by rfl, q_andNot, q_xor]
  have ha := decode_any (x ^^^ (y &&& 0x06000000#32))
  have hf := decode_any (x ^^^ (y &&& ~~~28799#32))
  have oa := order_amo x y
  have of := order_fence x y
  obtain ⟨y1, hy1⟩ : ∃ y1, x ^^^ (y &&& 0x06000000#32) = y1 := ⟨_, rfl⟩
  obtain ⟨y2, hy2⟩ : ∃ y2, x ^^^ (y &&& ~~~28799#32) = y2 := ⟨_, rfl⟩
  rw [hy1] at e1 ha oa
  rw [hy2] at e2 hf of
  clear hy1 hy2
  obtain ⟨i, hi⟩ : ∃ i, decOf x = i := ⟨_, rfl⟩
  rw [hi] at hd oa of
  clear hi
  obtain ⟨o, f, d, s, t, m, z, a, b, c, k⟩ := i
  have hd' : ∀ w, Calls Try.prog 7 #[.int .u32 (q x)] w fun e w' => e = .returned (.agg #[.int .i64 o, .int .i64 f, .int .i64 d, .int .i64 s, .int .i64 t, .int .u64 (u m), .int .i64 z, .bool a, .bool b, .bool c, .int .i64 k]) ∧ On w w' := hd
  have HD := Lib.hid hd'
  clear hd hd'
  simp only [] at oa of
  by_cases n20 : o = 20
  · subst n20
    rw [oa (by omega)] at ha
    have h' : ∀ w, Calls Try.prog 7 #[.int .u32 (q y1)] w fun e w' => e = .returned (.agg #[.int .i64 20, .int .i64 f, .int .i64 d, .int .i64 s, .int .i64 t, .int .u64 (u m), .int .i64 z, .bool a, .bool b, .bool c, .int .i64 k]) ∧ On w w' := ha
    have HE := Lib.hid h'
    clear h' ha hf oa of
    go_enter Try.func5, Try.ntmps5
    go_wp2_with (first | (go_at_call 7; refine (HD.out _).mono ?_; rintro e wn ⟨rfl, hb'⟩; replace HB := Lib.hid (HB.out.trans hb'); clear hb') | (go_at_call 6; refine (awake3_yes _).mono ?_; rintro e wm ⟨rfl, hb'⟩; obtain ⟨k0, k1, k2, k3, k4, k5, k6, k7, k8, k9, k10⟩ := new11 hb'; have hlt := on_size hb'; replace HB := Lib.hid ((HB.out.alloc _).trans hb'); clear hb') | (go_at_call 6; refine (awake3_yes _).mono ?_; rintro e wx ⟨rfl, hb'⟩; replace k0 := cell_keep hb' hlt k0; replace k1 := cell_keep hb' hlt k1; replace k2 := cell_keep hb' hlt k2; replace k3 := cell_keep hb' hlt k3; replace k4 := cell_keep hb' hlt k4; replace k5 := cell_keep hb' hlt k5; replace k6 := cell_keep hb' hlt k6; replace k7 := cell_keep hb' hlt k7; replace k8 := cell_keep hb' hlt k8; replace k9 := cell_keep hb' hlt k9; replace k10 := cell_keep hb' hlt k10; replace hlt := Nat.lt_of_lt_of_le hlt hb'.size; (first | replace HB := Lib.hid (HB.out.trans hb') | replace HB := Lib.hid (HB.out.drew.trans hb')); clear hb'))
    go_region_with (first | (go_at_call 7; refine (HE.out _).mono ?_; rintro e wx ⟨rfl, hb'⟩; replace k0 := cell_keep hb' hlt k0; replace k1 := cell_keep hb' hlt k1; replace k2 := cell_keep hb' hlt k2; replace k3 := cell_keep hb' hlt k3; replace k4 := cell_keep hb' hlt k4; replace k5 := cell_keep hb' hlt k5; replace k6 := cell_keep hb' hlt k6; replace k7 := cell_keep hb' hlt k7; replace k8 := cell_keep hb' hlt k8; replace k9 := cell_keep hb' hlt k9; replace k10 := cell_keep hb' hlt k10; replace hlt := Nat.lt_of_lt_of_le hlt hb'.size; (first | replace HB := Lib.hid (HB.out.trans hb') | replace HB := Lib.hid (HB.out.drew.trans hb')); clear hb'))
    all_goals (go_wp2; go_ret; exact ⟨rfl, HB.out⟩)
  by_cases n21 : o = 21
  · subst n21
    rw [oa (by omega)] at ha
    have h' : ∀ w, Calls Try.prog 7 #[.int .u32 (q y1)] w fun e w' => e = .returned (.agg #[.int .i64 21, .int .i64 f, .int .i64 d, .int .i64 s, .int .i64 t, .int .u64 (u m), .int .i64 z, .bool a, .bool b, .bool c, .int .i64 k]) ∧ On w w' := ha
    have HE := Lib.hid h'
    clear h' ha hf oa of
    go_enter Try.func5, Try.ntmps5
    go_wp2_with (first | (go_at_call 7; refine (HD.out _).mono ?_; rintro e wn ⟨rfl, hb'⟩; replace HB := Lib.hid (HB.out.trans hb'); clear hb') | (go_at_call 6; refine (awake3_yes _).mono ?_; rintro e wm ⟨rfl, hb'⟩; obtain ⟨k0, k1, k2, k3, k4, k5, k6, k7, k8, k9, k10⟩ := new11 hb'; have hlt := on_size hb'; replace HB := Lib.hid ((HB.out.alloc _).trans hb'); clear hb') | (go_at_call 6; refine (awake3_yes _).mono ?_; rintro e wx ⟨rfl, hb'⟩; replace k0 := cell_keep hb' hlt k0; replace k1 := cell_keep hb' hlt k1; replace k2 := cell_keep hb' hlt k2; replace k3 := cell_keep hb' hlt k3; replace k4 := cell_keep hb' hlt k4; replace k5 := cell_keep hb' hlt k5; replace k6 := cell_keep hb' hlt k6; replace k7 := cell_keep hb' hlt k7; replace k8 := cell_keep hb' hlt k8; replace k9 := cell_keep hb' hlt k9; replace k10 := cell_keep hb' hlt k10; replace hlt := Nat.lt_of_lt_of_le hlt hb'.size; (first | replace HB := Lib.hid (HB.out.trans hb') | replace HB := Lib.hid (HB.out.drew.trans hb')); clear hb'))
    go_region_with (first | (go_at_call 7; refine (HE.out _).mono ?_; rintro e wx ⟨rfl, hb'⟩; replace k0 := cell_keep hb' hlt k0; replace k1 := cell_keep hb' hlt k1; replace k2 := cell_keep hb' hlt k2; replace k3 := cell_keep hb' hlt k3; replace k4 := cell_keep hb' hlt k4; replace k5 := cell_keep hb' hlt k5; replace k6 := cell_keep hb' hlt k6; replace k7 := cell_keep hb' hlt k7; replace k8 := cell_keep hb' hlt k8; replace k9 := cell_keep hb' hlt k9; replace k10 := cell_keep hb' hlt k10; replace hlt := Nat.lt_of_lt_of_le hlt hb'.size; (first | replace HB := Lib.hid (HB.out.trans hb') | replace HB := Lib.hid (HB.out.drew.trans hb')); clear hb'))
    all_goals (go_wp2; go_ret; exact ⟨rfl, HB.out⟩)
  by_cases n22 : o = 22
  · subst n22
    rw [oa (by omega)] at ha
    have h' : ∀ w, Calls Try.prog 7 #[.int .u32 (q y1)] w fun e w' => e = .returned (.agg #[.int .i64 22, .int .i64 f, .int .i64 d, .int .i64 s, .int .i64 t, .int .u64 (u m), .int .i64 z, .bool a, .bool b, .bool c, .int .i64 k]) ∧ On w w' := ha
    have HE := Lib.hid h'
    clear h' ha hf oa of
    go_enter Try.func5, Try.ntmps5
    go_wp2_with (first | (go_at_call 7; refine (HD.out _).mono ?_; rintro e wn ⟨rfl, hb'⟩; replace HB := Lib.hid (HB.out.trans hb'); clear hb') | (go_at_call 6; refine (awake3_yes _).mono ?_; rintro e wm ⟨rfl, hb'⟩; obtain ⟨k0, k1, k2, k3, k4, k5, k6, k7, k8, k9, k10⟩ := new11 hb'; have hlt := on_size hb'; replace HB := Lib.hid ((HB.out.alloc _).trans hb'); clear hb') | (go_at_call 6; refine (awake3_yes _).mono ?_; rintro e wx ⟨rfl, hb'⟩; replace k0 := cell_keep hb' hlt k0; replace k1 := cell_keep hb' hlt k1; replace k2 := cell_keep hb' hlt k2; replace k3 := cell_keep hb' hlt k3; replace k4 := cell_keep hb' hlt k4; replace k5 := cell_keep hb' hlt k5; replace k6 := cell_keep hb' hlt k6; replace k7 := cell_keep hb' hlt k7; replace k8 := cell_keep hb' hlt k8; replace k9 := cell_keep hb' hlt k9; replace k10 := cell_keep hb' hlt k10; replace hlt := Nat.lt_of_lt_of_le hlt hb'.size; (first | replace HB := Lib.hid (HB.out.trans hb') | replace HB := Lib.hid (HB.out.drew.trans hb')); clear hb'))
    go_region_with (first | (go_at_call 7; refine (HE.out _).mono ?_; rintro e wx ⟨rfl, hb'⟩; replace k0 := cell_keep hb' hlt k0; replace k1 := cell_keep hb' hlt k1; replace k2 := cell_keep hb' hlt k2; replace k3 := cell_keep hb' hlt k3; replace k4 := cell_keep hb' hlt k4; replace k5 := cell_keep hb' hlt k5; replace k6 := cell_keep hb' hlt k6; replace k7 := cell_keep hb' hlt k7; replace k8 := cell_keep hb' hlt k8; replace k9 := cell_keep hb' hlt k9; replace k10 := cell_keep hb' hlt k10; replace hlt := Nat.lt_of_lt_of_le hlt hb'.size; (first | replace HB := Lib.hid (HB.out.trans hb') | replace HB := Lib.hid (HB.out.drew.trans hb')); clear hb'))
    all_goals (go_wp2; go_ret; exact ⟨rfl, HB.out⟩)
  by_cases n11 : o = 11
  · subst n11
    rw [of (by omega)] at hf
    have h' : ∀ w, Calls Try.prog 7 #[.int .u32 (q y2)] w fun e w' => e = .returned (.agg #[.int .i64 11, .int .i64 f, .int .i64 d, .int .i64 s, .int .i64 t, .int .u64 (u m), .int .i64 z, .bool a, .bool b, .bool c, .int .i64 k]) ∧ On w w' := hf
    have HE := Lib.hid h'
    clear h' ha hf oa of
    go_enter Try.func5, Try.ntmps5
    go_wp2_with (first | (go_at_call 7; refine (HD.out _).mono ?_; rintro e wn ⟨rfl, hb'⟩; replace HB := Lib.hid (HB.out.trans hb'); clear hb') | (go_at_call 6; refine (awake3_yes _).mono ?_; rintro e wm ⟨rfl, hb'⟩; obtain ⟨k0, k1, k2, k3, k4, k5, k6, k7, k8, k9, k10⟩ := new11 hb'; have hlt := on_size hb'; replace HB := Lib.hid ((HB.out.alloc _).trans hb'); clear hb') | (go_at_call 6; refine (awake3_yes _).mono ?_; rintro e wx ⟨rfl, hb'⟩; replace k0 := cell_keep hb' hlt k0; replace k1 := cell_keep hb' hlt k1; replace k2 := cell_keep hb' hlt k2; replace k3 := cell_keep hb' hlt k3; replace k4 := cell_keep hb' hlt k4; replace k5 := cell_keep hb' hlt k5; replace k6 := cell_keep hb' hlt k6; replace k7 := cell_keep hb' hlt k7; replace k8 := cell_keep hb' hlt k8; replace k9 := cell_keep hb' hlt k9; replace k10 := cell_keep hb' hlt k10; replace hlt := Nat.lt_of_lt_of_le hlt hb'.size; (first | replace HB := Lib.hid (HB.out.trans hb') | replace HB := Lib.hid (HB.out.drew.trans hb')); clear hb'))
    go_region_with (first | (go_at_call 7; refine (HE.out _).mono ?_; rintro e wx ⟨rfl, hb'⟩; replace k0 := cell_keep hb' hlt k0; replace k1 := cell_keep hb' hlt k1; replace k2 := cell_keep hb' hlt k2; replace k3 := cell_keep hb' hlt k3; replace k4 := cell_keep hb' hlt k4; replace k5 := cell_keep hb' hlt k5; replace k6 := cell_keep hb' hlt k6; replace k7 := cell_keep hb' hlt k7; replace k8 := cell_keep hb' hlt k8; replace k9 := cell_keep hb' hlt k9; replace k10 := cell_keep hb' hlt k10; replace hlt := Nat.lt_of_lt_of_le hlt hb'.size; (first | replace HB := Lib.hid (HB.out.trans hb') | replace HB := Lib.hid (HB.out.drew.trans hb')); clear hb'))
    all_goals (go_wp2; go_ret; exact ⟨rfl, HB.out⟩)
  by_cases n12 : o = 12
  · subst n12
    rw [of (by omega)] at hf
    have h' : ∀ w, Calls Try.prog 7 #[.int .u32 (q y2)] w fun e w' => e = .returned (.agg #[.int .i64 12, .int .i64 f, .int .i64 d, .int .i64 s, .int .i64 t, .int .u64 (u m), .int .i64 z, .bool a, .bool b, .bool c, .int .i64 k]) ∧ On w w' := hf
    have HE := Lib.hid h'
    clear h' ha hf oa of
    go_enter Try.func5, Try.ntmps5
    go_wp2_with (first | (go_at_call 7; refine (HD.out _).mono ?_; rintro e wn ⟨rfl, hb'⟩; replace HB := Lib.hid (HB.out.trans hb'); clear hb') | (go_at_call 6; refine (awake3_yes _).mono ?_; rintro e wm ⟨rfl, hb'⟩; obtain ⟨k0, k1, k2, k3, k4, k5, k6, k7, k8, k9, k10⟩ := new11 hb'; have hlt := on_size hb'; replace HB := Lib.hid ((HB.out.alloc _).trans hb'); clear hb') | (go_at_call 6; refine (awake3_yes _).mono ?_; rintro e wx ⟨rfl, hb'⟩; replace k0 := cell_keep hb' hlt k0; replace k1 := cell_keep hb' hlt k1; replace k2 := cell_keep hb' hlt k2; replace k3 := cell_keep hb' hlt k3; replace k4 := cell_keep hb' hlt k4; replace k5 := cell_keep hb' hlt k5; replace k6 := cell_keep hb' hlt k6; replace k7 := cell_keep hb' hlt k7; replace k8 := cell_keep hb' hlt k8; replace k9 := cell_keep hb' hlt k9; replace k10 := cell_keep hb' hlt k10; replace hlt := Nat.lt_of_lt_of_le hlt hb'.size; (first | replace HB := Lib.hid (HB.out.trans hb') | replace HB := Lib.hid (HB.out.drew.trans hb')); clear hb'))
    go_region_with (first | (go_at_call 7; refine (HE.out _).mono ?_; rintro e wx ⟨rfl, hb'⟩; replace k0 := cell_keep hb' hlt k0; replace k1 := cell_keep hb' hlt k1; replace k2 := cell_keep hb' hlt k2; replace k3 := cell_keep hb' hlt k3; replace k4 := cell_keep hb' hlt k4; replace k5 := cell_keep hb' hlt k5; replace k6 := cell_keep hb' hlt k6; replace k7 := cell_keep hb' hlt k7; replace k8 := cell_keep hb' hlt k8; replace k9 := cell_keep hb' hlt k9; replace k10 := cell_keep hb' hlt k10; replace hlt := Nat.lt_of_lt_of_le hlt hb'.size; (first | replace HB := Lib.hid (HB.out.trans hb') | replace HB := Lib.hid (HB.out.drew.trans hb')); clear hb'))
    all_goals (go_wp2; go_ret; exact ⟨rfl, HB.out⟩)
  have b20 : (o == 20) = false := by simpa using n20
  have b21 : (o == 21) = false := by simpa using n21
  have b22 : (o == 22) = false := by simpa using n22
  have b11 : (o == 11) = false := by simpa using n11
  have b12 : (o == 12) = false := by simpa using n12
  clear n20 n21 n22 n11 n12 ha hf oa of
  go_enter Try.func5, Try.ntmps5
  go_wp2_with (first | (go_at_call 7; refine (HD.out _).mono ?_; rintro e wn ⟨rfl, hb'⟩; replace HB := Lib.hid (HB.out.trans hb'); clear hb') | (go_at_call 6; refine (awake3_yes _).mono ?_; rintro e wm ⟨rfl, hb'⟩; obtain ⟨k0, k1, k2, k3, k4, k5, k6, k7, k8, k9, k10⟩ := new11 hb'; have hlt := on_size hb'; replace HB := Lib.hid ((HB.out.alloc _).trans hb'); clear hb') | (go_at_call 6; refine (awake3_yes _).mono ?_; rintro e wx ⟨rfl, hb'⟩; replace k0 := cell_keep hb' hlt k0; replace k1 := cell_keep hb' hlt k1; replace k2 := cell_keep hb' hlt k2; replace k3 := cell_keep hb' hlt k3; replace k4 := cell_keep hb' hlt k4; replace k5 := cell_keep hb' hlt k5; replace k6 := cell_keep hb' hlt k6; replace k7 := cell_keep hb' hlt k7; replace k8 := cell_keep hb' hlt k8; replace k9 := cell_keep hb' hlt k9; replace k10 := cell_keep hb' hlt k10; replace hlt := Nat.lt_of_lt_of_le hlt hb'.size; (first | replace HB := Lib.hid (HB.out.trans hb') | replace HB := Lib.hid (HB.out.drew.trans hb')); clear hb'))
  go_ret
  exact ⟨rfl, HB.out⟩

set_option maxRecDepth 100000 in
theorem lifted (os : Os) (started : os.Started) (H : Type) (enc : TypeId × Value → H) :
    ReturnsInHanded {} Try.checked os 5 .any (Rows.decodeOrderSpec.pre6 enc Try.prog Try.f5 Rows.decodeOrderRow.domain false) (Rows.decodeOrderSpec.post enc Try.prog Try.f5 false true false false) := by
  refine returnsInHanded_of_change (C := Try.checked) own started (by kernel_rfl) Try.func5
    (ChangeSpec.witness6 (enc := enc) (C := Try.checked) false ⟨#[], #[.int .u32 0, .int .u32 0], []⟩ 12 (by kernel_rfl) (by kernel_rfl) (by kernel_rfl) (by kernel_rfl)) ?_
  intro W base args ds gs before hval0 hW hcnd _
  have hval : ∀ (j : Nat) t v, Try.f5.params[j]? = some t → args[j]? = some v → Value.okWide Try.prog W .any base t v := hval0
  have hW' := hW
  obtain ⟨p, q, hA0, hV, rfl, hfz, hnd⟩ := hW
  have hA : DataW.TrodAll enc Try.prog W 0 (fun _ => true) true Try.f5.params.toList args.toList ds p := hA0
  rw [Try.params5] at hA hval
  obtain ⟨v0, vs0, d0, ds0, p0, q0, hargs, rfl, rfl, h0, r0⟩ := trodAll_cons hA
  obtain ⟨v1, vs1, d1, ds1, p1, q1, rfl, rfl, rfl, h1, r1⟩ := trodAll_cons r0
  obtain ⟨rfl, rfl, rfl⟩ := trodAll_nil r1
  obtain rfl : args = #[v0, v1] := by cases args; simp_all
  obtain ⟨rfl, rfl⟩ := trodVars_none hV
  obtain ⟨a0, rfl, rfl, rfl, w0⟩ := open_int Try.underlying22 (hval 0 22 v0 rfl rfl) h0
  obtain ⟨a1, rfl, rfl, rfl, w1⟩ := open_int Try.underlying22 (hval 1 22 v1 rfl rfl) h1
  clear hA0 hval0
  refine (walk a0 w0 a1 w1 W).mono fun e W' ⟨he, bel⟩ => ?_
  subst he
  exact ⟨_, rfl, _, _, _, [], _, [], hW', trodAll_mk1 (shut_bool Try.underlying4 _), (trodAll_cons_mk (shut_int Try.underlying22 w0) (trodAll_cons_mk (shut_int Try.underlying22 w1) trodAll_mk0)), rfl, bel.frame _, fun h => by cases h⟩

theorem over : Rows.decodeOrderRow.holds Try.pinned (OpenSpec.ofChange Rows.decodeOrderSpec) :=
  OpenClaim.holds_of_wide 5 Try.f5 rfl rfl rfl rfl rfl rfl rfl ⟨rfl, rfl, rfl, rfl, rfl⟩ rfl rfl rfl rfl rfl (by kernel_rfl) Try.func5 (by kernel_rfl)
    (of_decide_eq_true (by kernel_rfl)) (by unfold Func.isWrapper; first | (rw [if_pos (by decide +kernel)]; kernel_rfl) | (rw [if_neg (by decide +kernel)]; exact ⟨rfl, rfl⟩))
    (fun os started H enc _ => lifted os started H enc)

theorem proved : Rows.DecodeOrderSaid :=
  over
#print axioms proved
end Go.Proofs.Ythcdgjpdnlickaa.decodeOrder
