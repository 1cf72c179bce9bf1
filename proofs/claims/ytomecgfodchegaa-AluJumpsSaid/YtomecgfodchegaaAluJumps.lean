/- Proves that a jump by so much, and one back by as much, comes back, and that one through a register is even, and that the first test of the law holds. Conditions: none. -/
import Derived.Test.YtomecgfodchegaaRows
import Derived.Test.YtomecgfodchegaaAluT
import Derived.WalkKit
import Derived.ProofKit
import Derived.OpenShut
import Derived.Below
import Derived.Carry
import Derived.ShutString
import Derived.Lib.QuietBelow
namespace Go.Proofs.Ytomecgfodchegaa.aluJumps
open Go.ChangeShapes Go.WideShapes Go.ChangeAt Go.RowKit
set_option linter.unusedVariables false

theorem own : ownKnob Try.prog.godebug = none := by kernel_rfl

set_option maxRecDepth 100000 in
set_option maxHeartbeats 800000 in
theorem walk (a0 : Int) (w0 : (Lit.int .u64 a0).wf = true) (a1 : Int) (w1 : (Lit.int .u64 a1).wf = true) (a2 : Int) (w2 : (Lit.int .u64 a2).wf = true) (w : World) :
    Calls Try.prog 10 #[.int .u64 a0, .int .u64 a1, .int .u64 a2] w fun e w' => e = .returned (.bool true) ∧ Below w.heap.size w w' := by
  obtain ⟨pc, rfl⟩ := u_of w0
  obtain ⟨m, rfl⟩ := u_of w1
  obtain ⟨a, rfl⟩ := u_of w2
  clear w0 w1 w2
  have HN : Hid (IntKind.u64.wrap (-u m) = u (-m)) := Lib.hid (neg_u m)
  have t1 : (u (tgt 5 (-m) (tgt 3 m pc a) a) == u pc) = true := by
    rw [u_beq]; show (pc + m + -m == pc) = true; rw [BitVec.add_assoc, BitVec.add_neg_eq_sub, BitVec.sub_self, BitVec.add_zero]; simp
  obtain ⟨x, hx⟩ : ∃ x, a + m = x := ⟨_, rfl⟩
  have hr : tgt 4 m pc a = x &&& ~~~1#64 := by show (a + m) &&& ~~~1#64 = _; rw [hx]
  have hs : IntKind.u64.wrap (u a + u m) = u x := by rw [u_add, hx]
  have hz : (x &&& ~~~1#64) &&& 1#64 = 0#64 := by rw [BitVec.and_assoc]; simp
  have t2 : (bits BinOp.and IntKind.u64 (u (tgt 4 m pc a)) 1 == 0) = true := by rw [hr, u_one, u_and, u_zero, u_beq]; show (_ == 0#64) = true; rw [show (1 : BitVec 64) = 1#64 from rfl, hz]; rfl
  obtain ⟨b, hb0⟩ : ∃ b, (u (tgt 4 m pc a) == IntKind.u64.wrap (u a + u m)) = b := ⟨_, rfl⟩
  have t4 : b = false → (IntKind.u64.wrap (u (tgt 4 m pc a) + 1) == IntKind.u64.wrap (u a + u m)) = true := by
    rintro rfl
    rw [hr, hs, u_beq] at hb0
    rw [hr, hs, u_one, u_add, u_beq]
    have h1 : (x &&& ~~~1#64) + 1#64 = (x &&& ~~~1#64) ||| 1#64 := BitVec.add_eq_or_of_and_eq_zero _ _ hz
    show ((x &&& ~~~1#64) + 1#64 == x) = true
    rw [h1, beq_iff_eq]
    cases h0 : x.getLsbD 0
    · exfalso
      rw [beq_eq_false_iff_ne] at hb0
      apply hb0
      apply BitVec.eq_of_getLsbD_eq; intro i hi
      rw [BitVec.getLsbD_and, BitVec.getLsbD_not, show (1#64 : BitVec 64) = 1 from rfl, one_bit]
      by_cases e : i = 0
      · subst e; rw [h0]; rfl
      · simp [hi, e]
    · apply BitVec.eq_of_getLsbD_eq; intro i hi
      rw [BitVec.getLsbD_or, BitVec.getLsbD_and, BitVec.getLsbD_not, show (1#64 : BitVec 64) = 1 from rfl, one_bit]
      by_cases e : i = 0
      · subst e; rw [h0]; rfl
      · simp [hi, e]
  clear hx hr hs hz
  cases b
  all_goals
    first | (have t5 := t4 rfl; clear t4) | clear t4
    go_enter Try.func10, Try.ntmps10
    go_wp2_with fail
    rw [HN.out]
    refine (target_any _ _ _ _ _ _ _ _ _ _ _ _ _ _).mono ?_
    rintro e wn ⟨rfl, hb⟩
    have hb1 := ((On.refl (w.alloc (.cells #[.int .i64 3, .int .i64 0, .int .i64 0, .int .i64 0, .int .i64 0, .int .u64 (u m), .int .i64 0, .bool false, .bool false, .bool false, .int .i64 0] 27))).alloc (.cells #[.int .i64 5, .int .i64 0, .int .i64 0, .int .i64 0, .int .i64 0, .int .u64 (u (-m)), .int .i64 0, .bool false, .bool false, .bool false, .int .i64 0] 27)).trans hb
    have HB := Lib.hid (((On.refl w).alloc _).trans hb1)
    have c0 : ∀ d' os', (Sort.grow (redrawn wn d') os').cell? ⟨w.heap.size, 0, none⟩ = some (.int .i64 3) := fun d' os' => cell_regrown (on_new hb1 0 rfl) d' os'
    have c1 : ∀ d' os', (Sort.grow (redrawn wn d') os').cell? ⟨w.heap.size, 1, none⟩ = some (.int .i64 0) := fun d' os' => cell_regrown (on_new hb1 1 rfl) d' os'
    have c2 : ∀ d' os', (Sort.grow (redrawn wn d') os').cell? ⟨w.heap.size, 2, none⟩ = some (.int .i64 0) := fun d' os' => cell_regrown (on_new hb1 2 rfl) d' os'
    have c3 : ∀ d' os', (Sort.grow (redrawn wn d') os').cell? ⟨w.heap.size, 3, none⟩ = some (.int .i64 0) := fun d' os' => cell_regrown (on_new hb1 3 rfl) d' os'
    have c4 : ∀ d' os', (Sort.grow (redrawn wn d') os').cell? ⟨w.heap.size, 4, none⟩ = some (.int .i64 0) := fun d' os' => cell_regrown (on_new hb1 4 rfl) d' os'
    have c5 : ∀ d' os', (Sort.grow (redrawn wn d') os').cell? ⟨w.heap.size, 5, none⟩ = some (.int .u64 (u m)) := fun d' os' => cell_regrown (on_new hb1 5 rfl) d' os'
    have c6 : ∀ d' os', (Sort.grow (redrawn wn d') os').cell? ⟨w.heap.size, 6, none⟩ = some (.int .i64 0) := fun d' os' => cell_regrown (on_new hb1 6 rfl) d' os'
    have c7 : ∀ d' os', (Sort.grow (redrawn wn d') os').cell? ⟨w.heap.size, 7, none⟩ = some (.bool false) := fun d' os' => cell_regrown (on_new hb1 7 rfl) d' os'
    have c8 : ∀ d' os', (Sort.grow (redrawn wn d') os').cell? ⟨w.heap.size, 8, none⟩ = some (.bool false) := fun d' os' => cell_regrown (on_new hb1 8 rfl) d' os'
    have c9 : ∀ d' os', (Sort.grow (redrawn wn d') os').cell? ⟨w.heap.size, 9, none⟩ = some (.bool false) := fun d' os' => cell_regrown (on_new hb1 9 rfl) d' os'
    have c10 : ∀ d' os', (Sort.grow (redrawn wn d') os').cell? ⟨w.heap.size, 10, none⟩ = some (.int .i64 0) := fun d' os' => cell_regrown (on_new hb1 10 rfl) d' os'
    have d0 : ∀ d' os', (Sort.grow (redrawn wn d') os').cell? ⟨w.heap.size + 1, 0, none⟩ = some (.int .i64 5) := fun d' os' => cell_regrown (by have h := on_new hb 0 rfl; rwa [alloc_size] at h) d' os'
    have d1 : ∀ d' os', (Sort.grow (redrawn wn d') os').cell? ⟨w.heap.size + 1, 1, none⟩ = some (.int .i64 0) := fun d' os' => cell_regrown (by have h := on_new hb 1 rfl; rwa [alloc_size] at h) d' os'
    have d2 : ∀ d' os', (Sort.grow (redrawn wn d') os').cell? ⟨w.heap.size + 1, 2, none⟩ = some (.int .i64 0) := fun d' os' => cell_regrown (by have h := on_new hb 2 rfl; rwa [alloc_size] at h) d' os'
    have d3 : ∀ d' os', (Sort.grow (redrawn wn d') os').cell? ⟨w.heap.size + 1, 3, none⟩ = some (.int .i64 0) := fun d' os' => cell_regrown (by have h := on_new hb 3 rfl; rwa [alloc_size] at h) d' os'
    have d4 : ∀ d' os', (Sort.grow (redrawn wn d') os').cell? ⟨w.heap.size + 1, 4, none⟩ = some (.int .i64 0) := fun d' os' => cell_regrown (by have h := on_new hb 4 rfl; rwa [alloc_size] at h) d' os'
    have d5 : ∀ d' os', (Sort.grow (redrawn wn d') os').cell? ⟨w.heap.size + 1, 5, none⟩ = some (.int .u64 (u (-m))) := fun d' os' => cell_regrown (by have h := on_new hb 5 rfl; rwa [alloc_size] at h) d' os'
    have d6 : ∀ d' os', (Sort.grow (redrawn wn d') os').cell? ⟨w.heap.size + 1, 6, none⟩ = some (.int .i64 0) := fun d' os' => cell_regrown (by have h := on_new hb 6 rfl; rwa [alloc_size] at h) d' os'
    have d7 : ∀ d' os', (Sort.grow (redrawn wn d') os').cell? ⟨w.heap.size + 1, 7, none⟩ = some (.bool false) := fun d' os' => cell_regrown (by have h := on_new hb 7 rfl; rwa [alloc_size] at h) d' os'
    have d8 : ∀ d' os', (Sort.grow (redrawn wn d') os').cell? ⟨w.heap.size + 1, 8, none⟩ = some (.bool false) := fun d' os' => cell_regrown (by have h := on_new hb 8 rfl; rwa [alloc_size] at h) d' os'
    have d9 : ∀ d' os', (Sort.grow (redrawn wn d') os').cell? ⟨w.heap.size + 1, 9, none⟩ = some (.bool false) := fun d' os' => cell_regrown (by have h := on_new hb 9 rfl; rwa [alloc_size] at h) d' os'
    have d10 : ∀ d' os', (Sort.grow (redrawn wn d') os').cell? ⟨w.heap.size + 1, 10, none⟩ = some (.int .i64 0) := fun d' os' => cell_regrown (by have h := on_new hb 10 rfl; rwa [alloc_size] at h) d' os'
    clear hb hb1
    go_wp2_with fail
    refine wp_region_quiet_below (by kernel_rfl) (by kernel_rfl) ?_
    repeat (go_big_quiet_step (first | (go_at_call 11; exact Calls.on_same (awake4_yes _)) | (go_at_call 16; exact Calls.on_of (target_any _ _ _ _ _ _ _ _ _ _ _ _ _ _))))
    refine wpQuiet_nil ?_
    intro _ hw'
    obtain ⟨⟨dq, osq⟩, hw''⟩ := hw'
    subst hw''
    go_wp2
    go_ret
    exact ⟨rfl, HB.out.grow _ _⟩

set_option maxRecDepth 100000 in
theorem lifted (os : Os) (started : os.Started) (H : Type) (enc : TypeId × Value → H) :
    ReturnsInHanded {} Try.checked os 10 .any (Rows.aluJumpsSpec.pre6 enc Try.prog Try.f10 Rows.aluJumpsRow.domain false) (Rows.aluJumpsSpec.post enc Try.prog Try.f10 false true false false) := by
  refine returnsInHanded_of_change (C := Try.checked) own started (by kernel_rfl) Try.func10
    (ChangeSpec.witness6 (enc := enc) (C := Try.checked) false ⟨#[], #[.int .u64 0, .int .u64 0, .int .u64 0], []⟩ 12 (by kernel_rfl) (by kernel_rfl) (by kernel_rfl) (by kernel_rfl)) ?_
  intro W base args ds gs before hval0 hW hcnd _
  have hval : ∀ (j : Nat) t v, Try.f10.params[j]? = some t → args[j]? = some v → Value.okWide Try.prog W .any base t v := hval0
  have hW' := hW
  obtain ⟨p, q, hA0, hV, rfl, hfz, hnd⟩ := hW
  have hA : DataW.TrodAll enc Try.prog W 0 (fun _ => true) true Try.f10.params.toList args.toList ds p := hA0
  rw [Try.params10] at hA hval
  obtain ⟨v0, vs0, d0, ds0, p0, q0, hargs, rfl, rfl, h0, r0⟩ := trodAll_cons hA
  obtain ⟨v1, vs1, d1, ds1, p1, q1, rfl, rfl, rfl, h1, r1⟩ := trodAll_cons r0
  obtain ⟨v2, vs2, d2, ds2, p2, q2, rfl, rfl, rfl, h2, r2⟩ := trodAll_cons r1
  obtain ⟨rfl, rfl, rfl⟩ := trodAll_nil r2
  obtain rfl : args = #[v0, v1, v2] := by cases args; simp_all
  obtain ⟨rfl, rfl⟩ := trodVars_none hV
  obtain ⟨a0, rfl, rfl, rfl, w0⟩ := open_int Try.underlying22 (hval 0 22 v0 rfl rfl) h0
  obtain ⟨a1, rfl, rfl, rfl, w1⟩ := open_int Try.underlying22 (hval 1 22 v1 rfl rfl) h1
  obtain ⟨a2, rfl, rfl, rfl, w2⟩ := open_int Try.underlying22 (hval 2 22 v2 rfl rfl) h2
  clear hA0 hval0
  refine (walk a0 w0 a1 w1 a2 w2 W).mono fun e W' ⟨he, bel⟩ => ?_
  subst he
  exact ⟨_, rfl, _, _, _, [], _, [], hW', trodAll_mk1 (shut_bool Try.underlying4 _), (trodAll_cons_mk (shut_int Try.underlying22 w0) (trodAll_cons_mk (shut_int Try.underlying22 w1) (trodAll_cons_mk (shut_int Try.underlying22 w2) trodAll_mk0))), rfl, bel.frame _, fun h => by cases h⟩

theorem over : Rows.aluJumpsRow.holds Try.pinned (OpenSpec.ofChange Rows.aluJumpsSpec) :=
  OpenClaim.holds_of_wide 10 Try.f10 rfl rfl rfl rfl rfl rfl rfl ⟨rfl, rfl, rfl, rfl, rfl⟩ rfl rfl rfl rfl rfl (by kernel_rfl) Try.func10 (by kernel_rfl)
    (of_decide_eq_true (by kernel_rfl)) (by unfold Func.isWrapper; first | (rw [if_pos (by decide +kernel)]; kernel_rfl) | (rw [if_neg (by decide +kernel)]; exact ⟨rfl, rfl⟩))
    (fun os started H enc _ => lifted os started H enc)

theorem proved : Rows.AluJumpsSaid :=
  over
#print axioms proved
end Go.Proofs.Ytomecgfodchegaa.aluJumps
