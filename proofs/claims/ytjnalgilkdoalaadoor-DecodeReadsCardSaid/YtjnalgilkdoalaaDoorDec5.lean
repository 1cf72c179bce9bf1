/- What Decode comes to: the table. Conditions: named at each. -/
import Derived.Test.YtjnalgilkdoalaaDoorDec1
import Derived.Test.YtjnalgilkdoalaaDoorDec2
import Derived.Test.YtjnalgilkdoalaaDoorDec3f
import Derived.Test.YtjnalgilkdoalaaDoorDec3t
import Derived.Test.YtjnalgilkdoalaaDoorDec4
import Derived.WalkMore
namespace Go.Proofs.YtjnalgilkdoalaaDoor
open Go.RowKit
set_option linter.unusedSimpArgs false

set_option maxRecDepth 100000 in
set_option maxHeartbeats 4000000 in
theorem dec_55 (x : BitVec 32) (w : World) (ho : fi x 6 0 = 55) :
    Calls Tryd.prog 12 #[.int .u32 (q x)] w fun e w' => e = .returned (decOf x).val ∧ On w w' := by
  have HB := hb0 w
  go_enter Tryd.func12, Tryd.ntmps12
  go_wp2
  go_step3
  go_wp2_with (first | (go_at_call 16; refine (rd_any _ _).mono ?_; rintro e wn ⟨rfl, h⟩; replace HB := tr HB h; clear h) | (go_at_call 17; refine (rs1_any _ _).mono ?_; rintro e wn ⟨rfl, h⟩; replace HB := tr HB h; clear h) | (go_at_call 18; refine (rs2_any _ _).mono ?_; rintro e wn ⟨rfl, h⟩; replace HB := tr HB h; clear h) | (go_at_call 19; refine (funct3_any _ _).mono ?_; rintro e wn ⟨rfl, h⟩; replace HB := tr HB h; clear h) | (go_at_call 20; refine (opcode_any _ _).mono ?_; rintro e wn ⟨rfl, h⟩; replace HB := tr HB h; clear h) | (refine own_store w rfl rfl rfl rfl rfl (by simp [Value.oneCell']) ?_ ?_; focus ((repeat (first | exact heap_on HB.out | refine heap_past _ ?_ | refine heap_far ?_ (Nat.ne_of_gt HL.out) _)); done)) | (go_at_call 21; refine (immU_any _ _).mono ?_; rintro e wn ⟨rfl, h⟩; replace HB := tr HB h; clear h))
  go_step3
  go_wp2_with (first | (go_at_call 16; refine (rd_any _ _).mono ?_; rintro e wn ⟨rfl, h⟩; replace HB := tr HB h; clear h) | (go_at_call 17; refine (rs1_any _ _).mono ?_; rintro e wn ⟨rfl, h⟩; replace HB := tr HB h; clear h) | (go_at_call 18; refine (rs2_any _ _).mono ?_; rintro e wn ⟨rfl, h⟩; replace HB := tr HB h; clear h) | (go_at_call 19; refine (funct3_any _ _).mono ?_; rintro e wn ⟨rfl, h⟩; replace HB := tr HB h; clear h) | (go_at_call 20; refine (opcode_any _ _).mono ?_; rintro e wn ⟨rfl, h⟩; replace HB := tr HB h; clear h) | (refine own_store w rfl rfl rfl rfl rfl (by simp [Value.oneCell']) ?_ ?_; focus ((repeat (first | exact heap_on HB.out | refine heap_past _ ?_ | refine heap_far ?_ (Nat.ne_of_gt HL.out) _)); done)) | (go_at_call 21; refine (immU_any _ _).mono ?_; rintro e wn ⟨rfl, h⟩; replace HB := tr HB h; clear h))
  rw [Exit.noGoto_ret]
  refine own_back w rfl rfl rfl rfl ?_ ?_; (focus ((repeat (first | exact heap_on HB.out | refine heap_past _ ?_ | refine heap_far ?_ (Nat.ne_of_gt HL.out) _)); done))
  exact ⟨by unfold decOf; (simp [ho, Ins.zero, Ins.val, u_nil]) <;> rfl, by ((repeat (first | apply On.rowO | refine On.setO ?_ HL.out | apply On.alloc)); first | exact On.refl w | exact on_of HB.out)⟩
set_option maxRecDepth 100000 in
set_option maxHeartbeats 4000000 in
theorem dec_23 (x : BitVec 32) (w : World) (ho : fi x 6 0 = 23) :
    Calls Tryd.prog 12 #[.int .u32 (q x)] w fun e w' => e = .returned (decOf x).val ∧ On w w' := by
  have HB := hb0 w
  go_enter Tryd.func12, Tryd.ntmps12
  go_wp2
  go_step3
  go_wp2_with (first | (go_at_call 16; refine (rd_any _ _).mono ?_; rintro e wn ⟨rfl, h⟩; replace HB := tr HB h; clear h) | (go_at_call 17; refine (rs1_any _ _).mono ?_; rintro e wn ⟨rfl, h⟩; replace HB := tr HB h; clear h) | (go_at_call 18; refine (rs2_any _ _).mono ?_; rintro e wn ⟨rfl, h⟩; replace HB := tr HB h; clear h) | (go_at_call 19; refine (funct3_any _ _).mono ?_; rintro e wn ⟨rfl, h⟩; replace HB := tr HB h; clear h) | (go_at_call 20; refine (opcode_any _ _).mono ?_; rintro e wn ⟨rfl, h⟩; replace HB := tr HB h; clear h) | (refine own_store w rfl rfl rfl rfl rfl (by simp [Value.oneCell']) ?_ ?_; focus ((repeat (first | exact heap_on HB.out | refine heap_past _ ?_ | refine heap_far ?_ (Nat.ne_of_gt HL.out) _)); done)) | (go_at_call 21; refine (immU_any _ _).mono ?_; rintro e wn ⟨rfl, h⟩; replace HB := tr HB h; clear h))
  go_step3
  go_wp2_with (first | (go_at_call 16; refine (rd_any _ _).mono ?_; rintro e wn ⟨rfl, h⟩; replace HB := tr HB h; clear h) | (go_at_call 17; refine (rs1_any _ _).mono ?_; rintro e wn ⟨rfl, h⟩; replace HB := tr HB h; clear h) | (go_at_call 18; refine (rs2_any _ _).mono ?_; rintro e wn ⟨rfl, h⟩; replace HB := tr HB h; clear h) | (go_at_call 19; refine (funct3_any _ _).mono ?_; rintro e wn ⟨rfl, h⟩; replace HB := tr HB h; clear h) | (go_at_call 20; refine (opcode_any _ _).mono ?_; rintro e wn ⟨rfl, h⟩; replace HB := tr HB h; clear h) | (refine own_store w rfl rfl rfl rfl rfl (by simp [Value.oneCell']) ?_ ?_; focus ((repeat (first | exact heap_on HB.out | refine heap_past _ ?_ | refine heap_far ?_ (Nat.ne_of_gt HL.out) _)); done)) | (go_at_call 21; refine (immU_any _ _).mono ?_; rintro e wn ⟨rfl, h⟩; replace HB := tr HB h; clear h))
  rw [Exit.noGoto_ret]
  refine own_back w rfl rfl rfl rfl ?_ ?_; (focus ((repeat (first | exact heap_on HB.out | refine heap_past _ ?_ | refine heap_far ?_ (Nat.ne_of_gt HL.out) _)); done))
  exact ⟨by unfold decOf; (simp [ho, Ins.zero, Ins.val, u_nil]) <;> rfl, by ((repeat (first | apply On.rowO | refine On.setO ?_ HL.out | apply On.alloc)); first | exact On.refl w | exact on_of HB.out)⟩
set_option maxRecDepth 100000 in
set_option maxHeartbeats 4000000 in
theorem dec_111 (x : BitVec 32) (w : World) (ho : fi x 6 0 = 111) :
    Calls Tryd.prog 12 #[.int .u32 (q x)] w fun e w' => e = .returned (decOf x).val ∧ On w w' := by
  have HB := hb0 w
  go_enter Tryd.func12, Tryd.ntmps12
  go_wp2
  go_step3
  go_wp2_with (first | (go_at_call 16; refine (rd_any _ _).mono ?_; rintro e wn ⟨rfl, h⟩; replace HB := tr HB h; clear h) | (go_at_call 17; refine (rs1_any _ _).mono ?_; rintro e wn ⟨rfl, h⟩; replace HB := tr HB h; clear h) | (go_at_call 18; refine (rs2_any _ _).mono ?_; rintro e wn ⟨rfl, h⟩; replace HB := tr HB h; clear h) | (go_at_call 19; refine (funct3_any _ _).mono ?_; rintro e wn ⟨rfl, h⟩; replace HB := tr HB h; clear h) | (go_at_call 20; refine (opcode_any _ _).mono ?_; rintro e wn ⟨rfl, h⟩; replace HB := tr HB h; clear h) | (refine own_store w rfl rfl rfl rfl rfl (by simp [Value.oneCell']) ?_ ?_; focus ((repeat (first | exact heap_on HB.out | refine heap_past _ ?_ | refine heap_far ?_ (Nat.ne_of_gt HL.out) _)); done)) | (go_at_call 22; refine (immJ_any _ _).mono ?_; rintro e wn ⟨rfl, h⟩; replace HB := tr HB h; clear h))
  go_step3
  go_wp2_with (first | (go_at_call 16; refine (rd_any _ _).mono ?_; rintro e wn ⟨rfl, h⟩; replace HB := tr HB h; clear h) | (go_at_call 17; refine (rs1_any _ _).mono ?_; rintro e wn ⟨rfl, h⟩; replace HB := tr HB h; clear h) | (go_at_call 18; refine (rs2_any _ _).mono ?_; rintro e wn ⟨rfl, h⟩; replace HB := tr HB h; clear h) | (go_at_call 19; refine (funct3_any _ _).mono ?_; rintro e wn ⟨rfl, h⟩; replace HB := tr HB h; clear h) | (go_at_call 20; refine (opcode_any _ _).mono ?_; rintro e wn ⟨rfl, h⟩; replace HB := tr HB h; clear h) | (refine own_store w rfl rfl rfl rfl rfl (by simp [Value.oneCell']) ?_ ?_; focus ((repeat (first | exact heap_on HB.out | refine heap_past _ ?_ | refine heap_far ?_ (Nat.ne_of_gt HL.out) _)); done)) | (go_at_call 22; refine (immJ_any _ _).mono ?_; rintro e wn ⟨rfl, h⟩; replace HB := tr HB h; clear h))
  rw [Exit.noGoto_ret]
  refine own_back w rfl rfl rfl rfl ?_ ?_; (focus ((repeat (first | exact heap_on HB.out | refine heap_past _ ?_ | refine heap_far ?_ (Nat.ne_of_gt HL.out) _)); done))
  exact ⟨by unfold decOf; (simp [ho, Ins.zero, Ins.val, u_nil]) <;> rfl, by ((repeat (first | apply On.rowO | refine On.setO ?_ HL.out | apply On.alloc)); first | exact On.refl w | exact on_of HB.out)⟩
set_option maxRecDepth 100000 in
set_option maxHeartbeats 4000000 in
theorem dec_103z (x : BitVec 32) (w : World) (ho : fi x 6 0 = 103) (h3 : fi x 14 12 = 0) :
    Calls Tryd.prog 12 #[.int .u32 (q x)] w fun e w' => e = .returned (decOf x).val ∧ On w w' := by
  have HB := hb0 w
  go_enter Tryd.func12, Tryd.ntmps12
  go_wp2
  go_step3
  go_wp2_with (first | (go_at_call 16; refine (rd_any _ _).mono ?_; rintro e wn ⟨rfl, h⟩; replace HB := tr HB h; clear h) | (go_at_call 17; refine (rs1_any _ _).mono ?_; rintro e wn ⟨rfl, h⟩; replace HB := tr HB h; clear h) | (go_at_call 18; refine (rs2_any _ _).mono ?_; rintro e wn ⟨rfl, h⟩; replace HB := tr HB h; clear h) | (go_at_call 19; refine (funct3_any _ _).mono ?_; rintro e wn ⟨rfl, h⟩; replace HB := tr HB h; clear h) | (go_at_call 20; refine (opcode_any _ _).mono ?_; rintro e wn ⟨rfl, h⟩; replace HB := tr HB h; clear h) | (refine own_store w rfl rfl rfl rfl rfl (by simp [Value.oneCell']) ?_ ?_; focus ((repeat (first | exact heap_on HB.out | refine heap_past _ ?_ | refine heap_far ?_ (Nat.ne_of_gt HL.out) _)); done)) | (go_at_call 23; refine (immI_any _ _).mono ?_; rintro e wn ⟨rfl, h⟩; replace HB := tr HB h; clear h))
  go_step3
  go_wp2_with (first | (go_at_call 16; refine (rd_any _ _).mono ?_; rintro e wn ⟨rfl, h⟩; replace HB := tr HB h; clear h) | (go_at_call 17; refine (rs1_any _ _).mono ?_; rintro e wn ⟨rfl, h⟩; replace HB := tr HB h; clear h) | (go_at_call 18; refine (rs2_any _ _).mono ?_; rintro e wn ⟨rfl, h⟩; replace HB := tr HB h; clear h) | (go_at_call 19; refine (funct3_any _ _).mono ?_; rintro e wn ⟨rfl, h⟩; replace HB := tr HB h; clear h) | (go_at_call 20; refine (opcode_any _ _).mono ?_; rintro e wn ⟨rfl, h⟩; replace HB := tr HB h; clear h) | (refine own_store w rfl rfl rfl rfl rfl (by simp [Value.oneCell']) ?_ ?_; focus ((repeat (first | exact heap_on HB.out | refine heap_past _ ?_ | refine heap_far ?_ (Nat.ne_of_gt HL.out) _)); done)) | (go_at_call 23; refine (immI_any _ _).mono ?_; rintro e wn ⟨rfl, h⟩; replace HB := tr HB h; clear h))
  rw [Exit.noGoto_ret]
  refine own_back w rfl rfl rfl rfl ?_ ?_; (focus ((repeat (first | exact heap_on HB.out | refine heap_past _ ?_ | refine heap_far ?_ (Nat.ne_of_gt HL.out) _)); done))
  exact ⟨by unfold decOf; (simp [ho, h3, Ins.zero, Ins.val, u_nil]) <;> rfl, by ((repeat (first | apply On.rowO | refine On.setO ?_ HL.out | apply On.alloc)); first | exact On.refl w | exact on_of HB.out)⟩
set_option maxRecDepth 100000 in
set_option maxHeartbeats 4000000 in
theorem dec_103n (x : BitVec 32) (w : World) (ho : fi x 6 0 = 103) (H3 : Hid (¬ fi x 14 12 = 0)) :
    Calls Tryd.prog 12 #[.int .u32 (q x)] w fun e w' => e = .returned (decOf x).val ∧ On w w' := by
  have b0 : (fi x 14 12 == 0) = false := by simpa using H3.out
  have HB := hb0 w
  go_enter Tryd.func12, Tryd.ntmps12
  go_wp2
  go_step3
  go_wp2_with (first | (go_at_call 16; refine (rd_any _ _).mono ?_; rintro e wn ⟨rfl, h⟩; replace HB := tr HB h; clear h) | (go_at_call 17; refine (rs1_any _ _).mono ?_; rintro e wn ⟨rfl, h⟩; replace HB := tr HB h; clear h) | (go_at_call 18; refine (rs2_any _ _).mono ?_; rintro e wn ⟨rfl, h⟩; replace HB := tr HB h; clear h) | (go_at_call 19; refine (funct3_any _ _).mono ?_; rintro e wn ⟨rfl, h⟩; replace HB := tr HB h; clear h) | (go_at_call 20; refine (opcode_any _ _).mono ?_; rintro e wn ⟨rfl, h⟩; replace HB := tr HB h; clear h) | (refine own_store w rfl rfl rfl rfl rfl (by simp [Value.oneCell']) ?_ ?_; focus ((repeat (first | exact heap_on HB.out | refine heap_past _ ?_ | refine heap_far ?_ (Nat.ne_of_gt HL.out) _)); done)))
  go_step3
  go_wp2_with (first | (go_at_call 16; refine (rd_any _ _).mono ?_; rintro e wn ⟨rfl, h⟩; replace HB := tr HB h; clear h) | (go_at_call 17; refine (rs1_any _ _).mono ?_; rintro e wn ⟨rfl, h⟩; replace HB := tr HB h; clear h) | (go_at_call 18; refine (rs2_any _ _).mono ?_; rintro e wn ⟨rfl, h⟩; replace HB := tr HB h; clear h) | (go_at_call 19; refine (funct3_any _ _).mono ?_; rintro e wn ⟨rfl, h⟩; replace HB := tr HB h; clear h) | (go_at_call 20; refine (opcode_any _ _).mono ?_; rintro e wn ⟨rfl, h⟩; replace HB := tr HB h; clear h) | (refine own_store w rfl rfl rfl rfl rfl (by simp [Value.oneCell']) ?_ ?_; focus ((repeat (first | exact heap_on HB.out | refine heap_past _ ?_ | refine heap_far ?_ (Nat.ne_of_gt HL.out) _)); done)))
  rw [Exit.noGoto_ret]
  refine own_back w rfl rfl rfl rfl ?_ ?_; (focus ((repeat (first | exact heap_on HB.out | refine heap_past _ ?_ | refine heap_far ?_ (Nat.ne_of_gt HL.out) _)); done))
  exact ⟨by unfold decOf; (simp [ho, H3.out, Ins.zero, Ins.val, u_nil]) <;> rfl, by ((repeat (first | apply On.rowO | refine On.setO ?_ HL.out | apply On.alloc)); first | exact On.refl w | exact on_of HB.out)⟩
set_option maxRecDepth 100000 in
set_option maxHeartbeats 4000000 in
theorem dec_99_0 (x : BitVec 32) (w : World) (ho : fi x 6 0 = 99) (h3 : fi x 14 12 = 0) :
    Calls Tryd.prog 12 #[.int .u32 (q x)] w fun e w' => e = .returned (decOf x).val ∧ On w w' := by
  have HB := hb0 w
  go_enter Tryd.func12, Tryd.ntmps12
  go_wp2
  go_step3
  go_wp2_with (first | (go_at_call 16; refine (rd_any _ _).mono ?_; rintro e wn ⟨rfl, h⟩; replace HB := tr HB h; clear h) | (go_at_call 17; refine (rs1_any _ _).mono ?_; rintro e wn ⟨rfl, h⟩; replace HB := tr HB h; clear h) | (go_at_call 18; refine (rs2_any _ _).mono ?_; rintro e wn ⟨rfl, h⟩; replace HB := tr HB h; clear h) | (go_at_call 19; refine (funct3_any _ _).mono ?_; rintro e wn ⟨rfl, h⟩; replace HB := tr HB h; clear h) | (go_at_call 20; refine (opcode_any _ _).mono ?_; rintro e wn ⟨rfl, h⟩; replace HB := tr HB h; clear h) | (refine own_store w rfl rfl rfl rfl rfl (by simp [Value.oneCell']) ?_ ?_; focus ((repeat (first | exact heap_on HB.out | refine heap_past _ ?_ | refine heap_far ?_ (Nat.ne_of_gt HL.out) _)); done)) | (go_at_call 24; refine (immB_any _ _).mono ?_; rintro e wn ⟨rfl, h⟩; replace HB := tr HB h; clear h))
  go_step3
  go_wp2_with (first | (go_at_call 16; refine (rd_any _ _).mono ?_; rintro e wn ⟨rfl, h⟩; replace HB := tr HB h; clear h) | (go_at_call 17; refine (rs1_any _ _).mono ?_; rintro e wn ⟨rfl, h⟩; replace HB := tr HB h; clear h) | (go_at_call 18; refine (rs2_any _ _).mono ?_; rintro e wn ⟨rfl, h⟩; replace HB := tr HB h; clear h) | (go_at_call 19; refine (funct3_any _ _).mono ?_; rintro e wn ⟨rfl, h⟩; replace HB := tr HB h; clear h) | (go_at_call 20; refine (opcode_any _ _).mono ?_; rintro e wn ⟨rfl, h⟩; replace HB := tr HB h; clear h) | (refine own_store w rfl rfl rfl rfl rfl (by simp [Value.oneCell']) ?_ ?_; focus ((repeat (first | exact heap_on HB.out | refine heap_past _ ?_ | refine heap_far ?_ (Nat.ne_of_gt HL.out) _)); done)) | (go_at_call 24; refine (immB_any _ _).mono ?_; rintro e wn ⟨rfl, h⟩; replace HB := tr HB h; clear h))
  rw [Exit.noGoto_ret]
  refine own_back w rfl rfl rfl rfl ?_ ?_; (focus ((repeat (first | exact heap_on HB.out | refine heap_past _ ?_ | refine heap_far ?_ (Nat.ne_of_gt HL.out) _)); done))
  exact ⟨by unfold decOf; (simp [ho, h3, Ins.zero, Ins.val, u_nil]) <;> rfl, by ((repeat (first | apply On.rowO | refine On.setO ?_ HL.out | apply On.alloc)); first | exact On.refl w | exact on_of HB.out)⟩
set_option maxRecDepth 100000 in
set_option maxHeartbeats 4000000 in
theorem dec_3_0 (x : BitVec 32) (w : World) (ho : fi x 6 0 = 3) (h3 : fi x 14 12 = 0) :
    Calls Tryd.prog 12 #[.int .u32 (q x)] w fun e w' => e = .returned (decOf x).val ∧ On w w' := by
  have HB := hb0 w
  go_enter Tryd.func12, Tryd.ntmps12
  go_wp2
  go_step3
  go_wp2_with (first | (go_at_call 16; refine (rd_any _ _).mono ?_; rintro e wn ⟨rfl, h⟩; replace HB := tr HB h; clear h) | (go_at_call 17; refine (rs1_any _ _).mono ?_; rintro e wn ⟨rfl, h⟩; replace HB := tr HB h; clear h) | (go_at_call 18; refine (rs2_any _ _).mono ?_; rintro e wn ⟨rfl, h⟩; replace HB := tr HB h; clear h) | (go_at_call 19; refine (funct3_any _ _).mono ?_; rintro e wn ⟨rfl, h⟩; replace HB := tr HB h; clear h) | (go_at_call 20; refine (opcode_any _ _).mono ?_; rintro e wn ⟨rfl, h⟩; replace HB := tr HB h; clear h) | (refine own_store w rfl rfl rfl rfl rfl (by simp [Value.oneCell']) ?_ ?_; focus ((repeat (first | exact heap_on HB.out | refine heap_past _ ?_ | refine heap_far ?_ (Nat.ne_of_gt HL.out) _)); done)) | (go_at_call 23; refine (immI_any _ _).mono ?_; rintro e wn ⟨rfl, h⟩; replace HB := tr HB h; clear h))
  go_step3
  go_wp2_with (first | (go_at_call 16; refine (rd_any _ _).mono ?_; rintro e wn ⟨rfl, h⟩; replace HB := tr HB h; clear h) | (go_at_call 17; refine (rs1_any _ _).mono ?_; rintro e wn ⟨rfl, h⟩; replace HB := tr HB h; clear h) | (go_at_call 18; refine (rs2_any _ _).mono ?_; rintro e wn ⟨rfl, h⟩; replace HB := tr HB h; clear h) | (go_at_call 19; refine (funct3_any _ _).mono ?_; rintro e wn ⟨rfl, h⟩; replace HB := tr HB h; clear h) | (go_at_call 20; refine (opcode_any _ _).mono ?_; rintro e wn ⟨rfl, h⟩; replace HB := tr HB h; clear h) | (refine own_store w rfl rfl rfl rfl rfl (by simp [Value.oneCell']) ?_ ?_; focus ((repeat (first | exact heap_on HB.out | refine heap_past _ ?_ | refine heap_far ?_ (Nat.ne_of_gt HL.out) _)); done)) | (go_at_call 23; refine (immI_any _ _).mono ?_; rintro e wn ⟨rfl, h⟩; replace HB := tr HB h; clear h))
  rw [Exit.noGoto_ret]
  refine own_back w rfl rfl rfl rfl ?_ ?_; (focus ((repeat (first | exact heap_on HB.out | refine heap_past _ ?_ | refine heap_far ?_ (Nat.ne_of_gt HL.out) _)); done))
  exact ⟨by unfold decOf; (simp [ho, h3, Ins.zero, Ins.val, u_nil]) <;> rfl, by ((repeat (first | apply On.rowO | refine On.setO ?_ HL.out | apply On.alloc)); first | exact On.refl w | exact on_of HB.out)⟩
set_option maxRecDepth 100000 in
set_option maxHeartbeats 4000000 in
theorem dec_35_0 (x : BitVec 32) (w : World) (ho : fi x 6 0 = 35) (h3 : fi x 14 12 = 0) :
    Calls Tryd.prog 12 #[.int .u32 (q x)] w fun e w' => e = .returned (decOf x).val ∧ On w w' := by
  have HB := hb0 w
  go_enter Tryd.func12, Tryd.ntmps12
  go_wp2
  go_step3
  go_wp2_with (first | (go_at_call 16; refine (rd_any _ _).mono ?_; rintro e wn ⟨rfl, h⟩; replace HB := tr HB h; clear h) | (go_at_call 17; refine (rs1_any _ _).mono ?_; rintro e wn ⟨rfl, h⟩; replace HB := tr HB h; clear h) | (go_at_call 18; refine (rs2_any _ _).mono ?_; rintro e wn ⟨rfl, h⟩; replace HB := tr HB h; clear h) | (go_at_call 19; refine (funct3_any _ _).mono ?_; rintro e wn ⟨rfl, h⟩; replace HB := tr HB h; clear h) | (go_at_call 20; refine (opcode_any _ _).mono ?_; rintro e wn ⟨rfl, h⟩; replace HB := tr HB h; clear h) | (refine own_store w rfl rfl rfl rfl rfl (by simp [Value.oneCell']) ?_ ?_; focus ((repeat (first | exact heap_on HB.out | refine heap_past _ ?_ | refine heap_far ?_ (Nat.ne_of_gt HL.out) _)); done)))
  go_step3
  go_wp2_with (first | (go_at_call 16; refine (rd_any _ _).mono ?_; rintro e wn ⟨rfl, h⟩; replace HB := tr HB h; clear h) | (go_at_call 17; refine (rs1_any _ _).mono ?_; rintro e wn ⟨rfl, h⟩; replace HB := tr HB h; clear h) | (go_at_call 18; refine (rs2_any _ _).mono ?_; rintro e wn ⟨rfl, h⟩; replace HB := tr HB h; clear h) | (go_at_call 19; refine (funct3_any _ _).mono ?_; rintro e wn ⟨rfl, h⟩; replace HB := tr HB h; clear h) | (go_at_call 20; refine (opcode_any _ _).mono ?_; rintro e wn ⟨rfl, h⟩; replace HB := tr HB h; clear h) | (refine own_store w rfl rfl rfl rfl rfl (by simp [Value.oneCell']) ?_ ?_; focus ((repeat (first | exact heap_on HB.out | refine heap_past _ ?_ | refine heap_far ?_ (Nat.ne_of_gt HL.out) _)); done)))
  go_region_with (first | (go_at_call 25; refine (immS_any _ _).mono ?_; rintro e wx ⟨rfl, h⟩; (first | replace HB := tr HB h | replace HB := trd HB h); obtain ⟨r0, r1, r2, r3, r4, r5, r6, r7, r8, r9, r10, rf, -⟩ := own11 HB.out; clear h))
  all_goals (go_wp2; rw [Exit.noGoto_ret]; refine own_back11 w rfl rfl rfl (heap_on HB.out) ?_; exact ⟨by unfold decOf; (simp [ho, h3, Ins.zero, Ins.val, u_nil]) <;> rfl, by (repeat (refine On.set ?_ _ _ (Nat.le_refl _))); exact on_of HB.out⟩)
set_option maxRecDepth 100000 in
set_option maxHeartbeats 4000000 in
theorem dec_99_1 (x : BitVec 32) (w : World) (ho : fi x 6 0 = 99) (h3 : fi x 14 12 = 1) :
    Calls Tryd.prog 12 #[.int .u32 (q x)] w fun e w' => e = .returned (decOf x).val ∧ On w w' := by
  have HB := hb0 w
  go_enter Tryd.func12, Tryd.ntmps12
  go_wp2
  go_step3
  go_wp2_with (first | (go_at_call 16; refine (rd_any _ _).mono ?_; rintro e wn ⟨rfl, h⟩; replace HB := tr HB h; clear h) | (go_at_call 17; refine (rs1_any _ _).mono ?_; rintro e wn ⟨rfl, h⟩; replace HB := tr HB h; clear h) | (go_at_call 18; refine (rs2_any _ _).mono ?_; rintro e wn ⟨rfl, h⟩; replace HB := tr HB h; clear h) | (go_at_call 19; refine (funct3_any _ _).mono ?_; rintro e wn ⟨rfl, h⟩; replace HB := tr HB h; clear h) | (go_at_call 20; refine (opcode_any _ _).mono ?_; rintro e wn ⟨rfl, h⟩; replace HB := tr HB h; clear h) | (refine own_store w rfl rfl rfl rfl rfl (by simp [Value.oneCell']) ?_ ?_; focus ((repeat (first | exact heap_on HB.out | refine heap_past _ ?_ | refine heap_far ?_ (Nat.ne_of_gt HL.out) _)); done)) | (go_at_call 24; refine (immB_any _ _).mono ?_; rintro e wn ⟨rfl, h⟩; replace HB := tr HB h; clear h))
  go_step3
  go_wp2_with (first | (go_at_call 16; refine (rd_any _ _).mono ?_; rintro e wn ⟨rfl, h⟩; replace HB := tr HB h; clear h) | (go_at_call 17; refine (rs1_any _ _).mono ?_; rintro e wn ⟨rfl, h⟩; replace HB := tr HB h; clear h) | (go_at_call 18; refine (rs2_any _ _).mono ?_; rintro e wn ⟨rfl, h⟩; replace HB := tr HB h; clear h) | (go_at_call 19; refine (funct3_any _ _).mono ?_; rintro e wn ⟨rfl, h⟩; replace HB := tr HB h; clear h) | (go_at_call 20; refine (opcode_any _ _).mono ?_; rintro e wn ⟨rfl, h⟩; replace HB := tr HB h; clear h) | (refine own_store w rfl rfl rfl rfl rfl (by simp [Value.oneCell']) ?_ ?_; focus ((repeat (first | exact heap_on HB.out | refine heap_past _ ?_ | refine heap_far ?_ (Nat.ne_of_gt HL.out) _)); done)) | (go_at_call 24; refine (immB_any _ _).mono ?_; rintro e wn ⟨rfl, h⟩; replace HB := tr HB h; clear h))
  rw [Exit.noGoto_ret]
  refine own_back w rfl rfl rfl rfl ?_ ?_; (focus ((repeat (first | exact heap_on HB.out | refine heap_past _ ?_ | refine heap_far ?_ (Nat.ne_of_gt HL.out) _)); done))
  exact ⟨by unfold decOf; (simp [ho, h3, Ins.zero, Ins.val, u_nil]) <;> rfl, by ((repeat (first | apply On.rowO | refine On.setO ?_ HL.out | apply On.alloc)); first | exact On.refl w | exact on_of HB.out)⟩
set_option maxRecDepth 100000 in
set_option maxHeartbeats 4000000 in
theorem dec_3_1 (x : BitVec 32) (w : World) (ho : fi x 6 0 = 3) (h3 : fi x 14 12 = 1) :
    Calls Tryd.prog 12 #[.int .u32 (q x)] w fun e w' => e = .returned (decOf x).val ∧ On w w' := by
  have HB := hb0 w
  go_enter Tryd.func12, Tryd.ntmps12
  go_wp2
  go_step3
  go_wp2_with (first | (go_at_call 16; refine (rd_any _ _).mono ?_; rintro e wn ⟨rfl, h⟩; replace HB := tr HB h; clear h) | (go_at_call 17; refine (rs1_any _ _).mono ?_; rintro e wn ⟨rfl, h⟩; replace HB := tr HB h; clear h) | (go_at_call 18; refine (rs2_any _ _).mono ?_; rintro e wn ⟨rfl, h⟩; replace HB := tr HB h; clear h) | (go_at_call 19; refine (funct3_any _ _).mono ?_; rintro e wn ⟨rfl, h⟩; replace HB := tr HB h; clear h) | (go_at_call 20; refine (opcode_any _ _).mono ?_; rintro e wn ⟨rfl, h⟩; replace HB := tr HB h; clear h) | (refine own_store w rfl rfl rfl rfl rfl (by simp [Value.oneCell']) ?_ ?_; focus ((repeat (first | exact heap_on HB.out | refine heap_past _ ?_ | refine heap_far ?_ (Nat.ne_of_gt HL.out) _)); done)) | (go_at_call 23; refine (immI_any _ _).mono ?_; rintro e wn ⟨rfl, h⟩; replace HB := tr HB h; clear h))
  go_step3
  go_wp2_with (first | (go_at_call 16; refine (rd_any _ _).mono ?_; rintro e wn ⟨rfl, h⟩; replace HB := tr HB h; clear h) | (go_at_call 17; refine (rs1_any _ _).mono ?_; rintro e wn ⟨rfl, h⟩; replace HB := tr HB h; clear h) | (go_at_call 18; refine (rs2_any _ _).mono ?_; rintro e wn ⟨rfl, h⟩; replace HB := tr HB h; clear h) | (go_at_call 19; refine (funct3_any _ _).mono ?_; rintro e wn ⟨rfl, h⟩; replace HB := tr HB h; clear h) | (go_at_call 20; refine (opcode_any _ _).mono ?_; rintro e wn ⟨rfl, h⟩; replace HB := tr HB h; clear h) | (refine own_store w rfl rfl rfl rfl rfl (by simp [Value.oneCell']) ?_ ?_; focus ((repeat (first | exact heap_on HB.out | refine heap_past _ ?_ | refine heap_far ?_ (Nat.ne_of_gt HL.out) _)); done)) | (go_at_call 23; refine (immI_any _ _).mono ?_; rintro e wn ⟨rfl, h⟩; replace HB := tr HB h; clear h))
  rw [Exit.noGoto_ret]
  refine own_back w rfl rfl rfl rfl ?_ ?_; (focus ((repeat (first | exact heap_on HB.out | refine heap_past _ ?_ | refine heap_far ?_ (Nat.ne_of_gt HL.out) _)); done))
  exact ⟨by unfold decOf; (simp [ho, h3, Ins.zero, Ins.val, u_nil]) <;> rfl, by ((repeat (first | apply On.rowO | refine On.setO ?_ HL.out | apply On.alloc)); first | exact On.refl w | exact on_of HB.out)⟩
set_option maxRecDepth 100000 in
set_option maxHeartbeats 4000000 in
theorem dec_35_1 (x : BitVec 32) (w : World) (ho : fi x 6 0 = 35) (h3 : fi x 14 12 = 1) :
    Calls Tryd.prog 12 #[.int .u32 (q x)] w fun e w' => e = .returned (decOf x).val ∧ On w w' := by
  have HB := hb0 w
  go_enter Tryd.func12, Tryd.ntmps12
  go_wp2
  go_step3
  go_wp2_with (first | (go_at_call 16; refine (rd_any _ _).mono ?_; rintro e wn ⟨rfl, h⟩; replace HB := tr HB h; clear h) | (go_at_call 17; refine (rs1_any _ _).mono ?_; rintro e wn ⟨rfl, h⟩; replace HB := tr HB h; clear h) | (go_at_call 18; refine (rs2_any _ _).mono ?_; rintro e wn ⟨rfl, h⟩; replace HB := tr HB h; clear h) | (go_at_call 19; refine (funct3_any _ _).mono ?_; rintro e wn ⟨rfl, h⟩; replace HB := tr HB h; clear h) | (go_at_call 20; refine (opcode_any _ _).mono ?_; rintro e wn ⟨rfl, h⟩; replace HB := tr HB h; clear h) | (refine own_store w rfl rfl rfl rfl rfl (by simp [Value.oneCell']) ?_ ?_; focus ((repeat (first | exact heap_on HB.out | refine heap_past _ ?_ | refine heap_far ?_ (Nat.ne_of_gt HL.out) _)); done)))
  go_step3
  go_wp2_with (first | (go_at_call 16; refine (rd_any _ _).mono ?_; rintro e wn ⟨rfl, h⟩; replace HB := tr HB h; clear h) | (go_at_call 17; refine (rs1_any _ _).mono ?_; rintro e wn ⟨rfl, h⟩; replace HB := tr HB h; clear h) | (go_at_call 18; refine (rs2_any _ _).mono ?_; rintro e wn ⟨rfl, h⟩; replace HB := tr HB h; clear h) | (go_at_call 19; refine (funct3_any _ _).mono ?_; rintro e wn ⟨rfl, h⟩; replace HB := tr HB h; clear h) | (go_at_call 20; refine (opcode_any _ _).mono ?_; rintro e wn ⟨rfl, h⟩; replace HB := tr HB h; clear h) | (refine own_store w rfl rfl rfl rfl rfl (by simp [Value.oneCell']) ?_ ?_; focus ((repeat (first | exact heap_on HB.out | refine heap_past _ ?_ | refine heap_far ?_ (Nat.ne_of_gt HL.out) _)); done)))
  go_region_with (first | (go_at_call 25; refine (immS_any _ _).mono ?_; rintro e wx ⟨rfl, h⟩; (first | replace HB := tr HB h | replace HB := trd HB h); obtain ⟨r0, r1, r2, r3, r4, r5, r6, r7, r8, r9, r10, rf, -⟩ := own11 HB.out; clear h))
  all_goals (go_wp2; rw [Exit.noGoto_ret]; refine own_back11 w rfl rfl rfl (heap_on HB.out) ?_; exact ⟨by unfold decOf; (simp [ho, h3, Ins.zero, Ins.val, u_nil]) <;> rfl, by (repeat (refine On.set ?_ _ _ (Nat.le_refl _))); exact on_of HB.out⟩)
set_option maxRecDepth 100000 in
set_option maxHeartbeats 4000000 in
theorem dec_99_2 (x : BitVec 32) (w : World) (ho : fi x 6 0 = 99) (h3 : fi x 14 12 = 2) :
    Calls Tryd.prog 12 #[.int .u32 (q x)] w fun e w' => e = .returned (decOf x).val ∧ On w w' := by
  have HB := hb0 w
  go_enter Tryd.func12, Tryd.ntmps12
  go_wp2
  go_step3
  go_wp2_with (first | (go_at_call 16; refine (rd_any _ _).mono ?_; rintro e wn ⟨rfl, h⟩; replace HB := tr HB h; clear h) | (go_at_call 17; refine (rs1_any _ _).mono ?_; rintro e wn ⟨rfl, h⟩; replace HB := tr HB h; clear h) | (go_at_call 18; refine (rs2_any _ _).mono ?_; rintro e wn ⟨rfl, h⟩; replace HB := tr HB h; clear h) | (go_at_call 19; refine (funct3_any _ _).mono ?_; rintro e wn ⟨rfl, h⟩; replace HB := tr HB h; clear h) | (go_at_call 20; refine (opcode_any _ _).mono ?_; rintro e wn ⟨rfl, h⟩; replace HB := tr HB h; clear h) | (refine own_store w rfl rfl rfl rfl rfl (by simp [Value.oneCell']) ?_ ?_; focus ((repeat (first | exact heap_on HB.out | refine heap_past _ ?_ | refine heap_far ?_ (Nat.ne_of_gt HL.out) _)); done)))
  go_step3
  go_wp2_with (first | (go_at_call 16; refine (rd_any _ _).mono ?_; rintro e wn ⟨rfl, h⟩; replace HB := tr HB h; clear h) | (go_at_call 17; refine (rs1_any _ _).mono ?_; rintro e wn ⟨rfl, h⟩; replace HB := tr HB h; clear h) | (go_at_call 18; refine (rs2_any _ _).mono ?_; rintro e wn ⟨rfl, h⟩; replace HB := tr HB h; clear h) | (go_at_call 19; refine (funct3_any _ _).mono ?_; rintro e wn ⟨rfl, h⟩; replace HB := tr HB h; clear h) | (go_at_call 20; refine (opcode_any _ _).mono ?_; rintro e wn ⟨rfl, h⟩; replace HB := tr HB h; clear h) | (refine own_store w rfl rfl rfl rfl rfl (by simp [Value.oneCell']) ?_ ?_; focus ((repeat (first | exact heap_on HB.out | refine heap_past _ ?_ | refine heap_far ?_ (Nat.ne_of_gt HL.out) _)); done)))
  rw [Exit.noGoto_ret]
  refine own_back w rfl rfl rfl rfl ?_ ?_; (focus ((repeat (first | exact heap_on HB.out | refine heap_past _ ?_ | refine heap_far ?_ (Nat.ne_of_gt HL.out) _)); done))
  exact ⟨by unfold decOf; (simp [ho, h3, Ins.zero, Ins.val, u_nil]) <;> rfl, by ((repeat (first | apply On.rowO | refine On.setO ?_ HL.out | apply On.alloc)); first | exact On.refl w | exact on_of HB.out)⟩
set_option maxRecDepth 100000 in
set_option maxHeartbeats 4000000 in
theorem dec_3_2 (x : BitVec 32) (w : World) (ho : fi x 6 0 = 3) (h3 : fi x 14 12 = 2) :
    Calls Tryd.prog 12 #[.int .u32 (q x)] w fun e w' => e = .returned (decOf x).val ∧ On w w' := by
  have HB := hb0 w
  go_enter Tryd.func12, Tryd.ntmps12
  go_wp2
  go_step3
  go_wp2_with (first | (go_at_call 16; refine (rd_any _ _).mono ?_; rintro e wn ⟨rfl, h⟩; replace HB := tr HB h; clear h) | (go_at_call 17; refine (rs1_any _ _).mono ?_; rintro e wn ⟨rfl, h⟩; replace HB := tr HB h; clear h) | (go_at_call 18; refine (rs2_any _ _).mono ?_; rintro e wn ⟨rfl, h⟩; replace HB := tr HB h; clear h) | (go_at_call 19; refine (funct3_any _ _).mono ?_; rintro e wn ⟨rfl, h⟩; replace HB := tr HB h; clear h) | (go_at_call 20; refine (opcode_any _ _).mono ?_; rintro e wn ⟨rfl, h⟩; replace HB := tr HB h; clear h) | (refine own_store w rfl rfl rfl rfl rfl (by simp [Value.oneCell']) ?_ ?_; focus ((repeat (first | exact heap_on HB.out | refine heap_past _ ?_ | refine heap_far ?_ (Nat.ne_of_gt HL.out) _)); done)) | (go_at_call 23; refine (immI_any _ _).mono ?_; rintro e wn ⟨rfl, h⟩; replace HB := tr HB h; clear h))
  go_step3
  go_wp2_with (first | (go_at_call 16; refine (rd_any _ _).mono ?_; rintro e wn ⟨rfl, h⟩; replace HB := tr HB h; clear h) | (go_at_call 17; refine (rs1_any _ _).mono ?_; rintro e wn ⟨rfl, h⟩; replace HB := tr HB h; clear h) | (go_at_call 18; refine (rs2_any _ _).mono ?_; rintro e wn ⟨rfl, h⟩; replace HB := tr HB h; clear h) | (go_at_call 19; refine (funct3_any _ _).mono ?_; rintro e wn ⟨rfl, h⟩; replace HB := tr HB h; clear h) | (go_at_call 20; refine (opcode_any _ _).mono ?_; rintro e wn ⟨rfl, h⟩; replace HB := tr HB h; clear h) | (refine own_store w rfl rfl rfl rfl rfl (by simp [Value.oneCell']) ?_ ?_; focus ((repeat (first | exact heap_on HB.out | refine heap_past _ ?_ | refine heap_far ?_ (Nat.ne_of_gt HL.out) _)); done)) | (go_at_call 23; refine (immI_any _ _).mono ?_; rintro e wn ⟨rfl, h⟩; replace HB := tr HB h; clear h))
  rw [Exit.noGoto_ret]
  refine own_back w rfl rfl rfl rfl ?_ ?_; (focus ((repeat (first | exact heap_on HB.out | refine heap_past _ ?_ | refine heap_far ?_ (Nat.ne_of_gt HL.out) _)); done))
  exact ⟨by unfold decOf; (simp [ho, h3, Ins.zero, Ins.val, u_nil]) <;> rfl, by ((repeat (first | apply On.rowO | refine On.setO ?_ HL.out | apply On.alloc)); first | exact On.refl w | exact on_of HB.out)⟩
set_option maxRecDepth 100000 in
set_option maxHeartbeats 4000000 in
theorem dec_35_2 (x : BitVec 32) (w : World) (ho : fi x 6 0 = 35) (h3 : fi x 14 12 = 2) :
    Calls Tryd.prog 12 #[.int .u32 (q x)] w fun e w' => e = .returned (decOf x).val ∧ On w w' := by
  have HB := hb0 w
  go_enter Tryd.func12, Tryd.ntmps12
  go_wp2
  go_step3
  go_wp2_with (first | (go_at_call 16; refine (rd_any _ _).mono ?_; rintro e wn ⟨rfl, h⟩; replace HB := tr HB h; clear h) | (go_at_call 17; refine (rs1_any _ _).mono ?_; rintro e wn ⟨rfl, h⟩; replace HB := tr HB h; clear h) | (go_at_call 18; refine (rs2_any _ _).mono ?_; rintro e wn ⟨rfl, h⟩; replace HB := tr HB h; clear h) | (go_at_call 19; refine (funct3_any _ _).mono ?_; rintro e wn ⟨rfl, h⟩; replace HB := tr HB h; clear h) | (go_at_call 20; refine (opcode_any _ _).mono ?_; rintro e wn ⟨rfl, h⟩; replace HB := tr HB h; clear h) | (refine own_store w rfl rfl rfl rfl rfl (by simp [Value.oneCell']) ?_ ?_; focus ((repeat (first | exact heap_on HB.out | refine heap_past _ ?_ | refine heap_far ?_ (Nat.ne_of_gt HL.out) _)); done)))
  go_step3
  go_wp2_with (first | (go_at_call 16; refine (rd_any _ _).mono ?_; rintro e wn ⟨rfl, h⟩; replace HB := tr HB h; clear h) | (go_at_call 17; refine (rs1_any _ _).mono ?_; rintro e wn ⟨rfl, h⟩; replace HB := tr HB h; clear h) | (go_at_call 18; refine (rs2_any _ _).mono ?_; rintro e wn ⟨rfl, h⟩; replace HB := tr HB h; clear h) | (go_at_call 19; refine (funct3_any _ _).mono ?_; rintro e wn ⟨rfl, h⟩; replace HB := tr HB h; clear h) | (go_at_call 20; refine (opcode_any _ _).mono ?_; rintro e wn ⟨rfl, h⟩; replace HB := tr HB h; clear h) | (refine own_store w rfl rfl rfl rfl rfl (by simp [Value.oneCell']) ?_ ?_; focus ((repeat (first | exact heap_on HB.out | refine heap_past _ ?_ | refine heap_far ?_ (Nat.ne_of_gt HL.out) _)); done)))
  go_region_with (first | (go_at_call 25; refine (immS_any _ _).mono ?_; rintro e wx ⟨rfl, h⟩; (first | replace HB := tr HB h | replace HB := trd HB h); obtain ⟨r0, r1, r2, r3, r4, r5, r6, r7, r8, r9, r10, rf, -⟩ := own11 HB.out; clear h))
  all_goals (go_wp2; rw [Exit.noGoto_ret]; refine own_back11 w rfl rfl rfl (heap_on HB.out) ?_; exact ⟨by unfold decOf; (simp [ho, h3, Ins.zero, Ins.val, u_nil]) <;> rfl, by (repeat (refine On.set ?_ _ _ (Nat.le_refl _))); exact on_of HB.out⟩)
set_option maxRecDepth 100000 in
set_option maxHeartbeats 4000000 in
theorem dec_99_3 (x : BitVec 32) (w : World) (ho : fi x 6 0 = 99) (h3 : fi x 14 12 = 3) :
    Calls Tryd.prog 12 #[.int .u32 (q x)] w fun e w' => e = .returned (decOf x).val ∧ On w w' := by
  have HB := hb0 w
  go_enter Tryd.func12, Tryd.ntmps12
  go_wp2
  go_step3
  go_wp2_with (first | (go_at_call 16; refine (rd_any _ _).mono ?_; rintro e wn ⟨rfl, h⟩; replace HB := tr HB h; clear h) | (go_at_call 17; refine (rs1_any _ _).mono ?_; rintro e wn ⟨rfl, h⟩; replace HB := tr HB h; clear h) | (go_at_call 18; refine (rs2_any _ _).mono ?_; rintro e wn ⟨rfl, h⟩; replace HB := tr HB h; clear h) | (go_at_call 19; refine (funct3_any _ _).mono ?_; rintro e wn ⟨rfl, h⟩; replace HB := tr HB h; clear h) | (go_at_call 20; refine (opcode_any _ _).mono ?_; rintro e wn ⟨rfl, h⟩; replace HB := tr HB h; clear h) | (refine own_store w rfl rfl rfl rfl rfl (by simp [Value.oneCell']) ?_ ?_; focus ((repeat (first | exact heap_on HB.out | refine heap_past _ ?_ | refine heap_far ?_ (Nat.ne_of_gt HL.out) _)); done)))
  go_step3
  go_wp2_with (first | (go_at_call 16; refine (rd_any _ _).mono ?_; rintro e wn ⟨rfl, h⟩; replace HB := tr HB h; clear h) | (go_at_call 17; refine (rs1_any _ _).mono ?_; rintro e wn ⟨rfl, h⟩; replace HB := tr HB h; clear h) | (go_at_call 18; refine (rs2_any _ _).mono ?_; rintro e wn ⟨rfl, h⟩; replace HB := tr HB h; clear h) | (go_at_call 19; refine (funct3_any _ _).mono ?_; rintro e wn ⟨rfl, h⟩; replace HB := tr HB h; clear h) | (go_at_call 20; refine (opcode_any _ _).mono ?_; rintro e wn ⟨rfl, h⟩; replace HB := tr HB h; clear h) | (refine own_store w rfl rfl rfl rfl rfl (by simp [Value.oneCell']) ?_ ?_; focus ((repeat (first | exact heap_on HB.out | refine heap_past _ ?_ | refine heap_far ?_ (Nat.ne_of_gt HL.out) _)); done)))
  rw [Exit.noGoto_ret]
  refine own_back w rfl rfl rfl rfl ?_ ?_; (focus ((repeat (first | exact heap_on HB.out | refine heap_past _ ?_ | refine heap_far ?_ (Nat.ne_of_gt HL.out) _)); done))
  exact ⟨by unfold decOf; (simp [ho, h3, Ins.zero, Ins.val, u_nil]) <;> rfl, by ((repeat (first | apply On.rowO | refine On.setO ?_ HL.out | apply On.alloc)); first | exact On.refl w | exact on_of HB.out)⟩
set_option maxRecDepth 100000 in
set_option maxHeartbeats 4000000 in
theorem dec_3_3 (x : BitVec 32) (w : World) (ho : fi x 6 0 = 3) (h3 : fi x 14 12 = 3) :
    Calls Tryd.prog 12 #[.int .u32 (q x)] w fun e w' => e = .returned (decOf x).val ∧ On w w' := by
  have HB := hb0 w
  go_enter Tryd.func12, Tryd.ntmps12
  go_wp2
  go_step3
  go_wp2_with (first | (go_at_call 16; refine (rd_any _ _).mono ?_; rintro e wn ⟨rfl, h⟩; replace HB := tr HB h; clear h) | (go_at_call 17; refine (rs1_any _ _).mono ?_; rintro e wn ⟨rfl, h⟩; replace HB := tr HB h; clear h) | (go_at_call 18; refine (rs2_any _ _).mono ?_; rintro e wn ⟨rfl, h⟩; replace HB := tr HB h; clear h) | (go_at_call 19; refine (funct3_any _ _).mono ?_; rintro e wn ⟨rfl, h⟩; replace HB := tr HB h; clear h) | (go_at_call 20; refine (opcode_any _ _).mono ?_; rintro e wn ⟨rfl, h⟩; replace HB := tr HB h; clear h) | (refine own_store w rfl rfl rfl rfl rfl (by simp [Value.oneCell']) ?_ ?_; focus ((repeat (first | exact heap_on HB.out | refine heap_past _ ?_ | refine heap_far ?_ (Nat.ne_of_gt HL.out) _)); done)) | (go_at_call 23; refine (immI_any _ _).mono ?_; rintro e wn ⟨rfl, h⟩; replace HB := tr HB h; clear h))
  go_step3
  go_wp2_with (first | (go_at_call 16; refine (rd_any _ _).mono ?_; rintro e wn ⟨rfl, h⟩; replace HB := tr HB h; clear h) | (go_at_call 17; refine (rs1_any _ _).mono ?_; rintro e wn ⟨rfl, h⟩; replace HB := tr HB h; clear h) | (go_at_call 18; refine (rs2_any _ _).mono ?_; rintro e wn ⟨rfl, h⟩; replace HB := tr HB h; clear h) | (go_at_call 19; refine (funct3_any _ _).mono ?_; rintro e wn ⟨rfl, h⟩; replace HB := tr HB h; clear h) | (go_at_call 20; refine (opcode_any _ _).mono ?_; rintro e wn ⟨rfl, h⟩; replace HB := tr HB h; clear h) | (refine own_store w rfl rfl rfl rfl rfl (by simp [Value.oneCell']) ?_ ?_; focus ((repeat (first | exact heap_on HB.out | refine heap_past _ ?_ | refine heap_far ?_ (Nat.ne_of_gt HL.out) _)); done)) | (go_at_call 23; refine (immI_any _ _).mono ?_; rintro e wn ⟨rfl, h⟩; replace HB := tr HB h; clear h))
  rw [Exit.noGoto_ret]
  refine own_back w rfl rfl rfl rfl ?_ ?_; (focus ((repeat (first | exact heap_on HB.out | refine heap_past _ ?_ | refine heap_far ?_ (Nat.ne_of_gt HL.out) _)); done))
  exact ⟨by unfold decOf; (simp [ho, h3, Ins.zero, Ins.val, u_nil]) <;> rfl, by ((repeat (first | apply On.rowO | refine On.setO ?_ HL.out | apply On.alloc)); first | exact On.refl w | exact on_of HB.out)⟩
set_option maxRecDepth 100000 in
set_option maxHeartbeats 4000000 in
theorem dec_35_3 (x : BitVec 32) (w : World) (ho : fi x 6 0 = 35) (h3 : fi x 14 12 = 3) :
    Calls Tryd.prog 12 #[.int .u32 (q x)] w fun e w' => e = .returned (decOf x).val ∧ On w w' := by
  have HB := hb0 w
  go_enter Tryd.func12, Tryd.ntmps12
  go_wp2
  go_step3
  go_wp2_with (first | (go_at_call 16; refine (rd_any _ _).mono ?_; rintro e wn ⟨rfl, h⟩; replace HB := tr HB h; clear h) | (go_at_call 17; refine (rs1_any _ _).mono ?_; rintro e wn ⟨rfl, h⟩; replace HB := tr HB h; clear h) | (go_at_call 18; refine (rs2_any _ _).mono ?_; rintro e wn ⟨rfl, h⟩; replace HB := tr HB h; clear h) | (go_at_call 19; refine (funct3_any _ _).mono ?_; rintro e wn ⟨rfl, h⟩; replace HB := tr HB h; clear h) | (go_at_call 20; refine (opcode_any _ _).mono ?_; rintro e wn ⟨rfl, h⟩; replace HB := tr HB h; clear h) | (refine own_store w rfl rfl rfl rfl rfl (by simp [Value.oneCell']) ?_ ?_; focus ((repeat (first | exact heap_on HB.out | refine heap_past _ ?_ | refine heap_far ?_ (Nat.ne_of_gt HL.out) _)); done)))
  go_step3
  go_wp2_with (first | (go_at_call 16; refine (rd_any _ _).mono ?_; rintro e wn ⟨rfl, h⟩; replace HB := tr HB h; clear h) | (go_at_call 17; refine (rs1_any _ _).mono ?_; rintro e wn ⟨rfl, h⟩; replace HB := tr HB h; clear h) | (go_at_call 18; refine (rs2_any _ _).mono ?_; rintro e wn ⟨rfl, h⟩; replace HB := tr HB h; clear h) | (go_at_call 19; refine (funct3_any _ _).mono ?_; rintro e wn ⟨rfl, h⟩; replace HB := tr HB h; clear h) | (go_at_call 20; refine (opcode_any _ _).mono ?_; rintro e wn ⟨rfl, h⟩; replace HB := tr HB h; clear h) | (refine own_store w rfl rfl rfl rfl rfl (by simp [Value.oneCell']) ?_ ?_; focus ((repeat (first | exact heap_on HB.out | refine heap_past _ ?_ | refine heap_far ?_ (Nat.ne_of_gt HL.out) _)); done)))
  go_region_with (first | (go_at_call 25; refine (immS_any _ _).mono ?_; rintro e wx ⟨rfl, h⟩; (first | replace HB := tr HB h | replace HB := trd HB h); obtain ⟨r0, r1, r2, r3, r4, r5, r6, r7, r8, r9, r10, rf, -⟩ := own11 HB.out; clear h))
  all_goals (go_wp2; rw [Exit.noGoto_ret]; refine own_back11 w rfl rfl rfl (heap_on HB.out) ?_; exact ⟨by unfold decOf; (simp [ho, h3, Ins.zero, Ins.val, u_nil]) <;> rfl, by (repeat (refine On.set ?_ _ _ (Nat.le_refl _))); exact on_of HB.out⟩)
set_option maxRecDepth 100000 in
set_option maxHeartbeats 4000000 in
theorem dec_99_4 (x : BitVec 32) (w : World) (ho : fi x 6 0 = 99) (h3 : fi x 14 12 = 4) :
    Calls Tryd.prog 12 #[.int .u32 (q x)] w fun e w' => e = .returned (decOf x).val ∧ On w w' := by
  have HB := hb0 w
  go_enter Tryd.func12, Tryd.ntmps12
  go_wp2
  go_step3
  go_wp2_with (first | (go_at_call 16; refine (rd_any _ _).mono ?_; rintro e wn ⟨rfl, h⟩; replace HB := tr HB h; clear h) | (go_at_call 17; refine (rs1_any _ _).mono ?_; rintro e wn ⟨rfl, h⟩; replace HB := tr HB h; clear h) | (go_at_call 18; refine (rs2_any _ _).mono ?_; rintro e wn ⟨rfl, h⟩; replace HB := tr HB h; clear h) | (go_at_call 19; refine (funct3_any _ _).mono ?_; rintro e wn ⟨rfl, h⟩; replace HB := tr HB h; clear h) | (go_at_call 20; refine (opcode_any _ _).mono ?_; rintro e wn ⟨rfl, h⟩; replace HB := tr HB h; clear h) | (refine own_store w rfl rfl rfl rfl rfl (by simp [Value.oneCell']) ?_ ?_; focus ((repeat (first | exact heap_on HB.out | refine heap_past _ ?_ | refine heap_far ?_ (Nat.ne_of_gt HL.out) _)); done)) | (go_at_call 24; refine (immB_any _ _).mono ?_; rintro e wn ⟨rfl, h⟩; replace HB := tr HB h; clear h))
  go_step3
  go_wp2_with (first | (go_at_call 16; refine (rd_any _ _).mono ?_; rintro e wn ⟨rfl, h⟩; replace HB := tr HB h; clear h) | (go_at_call 17; refine (rs1_any _ _).mono ?_; rintro e wn ⟨rfl, h⟩; replace HB := tr HB h; clear h) | (go_at_call 18; refine (rs2_any _ _).mono ?_; rintro e wn ⟨rfl, h⟩; replace HB := tr HB h; clear h) | (go_at_call 19; refine (funct3_any _ _).mono ?_; rintro e wn ⟨rfl, h⟩; replace HB := tr HB h; clear h) | (go_at_call 20; refine (opcode_any _ _).mono ?_; rintro e wn ⟨rfl, h⟩; replace HB := tr HB h; clear h) | (refine own_store w rfl rfl rfl rfl rfl (by simp [Value.oneCell']) ?_ ?_; focus ((repeat (first | exact heap_on HB.out | refine heap_past _ ?_ | refine heap_far ?_ (Nat.ne_of_gt HL.out) _)); done)) | (go_at_call 24; refine (immB_any _ _).mono ?_; rintro e wn ⟨rfl, h⟩; replace HB := tr HB h; clear h))
  rw [Exit.noGoto_ret]
  refine own_back w rfl rfl rfl rfl ?_ ?_; (focus ((repeat (first | exact heap_on HB.out | refine heap_past _ ?_ | refine heap_far ?_ (Nat.ne_of_gt HL.out) _)); done))
  exact ⟨by unfold decOf; (simp [ho, h3, Ins.zero, Ins.val, u_nil]) <;> rfl, by ((repeat (first | apply On.rowO | refine On.setO ?_ HL.out | apply On.alloc)); first | exact On.refl w | exact on_of HB.out)⟩
set_option maxRecDepth 100000 in
set_option maxHeartbeats 4000000 in
theorem dec_3_4 (x : BitVec 32) (w : World) (ho : fi x 6 0 = 3) (h3 : fi x 14 12 = 4) :
    Calls Tryd.prog 12 #[.int .u32 (q x)] w fun e w' => e = .returned (decOf x).val ∧ On w w' := by
  have HB := hb0 w
  go_enter Tryd.func12, Tryd.ntmps12
  go_wp2
  go_step3
  go_wp2_with (first | (go_at_call 16; refine (rd_any _ _).mono ?_; rintro e wn ⟨rfl, h⟩; replace HB := tr HB h; clear h) | (go_at_call 17; refine (rs1_any _ _).mono ?_; rintro e wn ⟨rfl, h⟩; replace HB := tr HB h; clear h) | (go_at_call 18; refine (rs2_any _ _).mono ?_; rintro e wn ⟨rfl, h⟩; replace HB := tr HB h; clear h) | (go_at_call 19; refine (funct3_any _ _).mono ?_; rintro e wn ⟨rfl, h⟩; replace HB := tr HB h; clear h) | (go_at_call 20; refine (opcode_any _ _).mono ?_; rintro e wn ⟨rfl, h⟩; replace HB := tr HB h; clear h) | (refine own_store w rfl rfl rfl rfl rfl (by simp [Value.oneCell']) ?_ ?_; focus ((repeat (first | exact heap_on HB.out | refine heap_past _ ?_ | refine heap_far ?_ (Nat.ne_of_gt HL.out) _)); done)) | (go_at_call 23; refine (immI_any _ _).mono ?_; rintro e wn ⟨rfl, h⟩; replace HB := tr HB h; clear h))
  go_step3
  go_wp2_with (first | (go_at_call 16; refine (rd_any _ _).mono ?_; rintro e wn ⟨rfl, h⟩; replace HB := tr HB h; clear h) | (go_at_call 17; refine (rs1_any _ _).mono ?_; rintro e wn ⟨rfl, h⟩; replace HB := tr HB h; clear h) | (go_at_call 18; refine (rs2_any _ _).mono ?_; rintro e wn ⟨rfl, h⟩; replace HB := tr HB h; clear h) | (go_at_call 19; refine (funct3_any _ _).mono ?_; rintro e wn ⟨rfl, h⟩; replace HB := tr HB h; clear h) | (go_at_call 20; refine (opcode_any _ _).mono ?_; rintro e wn ⟨rfl, h⟩; replace HB := tr HB h; clear h) | (refine own_store w rfl rfl rfl rfl rfl (by simp [Value.oneCell']) ?_ ?_; focus ((repeat (first | exact heap_on HB.out | refine heap_past _ ?_ | refine heap_far ?_ (Nat.ne_of_gt HL.out) _)); done)) | (go_at_call 23; refine (immI_any _ _).mono ?_; rintro e wn ⟨rfl, h⟩; replace HB := tr HB h; clear h))
  rw [Exit.noGoto_ret]
  refine own_back w rfl rfl rfl rfl ?_ ?_; (focus ((repeat (first | exact heap_on HB.out | refine heap_past _ ?_ | refine heap_far ?_ (Nat.ne_of_gt HL.out) _)); done))
  exact ⟨by unfold decOf; (simp [ho, h3, Ins.zero, Ins.val, u_nil]) <;> rfl, by ((repeat (first | apply On.rowO | refine On.setO ?_ HL.out | apply On.alloc)); first | exact On.refl w | exact on_of HB.out)⟩
set_option maxRecDepth 100000 in
set_option maxHeartbeats 4000000 in
theorem dec_35_4 (x : BitVec 32) (w : World) (ho : fi x 6 0 = 35) (h3 : fi x 14 12 = 4) :
    Calls Tryd.prog 12 #[.int .u32 (q x)] w fun e w' => e = .returned (decOf x).val ∧ On w w' := by
  have HB := hb0 w
  go_enter Tryd.func12, Tryd.ntmps12
  go_wp2
  go_step3
  go_wp2_with (first | (go_at_call 16; refine (rd_any _ _).mono ?_; rintro e wn ⟨rfl, h⟩; replace HB := tr HB h; clear h) | (go_at_call 17; refine (rs1_any _ _).mono ?_; rintro e wn ⟨rfl, h⟩; replace HB := tr HB h; clear h) | (go_at_call 18; refine (rs2_any _ _).mono ?_; rintro e wn ⟨rfl, h⟩; replace HB := tr HB h; clear h) | (go_at_call 19; refine (funct3_any _ _).mono ?_; rintro e wn ⟨rfl, h⟩; replace HB := tr HB h; clear h) | (go_at_call 20; refine (opcode_any _ _).mono ?_; rintro e wn ⟨rfl, h⟩; replace HB := tr HB h; clear h) | (refine own_store w rfl rfl rfl rfl rfl (by simp [Value.oneCell']) ?_ ?_; focus ((repeat (first | exact heap_on HB.out | refine heap_past _ ?_ | refine heap_far ?_ (Nat.ne_of_gt HL.out) _)); done)))
  go_step3
  go_wp2_with (first | (go_at_call 16; refine (rd_any _ _).mono ?_; rintro e wn ⟨rfl, h⟩; replace HB := tr HB h; clear h) | (go_at_call 17; refine (rs1_any _ _).mono ?_; rintro e wn ⟨rfl, h⟩; replace HB := tr HB h; clear h) | (go_at_call 18; refine (rs2_any _ _).mono ?_; rintro e wn ⟨rfl, h⟩; replace HB := tr HB h; clear h) | (go_at_call 19; refine (funct3_any _ _).mono ?_; rintro e wn ⟨rfl, h⟩; replace HB := tr HB h; clear h) | (go_at_call 20; refine (opcode_any _ _).mono ?_; rintro e wn ⟨rfl, h⟩; replace HB := tr HB h; clear h) | (refine own_store w rfl rfl rfl rfl rfl (by simp [Value.oneCell']) ?_ ?_; focus ((repeat (first | exact heap_on HB.out | refine heap_past _ ?_ | refine heap_far ?_ (Nat.ne_of_gt HL.out) _)); done)))
  rw [Exit.noGoto_ret]
  refine own_back w rfl rfl rfl rfl ?_ ?_; (focus ((repeat (first | exact heap_on HB.out | refine heap_past _ ?_ | refine heap_far ?_ (Nat.ne_of_gt HL.out) _)); done))
  exact ⟨by unfold decOf; (simp [ho, h3, Ins.zero, Ins.val, u_nil]) <;> rfl, by ((repeat (first | apply On.rowO | refine On.setO ?_ HL.out | apply On.alloc)); first | exact On.refl w | exact on_of HB.out)⟩
set_option maxRecDepth 100000 in
set_option maxHeartbeats 4000000 in
theorem dec_99_5 (x : BitVec 32) (w : World) (ho : fi x 6 0 = 99) (h3 : fi x 14 12 = 5) :
    Calls Tryd.prog 12 #[.int .u32 (q x)] w fun e w' => e = .returned (decOf x).val ∧ On w w' := by
  have HB := hb0 w
  go_enter Tryd.func12, Tryd.ntmps12
  go_wp2
  go_step3
  go_wp2_with (first | (go_at_call 16; refine (rd_any _ _).mono ?_; rintro e wn ⟨rfl, h⟩; replace HB := tr HB h; clear h) | (go_at_call 17; refine (rs1_any _ _).mono ?_; rintro e wn ⟨rfl, h⟩; replace HB := tr HB h; clear h) | (go_at_call 18; refine (rs2_any _ _).mono ?_; rintro e wn ⟨rfl, h⟩; replace HB := tr HB h; clear h) | (go_at_call 19; refine (funct3_any _ _).mono ?_; rintro e wn ⟨rfl, h⟩; replace HB := tr HB h; clear h) | (go_at_call 20; refine (opcode_any _ _).mono ?_; rintro e wn ⟨rfl, h⟩; replace HB := tr HB h; clear h) | (refine own_store w rfl rfl rfl rfl rfl (by simp [Value.oneCell']) ?_ ?_; focus ((repeat (first | exact heap_on HB.out | refine heap_past _ ?_ | refine heap_far ?_ (Nat.ne_of_gt HL.out) _)); done)) | (go_at_call 24; refine (immB_any _ _).mono ?_; rintro e wn ⟨rfl, h⟩; replace HB := tr HB h; clear h))
  go_step3
  go_wp2_with (first | (go_at_call 16; refine (rd_any _ _).mono ?_; rintro e wn ⟨rfl, h⟩; replace HB := tr HB h; clear h) | (go_at_call 17; refine (rs1_any _ _).mono ?_; rintro e wn ⟨rfl, h⟩; replace HB := tr HB h; clear h) | (go_at_call 18; refine (rs2_any _ _).mono ?_; rintro e wn ⟨rfl, h⟩; replace HB := tr HB h; clear h) | (go_at_call 19; refine (funct3_any _ _).mono ?_; rintro e wn ⟨rfl, h⟩; replace HB := tr HB h; clear h) | (go_at_call 20; refine (opcode_any _ _).mono ?_; rintro e wn ⟨rfl, h⟩; replace HB := tr HB h; clear h) | (refine own_store w rfl rfl rfl rfl rfl (by simp [Value.oneCell']) ?_ ?_; focus ((repeat (first | exact heap_on HB.out | refine heap_past _ ?_ | refine heap_far ?_ (Nat.ne_of_gt HL.out) _)); done)) | (go_at_call 24; refine (immB_any _ _).mono ?_; rintro e wn ⟨rfl, h⟩; replace HB := tr HB h; clear h))
  rw [Exit.noGoto_ret]
  refine own_back w rfl rfl rfl rfl ?_ ?_; (focus ((repeat (first | exact heap_on HB.out | refine heap_past _ ?_ | refine heap_far ?_ (Nat.ne_of_gt HL.out) _)); done))
  exact ⟨by unfold decOf; (simp [ho, h3, Ins.zero, Ins.val, u_nil]) <;> rfl, by ((repeat (first | apply On.rowO | refine On.setO ?_ HL.out | apply On.alloc)); first | exact On.refl w | exact on_of HB.out)⟩
set_option maxRecDepth 100000 in
set_option maxHeartbeats 4000000 in
theorem dec_3_5 (x : BitVec 32) (w : World) (ho : fi x 6 0 = 3) (h3 : fi x 14 12 = 5) :
    Calls Tryd.prog 12 #[.int .u32 (q x)] w fun e w' => e = .returned (decOf x).val ∧ On w w' := by
  have HB := hb0 w
  go_enter Tryd.func12, Tryd.ntmps12
  go_wp2
  go_step3
  go_wp2_with (first | (go_at_call 16; refine (rd_any _ _).mono ?_; rintro e wn ⟨rfl, h⟩; replace HB := tr HB h; clear h) | (go_at_call 17; refine (rs1_any _ _).mono ?_; rintro e wn ⟨rfl, h⟩; replace HB := tr HB h; clear h) | (go_at_call 18; refine (rs2_any _ _).mono ?_; rintro e wn ⟨rfl, h⟩; replace HB := tr HB h; clear h) | (go_at_call 19; refine (funct3_any _ _).mono ?_; rintro e wn ⟨rfl, h⟩; replace HB := tr HB h; clear h) | (go_at_call 20; refine (opcode_any _ _).mono ?_; rintro e wn ⟨rfl, h⟩; replace HB := tr HB h; clear h) | (refine own_store w rfl rfl rfl rfl rfl (by simp [Value.oneCell']) ?_ ?_; focus ((repeat (first | exact heap_on HB.out | refine heap_past _ ?_ | refine heap_far ?_ (Nat.ne_of_gt HL.out) _)); done)) | (go_at_call 23; refine (immI_any _ _).mono ?_; rintro e wn ⟨rfl, h⟩; replace HB := tr HB h; clear h))
  go_step3
  go_wp2_with (first | (go_at_call 16; refine (rd_any _ _).mono ?_; rintro e wn ⟨rfl, h⟩; replace HB := tr HB h; clear h) | (go_at_call 17; refine (rs1_any _ _).mono ?_; rintro e wn ⟨rfl, h⟩; replace HB := tr HB h; clear h) | (go_at_call 18; refine (rs2_any _ _).mono ?_; rintro e wn ⟨rfl, h⟩; replace HB := tr HB h; clear h) | (go_at_call 19; refine (funct3_any _ _).mono ?_; rintro e wn ⟨rfl, h⟩; replace HB := tr HB h; clear h) | (go_at_call 20; refine (opcode_any _ _).mono ?_; rintro e wn ⟨rfl, h⟩; replace HB := tr HB h; clear h) | (refine own_store w rfl rfl rfl rfl rfl (by simp [Value.oneCell']) ?_ ?_; focus ((repeat (first | exact heap_on HB.out | refine heap_past _ ?_ | refine heap_far ?_ (Nat.ne_of_gt HL.out) _)); done)) | (go_at_call 23; refine (immI_any _ _).mono ?_; rintro e wn ⟨rfl, h⟩; replace HB := tr HB h; clear h))
  rw [Exit.noGoto_ret]
  refine own_back w rfl rfl rfl rfl ?_ ?_; (focus ((repeat (first | exact heap_on HB.out | refine heap_past _ ?_ | refine heap_far ?_ (Nat.ne_of_gt HL.out) _)); done))
  exact ⟨by unfold decOf; (simp [ho, h3, Ins.zero, Ins.val, u_nil]) <;> rfl, by ((repeat (first | apply On.rowO | refine On.setO ?_ HL.out | apply On.alloc)); first | exact On.refl w | exact on_of HB.out)⟩
set_option maxRecDepth 100000 in
set_option maxHeartbeats 4000000 in
theorem dec_35_5 (x : BitVec 32) (w : World) (ho : fi x 6 0 = 35) (h3 : fi x 14 12 = 5) :
    Calls Tryd.prog 12 #[.int .u32 (q x)] w fun e w' => e = .returned (decOf x).val ∧ On w w' := by
  have HB := hb0 w
  go_enter Tryd.func12, Tryd.ntmps12
  go_wp2
  go_step3
  go_wp2_with (first | (go_at_call 16; refine (rd_any _ _).mono ?_; rintro e wn ⟨rfl, h⟩; replace HB := tr HB h; clear h) | (go_at_call 17; refine (rs1_any _ _).mono ?_; rintro e wn ⟨rfl, h⟩; replace HB := tr HB h; clear h) | (go_at_call 18; refine (rs2_any _ _).mono ?_; rintro e wn ⟨rfl, h⟩; replace HB := tr HB h; clear h) | (go_at_call 19; refine (funct3_any _ _).mono ?_; rintro e wn ⟨rfl, h⟩; replace HB := tr HB h; clear h) | (go_at_call 20; refine (opcode_any _ _).mono ?_; rintro e wn ⟨rfl, h⟩; replace HB := tr HB h; clear h) | (refine own_store w rfl rfl rfl rfl rfl (by simp [Value.oneCell']) ?_ ?_; focus ((repeat (first | exact heap_on HB.out | refine heap_past _ ?_ | refine heap_far ?_ (Nat.ne_of_gt HL.out) _)); done)))
  go_step3
  go_wp2_with (first | (go_at_call 16; refine (rd_any _ _).mono ?_; rintro e wn ⟨rfl, h⟩; replace HB := tr HB h; clear h) | (go_at_call 17; refine (rs1_any _ _).mono ?_; rintro e wn ⟨rfl, h⟩; replace HB := tr HB h; clear h) | (go_at_call 18; refine (rs2_any _ _).mono ?_; rintro e wn ⟨rfl, h⟩; replace HB := tr HB h; clear h) | (go_at_call 19; refine (funct3_any _ _).mono ?_; rintro e wn ⟨rfl, h⟩; replace HB := tr HB h; clear h) | (go_at_call 20; refine (opcode_any _ _).mono ?_; rintro e wn ⟨rfl, h⟩; replace HB := tr HB h; clear h) | (refine own_store w rfl rfl rfl rfl rfl (by simp [Value.oneCell']) ?_ ?_; focus ((repeat (first | exact heap_on HB.out | refine heap_past _ ?_ | refine heap_far ?_ (Nat.ne_of_gt HL.out) _)); done)))
  rw [Exit.noGoto_ret]
  refine own_back w rfl rfl rfl rfl ?_ ?_; (focus ((repeat (first | exact heap_on HB.out | refine heap_past _ ?_ | refine heap_far ?_ (Nat.ne_of_gt HL.out) _)); done))
  exact ⟨by unfold decOf; (simp [ho, h3, Ins.zero, Ins.val, u_nil]) <;> rfl, by ((repeat (first | apply On.rowO | refine On.setO ?_ HL.out | apply On.alloc)); first | exact On.refl w | exact on_of HB.out)⟩
set_option maxRecDepth 100000 in
set_option maxHeartbeats 4000000 in
theorem dec_99_6 (x : BitVec 32) (w : World) (ho : fi x 6 0 = 99) (h3 : fi x 14 12 = 6) :
    Calls Tryd.prog 12 #[.int .u32 (q x)] w fun e w' => e = .returned (decOf x).val ∧ On w w' := by
  have HB := hb0 w
  go_enter Tryd.func12, Tryd.ntmps12
  go_wp2
  go_step3
  go_wp2_with (first | (go_at_call 16; refine (rd_any _ _).mono ?_; rintro e wn ⟨rfl, h⟩; replace HB := tr HB h; clear h) | (go_at_call 17; refine (rs1_any _ _).mono ?_; rintro e wn ⟨rfl, h⟩; replace HB := tr HB h; clear h) | (go_at_call 18; refine (rs2_any _ _).mono ?_; rintro e wn ⟨rfl, h⟩; replace HB := tr HB h; clear h) | (go_at_call 19; refine (funct3_any _ _).mono ?_; rintro e wn ⟨rfl, h⟩; replace HB := tr HB h; clear h) | (go_at_call 20; refine (opcode_any _ _).mono ?_; rintro e wn ⟨rfl, h⟩; replace HB := tr HB h; clear h) | (refine own_store w rfl rfl rfl rfl rfl (by simp [Value.oneCell']) ?_ ?_; focus ((repeat (first | exact heap_on HB.out | refine heap_past _ ?_ | refine heap_far ?_ (Nat.ne_of_gt HL.out) _)); done)) | (go_at_call 24; refine (immB_any _ _).mono ?_; rintro e wn ⟨rfl, h⟩; replace HB := tr HB h; clear h))
  go_step3
  go_wp2_with (first | (go_at_call 16; refine (rd_any _ _).mono ?_; rintro e wn ⟨rfl, h⟩; replace HB := tr HB h; clear h) | (go_at_call 17; refine (rs1_any _ _).mono ?_; rintro e wn ⟨rfl, h⟩; replace HB := tr HB h; clear h) | (go_at_call 18; refine (rs2_any _ _).mono ?_; rintro e wn ⟨rfl, h⟩; replace HB := tr HB h; clear h) | (go_at_call 19; refine (funct3_any _ _).mono ?_; rintro e wn ⟨rfl, h⟩; replace HB := tr HB h; clear h) | (go_at_call 20; refine (opcode_any _ _).mono ?_; rintro e wn ⟨rfl, h⟩; replace HB := tr HB h; clear h) | (refine own_store w rfl rfl rfl rfl rfl (by simp [Value.oneCell']) ?_ ?_; focus ((repeat (first | exact heap_on HB.out | refine heap_past _ ?_ | refine heap_far ?_ (Nat.ne_of_gt HL.out) _)); done)) | (go_at_call 24; refine (immB_any _ _).mono ?_; rintro e wn ⟨rfl, h⟩; replace HB := tr HB h; clear h))
  rw [Exit.noGoto_ret]
  refine own_back w rfl rfl rfl rfl ?_ ?_; (focus ((repeat (first | exact heap_on HB.out | refine heap_past _ ?_ | refine heap_far ?_ (Nat.ne_of_gt HL.out) _)); done))
  exact ⟨by unfold decOf; (simp [ho, h3, Ins.zero, Ins.val, u_nil]) <;> rfl, by ((repeat (first | apply On.rowO | refine On.setO ?_ HL.out | apply On.alloc)); first | exact On.refl w | exact on_of HB.out)⟩
set_option maxRecDepth 100000 in
set_option maxHeartbeats 4000000 in
theorem dec_3_6 (x : BitVec 32) (w : World) (ho : fi x 6 0 = 3) (h3 : fi x 14 12 = 6) :
    Calls Tryd.prog 12 #[.int .u32 (q x)] w fun e w' => e = .returned (decOf x).val ∧ On w w' := by
  have HB := hb0 w
  go_enter Tryd.func12, Tryd.ntmps12
  go_wp2
  go_step3
  go_wp2_with (first | (go_at_call 16; refine (rd_any _ _).mono ?_; rintro e wn ⟨rfl, h⟩; replace HB := tr HB h; clear h) | (go_at_call 17; refine (rs1_any _ _).mono ?_; rintro e wn ⟨rfl, h⟩; replace HB := tr HB h; clear h) | (go_at_call 18; refine (rs2_any _ _).mono ?_; rintro e wn ⟨rfl, h⟩; replace HB := tr HB h; clear h) | (go_at_call 19; refine (funct3_any _ _).mono ?_; rintro e wn ⟨rfl, h⟩; replace HB := tr HB h; clear h) | (go_at_call 20; refine (opcode_any _ _).mono ?_; rintro e wn ⟨rfl, h⟩; replace HB := tr HB h; clear h) | (refine own_store w rfl rfl rfl rfl rfl (by simp [Value.oneCell']) ?_ ?_; focus ((repeat (first | exact heap_on HB.out | refine heap_past _ ?_ | refine heap_far ?_ (Nat.ne_of_gt HL.out) _)); done)) | (go_at_call 23; refine (immI_any _ _).mono ?_; rintro e wn ⟨rfl, h⟩; replace HB := tr HB h; clear h))
  go_step3
  go_wp2_with (first | (go_at_call 16; refine (rd_any _ _).mono ?_; rintro e wn ⟨rfl, h⟩; replace HB := tr HB h; clear h) | (go_at_call 17; refine (rs1_any _ _).mono ?_; rintro e wn ⟨rfl, h⟩; replace HB := tr HB h; clear h) | (go_at_call 18; refine (rs2_any _ _).mono ?_; rintro e wn ⟨rfl, h⟩; replace HB := tr HB h; clear h) | (go_at_call 19; refine (funct3_any _ _).mono ?_; rintro e wn ⟨rfl, h⟩; replace HB := tr HB h; clear h) | (go_at_call 20; refine (opcode_any _ _).mono ?_; rintro e wn ⟨rfl, h⟩; replace HB := tr HB h; clear h) | (refine own_store w rfl rfl rfl rfl rfl (by simp [Value.oneCell']) ?_ ?_; focus ((repeat (first | exact heap_on HB.out | refine heap_past _ ?_ | refine heap_far ?_ (Nat.ne_of_gt HL.out) _)); done)) | (go_at_call 23; refine (immI_any _ _).mono ?_; rintro e wn ⟨rfl, h⟩; replace HB := tr HB h; clear h))
  rw [Exit.noGoto_ret]
  refine own_back w rfl rfl rfl rfl ?_ ?_; (focus ((repeat (first | exact heap_on HB.out | refine heap_past _ ?_ | refine heap_far ?_ (Nat.ne_of_gt HL.out) _)); done))
  exact ⟨by unfold decOf; (simp [ho, h3, Ins.zero, Ins.val, u_nil]) <;> rfl, by ((repeat (first | apply On.rowO | refine On.setO ?_ HL.out | apply On.alloc)); first | exact On.refl w | exact on_of HB.out)⟩
set_option maxRecDepth 100000 in
set_option maxHeartbeats 4000000 in
theorem dec_35_6 (x : BitVec 32) (w : World) (ho : fi x 6 0 = 35) (h3 : fi x 14 12 = 6) :
    Calls Tryd.prog 12 #[.int .u32 (q x)] w fun e w' => e = .returned (decOf x).val ∧ On w w' := by
  have HB := hb0 w
  go_enter Tryd.func12, Tryd.ntmps12
  go_wp2
  go_step3
  go_wp2_with (first | (go_at_call 16; refine (rd_any _ _).mono ?_; rintro e wn ⟨rfl, h⟩; replace HB := tr HB h; clear h) | (go_at_call 17; refine (rs1_any _ _).mono ?_; rintro e wn ⟨rfl, h⟩; replace HB := tr HB h; clear h) | (go_at_call 18; refine (rs2_any _ _).mono ?_; rintro e wn ⟨rfl, h⟩; replace HB := tr HB h; clear h) | (go_at_call 19; refine (funct3_any _ _).mono ?_; rintro e wn ⟨rfl, h⟩; replace HB := tr HB h; clear h) | (go_at_call 20; refine (opcode_any _ _).mono ?_; rintro e wn ⟨rfl, h⟩; replace HB := tr HB h; clear h) | (refine own_store w rfl rfl rfl rfl rfl (by simp [Value.oneCell']) ?_ ?_; focus ((repeat (first | exact heap_on HB.out | refine heap_past _ ?_ | refine heap_far ?_ (Nat.ne_of_gt HL.out) _)); done)))
  go_step3
  go_wp2_with (first | (go_at_call 16; refine (rd_any _ _).mono ?_; rintro e wn ⟨rfl, h⟩; replace HB := tr HB h; clear h) | (go_at_call 17; refine (rs1_any _ _).mono ?_; rintro e wn ⟨rfl, h⟩; replace HB := tr HB h; clear h) | (go_at_call 18; refine (rs2_any _ _).mono ?_; rintro e wn ⟨rfl, h⟩; replace HB := tr HB h; clear h) | (go_at_call 19; refine (funct3_any _ _).mono ?_; rintro e wn ⟨rfl, h⟩; replace HB := tr HB h; clear h) | (go_at_call 20; refine (opcode_any _ _).mono ?_; rintro e wn ⟨rfl, h⟩; replace HB := tr HB h; clear h) | (refine own_store w rfl rfl rfl rfl rfl (by simp [Value.oneCell']) ?_ ?_; focus ((repeat (first | exact heap_on HB.out | refine heap_past _ ?_ | refine heap_far ?_ (Nat.ne_of_gt HL.out) _)); done)))
  rw [Exit.noGoto_ret]
  refine own_back w rfl rfl rfl rfl ?_ ?_; (focus ((repeat (first | exact heap_on HB.out | refine heap_past _ ?_ | refine heap_far ?_ (Nat.ne_of_gt HL.out) _)); done))
  exact ⟨by unfold decOf; (simp [ho, h3, Ins.zero, Ins.val, u_nil]) <;> rfl, by ((repeat (first | apply On.rowO | refine On.setO ?_ HL.out | apply On.alloc)); first | exact On.refl w | exact on_of HB.out)⟩
set_option maxRecDepth 100000 in
set_option maxHeartbeats 4000000 in
theorem dec_99_7 (x : BitVec 32) (w : World) (ho : fi x 6 0 = 99) (h3 : fi x 14 12 = 7) :
    Calls Tryd.prog 12 #[.int .u32 (q x)] w fun e w' => e = .returned (decOf x).val ∧ On w w' := by
  have HB := hb0 w
  go_enter Tryd.func12, Tryd.ntmps12
  go_wp2
  go_step3
  go_wp2_with (first | (go_at_call 16; refine (rd_any _ _).mono ?_; rintro e wn ⟨rfl, h⟩; replace HB := tr HB h; clear h) | (go_at_call 17; refine (rs1_any _ _).mono ?_; rintro e wn ⟨rfl, h⟩; replace HB := tr HB h; clear h) | (go_at_call 18; refine (rs2_any _ _).mono ?_; rintro e wn ⟨rfl, h⟩; replace HB := tr HB h; clear h) | (go_at_call 19; refine (funct3_any _ _).mono ?_; rintro e wn ⟨rfl, h⟩; replace HB := tr HB h; clear h) | (go_at_call 20; refine (opcode_any _ _).mono ?_; rintro e wn ⟨rfl, h⟩; replace HB := tr HB h; clear h) | (refine own_store w rfl rfl rfl rfl rfl (by simp [Value.oneCell']) ?_ ?_; focus ((repeat (first | exact heap_on HB.out | refine heap_past _ ?_ | refine heap_far ?_ (Nat.ne_of_gt HL.out) _)); done)) | (go_at_call 24; refine (immB_any _ _).mono ?_; rintro e wn ⟨rfl, h⟩; replace HB := tr HB h; clear h))
  go_step3
  go_wp2_with (first | (go_at_call 16; refine (rd_any _ _).mono ?_; rintro e wn ⟨rfl, h⟩; replace HB := tr HB h; clear h) | (go_at_call 17; refine (rs1_any _ _).mono ?_; rintro e wn ⟨rfl, h⟩; replace HB := tr HB h; clear h) | (go_at_call 18; refine (rs2_any _ _).mono ?_; rintro e wn ⟨rfl, h⟩; replace HB := tr HB h; clear h) | (go_at_call 19; refine (funct3_any _ _).mono ?_; rintro e wn ⟨rfl, h⟩; replace HB := tr HB h; clear h) | (go_at_call 20; refine (opcode_any _ _).mono ?_; rintro e wn ⟨rfl, h⟩; replace HB := tr HB h; clear h) | (refine own_store w rfl rfl rfl rfl rfl (by simp [Value.oneCell']) ?_ ?_; focus ((repeat (first | exact heap_on HB.out | refine heap_past _ ?_ | refine heap_far ?_ (Nat.ne_of_gt HL.out) _)); done)) | (go_at_call 24; refine (immB_any _ _).mono ?_; rintro e wn ⟨rfl, h⟩; replace HB := tr HB h; clear h))
  rw [Exit.noGoto_ret]
  refine own_back w rfl rfl rfl rfl ?_ ?_; (focus ((repeat (first | exact heap_on HB.out | refine heap_past _ ?_ | refine heap_far ?_ (Nat.ne_of_gt HL.out) _)); done))
  exact ⟨by unfold decOf; (simp [ho, h3, Ins.zero, Ins.val, u_nil]) <;> rfl, by ((repeat (first | apply On.rowO | refine On.setO ?_ HL.out | apply On.alloc)); first | exact On.refl w | exact on_of HB.out)⟩
set_option maxRecDepth 100000 in
set_option maxHeartbeats 4000000 in
theorem dec_3_7 (x : BitVec 32) (w : World) (ho : fi x 6 0 = 3) (h3 : fi x 14 12 = 7) :
    Calls Tryd.prog 12 #[.int .u32 (q x)] w fun e w' => e = .returned (decOf x).val ∧ On w w' := by
  have HB := hb0 w
  go_enter Tryd.func12, Tryd.ntmps12
  go_wp2
  go_step3
  go_wp2_with (first | (go_at_call 16; refine (rd_any _ _).mono ?_; rintro e wn ⟨rfl, h⟩; replace HB := tr HB h; clear h) | (go_at_call 17; refine (rs1_any _ _).mono ?_; rintro e wn ⟨rfl, h⟩; replace HB := tr HB h; clear h) | (go_at_call 18; refine (rs2_any _ _).mono ?_; rintro e wn ⟨rfl, h⟩; replace HB := tr HB h; clear h) | (go_at_call 19; refine (funct3_any _ _).mono ?_; rintro e wn ⟨rfl, h⟩; replace HB := tr HB h; clear h) | (go_at_call 20; refine (opcode_any _ _).mono ?_; rintro e wn ⟨rfl, h⟩; replace HB := tr HB h; clear h) | (refine own_store w rfl rfl rfl rfl rfl (by simp [Value.oneCell']) ?_ ?_; focus ((repeat (first | exact heap_on HB.out | refine heap_past _ ?_ | refine heap_far ?_ (Nat.ne_of_gt HL.out) _)); done)) | (go_at_call 23; refine (immI_any _ _).mono ?_; rintro e wn ⟨rfl, h⟩; replace HB := tr HB h; clear h))
  go_step3
  go_wp2_with (first | (go_at_call 16; refine (rd_any _ _).mono ?_; rintro e wn ⟨rfl, h⟩; replace HB := tr HB h; clear h) | (go_at_call 17; refine (rs1_any _ _).mono ?_; rintro e wn ⟨rfl, h⟩; replace HB := tr HB h; clear h) | (go_at_call 18; refine (rs2_any _ _).mono ?_; rintro e wn ⟨rfl, h⟩; replace HB := tr HB h; clear h) | (go_at_call 19; refine (funct3_any _ _).mono ?_; rintro e wn ⟨rfl, h⟩; replace HB := tr HB h; clear h) | (go_at_call 20; refine (opcode_any _ _).mono ?_; rintro e wn ⟨rfl, h⟩; replace HB := tr HB h; clear h) | (refine own_store w rfl rfl rfl rfl rfl (by simp [Value.oneCell']) ?_ ?_; focus ((repeat (first | exact heap_on HB.out | refine heap_past _ ?_ | refine heap_far ?_ (Nat.ne_of_gt HL.out) _)); done)) | (go_at_call 23; refine (immI_any _ _).mono ?_; rintro e wn ⟨rfl, h⟩; replace HB := tr HB h; clear h))
  rw [Exit.noGoto_ret]
  refine own_back w rfl rfl rfl rfl ?_ ?_; (focus ((repeat (first | exact heap_on HB.out | refine heap_past _ ?_ | refine heap_far ?_ (Nat.ne_of_gt HL.out) _)); done))
  exact ⟨by unfold decOf; (simp [ho, h3, Ins.zero, Ins.val, u_nil]) <;> rfl, by ((repeat (first | apply On.rowO | refine On.setO ?_ HL.out | apply On.alloc)); first | exact On.refl w | exact on_of HB.out)⟩
set_option maxRecDepth 100000 in
set_option maxHeartbeats 4000000 in
theorem dec_35_7 (x : BitVec 32) (w : World) (ho : fi x 6 0 = 35) (h3 : fi x 14 12 = 7) :
    Calls Tryd.prog 12 #[.int .u32 (q x)] w fun e w' => e = .returned (decOf x).val ∧ On w w' := by
  have HB := hb0 w
  go_enter Tryd.func12, Tryd.ntmps12
  go_wp2
  go_step3
  go_wp2_with (first | (go_at_call 16; refine (rd_any _ _).mono ?_; rintro e wn ⟨rfl, h⟩; replace HB := tr HB h; clear h) | (go_at_call 17; refine (rs1_any _ _).mono ?_; rintro e wn ⟨rfl, h⟩; replace HB := tr HB h; clear h) | (go_at_call 18; refine (rs2_any _ _).mono ?_; rintro e wn ⟨rfl, h⟩; replace HB := tr HB h; clear h) | (go_at_call 19; refine (funct3_any _ _).mono ?_; rintro e wn ⟨rfl, h⟩; replace HB := tr HB h; clear h) | (go_at_call 20; refine (opcode_any _ _).mono ?_; rintro e wn ⟨rfl, h⟩; replace HB := tr HB h; clear h) | (refine own_store w rfl rfl rfl rfl rfl (by simp [Value.oneCell']) ?_ ?_; focus ((repeat (first | exact heap_on HB.out | refine heap_past _ ?_ | refine heap_far ?_ (Nat.ne_of_gt HL.out) _)); done)))
  go_step3
  go_wp2_with (first | (go_at_call 16; refine (rd_any _ _).mono ?_; rintro e wn ⟨rfl, h⟩; replace HB := tr HB h; clear h) | (go_at_call 17; refine (rs1_any _ _).mono ?_; rintro e wn ⟨rfl, h⟩; replace HB := tr HB h; clear h) | (go_at_call 18; refine (rs2_any _ _).mono ?_; rintro e wn ⟨rfl, h⟩; replace HB := tr HB h; clear h) | (go_at_call 19; refine (funct3_any _ _).mono ?_; rintro e wn ⟨rfl, h⟩; replace HB := tr HB h; clear h) | (go_at_call 20; refine (opcode_any _ _).mono ?_; rintro e wn ⟨rfl, h⟩; replace HB := tr HB h; clear h) | (refine own_store w rfl rfl rfl rfl rfl (by simp [Value.oneCell']) ?_ ?_; focus ((repeat (first | exact heap_on HB.out | refine heap_past _ ?_ | refine heap_far ?_ (Nat.ne_of_gt HL.out) _)); done)))
  rw [Exit.noGoto_ret]
  refine own_back w rfl rfl rfl rfl ?_ ?_; (focus ((repeat (first | exact heap_on HB.out | refine heap_past _ ?_ | refine heap_far ?_ (Nat.ne_of_gt HL.out) _)); done))
  exact ⟨by unfold decOf; (simp [ho, h3, Ins.zero, Ins.val, u_nil]) <;> rfl, by ((repeat (first | apply On.rowO | refine On.setO ?_ HL.out | apply On.alloc)); first | exact On.refl w | exact on_of HB.out)⟩
set_option maxRecDepth 100000 in
set_option maxHeartbeats 4000000 in
theorem dec_15_0 (x : BitVec 32) (w : World) (ho : fi x 6 0 = 15) (h3 : fi x 14 12 = 0) :
    Calls Tryd.prog 12 #[.int .u32 (q x)] w fun e w' => e = .returned (decOf x).val ∧ On w w' := by
  have HB := hb0 w
  go_enter Tryd.func12, Tryd.ntmps12
  go_wp2
  go_step3
  go_wp2_with (first | (go_at_call 16; refine (rd_any _ _).mono ?_; rintro e wn ⟨rfl, h⟩; replace HB := tr HB h; clear h) | (go_at_call 17; refine (rs1_any _ _).mono ?_; rintro e wn ⟨rfl, h⟩; replace HB := tr HB h; clear h) | (go_at_call 18; refine (rs2_any _ _).mono ?_; rintro e wn ⟨rfl, h⟩; replace HB := tr HB h; clear h) | (go_at_call 19; refine (funct3_any _ _).mono ?_; rintro e wn ⟨rfl, h⟩; replace HB := tr HB h; clear h) | (go_at_call 20; refine (opcode_any _ _).mono ?_; rintro e wn ⟨rfl, h⟩; replace HB := tr HB h; clear h) | (refine own_store w rfl rfl rfl rfl rfl (by simp [Value.oneCell']) ?_ ?_; focus ((repeat (first | exact heap_on HB.out | refine heap_past _ ?_ | refine heap_far ?_ (Nat.ne_of_gt HL.out) _)); done)))
  go_step3
  go_wp2_with (first | (go_at_call 16; refine (rd_any _ _).mono ?_; rintro e wn ⟨rfl, h⟩; replace HB := tr HB h; clear h) | (go_at_call 17; refine (rs1_any _ _).mono ?_; rintro e wn ⟨rfl, h⟩; replace HB := tr HB h; clear h) | (go_at_call 18; refine (rs2_any _ _).mono ?_; rintro e wn ⟨rfl, h⟩; replace HB := tr HB h; clear h) | (go_at_call 19; refine (funct3_any _ _).mono ?_; rintro e wn ⟨rfl, h⟩; replace HB := tr HB h; clear h) | (go_at_call 20; refine (opcode_any _ _).mono ?_; rintro e wn ⟨rfl, h⟩; replace HB := tr HB h; clear h) | (refine own_store w rfl rfl rfl rfl rfl (by simp [Value.oneCell']) ?_ ?_; focus ((repeat (first | exact heap_on HB.out | refine heap_past _ ?_ | refine heap_far ?_ (Nat.ne_of_gt HL.out) _)); done)))
  rw [Exit.noGoto_ret]
  refine own_back w rfl rfl rfl rfl ?_ ?_; (focus ((repeat (first | exact heap_on HB.out | refine heap_past _ ?_ | refine heap_far ?_ (Nat.ne_of_gt HL.out) _)); done))
  exact ⟨by unfold decOf; (simp [ho, h3, Ins.zero, Ins.val, u_nil]) <;> rfl, by ((repeat (first | apply On.rowO | refine On.setO ?_ HL.out | apply On.alloc)); first | exact On.refl w | exact on_of HB.out)⟩
set_option maxRecDepth 100000 in
set_option maxHeartbeats 4000000 in
theorem dec_15_1 (x : BitVec 32) (w : World) (ho : fi x 6 0 = 15) (h3 : fi x 14 12 = 1) :
    Calls Tryd.prog 12 #[.int .u32 (q x)] w fun e w' => e = .returned (decOf x).val ∧ On w w' := by
  have HB := hb0 w
  go_enter Tryd.func12, Tryd.ntmps12
  go_wp2
  go_step3
  go_wp2_with (first | (go_at_call 16; refine (rd_any _ _).mono ?_; rintro e wn ⟨rfl, h⟩; replace HB := tr HB h; clear h) | (go_at_call 17; refine (rs1_any _ _).mono ?_; rintro e wn ⟨rfl, h⟩; replace HB := tr HB h; clear h) | (go_at_call 18; refine (rs2_any _ _).mono ?_; rintro e wn ⟨rfl, h⟩; replace HB := tr HB h; clear h) | (go_at_call 19; refine (funct3_any _ _).mono ?_; rintro e wn ⟨rfl, h⟩; replace HB := tr HB h; clear h) | (go_at_call 20; refine (opcode_any _ _).mono ?_; rintro e wn ⟨rfl, h⟩; replace HB := tr HB h; clear h) | (refine own_store w rfl rfl rfl rfl rfl (by simp [Value.oneCell']) ?_ ?_; focus ((repeat (first | exact heap_on HB.out | refine heap_past _ ?_ | refine heap_far ?_ (Nat.ne_of_gt HL.out) _)); done)))
  go_step3
  go_wp2_with (first | (go_at_call 16; refine (rd_any _ _).mono ?_; rintro e wn ⟨rfl, h⟩; replace HB := tr HB h; clear h) | (go_at_call 17; refine (rs1_any _ _).mono ?_; rintro e wn ⟨rfl, h⟩; replace HB := tr HB h; clear h) | (go_at_call 18; refine (rs2_any _ _).mono ?_; rintro e wn ⟨rfl, h⟩; replace HB := tr HB h; clear h) | (go_at_call 19; refine (funct3_any _ _).mono ?_; rintro e wn ⟨rfl, h⟩; replace HB := tr HB h; clear h) | (go_at_call 20; refine (opcode_any _ _).mono ?_; rintro e wn ⟨rfl, h⟩; replace HB := tr HB h; clear h) | (refine own_store w rfl rfl rfl rfl rfl (by simp [Value.oneCell']) ?_ ?_; focus ((repeat (first | exact heap_on HB.out | refine heap_past _ ?_ | refine heap_far ?_ (Nat.ne_of_gt HL.out) _)); done)))
  rw [Exit.noGoto_ret]
  refine own_back w rfl rfl rfl rfl ?_ ?_; (focus ((repeat (first | exact heap_on HB.out | refine heap_past _ ?_ | refine heap_far ?_ (Nat.ne_of_gt HL.out) _)); done))
  exact ⟨by unfold decOf; (simp [ho, h3, Ins.zero, Ins.val, u_nil]) <;> rfl, by ((repeat (first | apply On.rowO | refine On.setO ?_ HL.out | apply On.alloc)); first | exact On.refl w | exact on_of HB.out)⟩
set_option maxRecDepth 100000 in
set_option maxHeartbeats 4000000 in
theorem dec_15_n (x : BitVec 32) (w : World) (ho : fi x 6 0 = 15) (H3 : Hid (¬ fi x 14 12 = 0 ∧ ¬ fi x 14 12 = 1)) :
    Calls Tryd.prog 12 #[.int .u32 (q x)] w fun e w' => e = .returned (decOf x).val ∧ On w w' := by
  have b0 : (fi x 14 12 == 0) = false := by simpa using H3.out.1
  have b1 : (fi x 14 12 == 1) = false := by simpa using H3.out.2
  have HB := hb0 w
  go_enter Tryd.func12, Tryd.ntmps12
  go_wp2
  go_step3
  go_wp2_with (first | (go_at_call 16; refine (rd_any _ _).mono ?_; rintro e wn ⟨rfl, h⟩; replace HB := tr HB h; clear h) | (go_at_call 17; refine (rs1_any _ _).mono ?_; rintro e wn ⟨rfl, h⟩; replace HB := tr HB h; clear h) | (go_at_call 18; refine (rs2_any _ _).mono ?_; rintro e wn ⟨rfl, h⟩; replace HB := tr HB h; clear h) | (go_at_call 19; refine (funct3_any _ _).mono ?_; rintro e wn ⟨rfl, h⟩; replace HB := tr HB h; clear h) | (go_at_call 20; refine (opcode_any _ _).mono ?_; rintro e wn ⟨rfl, h⟩; replace HB := tr HB h; clear h) | (refine own_store w rfl rfl rfl rfl rfl (by simp [Value.oneCell']) ?_ ?_; focus ((repeat (first | exact heap_on HB.out | refine heap_past _ ?_ | refine heap_far ?_ (Nat.ne_of_gt HL.out) _)); done)))
  go_step3
  go_wp2_with (first | (go_at_call 16; refine (rd_any _ _).mono ?_; rintro e wn ⟨rfl, h⟩; replace HB := tr HB h; clear h) | (go_at_call 17; refine (rs1_any _ _).mono ?_; rintro e wn ⟨rfl, h⟩; replace HB := tr HB h; clear h) | (go_at_call 18; refine (rs2_any _ _).mono ?_; rintro e wn ⟨rfl, h⟩; replace HB := tr HB h; clear h) | (go_at_call 19; refine (funct3_any _ _).mono ?_; rintro e wn ⟨rfl, h⟩; replace HB := tr HB h; clear h) | (go_at_call 20; refine (opcode_any _ _).mono ?_; rintro e wn ⟨rfl, h⟩; replace HB := tr HB h; clear h) | (refine own_store w rfl rfl rfl rfl rfl (by simp [Value.oneCell']) ?_ ?_; focus ((repeat (first | exact heap_on HB.out | refine heap_past _ ?_ | refine heap_far ?_ (Nat.ne_of_gt HL.out) _)); done)))
  rw [Exit.noGoto_ret]
  refine own_back w rfl rfl rfl rfl ?_ ?_; (focus ((repeat (first | exact heap_on HB.out | refine heap_past _ ?_ | refine heap_far ?_ (Nat.ne_of_gt HL.out) _)); done))
  exact ⟨by unfold decOf; (simp [ho, H3.out, Ins.zero, Ins.val, u_nil]) <;> rfl, by ((repeat (first | apply On.rowO | refine On.setO ?_ HL.out | apply On.alloc)); first | exact On.refl w | exact on_of HB.out)⟩
set_option maxRecDepth 100000 in
set_option maxHeartbeats 4000000 in
theorem dec_19 (x : BitVec 32) (w : World) (ho : fi x 6 0 = 19) :
    Calls Tryd.prog 12 #[.int .u32 (q x)] w fun e w' => e = .returned (decOf x).val ∧ On w w' := by
  have HB := hb0 w
  go_enter Tryd.func12, Tryd.ntmps12
  go_wp2
  go_step3
  go_wp2_with (first | (go_at_call 16; refine (rd_any _ _).mono ?_; rintro e wn ⟨rfl, h⟩; replace HB := tr HB h; clear h) | (go_at_call 17; refine (rs1_any _ _).mono ?_; rintro e wn ⟨rfl, h⟩; replace HB := tr HB h; clear h) | (go_at_call 18; refine (rs2_any _ _).mono ?_; rintro e wn ⟨rfl, h⟩; replace HB := tr HB h; clear h) | (go_at_call 19; refine (funct3_any _ _).mono ?_; rintro e wn ⟨rfl, h⟩; replace HB := tr HB h; clear h) | (go_at_call 20; refine (opcode_any _ _).mono ?_; rintro e wn ⟨rfl, h⟩; replace HB := tr HB h; clear h) | (refine own_store w rfl rfl rfl rfl rfl (by simp [Value.oneCell']) ?_ ?_; focus ((repeat (first | exact heap_on HB.out | refine heap_past _ ?_ | refine heap_far ?_ (Nat.ne_of_gt HL.out) _)); done)) | (go_at_call 26; refine (num_false_any _ _).mono ?_; rintro e wn ⟨rfl, h⟩; replace HB := tr HB h; clear h))
  go_step3
  go_wp2_with (first | (go_at_call 16; refine (rd_any _ _).mono ?_; rintro e wn ⟨rfl, h⟩; replace HB := tr HB h; clear h) | (go_at_call 17; refine (rs1_any _ _).mono ?_; rintro e wn ⟨rfl, h⟩; replace HB := tr HB h; clear h) | (go_at_call 18; refine (rs2_any _ _).mono ?_; rintro e wn ⟨rfl, h⟩; replace HB := tr HB h; clear h) | (go_at_call 19; refine (funct3_any _ _).mono ?_; rintro e wn ⟨rfl, h⟩; replace HB := tr HB h; clear h) | (go_at_call 20; refine (opcode_any _ _).mono ?_; rintro e wn ⟨rfl, h⟩; replace HB := tr HB h; clear h) | (refine own_store w rfl rfl rfl rfl rfl (by simp [Value.oneCell']) ?_ ?_; focus ((repeat (first | exact heap_on HB.out | refine heap_past _ ?_ | refine heap_far ?_ (Nat.ne_of_gt HL.out) _)); done)) | (go_at_call 26; refine (num_false_any _ _).mono ?_; rintro e wn ⟨rfl, h⟩; replace HB := tr HB h; clear h))
  rw [Exit.noGoto_ret]
  refine own_back w rfl rfl rfl rfl ?_ ?_; (focus ((repeat (first | exact heap_on HB.out | refine heap_past _ ?_ | refine heap_far ?_ (Nat.ne_of_gt HL.out) _)); done))
  exact ⟨by unfold decOf; (simp [ho, Ins.zero, Ins.val, u_nil]) <;> rfl, by ((repeat (first | apply On.rowO | refine On.setO ?_ HL.out | apply On.alloc)); first | exact On.refl w | exact on_of HB.out)⟩
set_option maxRecDepth 100000 in
set_option maxHeartbeats 4000000 in
theorem dec_27 (x : BitVec 32) (w : World) (ho : fi x 6 0 = 27) :
    Calls Tryd.prog 12 #[.int .u32 (q x)] w fun e w' => e = .returned (decOf x).val ∧ On w w' := by
  have HB := hb0 w
  go_enter Tryd.func12, Tryd.ntmps12
  go_wp2
  go_step3
  go_wp2_with (first | (go_at_call 16; refine (rd_any _ _).mono ?_; rintro e wn ⟨rfl, h⟩; replace HB := tr HB h; clear h) | (go_at_call 17; refine (rs1_any _ _).mono ?_; rintro e wn ⟨rfl, h⟩; replace HB := tr HB h; clear h) | (go_at_call 18; refine (rs2_any _ _).mono ?_; rintro e wn ⟨rfl, h⟩; replace HB := tr HB h; clear h) | (go_at_call 19; refine (funct3_any _ _).mono ?_; rintro e wn ⟨rfl, h⟩; replace HB := tr HB h; clear h) | (go_at_call 20; refine (opcode_any _ _).mono ?_; rintro e wn ⟨rfl, h⟩; replace HB := tr HB h; clear h) | (refine own_store w rfl rfl rfl rfl rfl (by simp [Value.oneCell']) ?_ ?_; focus ((repeat (first | exact heap_on HB.out | refine heap_past _ ?_ | refine heap_far ?_ (Nat.ne_of_gt HL.out) _)); done)) | (go_at_call 26; refine (num_true_any _ _).mono ?_; rintro e wn ⟨rfl, h⟩; replace HB := tr HB h; clear h))
  go_step3
  go_wp2_with (first | (go_at_call 16; refine (rd_any _ _).mono ?_; rintro e wn ⟨rfl, h⟩; replace HB := tr HB h; clear h) | (go_at_call 17; refine (rs1_any _ _).mono ?_; rintro e wn ⟨rfl, h⟩; replace HB := tr HB h; clear h) | (go_at_call 18; refine (rs2_any _ _).mono ?_; rintro e wn ⟨rfl, h⟩; replace HB := tr HB h; clear h) | (go_at_call 19; refine (funct3_any _ _).mono ?_; rintro e wn ⟨rfl, h⟩; replace HB := tr HB h; clear h) | (go_at_call 20; refine (opcode_any _ _).mono ?_; rintro e wn ⟨rfl, h⟩; replace HB := tr HB h; clear h) | (refine own_store w rfl rfl rfl rfl rfl (by simp [Value.oneCell']) ?_ ?_; focus ((repeat (first | exact heap_on HB.out | refine heap_past _ ?_ | refine heap_far ?_ (Nat.ne_of_gt HL.out) _)); done)) | (go_at_call 26; refine (num_true_any _ _).mono ?_; rintro e wn ⟨rfl, h⟩; replace HB := tr HB h; clear h))
  rw [Exit.noGoto_ret]
  refine own_back w rfl rfl rfl rfl ?_ ?_; (focus ((repeat (first | exact heap_on HB.out | refine heap_past _ ?_ | refine heap_far ?_ (Nat.ne_of_gt HL.out) _)); done))
  exact ⟨by unfold decOf; (simp [ho, Ins.zero, Ins.val, u_nil]) <;> rfl, by ((repeat (first | apply On.rowO | refine On.setO ?_ HL.out | apply On.alloc)); first | exact On.refl w | exact on_of HB.out)⟩
set_option maxRecDepth 100000 in
set_option maxHeartbeats 4000000 in
theorem dec_51 (x : BitVec 32) (w : World) (ho : fi x 6 0 = 51) :
    Calls Tryd.prog 12 #[.int .u32 (q x)] w fun e w' => e = .returned (decOf x).val ∧ On w w' := by
  have HB := hb0 w
  go_enter Tryd.func12, Tryd.ntmps12
  go_wp2
  go_step3
  go_wp2_with (first | (go_at_call 16; refine (rd_any _ _).mono ?_; rintro e wn ⟨rfl, h⟩; replace HB := tr HB h; clear h) | (go_at_call 17; refine (rs1_any _ _).mono ?_; rintro e wn ⟨rfl, h⟩; replace HB := tr HB h; clear h) | (go_at_call 18; refine (rs2_any _ _).mono ?_; rintro e wn ⟨rfl, h⟩; replace HB := tr HB h; clear h) | (go_at_call 19; refine (funct3_any _ _).mono ?_; rintro e wn ⟨rfl, h⟩; replace HB := tr HB h; clear h) | (go_at_call 20; refine (opcode_any _ _).mono ?_; rintro e wn ⟨rfl, h⟩; replace HB := tr HB h; clear h) | (refine own_store w rfl rfl rfl rfl rfl (by simp [Value.oneCell']) ?_ ?_; focus ((repeat (first | exact heap_on HB.out | refine heap_past _ ?_ | refine heap_far ?_ (Nat.ne_of_gt HL.out) _)); done)) | (go_at_call 27; refine (reg_false_any _ _).mono ?_; rintro e wn ⟨rfl, h⟩; replace HB := tr HB h; clear h))
  go_step3
  go_wp2_with (first | (go_at_call 16; refine (rd_any _ _).mono ?_; rintro e wn ⟨rfl, h⟩; replace HB := tr HB h; clear h) | (go_at_call 17; refine (rs1_any _ _).mono ?_; rintro e wn ⟨rfl, h⟩; replace HB := tr HB h; clear h) | (go_at_call 18; refine (rs2_any _ _).mono ?_; rintro e wn ⟨rfl, h⟩; replace HB := tr HB h; clear h) | (go_at_call 19; refine (funct3_any _ _).mono ?_; rintro e wn ⟨rfl, h⟩; replace HB := tr HB h; clear h) | (go_at_call 20; refine (opcode_any _ _).mono ?_; rintro e wn ⟨rfl, h⟩; replace HB := tr HB h; clear h) | (refine own_store w rfl rfl rfl rfl rfl (by simp [Value.oneCell']) ?_ ?_; focus ((repeat (first | exact heap_on HB.out | refine heap_past _ ?_ | refine heap_far ?_ (Nat.ne_of_gt HL.out) _)); done)) | (go_at_call 27; refine (reg_false_any _ _).mono ?_; rintro e wn ⟨rfl, h⟩; replace HB := tr HB h; clear h))
  rw [Exit.noGoto_ret]
  refine own_back w rfl rfl rfl rfl ?_ ?_; (focus ((repeat (first | exact heap_on HB.out | refine heap_past _ ?_ | refine heap_far ?_ (Nat.ne_of_gt HL.out) _)); done))
  exact ⟨by unfold decOf; (simp [ho, Ins.zero, Ins.val, u_nil]) <;> rfl, by ((repeat (first | apply On.rowO | refine On.setO ?_ HL.out | apply On.alloc)); first | exact On.refl w | exact on_of HB.out)⟩
set_option maxRecDepth 100000 in
set_option maxHeartbeats 4000000 in
theorem dec_59 (x : BitVec 32) (w : World) (ho : fi x 6 0 = 59) :
    Calls Tryd.prog 12 #[.int .u32 (q x)] w fun e w' => e = .returned (decOf x).val ∧ On w w' := by
  have HB := hb0 w
  go_enter Tryd.func12, Tryd.ntmps12
  go_wp2
  go_step3
  go_wp2_with (first | (go_at_call 16; refine (rd_any _ _).mono ?_; rintro e wn ⟨rfl, h⟩; replace HB := tr HB h; clear h) | (go_at_call 17; refine (rs1_any _ _).mono ?_; rintro e wn ⟨rfl, h⟩; replace HB := tr HB h; clear h) | (go_at_call 18; refine (rs2_any _ _).mono ?_; rintro e wn ⟨rfl, h⟩; replace HB := tr HB h; clear h) | (go_at_call 19; refine (funct3_any _ _).mono ?_; rintro e wn ⟨rfl, h⟩; replace HB := tr HB h; clear h) | (go_at_call 20; refine (opcode_any _ _).mono ?_; rintro e wn ⟨rfl, h⟩; replace HB := tr HB h; clear h) | (refine own_store w rfl rfl rfl rfl rfl (by simp [Value.oneCell']) ?_ ?_; focus ((repeat (first | exact heap_on HB.out | refine heap_past _ ?_ | refine heap_far ?_ (Nat.ne_of_gt HL.out) _)); done)) | (go_at_call 27; refine (reg_true_any _ _).mono ?_; rintro e wn ⟨rfl, h⟩; replace HB := tr HB h; clear h))
  go_step3
  go_wp2_with (first | (go_at_call 16; refine (rd_any _ _).mono ?_; rintro e wn ⟨rfl, h⟩; replace HB := tr HB h; clear h) | (go_at_call 17; refine (rs1_any _ _).mono ?_; rintro e wn ⟨rfl, h⟩; replace HB := tr HB h; clear h) | (go_at_call 18; refine (rs2_any _ _).mono ?_; rintro e wn ⟨rfl, h⟩; replace HB := tr HB h; clear h) | (go_at_call 19; refine (funct3_any _ _).mono ?_; rintro e wn ⟨rfl, h⟩; replace HB := tr HB h; clear h) | (go_at_call 20; refine (opcode_any _ _).mono ?_; rintro e wn ⟨rfl, h⟩; replace HB := tr HB h; clear h) | (refine own_store w rfl rfl rfl rfl rfl (by simp [Value.oneCell']) ?_ ?_; focus ((repeat (first | exact heap_on HB.out | refine heap_past _ ?_ | refine heap_far ?_ (Nat.ne_of_gt HL.out) _)); done)) | (go_at_call 27; refine (reg_true_any _ _).mono ?_; rintro e wn ⟨rfl, h⟩; replace HB := tr HB h; clear h))
  rw [Exit.noGoto_ret]
  refine own_back w rfl rfl rfl rfl ?_ ?_; (focus ((repeat (first | exact heap_on HB.out | refine heap_past _ ?_ | refine heap_far ?_ (Nat.ne_of_gt HL.out) _)); done))
  exact ⟨by unfold decOf; (simp [ho, Ins.zero, Ins.val, u_nil]) <;> rfl, by ((repeat (first | apply On.rowO | refine On.setO ?_ HL.out | apply On.alloc)); first | exact On.refl w | exact on_of HB.out)⟩
set_option maxRecDepth 100000 in
set_option maxHeartbeats 4000000 in
theorem dec_47 (x : BitVec 32) (w : World) (ho : fi x 6 0 = 47) :
    Calls Tryd.prog 12 #[.int .u32 (q x)] w fun e w' => e = .returned (decOf x).val ∧ On w w' := by
  have HB := hb0 w
  go_enter Tryd.func12, Tryd.ntmps12
  go_wp2
  go_step3
  go_wp2_with (first | (go_at_call 16; refine (rd_any _ _).mono ?_; rintro e wn ⟨rfl, h⟩; replace HB := tr HB h; clear h) | (go_at_call 17; refine (rs1_any _ _).mono ?_; rintro e wn ⟨rfl, h⟩; replace HB := tr HB h; clear h) | (go_at_call 18; refine (rs2_any _ _).mono ?_; rintro e wn ⟨rfl, h⟩; replace HB := tr HB h; clear h) | (go_at_call 19; refine (funct3_any _ _).mono ?_; rintro e wn ⟨rfl, h⟩; replace HB := tr HB h; clear h) | (go_at_call 20; refine (opcode_any _ _).mono ?_; rintro e wn ⟨rfl, h⟩; replace HB := tr HB h; clear h) | (refine own_store w rfl rfl rfl rfl rfl (by simp [Value.oneCell']) ?_ ?_; focus ((repeat (first | exact heap_on HB.out | refine heap_past _ ?_ | refine heap_far ?_ (Nat.ne_of_gt HL.out) _)); done)) | (go_at_call 28; refine (amo_any _ _).mono ?_; rintro e wn ⟨rfl, h⟩; replace HB := tr HB h; clear h))
  go_step3
  go_wp2_with (first | (go_at_call 16; refine (rd_any _ _).mono ?_; rintro e wn ⟨rfl, h⟩; replace HB := tr HB h; clear h) | (go_at_call 17; refine (rs1_any _ _).mono ?_; rintro e wn ⟨rfl, h⟩; replace HB := tr HB h; clear h) | (go_at_call 18; refine (rs2_any _ _).mono ?_; rintro e wn ⟨rfl, h⟩; replace HB := tr HB h; clear h) | (go_at_call 19; refine (funct3_any _ _).mono ?_; rintro e wn ⟨rfl, h⟩; replace HB := tr HB h; clear h) | (go_at_call 20; refine (opcode_any _ _).mono ?_; rintro e wn ⟨rfl, h⟩; replace HB := tr HB h; clear h) | (refine own_store w rfl rfl rfl rfl rfl (by simp [Value.oneCell']) ?_ ?_; focus ((repeat (first | exact heap_on HB.out | refine heap_past _ ?_ | refine heap_far ?_ (Nat.ne_of_gt HL.out) _)); done)) | (go_at_call 28; refine (amo_any _ _).mono ?_; rintro e wn ⟨rfl, h⟩; replace HB := tr HB h; clear h))
  rw [Exit.noGoto_ret]
  refine own_back w rfl rfl rfl rfl ?_ ?_; (focus ((repeat (first | exact heap_on HB.out | refine heap_past _ ?_ | refine heap_far ?_ (Nat.ne_of_gt HL.out) _)); done))
  exact ⟨by unfold decOf; (simp [ho, Ins.zero, Ins.val, u_nil]) <;> rfl, by ((repeat (first | apply On.rowO | refine On.setO ?_ HL.out | apply On.alloc)); first | exact On.refl w | exact on_of HB.out)⟩
set_option maxRecDepth 100000 in
set_option maxHeartbeats 4000000 in
theorem dec_115 (x : BitVec 32) (w : World) (ho : fi x 6 0 = 115) :
    Calls Tryd.prog 12 #[.int .u32 (q x)] w fun e w' => e = .returned (decOf x).val ∧ On w w' := by
  have HB := hb0 w
  go_enter Tryd.func12, Tryd.ntmps12
  go_wp2
  go_step3
  go_wp2_with (first | (go_at_call 16; refine (rd_any _ _).mono ?_; rintro e wn ⟨rfl, h⟩; replace HB := tr HB h; clear h) | (go_at_call 17; refine (rs1_any _ _).mono ?_; rintro e wn ⟨rfl, h⟩; replace HB := tr HB h; clear h) | (go_at_call 18; refine (rs2_any _ _).mono ?_; rintro e wn ⟨rfl, h⟩; replace HB := tr HB h; clear h) | (go_at_call 19; refine (funct3_any _ _).mono ?_; rintro e wn ⟨rfl, h⟩; replace HB := tr HB h; clear h) | (go_at_call 20; refine (opcode_any _ _).mono ?_; rintro e wn ⟨rfl, h⟩; replace HB := tr HB h; clear h) | (refine own_store w rfl rfl rfl rfl rfl (by simp [Value.oneCell']) ?_ ?_; focus ((repeat (first | exact heap_on HB.out | refine heap_past _ ?_ | refine heap_far ?_ (Nat.ne_of_gt HL.out) _)); done)) | (go_at_call 29; refine (system_any _ _).mono ?_; rintro e wn ⟨rfl, h⟩; replace HB := tr HB h; clear h))
  go_step3
  go_wp2_with (first | (go_at_call 16; refine (rd_any _ _).mono ?_; rintro e wn ⟨rfl, h⟩; replace HB := tr HB h; clear h) | (go_at_call 17; refine (rs1_any _ _).mono ?_; rintro e wn ⟨rfl, h⟩; replace HB := tr HB h; clear h) | (go_at_call 18; refine (rs2_any _ _).mono ?_; rintro e wn ⟨rfl, h⟩; replace HB := tr HB h; clear h) | (go_at_call 19; refine (funct3_any _ _).mono ?_; rintro e wn ⟨rfl, h⟩; replace HB := tr HB h; clear h) | (go_at_call 20; refine (opcode_any _ _).mono ?_; rintro e wn ⟨rfl, h⟩; replace HB := tr HB h; clear h) | (refine own_store w rfl rfl rfl rfl rfl (by simp [Value.oneCell']) ?_ ?_; focus ((repeat (first | exact heap_on HB.out | refine heap_past _ ?_ | refine heap_far ?_ (Nat.ne_of_gt HL.out) _)); done)) | (go_at_call 29; refine (system_any _ _).mono ?_; rintro e wn ⟨rfl, h⟩; replace HB := tr HB h; clear h))
  rw [Exit.noGoto_ret]
  refine own_back w rfl rfl rfl rfl ?_ ?_; (focus ((repeat (first | exact heap_on HB.out | refine heap_past _ ?_ | refine heap_far ?_ (Nat.ne_of_gt HL.out) _)); done))
  exact ⟨by unfold decOf; (simp [ho, Ins.zero, Ins.val, u_nil]) <;> rfl, by ((repeat (first | apply On.rowO | refine On.setO ?_ HL.out | apply On.alloc)); first | exact On.refl w | exact on_of HB.out)⟩
set_option maxRecDepth 100000 in
set_option maxHeartbeats 4000000 in
theorem dec_n (x : BitVec 32) (w : World) (N : Hid (¬ fi x 6 0 = 55 ∧ ¬ fi x 6 0 = 23 ∧ ¬ fi x 6 0 = 111 ∧ ¬ fi x 6 0 = 103 ∧ ¬ fi x 6 0 = 99 ∧ ¬ fi x 6 0 = 3 ∧ ¬ fi x 6 0 = 35 ∧ ¬ fi x 6 0 = 15 ∧ ¬ fi x 6 0 = 19 ∧ ¬ fi x 6 0 = 27 ∧ ¬ fi x 6 0 = 51 ∧ ¬ fi x 6 0 = 59 ∧ ¬ fi x 6 0 = 47 ∧ ¬ fi x 6 0 = 115)) :
    Calls Tryd.prog 12 #[.int .u32 (q x)] w fun e w' => e = .returned (decOf x).val ∧ On w w' := by
  have b0 : (fi x 6 0 == 55) = false := by simpa using N.out.1
  have b1 : (fi x 6 0 == 23) = false := by simpa using N.out.2.1
  have b2 : (fi x 6 0 == 111) = false := by simpa using N.out.2.2.1
  have b3 : (fi x 6 0 == 103) = false := by simpa using N.out.2.2.2.1
  have b4 : (fi x 6 0 == 99) = false := by simpa using N.out.2.2.2.2.1
  have b5 : (fi x 6 0 == 3) = false := by simpa using N.out.2.2.2.2.2.1
  have b6 : (fi x 6 0 == 35) = false := by simpa using N.out.2.2.2.2.2.2.1
  have b7 : (fi x 6 0 == 15) = false := by simpa using N.out.2.2.2.2.2.2.2.1
  have b8 : (fi x 6 0 == 19) = false := by simpa using N.out.2.2.2.2.2.2.2.2.1
  have b9 : (fi x 6 0 == 27) = false := by simpa using N.out.2.2.2.2.2.2.2.2.2.1
  have b10 : (fi x 6 0 == 51) = false := by simpa using N.out.2.2.2.2.2.2.2.2.2.2.1
  have b11 : (fi x 6 0 == 59) = false := by simpa using N.out.2.2.2.2.2.2.2.2.2.2.2.1
  have b12 : (fi x 6 0 == 47) = false := by simpa using N.out.2.2.2.2.2.2.2.2.2.2.2.2.1
  have b13 : (fi x 6 0 == 115) = false := by simpa using N.out.2.2.2.2.2.2.2.2.2.2.2.2.2
  have HB := hb0 w
  go_enter Tryd.func12, Tryd.ntmps12
  go_wp2
  go_step3
  go_wp2_with (first | (go_at_call 16; refine (rd_any _ _).mono ?_; rintro e wn ⟨rfl, h⟩; replace HB := tr HB h; clear h) | (go_at_call 17; refine (rs1_any _ _).mono ?_; rintro e wn ⟨rfl, h⟩; replace HB := tr HB h; clear h) | (go_at_call 18; refine (rs2_any _ _).mono ?_; rintro e wn ⟨rfl, h⟩; replace HB := tr HB h; clear h) | (go_at_call 19; refine (funct3_any _ _).mono ?_; rintro e wn ⟨rfl, h⟩; replace HB := tr HB h; clear h) | (go_at_call 20; refine (opcode_any _ _).mono ?_; rintro e wn ⟨rfl, h⟩; replace HB := tr HB h; clear h) | (refine own_store w rfl rfl rfl rfl rfl (by simp [Value.oneCell']) ?_ ?_; focus ((repeat (first | exact heap_on HB.out | refine heap_past _ ?_ | refine heap_far ?_ (Nat.ne_of_gt HL.out) _)); done)))
  go_step3
  go_wp2_with (first | (go_at_call 16; refine (rd_any _ _).mono ?_; rintro e wn ⟨rfl, h⟩; replace HB := tr HB h; clear h) | (go_at_call 17; refine (rs1_any _ _).mono ?_; rintro e wn ⟨rfl, h⟩; replace HB := tr HB h; clear h) | (go_at_call 18; refine (rs2_any _ _).mono ?_; rintro e wn ⟨rfl, h⟩; replace HB := tr HB h; clear h) | (go_at_call 19; refine (funct3_any _ _).mono ?_; rintro e wn ⟨rfl, h⟩; replace HB := tr HB h; clear h) | (go_at_call 20; refine (opcode_any _ _).mono ?_; rintro e wn ⟨rfl, h⟩; replace HB := tr HB h; clear h) | (refine own_store w rfl rfl rfl rfl rfl (by simp [Value.oneCell']) ?_ ?_; focus ((repeat (first | exact heap_on HB.out | refine heap_past _ ?_ | refine heap_far ?_ (Nat.ne_of_gt HL.out) _)); done)))
  rw [Exit.noGoto_ret]
  refine own_back w rfl rfl rfl rfl ?_ ?_; (focus ((repeat (first | exact heap_on HB.out | refine heap_past _ ?_ | refine heap_far ?_ (Nat.ne_of_gt HL.out) _)); done))
  exact ⟨by unfold decOf; (simp [N.out, Ins.zero, Ins.val, u_nil]) <;> rfl, by ((repeat (first | apply On.rowO | refine On.setO ?_ HL.out | apply On.alloc)); first | exact On.refl w | exact on_of HB.out)⟩
theorem decode_any (x : BitVec 32) (w : World) :
    Calls Tryd.prog 12 #[.int .u32 (q x)] w fun e w' => e = .returned (decOf x).val ∧ On w w' := by
  by_cases n55 : fi x 6 0 = 55
  · exact dec_55 x w n55
  by_cases n23 : fi x 6 0 = 23
  · exact dec_23 x w n23
  by_cases n111 : fi x 6 0 = 111
  · exact dec_111 x w n111
  by_cases n103 : fi x 6 0 = 103
  · by_cases h3 : fi x 14 12 = 0
    · exact dec_103z x w n103 h3
    · exact dec_103n x w n103 (Lib.hid h3)
  by_cases n99 : fi x 6 0 = 99
  · rcases f3_cases x with h3 | h3 | h3 | h3 | h3 | h3 | h3 | h3
    · exact dec_99_0 x w n99 h3
    · exact dec_99_1 x w n99 h3
    · exact dec_99_2 x w n99 h3
    · exact dec_99_3 x w n99 h3
    · exact dec_99_4 x w n99 h3
    · exact dec_99_5 x w n99 h3
    · exact dec_99_6 x w n99 h3
    · exact dec_99_7 x w n99 h3
  by_cases n3 : fi x 6 0 = 3
  · rcases f3_cases x with h3 | h3 | h3 | h3 | h3 | h3 | h3 | h3
    · exact dec_3_0 x w n3 h3
    · exact dec_3_1 x w n3 h3
    · exact dec_3_2 x w n3 h3
    · exact dec_3_3 x w n3 h3
    · exact dec_3_4 x w n3 h3
    · exact dec_3_5 x w n3 h3
    · exact dec_3_6 x w n3 h3
    · exact dec_3_7 x w n3 h3
  by_cases n35 : fi x 6 0 = 35
  · rcases f3_cases x with h3 | h3 | h3 | h3 | h3 | h3 | h3 | h3
    · exact dec_35_0 x w n35 h3
    · exact dec_35_1 x w n35 h3
    · exact dec_35_2 x w n35 h3
    · exact dec_35_3 x w n35 h3
    · exact dec_35_4 x w n35 h3
    · exact dec_35_5 x w n35 h3
    · exact dec_35_6 x w n35 h3
    · exact dec_35_7 x w n35 h3
  by_cases n15 : fi x 6 0 = 15
  · by_cases h3 : fi x 14 12 = 0
    · exact dec_15_0 x w n15 h3
    by_cases h4 : fi x 14 12 = 1
    · exact dec_15_1 x w n15 h4
    · exact dec_15_n x w n15 (Lib.hid ⟨h3, h4⟩)
  by_cases n19 : fi x 6 0 = 19
  · exact dec_19 x w n19
  by_cases n27 : fi x 6 0 = 27
  · exact dec_27 x w n27
  by_cases n51 : fi x 6 0 = 51
  · exact dec_51 x w n51
  by_cases n59 : fi x 6 0 = 59
  · exact dec_59 x w n59
  by_cases n47 : fi x 6 0 = 47
  · exact dec_47 x w n47
  by_cases n115 : fi x 6 0 = 115
  · exact dec_115 x w n115
  exact dec_n x w (Lib.hid ⟨n55, n23, n111, n103, n99, n3, n35, n15, n19, n27, n51, n59, n47, n115⟩)
end Go.Proofs.YtjnalgilkdoalaaDoor
