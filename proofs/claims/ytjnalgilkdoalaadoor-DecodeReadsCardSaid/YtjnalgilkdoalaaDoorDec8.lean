/- What Decode comes to in the reference: the same table. Conditions: named at each. -/
import Derived.Test.YtjnalgilkdoalaaDoorDec7r
import Derived.Test.YtjnalgilkdoalaaDoorDec7c
import Derived.Test.YtjnalgilkdoalaaDoorDec7s
namespace Go.Proofs.YtjnalgilkdoalaaDoor
open Go.RowKit
set_option linter.unusedSimpArgs false

set_option maxRecDepth 100000 in
set_option maxHeartbeats 4000000 in
theorem one_55 (x : BitVec 32) (w : World) (ho : fi x 6 0 = 55) :
    Calls Tryd.prog 65 #[.int .u32 (q x)] w fun e w' => PartOf e (decOf x) ∧ On w w' := by
  have HB := hb0 w
  go_enter Tryd.func65, Tryd.ntmps65
  go_wp2_with (first | (go_at_call 77; refine (ref_rd _ _).mono ?_; rintro e wn ⟨rfl, rfl⟩) | (go_at_call 78; refine (ref_rs1 _ _).mono ?_; rintro e wn ⟨rfl, rfl⟩) | (go_at_call 79; refine (ref_rs2 _ _).mono ?_; rintro e wn ⟨rfl, rfl⟩) | (go_at_call 80; refine (ref_funct3 _ _).mono ?_; rintro e wn ⟨rfl, rfl⟩) | (go_at_call 81; refine (ref_funct7 _ _).mono ?_; rintro e wn ⟨rfl, rfl⟩) | (go_at_call 82; refine (ref_opcode _ _).mono ?_; rintro e wn ⟨rfl, rfl⟩) | (refine own_store w rfl rfl rfl rfl rfl (by simp [Value.oneCell']) ?_ ?_; focus ((repeat (first | exact heap_on HB.out | refine heap_past _ ?_ | refine heap_far ?_ (Nat.ne_of_gt HL.out) _)); done)) | (go_at_call 83; refine (refImmU _ _).mono ?_; rintro e wn ⟨rfl, h⟩; replace HB := tr HB h; clear h))
  refine own_back2 w rfl rfl rfl rfl ?_ ?_; (focus ((repeat (first | exact heap_on HB.out | refine heap_past _ ?_ | refine heap_far ?_ (Nat.ne_of_gt HL.out) _)); done))
  exact ⟨⟨_, _, _, _, _, _, _, _, _, _, _, _, rfl, by unfold decOf; (simp [ho, Ins.zero, Ins.val, u_nil]) <;> rfl⟩, by ((repeat (first | apply On.rowO | refine On.setO ?_ HL.out | apply On.alloc)); first | exact On.refl w | exact on_of HB.out)⟩
set_option maxRecDepth 100000 in
set_option maxHeartbeats 4000000 in
theorem one_23 (x : BitVec 32) (w : World) (ho : fi x 6 0 = 23) :
    Calls Tryd.prog 65 #[.int .u32 (q x)] w fun e w' => PartOf e (decOf x) ∧ On w w' := by
  have HB := hb0 w
  go_enter Tryd.func65, Tryd.ntmps65
  go_wp2_with (first | (go_at_call 77; refine (ref_rd _ _).mono ?_; rintro e wn ⟨rfl, rfl⟩) | (go_at_call 78; refine (ref_rs1 _ _).mono ?_; rintro e wn ⟨rfl, rfl⟩) | (go_at_call 79; refine (ref_rs2 _ _).mono ?_; rintro e wn ⟨rfl, rfl⟩) | (go_at_call 80; refine (ref_funct3 _ _).mono ?_; rintro e wn ⟨rfl, rfl⟩) | (go_at_call 81; refine (ref_funct7 _ _).mono ?_; rintro e wn ⟨rfl, rfl⟩) | (go_at_call 82; refine (ref_opcode _ _).mono ?_; rintro e wn ⟨rfl, rfl⟩) | (refine own_store w rfl rfl rfl rfl rfl (by simp [Value.oneCell']) ?_ ?_; focus ((repeat (first | exact heap_on HB.out | refine heap_past _ ?_ | refine heap_far ?_ (Nat.ne_of_gt HL.out) _)); done)) | (go_at_call 83; refine (refImmU _ _).mono ?_; rintro e wn ⟨rfl, h⟩; replace HB := tr HB h; clear h))
  refine own_back2 w rfl rfl rfl rfl ?_ ?_; (focus ((repeat (first | exact heap_on HB.out | refine heap_past _ ?_ | refine heap_far ?_ (Nat.ne_of_gt HL.out) _)); done))
  exact ⟨⟨_, _, _, _, _, _, _, _, _, _, _, _, rfl, by unfold decOf; (simp [ho, Ins.zero, Ins.val, u_nil]) <;> rfl⟩, by ((repeat (first | apply On.rowO | refine On.setO ?_ HL.out | apply On.alloc)); first | exact On.refl w | exact on_of HB.out)⟩
set_option maxRecDepth 100000 in
set_option maxHeartbeats 4000000 in
theorem one_111 (x : BitVec 32) (w : World) (ho : fi x 6 0 = 111) :
    Calls Tryd.prog 65 #[.int .u32 (q x)] w fun e w' => PartOf e (decOf x) ∧ On w w' := by
  have HB := hb0 w
  go_enter Tryd.func65, Tryd.ntmps65
  go_wp2_with (first | (go_at_call 77; refine (ref_rd _ _).mono ?_; rintro e wn ⟨rfl, rfl⟩) | (go_at_call 78; refine (ref_rs1 _ _).mono ?_; rintro e wn ⟨rfl, rfl⟩) | (go_at_call 79; refine (ref_rs2 _ _).mono ?_; rintro e wn ⟨rfl, rfl⟩) | (go_at_call 80; refine (ref_funct3 _ _).mono ?_; rintro e wn ⟨rfl, rfl⟩) | (go_at_call 81; refine (ref_funct7 _ _).mono ?_; rintro e wn ⟨rfl, rfl⟩) | (go_at_call 82; refine (ref_opcode _ _).mono ?_; rintro e wn ⟨rfl, rfl⟩) | (refine own_store w rfl rfl rfl rfl rfl (by simp [Value.oneCell']) ?_ ?_; focus ((repeat (first | exact heap_on HB.out | refine heap_past _ ?_ | refine heap_far ?_ (Nat.ne_of_gt HL.out) _)); done)) | (go_at_call 83; refine (refImmJ _ _).mono ?_; rintro e wn ⟨rfl, h⟩; replace HB := tr HB h; clear h))
  refine own_back2 w rfl rfl rfl rfl ?_ ?_; (focus ((repeat (first | exact heap_on HB.out | refine heap_past _ ?_ | refine heap_far ?_ (Nat.ne_of_gt HL.out) _)); done))
  exact ⟨⟨_, _, _, _, _, _, _, _, _, _, _, _, rfl, by unfold decOf; (simp [ho, Ins.zero, Ins.val, u_nil]) <;> rfl⟩, by ((repeat (first | apply On.rowO | refine On.setO ?_ HL.out | apply On.alloc)); first | exact On.refl w | exact on_of HB.out)⟩
set_option maxRecDepth 100000 in
set_option maxHeartbeats 4000000 in
theorem one_103z (x : BitVec 32) (w : World) (ho : fi x 6 0 = 103) (h3 : fi x 14 12 = 0) :
    Calls Tryd.prog 65 #[.int .u32 (q x)] w fun e w' => PartOf e (decOf x) ∧ On w w' := by
  have HB := hb0 w
  go_enter Tryd.func65, Tryd.ntmps65
  go_wp2_with (first | (go_at_call 77; refine (ref_rd _ _).mono ?_; rintro e wn ⟨rfl, rfl⟩) | (go_at_call 78; refine (ref_rs1 _ _).mono ?_; rintro e wn ⟨rfl, rfl⟩) | (go_at_call 79; refine (ref_rs2 _ _).mono ?_; rintro e wn ⟨rfl, rfl⟩) | (go_at_call 80; refine (ref_funct3 _ _).mono ?_; rintro e wn ⟨rfl, rfl⟩) | (go_at_call 81; refine (ref_funct7 _ _).mono ?_; rintro e wn ⟨rfl, rfl⟩) | (go_at_call 82; refine (ref_opcode _ _).mono ?_; rintro e wn ⟨rfl, rfl⟩) | (refine own_store w rfl rfl rfl rfl rfl (by simp [Value.oneCell']) ?_ ?_; focus ((repeat (first | exact heap_on HB.out | refine heap_past _ ?_ | refine heap_far ?_ (Nat.ne_of_gt HL.out) _)); done)) | (go_at_call 83; refine (refImmI _ _).mono ?_; rintro e wn ⟨rfl, h⟩; replace HB := tr HB h; clear h))
  refine own_back2 w rfl rfl rfl rfl ?_ ?_; (focus ((repeat (first | exact heap_on HB.out | refine heap_past _ ?_ | refine heap_far ?_ (Nat.ne_of_gt HL.out) _)); done))
  exact ⟨⟨_, _, _, _, _, _, _, _, _, _, _, _, rfl, by unfold decOf; (simp [ho, h3, Ins.zero, Ins.val, u_nil]) <;> rfl⟩, by ((repeat (first | apply On.rowO | refine On.setO ?_ HL.out | apply On.alloc)); first | exact On.refl w | exact on_of HB.out)⟩
set_option maxRecDepth 100000 in
set_option maxHeartbeats 4000000 in
theorem one_103n (x : BitVec 32) (w : World) (ho : fi x 6 0 = 103) (H3 : Hid (¬ fi x 14 12 = 0)) :
    Calls Tryd.prog 65 #[.int .u32 (q x)] w fun e w' => PartOf e (decOf x) ∧ On w w' := by
  have b0 : (fi x 14 12 == 0) = false := by simpa using H3.out
  have HB := hb0 w
  go_enter Tryd.func65, Tryd.ntmps65
  go_wp2_with (first | (go_at_call 77; refine (ref_rd _ _).mono ?_; rintro e wn ⟨rfl, rfl⟩) | (go_at_call 78; refine (ref_rs1 _ _).mono ?_; rintro e wn ⟨rfl, rfl⟩) | (go_at_call 79; refine (ref_rs2 _ _).mono ?_; rintro e wn ⟨rfl, rfl⟩) | (go_at_call 80; refine (ref_funct3 _ _).mono ?_; rintro e wn ⟨rfl, rfl⟩) | (go_at_call 81; refine (ref_funct7 _ _).mono ?_; rintro e wn ⟨rfl, rfl⟩) | (go_at_call 82; refine (ref_opcode _ _).mono ?_; rintro e wn ⟨rfl, rfl⟩) | (refine own_store w rfl rfl rfl rfl rfl (by simp [Value.oneCell']) ?_ ?_; focus ((repeat (first | exact heap_on HB.out | refine heap_past _ ?_ | refine heap_far ?_ (Nat.ne_of_gt HL.out) _)); done)) | (go_at_call 83; refine (refImmI _ _).mono ?_; rintro e wn ⟨rfl, h⟩; replace HB := tr HB h; clear h))
  refine own_back2 w rfl rfl rfl rfl ?_ ?_; (focus ((repeat (first | exact heap_on HB.out | refine heap_past _ ?_ | refine heap_far ?_ (Nat.ne_of_gt HL.out) _)); done))
  exact ⟨⟨_, _, _, _, _, _, _, _, _, _, _, _, rfl, by unfold decOf; (simp [ho, H3.out, Ins.zero, Ins.val, u_nil]) <;> rfl⟩, by ((repeat (first | apply On.rowO | refine On.setO ?_ HL.out | apply On.alloc)); first | exact On.refl w | exact on_of HB.out)⟩
set_option maxRecDepth 100000 in
set_option maxHeartbeats 4000000 in
theorem one_99_0 (x : BitVec 32) (w : World) (ho : fi x 6 0 = 99) (h3 : fi x 14 12 = 0) :
    Calls Tryd.prog 65 #[.int .u32 (q x)] w fun e w' => PartOf e (decOf x) ∧ On w w' := by
  have HB := hb0 w
  go_enter Tryd.func65, Tryd.ntmps65
  go_wp2_with (first | (go_at_call 77; refine (ref_rd _ _).mono ?_; rintro e wn ⟨rfl, rfl⟩) | (go_at_call 78; refine (ref_rs1 _ _).mono ?_; rintro e wn ⟨rfl, rfl⟩) | (go_at_call 79; refine (ref_rs2 _ _).mono ?_; rintro e wn ⟨rfl, rfl⟩) | (go_at_call 80; refine (ref_funct3 _ _).mono ?_; rintro e wn ⟨rfl, rfl⟩) | (go_at_call 81; refine (ref_funct7 _ _).mono ?_; rintro e wn ⟨rfl, rfl⟩) | (go_at_call 82; refine (ref_opcode _ _).mono ?_; rintro e wn ⟨rfl, rfl⟩) | (refine own_store w rfl rfl rfl rfl rfl (by simp [Value.oneCell']) ?_ ?_; focus ((repeat (first | exact heap_on HB.out | refine heap_past _ ?_ | refine heap_far ?_ (Nat.ne_of_gt HL.out) _)); done)) | (go_at_call 83; refine (refImmB _ _).mono ?_; rintro e wn ⟨rfl, h⟩; replace HB := tr HB h; clear h))
  refine own_back2 w rfl rfl rfl rfl ?_ ?_; (focus ((repeat (first | exact heap_on HB.out | refine heap_past _ ?_ | refine heap_far ?_ (Nat.ne_of_gt HL.out) _)); done))
  exact ⟨⟨_, _, _, _, _, _, _, _, _, _, _, _, rfl, by unfold decOf; (simp [ho, h3, Ins.zero, Ins.val, u_nil]) <;> rfl⟩, by ((repeat (first | apply On.rowO | refine On.setO ?_ HL.out | apply On.alloc)); first | exact On.refl w | exact on_of HB.out)⟩
set_option maxRecDepth 100000 in
set_option maxHeartbeats 4000000 in
theorem one_3_0 (x : BitVec 32) (w : World) (ho : fi x 6 0 = 3) (h3 : fi x 14 12 = 0) :
    Calls Tryd.prog 65 #[.int .u32 (q x)] w fun e w' => PartOf e (decOf x) ∧ On w w' := by
  have HB := hb0 w
  go_enter Tryd.func65, Tryd.ntmps65
  go_wp2_with (first | (go_at_call 77; refine (ref_rd _ _).mono ?_; rintro e wn ⟨rfl, rfl⟩) | (go_at_call 78; refine (ref_rs1 _ _).mono ?_; rintro e wn ⟨rfl, rfl⟩) | (go_at_call 79; refine (ref_rs2 _ _).mono ?_; rintro e wn ⟨rfl, rfl⟩) | (go_at_call 80; refine (ref_funct3 _ _).mono ?_; rintro e wn ⟨rfl, rfl⟩) | (go_at_call 81; refine (ref_funct7 _ _).mono ?_; rintro e wn ⟨rfl, rfl⟩) | (go_at_call 82; refine (ref_opcode _ _).mono ?_; rintro e wn ⟨rfl, rfl⟩) | (refine own_store w rfl rfl rfl rfl rfl (by simp [Value.oneCell']) ?_ ?_; focus ((repeat (first | exact heap_on HB.out | refine heap_past _ ?_ | refine heap_far ?_ (Nat.ne_of_gt HL.out) _)); done)) | (go_at_call 83; refine (refImmI _ _).mono ?_; rintro e wn ⟨rfl, h⟩; replace HB := tr HB h; clear h))
  refine own_back2 w rfl rfl rfl rfl ?_ ?_; (focus ((repeat (first | exact heap_on HB.out | refine heap_past _ ?_ | refine heap_far ?_ (Nat.ne_of_gt HL.out) _)); done))
  exact ⟨⟨_, _, _, _, _, _, _, _, _, _, _, _, rfl, by unfold decOf; (simp [ho, h3, Ins.zero, Ins.val, u_nil]) <;> rfl⟩, by ((repeat (first | apply On.rowO | refine On.setO ?_ HL.out | apply On.alloc)); first | exact On.refl w | exact on_of HB.out)⟩
set_option maxRecDepth 100000 in
set_option maxHeartbeats 4000000 in
theorem one_35_0 (x : BitVec 32) (w : World) (ho : fi x 6 0 = 35) (h3 : fi x 14 12 = 0) :
    Calls Tryd.prog 65 #[.int .u32 (q x)] w fun e w' => PartOf e (decOf x) ∧ On w w' := by
  have HB := hb0 w
  go_enter Tryd.func65, Tryd.ntmps65
  go_wp2_with (first | (go_at_call 77; refine (ref_rd _ _).mono ?_; rintro e wn ⟨rfl, rfl⟩) | (go_at_call 78; refine (ref_rs1 _ _).mono ?_; rintro e wn ⟨rfl, rfl⟩) | (go_at_call 79; refine (ref_rs2 _ _).mono ?_; rintro e wn ⟨rfl, rfl⟩) | (go_at_call 80; refine (ref_funct3 _ _).mono ?_; rintro e wn ⟨rfl, rfl⟩) | (go_at_call 81; refine (ref_funct7 _ _).mono ?_; rintro e wn ⟨rfl, rfl⟩) | (go_at_call 82; refine (ref_opcode _ _).mono ?_; rintro e wn ⟨rfl, rfl⟩) | (refine own_store w rfl rfl rfl rfl rfl (by simp [Value.oneCell']) ?_ ?_; focus ((repeat (first | exact heap_on HB.out | refine heap_past _ ?_ | refine heap_far ?_ (Nat.ne_of_gt HL.out) _)); done)) | (go_at_call 83; refine (refImmS _ _).mono ?_; rintro e wn ⟨rfl, h⟩; replace HB := tr HB h; clear h))
  refine own_back2 w rfl rfl rfl rfl ?_ ?_; (focus ((repeat (first | exact heap_on HB.out | refine heap_past _ ?_ | refine heap_far ?_ (Nat.ne_of_gt HL.out) _)); done))
  exact ⟨⟨_, _, _, _, _, _, _, _, _, _, _, _, rfl, by unfold decOf; (simp [ho, h3, Ins.zero, Ins.val, u_nil]) <;> rfl⟩, by ((repeat (first | apply On.rowO | refine On.setO ?_ HL.out | apply On.alloc)); first | exact On.refl w | exact on_of HB.out)⟩
set_option maxRecDepth 100000 in
set_option maxHeartbeats 4000000 in
theorem one_15_0 (x : BitVec 32) (w : World) (ho : fi x 6 0 = 15) (h3 : fi x 14 12 = 0) :
    Calls Tryd.prog 65 #[.int .u32 (q x)] w fun e w' => PartOf e (decOf x) ∧ On w w' := by
  have HB := hb0 w
  go_enter Tryd.func65, Tryd.ntmps65
  go_wp2_with (first | (go_at_call 77; refine (ref_rd _ _).mono ?_; rintro e wn ⟨rfl, rfl⟩) | (go_at_call 78; refine (ref_rs1 _ _).mono ?_; rintro e wn ⟨rfl, rfl⟩) | (go_at_call 79; refine (ref_rs2 _ _).mono ?_; rintro e wn ⟨rfl, rfl⟩) | (go_at_call 80; refine (ref_funct3 _ _).mono ?_; rintro e wn ⟨rfl, rfl⟩) | (go_at_call 81; refine (ref_funct7 _ _).mono ?_; rintro e wn ⟨rfl, rfl⟩) | (go_at_call 82; refine (ref_opcode _ _).mono ?_; rintro e wn ⟨rfl, rfl⟩) | (refine own_store w rfl rfl rfl rfl rfl (by simp [Value.oneCell']) ?_ ?_; focus ((repeat (first | exact heap_on HB.out | refine heap_past _ ?_ | refine heap_far ?_ (Nat.ne_of_gt HL.out) _)); done)))
  refine own_back2 w rfl rfl rfl rfl ?_ ?_; (focus ((repeat (first | exact heap_on HB.out | refine heap_past _ ?_ | refine heap_far ?_ (Nat.ne_of_gt HL.out) _)); done))
  exact ⟨⟨_, _, _, _, _, _, _, _, _, _, _, _, rfl, by unfold decOf; (simp [ho, h3, Ins.zero, Ins.val, u_nil]) <;> rfl⟩, by ((repeat (first | apply On.rowO | refine On.setO ?_ HL.out | apply On.alloc)); first | exact On.refl w | exact on_of HB.out)⟩
set_option maxRecDepth 100000 in
set_option maxHeartbeats 4000000 in
theorem one_99_1 (x : BitVec 32) (w : World) (ho : fi x 6 0 = 99) (h3 : fi x 14 12 = 1) :
    Calls Tryd.prog 65 #[.int .u32 (q x)] w fun e w' => PartOf e (decOf x) ∧ On w w' := by
  have HB := hb0 w
  go_enter Tryd.func65, Tryd.ntmps65
  go_wp2_with (first | (go_at_call 77; refine (ref_rd _ _).mono ?_; rintro e wn ⟨rfl, rfl⟩) | (go_at_call 78; refine (ref_rs1 _ _).mono ?_; rintro e wn ⟨rfl, rfl⟩) | (go_at_call 79; refine (ref_rs2 _ _).mono ?_; rintro e wn ⟨rfl, rfl⟩) | (go_at_call 80; refine (ref_funct3 _ _).mono ?_; rintro e wn ⟨rfl, rfl⟩) | (go_at_call 81; refine (ref_funct7 _ _).mono ?_; rintro e wn ⟨rfl, rfl⟩) | (go_at_call 82; refine (ref_opcode _ _).mono ?_; rintro e wn ⟨rfl, rfl⟩) | (refine own_store w rfl rfl rfl rfl rfl (by simp [Value.oneCell']) ?_ ?_; focus ((repeat (first | exact heap_on HB.out | refine heap_past _ ?_ | refine heap_far ?_ (Nat.ne_of_gt HL.out) _)); done)) | (go_at_call 83; refine (refImmB _ _).mono ?_; rintro e wn ⟨rfl, h⟩; replace HB := tr HB h; clear h))
  refine own_back2 w rfl rfl rfl rfl ?_ ?_; (focus ((repeat (first | exact heap_on HB.out | refine heap_past _ ?_ | refine heap_far ?_ (Nat.ne_of_gt HL.out) _)); done))
  exact ⟨⟨_, _, _, _, _, _, _, _, _, _, _, _, rfl, by unfold decOf; (simp [ho, h3, Ins.zero, Ins.val, u_nil]) <;> rfl⟩, by ((repeat (first | apply On.rowO | refine On.setO ?_ HL.out | apply On.alloc)); first | exact On.refl w | exact on_of HB.out)⟩
set_option maxRecDepth 100000 in
set_option maxHeartbeats 4000000 in
theorem one_3_1 (x : BitVec 32) (w : World) (ho : fi x 6 0 = 3) (h3 : fi x 14 12 = 1) :
    Calls Tryd.prog 65 #[.int .u32 (q x)] w fun e w' => PartOf e (decOf x) ∧ On w w' := by
  have HB := hb0 w
  go_enter Tryd.func65, Tryd.ntmps65
  go_wp2_with (first | (go_at_call 77; refine (ref_rd _ _).mono ?_; rintro e wn ⟨rfl, rfl⟩) | (go_at_call 78; refine (ref_rs1 _ _).mono ?_; rintro e wn ⟨rfl, rfl⟩) | (go_at_call 79; refine (ref_rs2 _ _).mono ?_; rintro e wn ⟨rfl, rfl⟩) | (go_at_call 80; refine (ref_funct3 _ _).mono ?_; rintro e wn ⟨rfl, rfl⟩) | (go_at_call 81; refine (ref_funct7 _ _).mono ?_; rintro e wn ⟨rfl, rfl⟩) | (go_at_call 82; refine (ref_opcode _ _).mono ?_; rintro e wn ⟨rfl, rfl⟩) | (refine own_store w rfl rfl rfl rfl rfl (by simp [Value.oneCell']) ?_ ?_; focus ((repeat (first | exact heap_on HB.out | refine heap_past _ ?_ | refine heap_far ?_ (Nat.ne_of_gt HL.out) _)); done)) | (go_at_call 83; refine (refImmI _ _).mono ?_; rintro e wn ⟨rfl, h⟩; replace HB := tr HB h; clear h))
  refine own_back2 w rfl rfl rfl rfl ?_ ?_; (focus ((repeat (first | exact heap_on HB.out | refine heap_past _ ?_ | refine heap_far ?_ (Nat.ne_of_gt HL.out) _)); done))
  exact ⟨⟨_, _, _, _, _, _, _, _, _, _, _, _, rfl, by unfold decOf; (simp [ho, h3, Ins.zero, Ins.val, u_nil]) <;> rfl⟩, by ((repeat (first | apply On.rowO | refine On.setO ?_ HL.out | apply On.alloc)); first | exact On.refl w | exact on_of HB.out)⟩
set_option maxRecDepth 100000 in
set_option maxHeartbeats 4000000 in
theorem one_35_1 (x : BitVec 32) (w : World) (ho : fi x 6 0 = 35) (h3 : fi x 14 12 = 1) :
    Calls Tryd.prog 65 #[.int .u32 (q x)] w fun e w' => PartOf e (decOf x) ∧ On w w' := by
  have HB := hb0 w
  go_enter Tryd.func65, Tryd.ntmps65
  go_wp2_with (first | (go_at_call 77; refine (ref_rd _ _).mono ?_; rintro e wn ⟨rfl, rfl⟩) | (go_at_call 78; refine (ref_rs1 _ _).mono ?_; rintro e wn ⟨rfl, rfl⟩) | (go_at_call 79; refine (ref_rs2 _ _).mono ?_; rintro e wn ⟨rfl, rfl⟩) | (go_at_call 80; refine (ref_funct3 _ _).mono ?_; rintro e wn ⟨rfl, rfl⟩) | (go_at_call 81; refine (ref_funct7 _ _).mono ?_; rintro e wn ⟨rfl, rfl⟩) | (go_at_call 82; refine (ref_opcode _ _).mono ?_; rintro e wn ⟨rfl, rfl⟩) | (refine own_store w rfl rfl rfl rfl rfl (by simp [Value.oneCell']) ?_ ?_; focus ((repeat (first | exact heap_on HB.out | refine heap_past _ ?_ | refine heap_far ?_ (Nat.ne_of_gt HL.out) _)); done)) | (go_at_call 83; refine (refImmS _ _).mono ?_; rintro e wn ⟨rfl, h⟩; replace HB := tr HB h; clear h))
  refine own_back2 w rfl rfl rfl rfl ?_ ?_; (focus ((repeat (first | exact heap_on HB.out | refine heap_past _ ?_ | refine heap_far ?_ (Nat.ne_of_gt HL.out) _)); done))
  exact ⟨⟨_, _, _, _, _, _, _, _, _, _, _, _, rfl, by unfold decOf; (simp [ho, h3, Ins.zero, Ins.val, u_nil]) <;> rfl⟩, by ((repeat (first | apply On.rowO | refine On.setO ?_ HL.out | apply On.alloc)); first | exact On.refl w | exact on_of HB.out)⟩
set_option maxRecDepth 100000 in
set_option maxHeartbeats 4000000 in
theorem one_15_1 (x : BitVec 32) (w : World) (ho : fi x 6 0 = 15) (h3 : fi x 14 12 = 1) :
    Calls Tryd.prog 65 #[.int .u32 (q x)] w fun e w' => PartOf e (decOf x) ∧ On w w' := by
  have HB := hb0 w
  go_enter Tryd.func65, Tryd.ntmps65
  go_wp2_with (first | (go_at_call 77; refine (ref_rd _ _).mono ?_; rintro e wn ⟨rfl, rfl⟩) | (go_at_call 78; refine (ref_rs1 _ _).mono ?_; rintro e wn ⟨rfl, rfl⟩) | (go_at_call 79; refine (ref_rs2 _ _).mono ?_; rintro e wn ⟨rfl, rfl⟩) | (go_at_call 80; refine (ref_funct3 _ _).mono ?_; rintro e wn ⟨rfl, rfl⟩) | (go_at_call 81; refine (ref_funct7 _ _).mono ?_; rintro e wn ⟨rfl, rfl⟩) | (go_at_call 82; refine (ref_opcode _ _).mono ?_; rintro e wn ⟨rfl, rfl⟩) | (refine own_store w rfl rfl rfl rfl rfl (by simp [Value.oneCell']) ?_ ?_; focus ((repeat (first | exact heap_on HB.out | refine heap_past _ ?_ | refine heap_far ?_ (Nat.ne_of_gt HL.out) _)); done)))
  refine own_back2 w rfl rfl rfl rfl ?_ ?_; (focus ((repeat (first | exact heap_on HB.out | refine heap_past _ ?_ | refine heap_far ?_ (Nat.ne_of_gt HL.out) _)); done))
  exact ⟨⟨_, _, _, _, _, _, _, _, _, _, _, _, rfl, by unfold decOf; (simp [ho, h3, Ins.zero, Ins.val, u_nil]) <;> rfl⟩, by ((repeat (first | apply On.rowO | refine On.setO ?_ HL.out | apply On.alloc)); first | exact On.refl w | exact on_of HB.out)⟩
set_option maxRecDepth 100000 in
set_option maxHeartbeats 4000000 in
theorem one_99_2 (x : BitVec 32) (w : World) (ho : fi x 6 0 = 99) (h3 : fi x 14 12 = 2) :
    Calls Tryd.prog 65 #[.int .u32 (q x)] w fun e w' => PartOf e (decOf x) ∧ On w w' := by
  have HB := hb0 w
  go_enter Tryd.func65, Tryd.ntmps65
  go_wp2_with (first | (go_at_call 77; refine (ref_rd _ _).mono ?_; rintro e wn ⟨rfl, rfl⟩) | (go_at_call 78; refine (ref_rs1 _ _).mono ?_; rintro e wn ⟨rfl, rfl⟩) | (go_at_call 79; refine (ref_rs2 _ _).mono ?_; rintro e wn ⟨rfl, rfl⟩) | (go_at_call 80; refine (ref_funct3 _ _).mono ?_; rintro e wn ⟨rfl, rfl⟩) | (go_at_call 81; refine (ref_funct7 _ _).mono ?_; rintro e wn ⟨rfl, rfl⟩) | (go_at_call 82; refine (ref_opcode _ _).mono ?_; rintro e wn ⟨rfl, rfl⟩) | (refine own_store w rfl rfl rfl rfl rfl (by simp [Value.oneCell']) ?_ ?_; focus ((repeat (first | exact heap_on HB.out | refine heap_past _ ?_ | refine heap_far ?_ (Nat.ne_of_gt HL.out) _)); done)) | (go_at_call 83; refine (refImmB _ _).mono ?_; rintro e wn ⟨rfl, h⟩; replace HB := tr HB h; clear h))
  refine own_back2 w rfl rfl rfl rfl ?_ ?_; (focus ((repeat (first | exact heap_on HB.out | refine heap_past _ ?_ | refine heap_far ?_ (Nat.ne_of_gt HL.out) _)); done))
  exact ⟨⟨_, _, _, _, _, _, _, _, _, _, _, _, rfl, by unfold decOf; (simp [ho, h3, Ins.zero, Ins.val, u_nil]) <;> rfl⟩, by ((repeat (first | apply On.rowO | refine On.setO ?_ HL.out | apply On.alloc)); first | exact On.refl w | exact on_of HB.out)⟩
set_option maxRecDepth 100000 in
set_option maxHeartbeats 4000000 in
theorem one_3_2 (x : BitVec 32) (w : World) (ho : fi x 6 0 = 3) (h3 : fi x 14 12 = 2) :
    Calls Tryd.prog 65 #[.int .u32 (q x)] w fun e w' => PartOf e (decOf x) ∧ On w w' := by
  have HB := hb0 w
  go_enter Tryd.func65, Tryd.ntmps65
  go_wp2_with (first | (go_at_call 77; refine (ref_rd _ _).mono ?_; rintro e wn ⟨rfl, rfl⟩) | (go_at_call 78; refine (ref_rs1 _ _).mono ?_; rintro e wn ⟨rfl, rfl⟩) | (go_at_call 79; refine (ref_rs2 _ _).mono ?_; rintro e wn ⟨rfl, rfl⟩) | (go_at_call 80; refine (ref_funct3 _ _).mono ?_; rintro e wn ⟨rfl, rfl⟩) | (go_at_call 81; refine (ref_funct7 _ _).mono ?_; rintro e wn ⟨rfl, rfl⟩) | (go_at_call 82; refine (ref_opcode _ _).mono ?_; rintro e wn ⟨rfl, rfl⟩) | (refine own_store w rfl rfl rfl rfl rfl (by simp [Value.oneCell']) ?_ ?_; focus ((repeat (first | exact heap_on HB.out | refine heap_past _ ?_ | refine heap_far ?_ (Nat.ne_of_gt HL.out) _)); done)) | (go_at_call 83; refine (refImmI _ _).mono ?_; rintro e wn ⟨rfl, h⟩; replace HB := tr HB h; clear h))
  refine own_back2 w rfl rfl rfl rfl ?_ ?_; (focus ((repeat (first | exact heap_on HB.out | refine heap_past _ ?_ | refine heap_far ?_ (Nat.ne_of_gt HL.out) _)); done))
  exact ⟨⟨_, _, _, _, _, _, _, _, _, _, _, _, rfl, by unfold decOf; (simp [ho, h3, Ins.zero, Ins.val, u_nil]) <;> rfl⟩, by ((repeat (first | apply On.rowO | refine On.setO ?_ HL.out | apply On.alloc)); first | exact On.refl w | exact on_of HB.out)⟩
set_option maxRecDepth 100000 in
set_option maxHeartbeats 4000000 in
theorem one_35_2 (x : BitVec 32) (w : World) (ho : fi x 6 0 = 35) (h3 : fi x 14 12 = 2) :
    Calls Tryd.prog 65 #[.int .u32 (q x)] w fun e w' => PartOf e (decOf x) ∧ On w w' := by
  have HB := hb0 w
  go_enter Tryd.func65, Tryd.ntmps65
  go_wp2_with (first | (go_at_call 77; refine (ref_rd _ _).mono ?_; rintro e wn ⟨rfl, rfl⟩) | (go_at_call 78; refine (ref_rs1 _ _).mono ?_; rintro e wn ⟨rfl, rfl⟩) | (go_at_call 79; refine (ref_rs2 _ _).mono ?_; rintro e wn ⟨rfl, rfl⟩) | (go_at_call 80; refine (ref_funct3 _ _).mono ?_; rintro e wn ⟨rfl, rfl⟩) | (go_at_call 81; refine (ref_funct7 _ _).mono ?_; rintro e wn ⟨rfl, rfl⟩) | (go_at_call 82; refine (ref_opcode _ _).mono ?_; rintro e wn ⟨rfl, rfl⟩) | (refine own_store w rfl rfl rfl rfl rfl (by simp [Value.oneCell']) ?_ ?_; focus ((repeat (first | exact heap_on HB.out | refine heap_past _ ?_ | refine heap_far ?_ (Nat.ne_of_gt HL.out) _)); done)) | (go_at_call 83; refine (refImmS _ _).mono ?_; rintro e wn ⟨rfl, h⟩; replace HB := tr HB h; clear h))
  refine own_back2 w rfl rfl rfl rfl ?_ ?_; (focus ((repeat (first | exact heap_on HB.out | refine heap_past _ ?_ | refine heap_far ?_ (Nat.ne_of_gt HL.out) _)); done))
  exact ⟨⟨_, _, _, _, _, _, _, _, _, _, _, _, rfl, by unfold decOf; (simp [ho, h3, Ins.zero, Ins.val, u_nil]) <;> rfl⟩, by ((repeat (first | apply On.rowO | refine On.setO ?_ HL.out | apply On.alloc)); first | exact On.refl w | exact on_of HB.out)⟩
set_option maxRecDepth 100000 in
set_option maxHeartbeats 4000000 in
theorem one_15_2 (x : BitVec 32) (w : World) (ho : fi x 6 0 = 15) (h3 : fi x 14 12 = 2) :
    Calls Tryd.prog 65 #[.int .u32 (q x)] w fun e w' => PartOf e (decOf x) ∧ On w w' := by
  have HB := hb0 w
  go_enter Tryd.func65, Tryd.ntmps65
  go_wp2_with (first | (go_at_call 77; refine (ref_rd _ _).mono ?_; rintro e wn ⟨rfl, rfl⟩) | (go_at_call 78; refine (ref_rs1 _ _).mono ?_; rintro e wn ⟨rfl, rfl⟩) | (go_at_call 79; refine (ref_rs2 _ _).mono ?_; rintro e wn ⟨rfl, rfl⟩) | (go_at_call 80; refine (ref_funct3 _ _).mono ?_; rintro e wn ⟨rfl, rfl⟩) | (go_at_call 81; refine (ref_funct7 _ _).mono ?_; rintro e wn ⟨rfl, rfl⟩) | (go_at_call 82; refine (ref_opcode _ _).mono ?_; rintro e wn ⟨rfl, rfl⟩) | (refine own_store w rfl rfl rfl rfl rfl (by simp [Value.oneCell']) ?_ ?_; focus ((repeat (first | exact heap_on HB.out | refine heap_past _ ?_ | refine heap_far ?_ (Nat.ne_of_gt HL.out) _)); done)))
  refine own_back2 w rfl rfl rfl rfl ?_ ?_; (focus ((repeat (first | exact heap_on HB.out | refine heap_past _ ?_ | refine heap_far ?_ (Nat.ne_of_gt HL.out) _)); done))
  exact ⟨⟨_, _, _, _, _, _, _, _, _, _, _, _, rfl, by unfold decOf; (simp [ho, h3, Ins.zero, Ins.val, u_nil]) <;> rfl⟩, by ((repeat (first | apply On.rowO | refine On.setO ?_ HL.out | apply On.alloc)); first | exact On.refl w | exact on_of HB.out)⟩
set_option maxRecDepth 100000 in
set_option maxHeartbeats 4000000 in
theorem one_99_3 (x : BitVec 32) (w : World) (ho : fi x 6 0 = 99) (h3 : fi x 14 12 = 3) :
    Calls Tryd.prog 65 #[.int .u32 (q x)] w fun e w' => PartOf e (decOf x) ∧ On w w' := by
  have HB := hb0 w
  go_enter Tryd.func65, Tryd.ntmps65
  go_wp2_with (first | (go_at_call 77; refine (ref_rd _ _).mono ?_; rintro e wn ⟨rfl, rfl⟩) | (go_at_call 78; refine (ref_rs1 _ _).mono ?_; rintro e wn ⟨rfl, rfl⟩) | (go_at_call 79; refine (ref_rs2 _ _).mono ?_; rintro e wn ⟨rfl, rfl⟩) | (go_at_call 80; refine (ref_funct3 _ _).mono ?_; rintro e wn ⟨rfl, rfl⟩) | (go_at_call 81; refine (ref_funct7 _ _).mono ?_; rintro e wn ⟨rfl, rfl⟩) | (go_at_call 82; refine (ref_opcode _ _).mono ?_; rintro e wn ⟨rfl, rfl⟩) | (refine own_store w rfl rfl rfl rfl rfl (by simp [Value.oneCell']) ?_ ?_; focus ((repeat (first | exact heap_on HB.out | refine heap_past _ ?_ | refine heap_far ?_ (Nat.ne_of_gt HL.out) _)); done)) | (go_at_call 83; refine (refImmB _ _).mono ?_; rintro e wn ⟨rfl, h⟩; replace HB := tr HB h; clear h))
  refine own_back2 w rfl rfl rfl rfl ?_ ?_; (focus ((repeat (first | exact heap_on HB.out | refine heap_past _ ?_ | refine heap_far ?_ (Nat.ne_of_gt HL.out) _)); done))
  exact ⟨⟨_, _, _, _, _, _, _, _, _, _, _, _, rfl, by unfold decOf; (simp [ho, h3, Ins.zero, Ins.val, u_nil]) <;> rfl⟩, by ((repeat (first | apply On.rowO | refine On.setO ?_ HL.out | apply On.alloc)); first | exact On.refl w | exact on_of HB.out)⟩
set_option maxRecDepth 100000 in
set_option maxHeartbeats 4000000 in
theorem one_3_3 (x : BitVec 32) (w : World) (ho : fi x 6 0 = 3) (h3 : fi x 14 12 = 3) :
    Calls Tryd.prog 65 #[.int .u32 (q x)] w fun e w' => PartOf e (decOf x) ∧ On w w' := by
  have HB := hb0 w
  go_enter Tryd.func65, Tryd.ntmps65
  go_wp2_with (first | (go_at_call 77; refine (ref_rd _ _).mono ?_; rintro e wn ⟨rfl, rfl⟩) | (go_at_call 78; refine (ref_rs1 _ _).mono ?_; rintro e wn ⟨rfl, rfl⟩) | (go_at_call 79; refine (ref_rs2 _ _).mono ?_; rintro e wn ⟨rfl, rfl⟩) | (go_at_call 80; refine (ref_funct3 _ _).mono ?_; rintro e wn ⟨rfl, rfl⟩) | (go_at_call 81; refine (ref_funct7 _ _).mono ?_; rintro e wn ⟨rfl, rfl⟩) | (go_at_call 82; refine (ref_opcode _ _).mono ?_; rintro e wn ⟨rfl, rfl⟩) | (refine own_store w rfl rfl rfl rfl rfl (by simp [Value.oneCell']) ?_ ?_; focus ((repeat (first | exact heap_on HB.out | refine heap_past _ ?_ | refine heap_far ?_ (Nat.ne_of_gt HL.out) _)); done)) | (go_at_call 83; refine (refImmI _ _).mono ?_; rintro e wn ⟨rfl, h⟩; replace HB := tr HB h; clear h))
  refine own_back2 w rfl rfl rfl rfl ?_ ?_; (focus ((repeat (first | exact heap_on HB.out | refine heap_past _ ?_ | refine heap_far ?_ (Nat.ne_of_gt HL.out) _)); done))
  exact ⟨⟨_, _, _, _, _, _, _, _, _, _, _, _, rfl, by unfold decOf; (simp [ho, h3, Ins.zero, Ins.val, u_nil]) <;> rfl⟩, by ((repeat (first | apply On.rowO | refine On.setO ?_ HL.out | apply On.alloc)); first | exact On.refl w | exact on_of HB.out)⟩
set_option maxRecDepth 100000 in
set_option maxHeartbeats 4000000 in
theorem one_35_3 (x : BitVec 32) (w : World) (ho : fi x 6 0 = 35) (h3 : fi x 14 12 = 3) :
    Calls Tryd.prog 65 #[.int .u32 (q x)] w fun e w' => PartOf e (decOf x) ∧ On w w' := by
  have HB := hb0 w
  go_enter Tryd.func65, Tryd.ntmps65
  go_wp2_with (first | (go_at_call 77; refine (ref_rd _ _).mono ?_; rintro e wn ⟨rfl, rfl⟩) | (go_at_call 78; refine (ref_rs1 _ _).mono ?_; rintro e wn ⟨rfl, rfl⟩) | (go_at_call 79; refine (ref_rs2 _ _).mono ?_; rintro e wn ⟨rfl, rfl⟩) | (go_at_call 80; refine (ref_funct3 _ _).mono ?_; rintro e wn ⟨rfl, rfl⟩) | (go_at_call 81; refine (ref_funct7 _ _).mono ?_; rintro e wn ⟨rfl, rfl⟩) | (go_at_call 82; refine (ref_opcode _ _).mono ?_; rintro e wn ⟨rfl, rfl⟩) | (refine own_store w rfl rfl rfl rfl rfl (by simp [Value.oneCell']) ?_ ?_; focus ((repeat (first | exact heap_on HB.out | refine heap_past _ ?_ | refine heap_far ?_ (Nat.ne_of_gt HL.out) _)); done)) | (go_at_call 83; refine (refImmS _ _).mono ?_; rintro e wn ⟨rfl, h⟩; replace HB := tr HB h; clear h))
  refine own_back2 w rfl rfl rfl rfl ?_ ?_; (focus ((repeat (first | exact heap_on HB.out | refine heap_past _ ?_ | refine heap_far ?_ (Nat.ne_of_gt HL.out) _)); done))
  exact ⟨⟨_, _, _, _, _, _, _, _, _, _, _, _, rfl, by unfold decOf; (simp [ho, h3, Ins.zero, Ins.val, u_nil]) <;> rfl⟩, by ((repeat (first | apply On.rowO | refine On.setO ?_ HL.out | apply On.alloc)); first | exact On.refl w | exact on_of HB.out)⟩
set_option maxRecDepth 100000 in
set_option maxHeartbeats 4000000 in
theorem one_15_3 (x : BitVec 32) (w : World) (ho : fi x 6 0 = 15) (h3 : fi x 14 12 = 3) :
    Calls Tryd.prog 65 #[.int .u32 (q x)] w fun e w' => PartOf e (decOf x) ∧ On w w' := by
  have HB := hb0 w
  go_enter Tryd.func65, Tryd.ntmps65
  go_wp2_with (first | (go_at_call 77; refine (ref_rd _ _).mono ?_; rintro e wn ⟨rfl, rfl⟩) | (go_at_call 78; refine (ref_rs1 _ _).mono ?_; rintro e wn ⟨rfl, rfl⟩) | (go_at_call 79; refine (ref_rs2 _ _).mono ?_; rintro e wn ⟨rfl, rfl⟩) | (go_at_call 80; refine (ref_funct3 _ _).mono ?_; rintro e wn ⟨rfl, rfl⟩) | (go_at_call 81; refine (ref_funct7 _ _).mono ?_; rintro e wn ⟨rfl, rfl⟩) | (go_at_call 82; refine (ref_opcode _ _).mono ?_; rintro e wn ⟨rfl, rfl⟩) | (refine own_store w rfl rfl rfl rfl rfl (by simp [Value.oneCell']) ?_ ?_; focus ((repeat (first | exact heap_on HB.out | refine heap_past _ ?_ | refine heap_far ?_ (Nat.ne_of_gt HL.out) _)); done)))
  refine own_back2 w rfl rfl rfl rfl ?_ ?_; (focus ((repeat (first | exact heap_on HB.out | refine heap_past _ ?_ | refine heap_far ?_ (Nat.ne_of_gt HL.out) _)); done))
  exact ⟨⟨_, _, _, _, _, _, _, _, _, _, _, _, rfl, by unfold decOf; (simp [ho, h3, Ins.zero, Ins.val, u_nil]) <;> rfl⟩, by ((repeat (first | apply On.rowO | refine On.setO ?_ HL.out | apply On.alloc)); first | exact On.refl w | exact on_of HB.out)⟩
set_option maxRecDepth 100000 in
set_option maxHeartbeats 4000000 in
theorem one_99_4 (x : BitVec 32) (w : World) (ho : fi x 6 0 = 99) (h3 : fi x 14 12 = 4) :
    Calls Tryd.prog 65 #[.int .u32 (q x)] w fun e w' => PartOf e (decOf x) ∧ On w w' := by
  have HB := hb0 w
  go_enter Tryd.func65, Tryd.ntmps65
  go_wp2_with (first | (go_at_call 77; refine (ref_rd _ _).mono ?_; rintro e wn ⟨rfl, rfl⟩) | (go_at_call 78; refine (ref_rs1 _ _).mono ?_; rintro e wn ⟨rfl, rfl⟩) | (go_at_call 79; refine (ref_rs2 _ _).mono ?_; rintro e wn ⟨rfl, rfl⟩) | (go_at_call 80; refine (ref_funct3 _ _).mono ?_; rintro e wn ⟨rfl, rfl⟩) | (go_at_call 81; refine (ref_funct7 _ _).mono ?_; rintro e wn ⟨rfl, rfl⟩) | (go_at_call 82; refine (ref_opcode _ _).mono ?_; rintro e wn ⟨rfl, rfl⟩) | (refine own_store w rfl rfl rfl rfl rfl (by simp [Value.oneCell']) ?_ ?_; focus ((repeat (first | exact heap_on HB.out | refine heap_past _ ?_ | refine heap_far ?_ (Nat.ne_of_gt HL.out) _)); done)) | (go_at_call 83; refine (refImmB _ _).mono ?_; rintro e wn ⟨rfl, h⟩; replace HB := tr HB h; clear h))
  refine own_back2 w rfl rfl rfl rfl ?_ ?_; (focus ((repeat (first | exact heap_on HB.out | refine heap_past _ ?_ | refine heap_far ?_ (Nat.ne_of_gt HL.out) _)); done))
  exact ⟨⟨_, _, _, _, _, _, _, _, _, _, _, _, rfl, by unfold decOf; (simp [ho, h3, Ins.zero, Ins.val, u_nil]) <;> rfl⟩, by ((repeat (first | apply On.rowO | refine On.setO ?_ HL.out | apply On.alloc)); first | exact On.refl w | exact on_of HB.out)⟩
set_option maxRecDepth 100000 in
set_option maxHeartbeats 4000000 in
theorem one_3_4 (x : BitVec 32) (w : World) (ho : fi x 6 0 = 3) (h3 : fi x 14 12 = 4) :
    Calls Tryd.prog 65 #[.int .u32 (q x)] w fun e w' => PartOf e (decOf x) ∧ On w w' := by
  have HB := hb0 w
  go_enter Tryd.func65, Tryd.ntmps65
  go_wp2_with (first | (go_at_call 77; refine (ref_rd _ _).mono ?_; rintro e wn ⟨rfl, rfl⟩) | (go_at_call 78; refine (ref_rs1 _ _).mono ?_; rintro e wn ⟨rfl, rfl⟩) | (go_at_call 79; refine (ref_rs2 _ _).mono ?_; rintro e wn ⟨rfl, rfl⟩) | (go_at_call 80; refine (ref_funct3 _ _).mono ?_; rintro e wn ⟨rfl, rfl⟩) | (go_at_call 81; refine (ref_funct7 _ _).mono ?_; rintro e wn ⟨rfl, rfl⟩) | (go_at_call 82; refine (ref_opcode _ _).mono ?_; rintro e wn ⟨rfl, rfl⟩) | (refine own_store w rfl rfl rfl rfl rfl (by simp [Value.oneCell']) ?_ ?_; focus ((repeat (first | exact heap_on HB.out | refine heap_past _ ?_ | refine heap_far ?_ (Nat.ne_of_gt HL.out) _)); done)) | (go_at_call 83; refine (refImmI _ _).mono ?_; rintro e wn ⟨rfl, h⟩; replace HB := tr HB h; clear h))
  refine own_back2 w rfl rfl rfl rfl ?_ ?_; (focus ((repeat (first | exact heap_on HB.out | refine heap_past _ ?_ | refine heap_far ?_ (Nat.ne_of_gt HL.out) _)); done))
  exact ⟨⟨_, _, _, _, _, _, _, _, _, _, _, _, rfl, by unfold decOf; (simp [ho, h3, Ins.zero, Ins.val, u_nil]) <;> rfl⟩, by ((repeat (first | apply On.rowO | refine On.setO ?_ HL.out | apply On.alloc)); first | exact On.refl w | exact on_of HB.out)⟩
set_option maxRecDepth 100000 in
set_option maxHeartbeats 4000000 in
theorem one_35_4 (x : BitVec 32) (w : World) (ho : fi x 6 0 = 35) (h3 : fi x 14 12 = 4) :
    Calls Tryd.prog 65 #[.int .u32 (q x)] w fun e w' => PartOf e (decOf x) ∧ On w w' := by
  have HB := hb0 w
  go_enter Tryd.func65, Tryd.ntmps65
  go_wp2_with (first | (go_at_call 77; refine (ref_rd _ _).mono ?_; rintro e wn ⟨rfl, rfl⟩) | (go_at_call 78; refine (ref_rs1 _ _).mono ?_; rintro e wn ⟨rfl, rfl⟩) | (go_at_call 79; refine (ref_rs2 _ _).mono ?_; rintro e wn ⟨rfl, rfl⟩) | (go_at_call 80; refine (ref_funct3 _ _).mono ?_; rintro e wn ⟨rfl, rfl⟩) | (go_at_call 81; refine (ref_funct7 _ _).mono ?_; rintro e wn ⟨rfl, rfl⟩) | (go_at_call 82; refine (ref_opcode _ _).mono ?_; rintro e wn ⟨rfl, rfl⟩) | (refine own_store w rfl rfl rfl rfl rfl (by simp [Value.oneCell']) ?_ ?_; focus ((repeat (first | exact heap_on HB.out | refine heap_past _ ?_ | refine heap_far ?_ (Nat.ne_of_gt HL.out) _)); done)) | (go_at_call 83; refine (refImmS _ _).mono ?_; rintro e wn ⟨rfl, h⟩; replace HB := tr HB h; clear h))
  refine own_back2 w rfl rfl rfl rfl ?_ ?_; (focus ((repeat (first | exact heap_on HB.out | refine heap_past _ ?_ | refine heap_far ?_ (Nat.ne_of_gt HL.out) _)); done))
  exact ⟨⟨_, _, _, _, _, _, _, _, _, _, _, _, rfl, by unfold decOf; (simp [ho, h3, Ins.zero, Ins.val, u_nil]) <;> rfl⟩, by ((repeat (first | apply On.rowO | refine On.setO ?_ HL.out | apply On.alloc)); first | exact On.refl w | exact on_of HB.out)⟩
set_option maxRecDepth 100000 in
set_option maxHeartbeats 4000000 in
theorem one_15_4 (x : BitVec 32) (w : World) (ho : fi x 6 0 = 15) (h3 : fi x 14 12 = 4) :
    Calls Tryd.prog 65 #[.int .u32 (q x)] w fun e w' => PartOf e (decOf x) ∧ On w w' := by
  have HB := hb0 w
  go_enter Tryd.func65, Tryd.ntmps65
  go_wp2_with (first | (go_at_call 77; refine (ref_rd _ _).mono ?_; rintro e wn ⟨rfl, rfl⟩) | (go_at_call 78; refine (ref_rs1 _ _).mono ?_; rintro e wn ⟨rfl, rfl⟩) | (go_at_call 79; refine (ref_rs2 _ _).mono ?_; rintro e wn ⟨rfl, rfl⟩) | (go_at_call 80; refine (ref_funct3 _ _).mono ?_; rintro e wn ⟨rfl, rfl⟩) | (go_at_call 81; refine (ref_funct7 _ _).mono ?_; rintro e wn ⟨rfl, rfl⟩) | (go_at_call 82; refine (ref_opcode _ _).mono ?_; rintro e wn ⟨rfl, rfl⟩) | (refine own_store w rfl rfl rfl rfl rfl (by simp [Value.oneCell']) ?_ ?_; focus ((repeat (first | exact heap_on HB.out | refine heap_past _ ?_ | refine heap_far ?_ (Nat.ne_of_gt HL.out) _)); done)))
  refine own_back2 w rfl rfl rfl rfl ?_ ?_; (focus ((repeat (first | exact heap_on HB.out | refine heap_past _ ?_ | refine heap_far ?_ (Nat.ne_of_gt HL.out) _)); done))
  exact ⟨⟨_, _, _, _, _, _, _, _, _, _, _, _, rfl, by unfold decOf; (simp [ho, h3, Ins.zero, Ins.val, u_nil]) <;> rfl⟩, by ((repeat (first | apply On.rowO | refine On.setO ?_ HL.out | apply On.alloc)); first | exact On.refl w | exact on_of HB.out)⟩
set_option maxRecDepth 100000 in
set_option maxHeartbeats 4000000 in
theorem one_99_5 (x : BitVec 32) (w : World) (ho : fi x 6 0 = 99) (h3 : fi x 14 12 = 5) :
    Calls Tryd.prog 65 #[.int .u32 (q x)] w fun e w' => PartOf e (decOf x) ∧ On w w' := by
  have HB := hb0 w
  go_enter Tryd.func65, Tryd.ntmps65
  go_wp2_with (first | (go_at_call 77; refine (ref_rd _ _).mono ?_; rintro e wn ⟨rfl, rfl⟩) | (go_at_call 78; refine (ref_rs1 _ _).mono ?_; rintro e wn ⟨rfl, rfl⟩) | (go_at_call 79; refine (ref_rs2 _ _).mono ?_; rintro e wn ⟨rfl, rfl⟩) | (go_at_call 80; refine (ref_funct3 _ _).mono ?_; rintro e wn ⟨rfl, rfl⟩) | (go_at_call 81; refine (ref_funct7 _ _).mono ?_; rintro e wn ⟨rfl, rfl⟩) | (go_at_call 82; refine (ref_opcode _ _).mono ?_; rintro e wn ⟨rfl, rfl⟩) | (refine own_store w rfl rfl rfl rfl rfl (by simp [Value.oneCell']) ?_ ?_; focus ((repeat (first | exact heap_on HB.out | refine heap_past _ ?_ | refine heap_far ?_ (Nat.ne_of_gt HL.out) _)); done)) | (go_at_call 83; refine (refImmB _ _).mono ?_; rintro e wn ⟨rfl, h⟩; replace HB := tr HB h; clear h))
  refine own_back2 w rfl rfl rfl rfl ?_ ?_; (focus ((repeat (first | exact heap_on HB.out | refine heap_past _ ?_ | refine heap_far ?_ (Nat.ne_of_gt HL.out) _)); done))
  exact ⟨⟨_, _, _, _, _, _, _, _, _, _, _, _, rfl, by unfold decOf; (simp [ho, h3, Ins.zero, Ins.val, u_nil]) <;> rfl⟩, by ((repeat (first | apply On.rowO | refine On.setO ?_ HL.out | apply On.alloc)); first | exact On.refl w | exact on_of HB.out)⟩
set_option maxRecDepth 100000 in
set_option maxHeartbeats 4000000 in
theorem one_3_5 (x : BitVec 32) (w : World) (ho : fi x 6 0 = 3) (h3 : fi x 14 12 = 5) :
    Calls Tryd.prog 65 #[.int .u32 (q x)] w fun e w' => PartOf e (decOf x) ∧ On w w' := by
  have HB := hb0 w
  go_enter Tryd.func65, Tryd.ntmps65
  go_wp2_with (first | (go_at_call 77; refine (ref_rd _ _).mono ?_; rintro e wn ⟨rfl, rfl⟩) | (go_at_call 78; refine (ref_rs1 _ _).mono ?_; rintro e wn ⟨rfl, rfl⟩) | (go_at_call 79; refine (ref_rs2 _ _).mono ?_; rintro e wn ⟨rfl, rfl⟩) | (go_at_call 80; refine (ref_funct3 _ _).mono ?_; rintro e wn ⟨rfl, rfl⟩) | (go_at_call 81; refine (ref_funct7 _ _).mono ?_; rintro e wn ⟨rfl, rfl⟩) | (go_at_call 82; refine (ref_opcode _ _).mono ?_; rintro e wn ⟨rfl, rfl⟩) | (refine own_store w rfl rfl rfl rfl rfl (by simp [Value.oneCell']) ?_ ?_; focus ((repeat (first | exact heap_on HB.out | refine heap_past _ ?_ | refine heap_far ?_ (Nat.ne_of_gt HL.out) _)); done)) | (go_at_call 83; refine (refImmI _ _).mono ?_; rintro e wn ⟨rfl, h⟩; replace HB := tr HB h; clear h))
  refine own_back2 w rfl rfl rfl rfl ?_ ?_; (focus ((repeat (first | exact heap_on HB.out | refine heap_past _ ?_ | refine heap_far ?_ (Nat.ne_of_gt HL.out) _)); done))
  exact ⟨⟨_, _, _, _, _, _, _, _, _, _, _, _, rfl, by unfold decOf; (simp [ho, h3, Ins.zero, Ins.val, u_nil]) <;> rfl⟩, by ((repeat (first | apply On.rowO | refine On.setO ?_ HL.out | apply On.alloc)); first | exact On.refl w | exact on_of HB.out)⟩
set_option maxRecDepth 100000 in
set_option maxHeartbeats 4000000 in
theorem one_35_5 (x : BitVec 32) (w : World) (ho : fi x 6 0 = 35) (h3 : fi x 14 12 = 5) :
    Calls Tryd.prog 65 #[.int .u32 (q x)] w fun e w' => PartOf e (decOf x) ∧ On w w' := by
  have HB := hb0 w
  go_enter Tryd.func65, Tryd.ntmps65
  go_wp2_with (first | (go_at_call 77; refine (ref_rd _ _).mono ?_; rintro e wn ⟨rfl, rfl⟩) | (go_at_call 78; refine (ref_rs1 _ _).mono ?_; rintro e wn ⟨rfl, rfl⟩) | (go_at_call 79; refine (ref_rs2 _ _).mono ?_; rintro e wn ⟨rfl, rfl⟩) | (go_at_call 80; refine (ref_funct3 _ _).mono ?_; rintro e wn ⟨rfl, rfl⟩) | (go_at_call 81; refine (ref_funct7 _ _).mono ?_; rintro e wn ⟨rfl, rfl⟩) | (go_at_call 82; refine (ref_opcode _ _).mono ?_; rintro e wn ⟨rfl, rfl⟩) | (refine own_store w rfl rfl rfl rfl rfl (by simp [Value.oneCell']) ?_ ?_; focus ((repeat (first | exact heap_on HB.out | refine heap_past _ ?_ | refine heap_far ?_ (Nat.ne_of_gt HL.out) _)); done)) | (go_at_call 83; refine (refImmS _ _).mono ?_; rintro e wn ⟨rfl, h⟩; replace HB := tr HB h; clear h))
  refine own_back2 w rfl rfl rfl rfl ?_ ?_; (focus ((repeat (first | exact heap_on HB.out | refine heap_past _ ?_ | refine heap_far ?_ (Nat.ne_of_gt HL.out) _)); done))
  exact ⟨⟨_, _, _, _, _, _, _, _, _, _, _, _, rfl, by unfold decOf; (simp [ho, h3, Ins.zero, Ins.val, u_nil]) <;> rfl⟩, by ((repeat (first | apply On.rowO | refine On.setO ?_ HL.out | apply On.alloc)); first | exact On.refl w | exact on_of HB.out)⟩
set_option maxRecDepth 100000 in
set_option maxHeartbeats 4000000 in
theorem one_15_5 (x : BitVec 32) (w : World) (ho : fi x 6 0 = 15) (h3 : fi x 14 12 = 5) :
    Calls Tryd.prog 65 #[.int .u32 (q x)] w fun e w' => PartOf e (decOf x) ∧ On w w' := by
  have HB := hb0 w
  go_enter Tryd.func65, Tryd.ntmps65
  go_wp2_with (first | (go_at_call 77; refine (ref_rd _ _).mono ?_; rintro e wn ⟨rfl, rfl⟩) | (go_at_call 78; refine (ref_rs1 _ _).mono ?_; rintro e wn ⟨rfl, rfl⟩) | (go_at_call 79; refine (ref_rs2 _ _).mono ?_; rintro e wn ⟨rfl, rfl⟩) | (go_at_call 80; refine (ref_funct3 _ _).mono ?_; rintro e wn ⟨rfl, rfl⟩) | (go_at_call 81; refine (ref_funct7 _ _).mono ?_; rintro e wn ⟨rfl, rfl⟩) | (go_at_call 82; refine (ref_opcode _ _).mono ?_; rintro e wn ⟨rfl, rfl⟩) | (refine own_store w rfl rfl rfl rfl rfl (by simp [Value.oneCell']) ?_ ?_; focus ((repeat (first | exact heap_on HB.out | refine heap_past _ ?_ | refine heap_far ?_ (Nat.ne_of_gt HL.out) _)); done)))
  refine own_back2 w rfl rfl rfl rfl ?_ ?_; (focus ((repeat (first | exact heap_on HB.out | refine heap_past _ ?_ | refine heap_far ?_ (Nat.ne_of_gt HL.out) _)); done))
  exact ⟨⟨_, _, _, _, _, _, _, _, _, _, _, _, rfl, by unfold decOf; (simp [ho, h3, Ins.zero, Ins.val, u_nil]) <;> rfl⟩, by ((repeat (first | apply On.rowO | refine On.setO ?_ HL.out | apply On.alloc)); first | exact On.refl w | exact on_of HB.out)⟩
set_option maxRecDepth 100000 in
set_option maxHeartbeats 4000000 in
theorem one_99_6 (x : BitVec 32) (w : World) (ho : fi x 6 0 = 99) (h3 : fi x 14 12 = 6) :
    Calls Tryd.prog 65 #[.int .u32 (q x)] w fun e w' => PartOf e (decOf x) ∧ On w w' := by
  have HB := hb0 w
  go_enter Tryd.func65, Tryd.ntmps65
  go_wp2_with (first | (go_at_call 77; refine (ref_rd _ _).mono ?_; rintro e wn ⟨rfl, rfl⟩) | (go_at_call 78; refine (ref_rs1 _ _).mono ?_; rintro e wn ⟨rfl, rfl⟩) | (go_at_call 79; refine (ref_rs2 _ _).mono ?_; rintro e wn ⟨rfl, rfl⟩) | (go_at_call 80; refine (ref_funct3 _ _).mono ?_; rintro e wn ⟨rfl, rfl⟩) | (go_at_call 81; refine (ref_funct7 _ _).mono ?_; rintro e wn ⟨rfl, rfl⟩) | (go_at_call 82; refine (ref_opcode _ _).mono ?_; rintro e wn ⟨rfl, rfl⟩) | (refine own_store w rfl rfl rfl rfl rfl (by simp [Value.oneCell']) ?_ ?_; focus ((repeat (first | exact heap_on HB.out | refine heap_past _ ?_ | refine heap_far ?_ (Nat.ne_of_gt HL.out) _)); done)) | (go_at_call 83; refine (refImmB _ _).mono ?_; rintro e wn ⟨rfl, h⟩; replace HB := tr HB h; clear h))
  refine own_back2 w rfl rfl rfl rfl ?_ ?_; (focus ((repeat (first | exact heap_on HB.out | refine heap_past _ ?_ | refine heap_far ?_ (Nat.ne_of_gt HL.out) _)); done))
  exact ⟨⟨_, _, _, _, _, _, _, _, _, _, _, _, rfl, by unfold decOf; (simp [ho, h3, Ins.zero, Ins.val, u_nil]) <;> rfl⟩, by ((repeat (first | apply On.rowO | refine On.setO ?_ HL.out | apply On.alloc)); first | exact On.refl w | exact on_of HB.out)⟩
set_option maxRecDepth 100000 in
set_option maxHeartbeats 4000000 in
theorem one_3_6 (x : BitVec 32) (w : World) (ho : fi x 6 0 = 3) (h3 : fi x 14 12 = 6) :
    Calls Tryd.prog 65 #[.int .u32 (q x)] w fun e w' => PartOf e (decOf x) ∧ On w w' := by
  have HB := hb0 w
  go_enter Tryd.func65, Tryd.ntmps65
  go_wp2_with (first | (go_at_call 77; refine (ref_rd _ _).mono ?_; rintro e wn ⟨rfl, rfl⟩) | (go_at_call 78; refine (ref_rs1 _ _).mono ?_; rintro e wn ⟨rfl, rfl⟩) | (go_at_call 79; refine (ref_rs2 _ _).mono ?_; rintro e wn ⟨rfl, rfl⟩) | (go_at_call 80; refine (ref_funct3 _ _).mono ?_; rintro e wn ⟨rfl, rfl⟩) | (go_at_call 81; refine (ref_funct7 _ _).mono ?_; rintro e wn ⟨rfl, rfl⟩) | (go_at_call 82; refine (ref_opcode _ _).mono ?_; rintro e wn ⟨rfl, rfl⟩) | (refine own_store w rfl rfl rfl rfl rfl (by simp [Value.oneCell']) ?_ ?_; focus ((repeat (first | exact heap_on HB.out | refine heap_past _ ?_ | refine heap_far ?_ (Nat.ne_of_gt HL.out) _)); done)) | (go_at_call 83; refine (refImmI _ _).mono ?_; rintro e wn ⟨rfl, h⟩; replace HB := tr HB h; clear h))
  refine own_back2 w rfl rfl rfl rfl ?_ ?_; (focus ((repeat (first | exact heap_on HB.out | refine heap_past _ ?_ | refine heap_far ?_ (Nat.ne_of_gt HL.out) _)); done))
  exact ⟨⟨_, _, _, _, _, _, _, _, _, _, _, _, rfl, by unfold decOf; (simp [ho, h3, Ins.zero, Ins.val, u_nil]) <;> rfl⟩, by ((repeat (first | apply On.rowO | refine On.setO ?_ HL.out | apply On.alloc)); first | exact On.refl w | exact on_of HB.out)⟩
set_option maxRecDepth 100000 in
set_option maxHeartbeats 4000000 in
theorem one_35_6 (x : BitVec 32) (w : World) (ho : fi x 6 0 = 35) (h3 : fi x 14 12 = 6) :
    Calls Tryd.prog 65 #[.int .u32 (q x)] w fun e w' => PartOf e (decOf x) ∧ On w w' := by
  have HB := hb0 w
  go_enter Tryd.func65, Tryd.ntmps65
  go_wp2_with (first | (go_at_call 77; refine (ref_rd _ _).mono ?_; rintro e wn ⟨rfl, rfl⟩) | (go_at_call 78; refine (ref_rs1 _ _).mono ?_; rintro e wn ⟨rfl, rfl⟩) | (go_at_call 79; refine (ref_rs2 _ _).mono ?_; rintro e wn ⟨rfl, rfl⟩) | (go_at_call 80; refine (ref_funct3 _ _).mono ?_; rintro e wn ⟨rfl, rfl⟩) | (go_at_call 81; refine (ref_funct7 _ _).mono ?_; rintro e wn ⟨rfl, rfl⟩) | (go_at_call 82; refine (ref_opcode _ _).mono ?_; rintro e wn ⟨rfl, rfl⟩) | (refine own_store w rfl rfl rfl rfl rfl (by simp [Value.oneCell']) ?_ ?_; focus ((repeat (first | exact heap_on HB.out | refine heap_past _ ?_ | refine heap_far ?_ (Nat.ne_of_gt HL.out) _)); done)) | (go_at_call 83; refine (refImmS _ _).mono ?_; rintro e wn ⟨rfl, h⟩; replace HB := tr HB h; clear h))
  refine own_back2 w rfl rfl rfl rfl ?_ ?_; (focus ((repeat (first | exact heap_on HB.out | refine heap_past _ ?_ | refine heap_far ?_ (Nat.ne_of_gt HL.out) _)); done))
  exact ⟨⟨_, _, _, _, _, _, _, _, _, _, _, _, rfl, by unfold decOf; (simp [ho, h3, Ins.zero, Ins.val, u_nil]) <;> rfl⟩, by ((repeat (first | apply On.rowO | refine On.setO ?_ HL.out | apply On.alloc)); first | exact On.refl w | exact on_of HB.out)⟩
set_option maxRecDepth 100000 in
set_option maxHeartbeats 4000000 in
theorem one_15_6 (x : BitVec 32) (w : World) (ho : fi x 6 0 = 15) (h3 : fi x 14 12 = 6) :
    Calls Tryd.prog 65 #[.int .u32 (q x)] w fun e w' => PartOf e (decOf x) ∧ On w w' := by
  have HB := hb0 w
  go_enter Tryd.func65, Tryd.ntmps65
  go_wp2_with (first | (go_at_call 77; refine (ref_rd _ _).mono ?_; rintro e wn ⟨rfl, rfl⟩) | (go_at_call 78; refine (ref_rs1 _ _).mono ?_; rintro e wn ⟨rfl, rfl⟩) | (go_at_call 79; refine (ref_rs2 _ _).mono ?_; rintro e wn ⟨rfl, rfl⟩) | (go_at_call 80; refine (ref_funct3 _ _).mono ?_; rintro e wn ⟨rfl, rfl⟩) | (go_at_call 81; refine (ref_funct7 _ _).mono ?_; rintro e wn ⟨rfl, rfl⟩) | (go_at_call 82; refine (ref_opcode _ _).mono ?_; rintro e wn ⟨rfl, rfl⟩) | (refine own_store w rfl rfl rfl rfl rfl (by simp [Value.oneCell']) ?_ ?_; focus ((repeat (first | exact heap_on HB.out | refine heap_past _ ?_ | refine heap_far ?_ (Nat.ne_of_gt HL.out) _)); done)))
  refine own_back2 w rfl rfl rfl rfl ?_ ?_; (focus ((repeat (first | exact heap_on HB.out | refine heap_past _ ?_ | refine heap_far ?_ (Nat.ne_of_gt HL.out) _)); done))
  exact ⟨⟨_, _, _, _, _, _, _, _, _, _, _, _, rfl, by unfold decOf; (simp [ho, h3, Ins.zero, Ins.val, u_nil]) <;> rfl⟩, by ((repeat (first | apply On.rowO | refine On.setO ?_ HL.out | apply On.alloc)); first | exact On.refl w | exact on_of HB.out)⟩
set_option maxRecDepth 100000 in
set_option maxHeartbeats 4000000 in
theorem one_99_7 (x : BitVec 32) (w : World) (ho : fi x 6 0 = 99) (h3 : fi x 14 12 = 7) :
    Calls Tryd.prog 65 #[.int .u32 (q x)] w fun e w' => PartOf e (decOf x) ∧ On w w' := by
  have HB := hb0 w
  go_enter Tryd.func65, Tryd.ntmps65
  go_wp2_with (first | (go_at_call 77; refine (ref_rd _ _).mono ?_; rintro e wn ⟨rfl, rfl⟩) | (go_at_call 78; refine (ref_rs1 _ _).mono ?_; rintro e wn ⟨rfl, rfl⟩) | (go_at_call 79; refine (ref_rs2 _ _).mono ?_; rintro e wn ⟨rfl, rfl⟩) | (go_at_call 80; refine (ref_funct3 _ _).mono ?_; rintro e wn ⟨rfl, rfl⟩) | (go_at_call 81; refine (ref_funct7 _ _).mono ?_; rintro e wn ⟨rfl, rfl⟩) | (go_at_call 82; refine (ref_opcode _ _).mono ?_; rintro e wn ⟨rfl, rfl⟩) | (refine own_store w rfl rfl rfl rfl rfl (by simp [Value.oneCell']) ?_ ?_; focus ((repeat (first | exact heap_on HB.out | refine heap_past _ ?_ | refine heap_far ?_ (Nat.ne_of_gt HL.out) _)); done)) | (go_at_call 83; refine (refImmB _ _).mono ?_; rintro e wn ⟨rfl, h⟩; replace HB := tr HB h; clear h))
  refine own_back2 w rfl rfl rfl rfl ?_ ?_; (focus ((repeat (first | exact heap_on HB.out | refine heap_past _ ?_ | refine heap_far ?_ (Nat.ne_of_gt HL.out) _)); done))
  exact ⟨⟨_, _, _, _, _, _, _, _, _, _, _, _, rfl, by unfold decOf; (simp [ho, h3, Ins.zero, Ins.val, u_nil]) <;> rfl⟩, by ((repeat (first | apply On.rowO | refine On.setO ?_ HL.out | apply On.alloc)); first | exact On.refl w | exact on_of HB.out)⟩
set_option maxRecDepth 100000 in
set_option maxHeartbeats 4000000 in
theorem one_3_7 (x : BitVec 32) (w : World) (ho : fi x 6 0 = 3) (h3 : fi x 14 12 = 7) :
    Calls Tryd.prog 65 #[.int .u32 (q x)] w fun e w' => PartOf e (decOf x) ∧ On w w' := by
  have HB := hb0 w
  go_enter Tryd.func65, Tryd.ntmps65
  go_wp2_with (first | (go_at_call 77; refine (ref_rd _ _).mono ?_; rintro e wn ⟨rfl, rfl⟩) | (go_at_call 78; refine (ref_rs1 _ _).mono ?_; rintro e wn ⟨rfl, rfl⟩) | (go_at_call 79; refine (ref_rs2 _ _).mono ?_; rintro e wn ⟨rfl, rfl⟩) | (go_at_call 80; refine (ref_funct3 _ _).mono ?_; rintro e wn ⟨rfl, rfl⟩) | (go_at_call 81; refine (ref_funct7 _ _).mono ?_; rintro e wn ⟨rfl, rfl⟩) | (go_at_call 82; refine (ref_opcode _ _).mono ?_; rintro e wn ⟨rfl, rfl⟩) | (refine own_store w rfl rfl rfl rfl rfl (by simp [Value.oneCell']) ?_ ?_; focus ((repeat (first | exact heap_on HB.out | refine heap_past _ ?_ | refine heap_far ?_ (Nat.ne_of_gt HL.out) _)); done)) | (go_at_call 83; refine (refImmI _ _).mono ?_; rintro e wn ⟨rfl, h⟩; replace HB := tr HB h; clear h))
  refine own_back2 w rfl rfl rfl rfl ?_ ?_; (focus ((repeat (first | exact heap_on HB.out | refine heap_past _ ?_ | refine heap_far ?_ (Nat.ne_of_gt HL.out) _)); done))
  exact ⟨⟨_, _, _, _, _, _, _, _, _, _, _, _, rfl, by unfold decOf; (simp [ho, h3, Ins.zero, Ins.val, u_nil]) <;> rfl⟩, by ((repeat (first | apply On.rowO | refine On.setO ?_ HL.out | apply On.alloc)); first | exact On.refl w | exact on_of HB.out)⟩
set_option maxRecDepth 100000 in
set_option maxHeartbeats 4000000 in
theorem one_35_7 (x : BitVec 32) (w : World) (ho : fi x 6 0 = 35) (h3 : fi x 14 12 = 7) :
    Calls Tryd.prog 65 #[.int .u32 (q x)] w fun e w' => PartOf e (decOf x) ∧ On w w' := by
  have HB := hb0 w
  go_enter Tryd.func65, Tryd.ntmps65
  go_wp2_with (first | (go_at_call 77; refine (ref_rd _ _).mono ?_; rintro e wn ⟨rfl, rfl⟩) | (go_at_call 78; refine (ref_rs1 _ _).mono ?_; rintro e wn ⟨rfl, rfl⟩) | (go_at_call 79; refine (ref_rs2 _ _).mono ?_; rintro e wn ⟨rfl, rfl⟩) | (go_at_call 80; refine (ref_funct3 _ _).mono ?_; rintro e wn ⟨rfl, rfl⟩) | (go_at_call 81; refine (ref_funct7 _ _).mono ?_; rintro e wn ⟨rfl, rfl⟩) | (go_at_call 82; refine (ref_opcode _ _).mono ?_; rintro e wn ⟨rfl, rfl⟩) | (refine own_store w rfl rfl rfl rfl rfl (by simp [Value.oneCell']) ?_ ?_; focus ((repeat (first | exact heap_on HB.out | refine heap_past _ ?_ | refine heap_far ?_ (Nat.ne_of_gt HL.out) _)); done)) | (go_at_call 83; refine (refImmS _ _).mono ?_; rintro e wn ⟨rfl, h⟩; replace HB := tr HB h; clear h))
  refine own_back2 w rfl rfl rfl rfl ?_ ?_; (focus ((repeat (first | exact heap_on HB.out | refine heap_past _ ?_ | refine heap_far ?_ (Nat.ne_of_gt HL.out) _)); done))
  exact ⟨⟨_, _, _, _, _, _, _, _, _, _, _, _, rfl, by unfold decOf; (simp [ho, h3, Ins.zero, Ins.val, u_nil]) <;> rfl⟩, by ((repeat (first | apply On.rowO | refine On.setO ?_ HL.out | apply On.alloc)); first | exact On.refl w | exact on_of HB.out)⟩
set_option maxRecDepth 100000 in
set_option maxHeartbeats 4000000 in
theorem one_15_7 (x : BitVec 32) (w : World) (ho : fi x 6 0 = 15) (h3 : fi x 14 12 = 7) :
    Calls Tryd.prog 65 #[.int .u32 (q x)] w fun e w' => PartOf e (decOf x) ∧ On w w' := by
  have HB := hb0 w
  go_enter Tryd.func65, Tryd.ntmps65
  go_wp2_with (first | (go_at_call 77; refine (ref_rd _ _).mono ?_; rintro e wn ⟨rfl, rfl⟩) | (go_at_call 78; refine (ref_rs1 _ _).mono ?_; rintro e wn ⟨rfl, rfl⟩) | (go_at_call 79; refine (ref_rs2 _ _).mono ?_; rintro e wn ⟨rfl, rfl⟩) | (go_at_call 80; refine (ref_funct3 _ _).mono ?_; rintro e wn ⟨rfl, rfl⟩) | (go_at_call 81; refine (ref_funct7 _ _).mono ?_; rintro e wn ⟨rfl, rfl⟩) | (go_at_call 82; refine (ref_opcode _ _).mono ?_; rintro e wn ⟨rfl, rfl⟩) | (refine own_store w rfl rfl rfl rfl rfl (by simp [Value.oneCell']) ?_ ?_; focus ((repeat (first | exact heap_on HB.out | refine heap_past _ ?_ | refine heap_far ?_ (Nat.ne_of_gt HL.out) _)); done)))
  refine own_back2 w rfl rfl rfl rfl ?_ ?_; (focus ((repeat (first | exact heap_on HB.out | refine heap_past _ ?_ | refine heap_far ?_ (Nat.ne_of_gt HL.out) _)); done))
  exact ⟨⟨_, _, _, _, _, _, _, _, _, _, _, _, rfl, by unfold decOf; (simp [ho, h3, Ins.zero, Ins.val, u_nil]) <;> rfl⟩, by ((repeat (first | apply On.rowO | refine On.setO ?_ HL.out | apply On.alloc)); first | exact On.refl w | exact on_of HB.out)⟩
set_option maxRecDepth 100000 in
set_option maxHeartbeats 4000000 in
theorem one_19 (x : BitVec 32) (w : World) (ho : fi x 6 0 = 19) :
    Calls Tryd.prog 65 #[.int .u32 (q x)] w fun e w' => PartOf e (decOf x) ∧ On w w' := by
  have hd : decOf x = numOf x false := by unfold decOf; simp [ho]
  have HD := Lib.hid hd
  clear hd
  have HB := hb0 w
  go_enter Tryd.func65, Tryd.ntmps65
  go_wp2_with (first | (go_at_call 77; refine (ref_rd _ _).mono ?_; rintro e wn ⟨rfl, rfl⟩) | (go_at_call 78; refine (ref_rs1 _ _).mono ?_; rintro e wn ⟨rfl, rfl⟩) | (go_at_call 79; refine (ref_rs2 _ _).mono ?_; rintro e wn ⟨rfl, rfl⟩) | (go_at_call 80; refine (ref_funct3 _ _).mono ?_; rintro e wn ⟨rfl, rfl⟩) | (go_at_call 81; refine (ref_funct7 _ _).mono ?_; rintro e wn ⟨rfl, rfl⟩) | (go_at_call 82; refine (ref_opcode _ _).mono ?_; rintro e wn ⟨rfl, rfl⟩) | (refine own_store w rfl rfl rfl rfl rfl (by simp [Value.oneCell']) ?_ ?_; focus ((repeat (first | exact heap_on HB.out | refine heap_past _ ?_ | refine heap_far ?_ (Nat.ne_of_gt HL.out) _)); done)) | (go_at_call 84; refine (rimm_false_any _ _).mono ?_; rintro e wn ⟨⟨o, f, d, s, t, m, z, k, a, b, c, y, rfl, hi⟩, h⟩; have HI := Lib.hid hi; replace HB := tr HB h; clear hi h))
  refine own_back2 w rfl rfl rfl rfl ?_ ?_; (focus ((repeat (first | exact heap_on HB.out | refine heap_past _ ?_ | refine heap_far ?_ (Nat.ne_of_gt HL.out) _)); done))
  exact ⟨⟨_, _, _, _, _, _, _, _, _, _, _, _, rfl, by rw [HD.out]; exact HI.out⟩, by ((repeat (first | apply On.rowO | refine On.setO ?_ HL.out | apply On.alloc)); first | exact On.refl w | exact on_of HB.out)⟩
set_option maxRecDepth 100000 in
set_option maxHeartbeats 4000000 in
theorem one_27 (x : BitVec 32) (w : World) (ho : fi x 6 0 = 27) :
    Calls Tryd.prog 65 #[.int .u32 (q x)] w fun e w' => PartOf e (decOf x) ∧ On w w' := by
  have hd : decOf x = numOf x true := by unfold decOf; simp [ho]
  have HD := Lib.hid hd
  clear hd
  have HB := hb0 w
  go_enter Tryd.func65, Tryd.ntmps65
  go_wp2_with (first | (go_at_call 77; refine (ref_rd _ _).mono ?_; rintro e wn ⟨rfl, rfl⟩) | (go_at_call 78; refine (ref_rs1 _ _).mono ?_; rintro e wn ⟨rfl, rfl⟩) | (go_at_call 79; refine (ref_rs2 _ _).mono ?_; rintro e wn ⟨rfl, rfl⟩) | (go_at_call 80; refine (ref_funct3 _ _).mono ?_; rintro e wn ⟨rfl, rfl⟩) | (go_at_call 81; refine (ref_funct7 _ _).mono ?_; rintro e wn ⟨rfl, rfl⟩) | (go_at_call 82; refine (ref_opcode _ _).mono ?_; rintro e wn ⟨rfl, rfl⟩) | (refine own_store w rfl rfl rfl rfl rfl (by simp [Value.oneCell']) ?_ ?_; focus ((repeat (first | exact heap_on HB.out | refine heap_past _ ?_ | refine heap_far ?_ (Nat.ne_of_gt HL.out) _)); done)) | (go_at_call 84; refine (rimm_true_any _ _).mono ?_; rintro e wn ⟨⟨o, f, d, s, t, m, z, k, a, b, c, y, rfl, hi⟩, h⟩; have HI := Lib.hid hi; replace HB := tr HB h; clear hi h))
  refine own_back2 w rfl rfl rfl rfl ?_ ?_; (focus ((repeat (first | exact heap_on HB.out | refine heap_past _ ?_ | refine heap_far ?_ (Nat.ne_of_gt HL.out) _)); done))
  exact ⟨⟨_, _, _, _, _, _, _, _, _, _, _, _, rfl, by rw [HD.out]; exact HI.out⟩, by ((repeat (first | apply On.rowO | refine On.setO ?_ HL.out | apply On.alloc)); first | exact On.refl w | exact on_of HB.out)⟩
set_option maxRecDepth 100000 in
set_option maxHeartbeats 4000000 in
theorem one_51 (x : BitVec 32) (w : World) (ho : fi x 6 0 = 51) :
    Calls Tryd.prog 65 #[.int .u32 (q x)] w fun e w' => PartOf e (decOf x) ∧ On w w' := by
  have hd : decOf x = regOf x false := by unfold decOf; simp [ho]
  have HD := Lib.hid hd
  clear hd
  have HB := hb0 w
  go_enter Tryd.func65, Tryd.ntmps65
  go_wp2_with (first | (go_at_call 77; refine (ref_rd _ _).mono ?_; rintro e wn ⟨rfl, rfl⟩) | (go_at_call 78; refine (ref_rs1 _ _).mono ?_; rintro e wn ⟨rfl, rfl⟩) | (go_at_call 79; refine (ref_rs2 _ _).mono ?_; rintro e wn ⟨rfl, rfl⟩) | (go_at_call 80; refine (ref_funct3 _ _).mono ?_; rintro e wn ⟨rfl, rfl⟩) | (go_at_call 81; refine (ref_funct7 _ _).mono ?_; rintro e wn ⟨rfl, rfl⟩) | (go_at_call 82; refine (ref_opcode _ _).mono ?_; rintro e wn ⟨rfl, rfl⟩) | (refine own_store w rfl rfl rfl rfl rfl (by simp [Value.oneCell']) ?_ ?_; focus ((repeat (first | exact heap_on HB.out | refine heap_past _ ?_ | refine heap_far ?_ (Nat.ne_of_gt HL.out) _)); done)) | (go_at_call 85; refine (rreg_false_any _ _).mono ?_; rintro e wn ⟨⟨o, f, d, s, t, m, z, k, a, b, c, y, rfl, hi⟩, h⟩; have HI := Lib.hid hi; replace HB := tr HB h; clear hi h))
  refine own_back2 w rfl rfl rfl rfl ?_ ?_; (focus ((repeat (first | exact heap_on HB.out | refine heap_past _ ?_ | refine heap_far ?_ (Nat.ne_of_gt HL.out) _)); done))
  exact ⟨⟨_, _, _, _, _, _, _, _, _, _, _, _, rfl, by rw [HD.out]; exact HI.out⟩, by ((repeat (first | apply On.rowO | refine On.setO ?_ HL.out | apply On.alloc)); first | exact On.refl w | exact on_of HB.out)⟩
set_option maxRecDepth 100000 in
set_option maxHeartbeats 4000000 in
theorem one_59 (x : BitVec 32) (w : World) (ho : fi x 6 0 = 59) :
    Calls Tryd.prog 65 #[.int .u32 (q x)] w fun e w' => PartOf e (decOf x) ∧ On w w' := by
  have hd : decOf x = regOf x true := by unfold decOf; simp [ho]
  have HD := Lib.hid hd
  clear hd
  have HB := hb0 w
  go_enter Tryd.func65, Tryd.ntmps65
  go_wp2_with (first | (go_at_call 77; refine (ref_rd _ _).mono ?_; rintro e wn ⟨rfl, rfl⟩) | (go_at_call 78; refine (ref_rs1 _ _).mono ?_; rintro e wn ⟨rfl, rfl⟩) | (go_at_call 79; refine (ref_rs2 _ _).mono ?_; rintro e wn ⟨rfl, rfl⟩) | (go_at_call 80; refine (ref_funct3 _ _).mono ?_; rintro e wn ⟨rfl, rfl⟩) | (go_at_call 81; refine (ref_funct7 _ _).mono ?_; rintro e wn ⟨rfl, rfl⟩) | (go_at_call 82; refine (ref_opcode _ _).mono ?_; rintro e wn ⟨rfl, rfl⟩) | (refine own_store w rfl rfl rfl rfl rfl (by simp [Value.oneCell']) ?_ ?_; focus ((repeat (first | exact heap_on HB.out | refine heap_past _ ?_ | refine heap_far ?_ (Nat.ne_of_gt HL.out) _)); done)) | (go_at_call 85; refine (rreg_true_any _ _).mono ?_; rintro e wn ⟨⟨o, f, d, s, t, m, z, k, a, b, c, y, rfl, hi⟩, h⟩; have HI := Lib.hid hi; replace HB := tr HB h; clear hi h))
  refine own_back2 w rfl rfl rfl rfl ?_ ?_; (focus ((repeat (first | exact heap_on HB.out | refine heap_past _ ?_ | refine heap_far ?_ (Nat.ne_of_gt HL.out) _)); done))
  exact ⟨⟨_, _, _, _, _, _, _, _, _, _, _, _, rfl, by rw [HD.out]; exact HI.out⟩, by ((repeat (first | apply On.rowO | refine On.setO ?_ HL.out | apply On.alloc)); first | exact On.refl w | exact on_of HB.out)⟩
set_option maxRecDepth 100000 in
set_option maxHeartbeats 4000000 in
theorem one_47 (x : BitVec 32) (w : World) (ho : fi x 6 0 = 47) :
    Calls Tryd.prog 65 #[.int .u32 (q x)] w fun e w' => PartOf e (decOf x) ∧ On w w' := by
  have hd : decOf x = amoOf x := by unfold decOf; simp [ho]
  have e4 : (fi x 31 25).tdiv 4 = fi x 31 27 := by rw [Int.tdiv_eq_ediv_of_nonneg (fi_nonneg x 31 25)]; exact (f7_parts x).2.1
  have e5 := fi_wrap x 31 27
  have HD := Lib.hid hd
  clear hd
  have HB := hb0 w
  go_enter Tryd.func65, Tryd.ntmps65
  go_wp2_with (first | (go_at_call 77; refine (ref_rd _ _).mono ?_; rintro e wn ⟨rfl, rfl⟩) | (go_at_call 78; refine (ref_rs1 _ _).mono ?_; rintro e wn ⟨rfl, rfl⟩) | (go_at_call 79; refine (ref_rs2 _ _).mono ?_; rintro e wn ⟨rfl, rfl⟩) | (go_at_call 80; refine (ref_funct3 _ _).mono ?_; rintro e wn ⟨rfl, rfl⟩) | (go_at_call 81; refine (ref_funct7 _ _).mono ?_; rintro e wn ⟨rfl, rfl⟩) | (go_at_call 82; refine (ref_opcode _ _).mono ?_; rintro e wn ⟨rfl, rfl⟩) | (refine own_store w rfl rfl rfl rfl rfl (by simp [Value.oneCell']) ?_ ?_; focus ((repeat (first | exact heap_on HB.out | refine heap_past _ ?_ | refine heap_far ?_ (Nat.ne_of_gt HL.out) _)); done)) | (go_at_call 86; refine (ramo_any _ _).mono ?_; rintro e wn ⟨⟨o, f, d, s, t, m, z, k, a, b, c, y, rfl, hi⟩, h⟩; have HI := Lib.hid hi; replace HB := tr HB h; clear hi h))
  refine own_back2 w rfl rfl rfl rfl ?_ ?_; (focus ((repeat (first | exact heap_on HB.out | refine heap_past _ ?_ | refine heap_far ?_ (Nat.ne_of_gt HL.out) _)); done))
  exact ⟨⟨_, _, _, _, _, _, _, _, _, _, _, _, rfl, by rw [HD.out]; exact HI.out⟩, by ((repeat (first | apply On.rowO | refine On.setO ?_ HL.out | apply On.alloc)); first | exact On.refl w | exact on_of HB.out)⟩
set_option maxRecDepth 100000 in
set_option maxHeartbeats 4000000 in
theorem one_115 (x : BitVec 32) (w : World) (ho : fi x 6 0 = 115) :
    Calls Tryd.prog 65 #[.int .u32 (q x)] w fun e w' => PartOf e (decOf x) ∧ On w w' := by
  have hd : decOf x = sysOf x := by unfold decOf; simp [ho]
  have HD := Lib.hid hd
  clear hd
  have HB := hb0 w
  go_enter Tryd.func65, Tryd.ntmps65
  go_wp2_with (first | (go_at_call 77; refine (ref_rd _ _).mono ?_; rintro e wn ⟨rfl, rfl⟩) | (go_at_call 78; refine (ref_rs1 _ _).mono ?_; rintro e wn ⟨rfl, rfl⟩) | (go_at_call 79; refine (ref_rs2 _ _).mono ?_; rintro e wn ⟨rfl, rfl⟩) | (go_at_call 80; refine (ref_funct3 _ _).mono ?_; rintro e wn ⟨rfl, rfl⟩) | (go_at_call 81; refine (ref_funct7 _ _).mono ?_; rintro e wn ⟨rfl, rfl⟩) | (go_at_call 82; refine (ref_opcode _ _).mono ?_; rintro e wn ⟨rfl, rfl⟩) | (refine own_store w rfl rfl rfl rfl rfl (by simp [Value.oneCell']) ?_ ?_; focus ((repeat (first | exact heap_on HB.out | refine heap_past _ ?_ | refine heap_far ?_ (Nat.ne_of_gt HL.out) _)); done)) | (go_at_call 87; refine (rsys_any _ _).mono ?_; rintro e wn ⟨⟨o, f, d, s, t, m, z, k, a, b, c, y, rfl, hi⟩, h⟩; have HI := Lib.hid hi; replace HB := tr HB h; clear hi h))
  refine own_back2 w rfl rfl rfl rfl ?_ ?_; (focus ((repeat (first | exact heap_on HB.out | refine heap_past _ ?_ | refine heap_far ?_ (Nat.ne_of_gt HL.out) _)); done))
  exact ⟨⟨_, _, _, _, _, _, _, _, _, _, _, _, rfl, by rw [HD.out]; exact HI.out⟩, by ((repeat (first | apply On.rowO | refine On.setO ?_ HL.out | apply On.alloc)); first | exact On.refl w | exact on_of HB.out)⟩
set_option maxRecDepth 100000 in
set_option maxHeartbeats 4000000 in
theorem one_n (x : BitVec 32) (w : World) (N : Hid (¬ fi x 6 0 = 55 ∧ ¬ fi x 6 0 = 23 ∧ ¬ fi x 6 0 = 111 ∧ ¬ fi x 6 0 = 103 ∧ ¬ fi x 6 0 = 99 ∧ ¬ fi x 6 0 = 3 ∧ ¬ fi x 6 0 = 35 ∧ ¬ fi x 6 0 = 15 ∧ ¬ fi x 6 0 = 19 ∧ ¬ fi x 6 0 = 27 ∧ ¬ fi x 6 0 = 51 ∧ ¬ fi x 6 0 = 59 ∧ ¬ fi x 6 0 = 47 ∧ ¬ fi x 6 0 = 115)) :
    Calls Tryd.prog 65 #[.int .u32 (q x)] w fun e w' => PartOf e (decOf x) ∧ On w w' := by
  have b0 : (fi x 6 0 == 55) = false := by simpa using N.out.1
  have b1 : (fi x 6 0 == 23) = false := by simpa using N.out.2.1
  have b2 : (fi x 6 0 == 111) = false := by simpa using N.out.2.2.1
  have b3 : (fi x 6 0 == 103) = false := by simpa using N.out.2.2.2.1
  have b4 : (fi x 6 0 == 99) = false := by simpa using N.out.2.2.2.2.1
  have b5 : (fi x 6 0 == 3) = false := by simpa using N.out.2.2.2.2.2.1
  have b6 : (fi x 6 0 == 35) = false := by simpa using N.out.2.2.2.2.2.2.1
  have b7 : (fi x 6 0 == 15) = false := by simpa using N.out.2.2.2.2.2.2.2.1
  have b8 : (fi x 6 0 == 19) = false := by simpa using N.out.2.2.2.2.2.2.2.2.1
  have b9 : (fi x 6 0 == 27) = false := by simpa using N.out.2.2.2.2.2.2.2.2.2.1
  have b10 : (fi x 6 0 == 51) = false := by simpa using N.out.2.2.2.2.2.2.2.2.2.2.1
  have b11 : (fi x 6 0 == 59) = false := by simpa using N.out.2.2.2.2.2.2.2.2.2.2.2.1
  have b12 : (fi x 6 0 == 47) = false := by simpa using N.out.2.2.2.2.2.2.2.2.2.2.2.2.1
  have b13 : (fi x 6 0 == 115) = false := by simpa using N.out.2.2.2.2.2.2.2.2.2.2.2.2.2
  have HB := hb0 w
  go_enter Tryd.func65, Tryd.ntmps65
  go_wp2_with (first | (go_at_call 77; refine (ref_rd _ _).mono ?_; rintro e wn ⟨rfl, rfl⟩) | (go_at_call 78; refine (ref_rs1 _ _).mono ?_; rintro e wn ⟨rfl, rfl⟩) | (go_at_call 79; refine (ref_rs2 _ _).mono ?_; rintro e wn ⟨rfl, rfl⟩) | (go_at_call 80; refine (ref_funct3 _ _).mono ?_; rintro e wn ⟨rfl, rfl⟩) | (go_at_call 81; refine (ref_funct7 _ _).mono ?_; rintro e wn ⟨rfl, rfl⟩) | (go_at_call 82; refine (ref_opcode _ _).mono ?_; rintro e wn ⟨rfl, rfl⟩) | (refine own_store w rfl rfl rfl rfl rfl (by simp [Value.oneCell']) ?_ ?_; focus ((repeat (first | exact heap_on HB.out | refine heap_past _ ?_ | refine heap_far ?_ (Nat.ne_of_gt HL.out) _)); done)))
  refine own_back2 w rfl rfl rfl rfl ?_ ?_; (focus ((repeat (first | exact heap_on HB.out | refine heap_past _ ?_ | refine heap_far ?_ (Nat.ne_of_gt HL.out) _)); done))
  exact ⟨⟨_, _, _, _, _, _, _, _, _, _, _, _, rfl, by unfold decOf; (simp [N.out, Ins.zero, Ins.val, u_nil]) <;> rfl⟩, by ((repeat (first | apply On.rowO | refine On.setO ?_ HL.out | apply On.alloc)); first | exact On.refl w | exact on_of HB.out)⟩
theorem one_any (x : BitVec 32) (w : World) :
    Calls Tryd.prog 65 #[.int .u32 (q x)] w fun e w' => PartOf e (decOf x) ∧ On w w' := by
  by_cases n55 : fi x 6 0 = 55
  · exact one_55 x w n55
  by_cases n23 : fi x 6 0 = 23
  · exact one_23 x w n23
  by_cases n111 : fi x 6 0 = 111
  · exact one_111 x w n111
  by_cases n103 : fi x 6 0 = 103
  · by_cases h3 : fi x 14 12 = 0
    · exact one_103z x w n103 h3
    · exact one_103n x w n103 (Lib.hid h3)
  by_cases n99 : fi x 6 0 = 99
  · rcases f3_cases x with h3 | h3 | h3 | h3 | h3 | h3 | h3 | h3
    · exact one_99_0 x w n99 h3
    · exact one_99_1 x w n99 h3
    · exact one_99_2 x w n99 h3
    · exact one_99_3 x w n99 h3
    · exact one_99_4 x w n99 h3
    · exact one_99_5 x w n99 h3
    · exact one_99_6 x w n99 h3
    · exact one_99_7 x w n99 h3
  by_cases n3 : fi x 6 0 = 3
  · rcases f3_cases x with h3 | h3 | h3 | h3 | h3 | h3 | h3 | h3
    · exact one_3_0 x w n3 h3
    · exact one_3_1 x w n3 h3
    · exact one_3_2 x w n3 h3
    · exact one_3_3 x w n3 h3
    · exact one_3_4 x w n3 h3
    · exact one_3_5 x w n3 h3
    · exact one_3_6 x w n3 h3
    · exact one_3_7 x w n3 h3
  by_cases n35 : fi x 6 0 = 35
  · rcases f3_cases x with h3 | h3 | h3 | h3 | h3 | h3 | h3 | h3
    · exact one_35_0 x w n35 h3
    · exact one_35_1 x w n35 h3
    · exact one_35_2 x w n35 h3
    · exact one_35_3 x w n35 h3
    · exact one_35_4 x w n35 h3
    · exact one_35_5 x w n35 h3
    · exact one_35_6 x w n35 h3
    · exact one_35_7 x w n35 h3
  by_cases n15 : fi x 6 0 = 15
  · rcases f3_cases x with h3 | h3 | h3 | h3 | h3 | h3 | h3 | h3
    · exact one_15_0 x w n15 h3
    · exact one_15_1 x w n15 h3
    · exact one_15_2 x w n15 h3
    · exact one_15_3 x w n15 h3
    · exact one_15_4 x w n15 h3
    · exact one_15_5 x w n15 h3
    · exact one_15_6 x w n15 h3
    · exact one_15_7 x w n15 h3
  by_cases n19 : fi x 6 0 = 19
  · exact one_19 x w n19
  by_cases n27 : fi x 6 0 = 27
  · exact one_27 x w n27
  by_cases n51 : fi x 6 0 = 51
  · exact one_51 x w n51
  by_cases n59 : fi x 6 0 = 59
  · exact one_59 x w n59
  by_cases n47 : fi x 6 0 = 47
  · exact one_47 x w n47
  by_cases n115 : fi x 6 0 = 115
  · exact one_115 x w n115
  exact one_n x w (Lib.hid ⟨n55, n23, n111, n103, n99, n3, n35, n15, n19, n27, n51, n59, n47, n115⟩)
set_option maxRecDepth 100000 in
set_option maxHeartbeats 4000000 in
theorem ref_decode_any (x : BitVec 32) (w : World) :
    Calls Tryd.prog 32 #[.int .u32 (q x)] w fun e w' => e = .returned (decOf x).val ∧ On w w' := by
  have HB := hb0 w
  go_enter Tryd.func32, Tryd.ntmps32
  go_wp2_with (first | (go_at_call 65; refine (one_any _ _).mono ?_; rintro e wn ⟨⟨o, f, d, s, t, m, z, k, a, b, c, y, rfl, hi⟩, h⟩; cases y <;> (have HI := Lib.hid hi; replace HB := tr HB h; clear hi h)) | (refine own_store w rfl rfl rfl rfl rfl (by simp [Value.oneCell']) ?_ ?_; focus ((repeat (first | exact heap_on HB.out | refine heap_past _ ?_ | refine heap_far ?_ (Nat.ne_of_gt HL.out) _)); done)))
  all_goals (
    refine own_back w rfl rfl rfl rfl ?_ ?_; (focus ((repeat (first | exact heap_on HB.out | refine heap_past _ ?_ | refine heap_far ?_ (Nat.ne_of_gt HL.out) _)); done))
    exact ⟨by rw [← HI.out]; simp [*, Ins.zero, Ins.val, u_nil], by ((repeat (first | apply On.rowO | refine On.setO ?_ HL.out | apply On.alloc)); first | exact On.refl w | exact on_of HB.out)⟩)
end Go.Proofs.YtjnalgilkdoalaaDoor
