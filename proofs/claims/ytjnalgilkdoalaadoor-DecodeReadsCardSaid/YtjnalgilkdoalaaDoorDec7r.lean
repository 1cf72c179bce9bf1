/- What rows come to in the reference: r. Conditions: named at each. -/
import Derived.Test.YtjnalgilkdoalaaDoorDec6
namespace Go.Proofs.YtjnalgilkdoalaaDoor
open Go.RowKit
set_option linter.unusedSimpArgs false

set_option maxRecDepth 100000 in
set_option maxHeartbeats 4000000 in
theorem rreg_false_0 (x : BitVec 32) (w : World) (h7 : fi x 31 25 = 0) :
    Calls Tryd.prog 85 #[.int .i64 (fi x 14 12), .int .i64 (fi x 31 25), .bool false, .int .i64 (fi x 11 7), .int .i64 (fi x 19 15), .int .i64 (fi x 24 20)] w fun e w' => PartOf e (regOf x false) ∧ On w w' := by
  have HB := hb0 w
  go_enter Tryd.func85, Tryd.ntmps85
  go_wp2_with (first | (refine own_store w rfl rfl rfl rfl rfl (by simp [Value.oneCell']) ?_ ?_; focus ((repeat (first | exact heap_on HB.out | refine heap_past _ ?_ | refine heap_far ?_ (Nat.ne_of_gt HL.out) _)); done)))
  refine own_back2 w rfl rfl rfl rfl ?_ ?_; (focus ((repeat (first | exact heap_on HB.out | refine heap_past _ ?_ | refine heap_far ?_ (Nat.ne_of_gt HL.out) _)); done))
  exact ⟨⟨_, _, _, _, _, _, _, _, _, _, _, _, rfl, by unfold regOf; (simp [h7, Ins.zero, Ins.val, u_nil]) <;> rfl⟩, by ((repeat (first | apply On.rowO | refine On.setO ?_ HL.out | apply On.alloc)); first | exact On.refl w | exact on_of HB.out)⟩
set_option maxRecDepth 100000 in
set_option maxHeartbeats 4000000 in
theorem rreg_false_1 (x : BitVec 32) (w : World) (h7 : fi x 31 25 = 1) :
    Calls Tryd.prog 85 #[.int .i64 (fi x 14 12), .int .i64 (fi x 31 25), .bool false, .int .i64 (fi x 11 7), .int .i64 (fi x 19 15), .int .i64 (fi x 24 20)] w fun e w' => PartOf e (regOf x false) ∧ On w w' := by
  have HB := hb0 w
  go_enter Tryd.func85, Tryd.ntmps85
  go_wp2_with (first | (refine own_store w rfl rfl rfl rfl rfl (by simp [Value.oneCell']) ?_ ?_; focus ((repeat (first | exact heap_on HB.out | refine heap_past _ ?_ | refine heap_far ?_ (Nat.ne_of_gt HL.out) _)); done)))
  refine own_back2 w rfl rfl rfl rfl ?_ ?_; (focus ((repeat (first | exact heap_on HB.out | refine heap_past _ ?_ | refine heap_far ?_ (Nat.ne_of_gt HL.out) _)); done))
  exact ⟨⟨_, _, _, _, _, _, _, _, _, _, _, _, rfl, by unfold regOf; (simp [h7, Ins.zero, Ins.val, u_nil]) <;> rfl⟩, by ((repeat (first | apply On.rowO | refine On.setO ?_ HL.out | apply On.alloc)); first | exact On.refl w | exact on_of HB.out)⟩
set_option maxRecDepth 100000 in
set_option maxHeartbeats 4000000 in
theorem rreg_false_32_0 (x : BitVec 32) (w : World) (h7 : fi x 31 25 = 32) (h3 : fi x 14 12 = 0) :
    Calls Tryd.prog 85 #[.int .i64 (fi x 14 12), .int .i64 (fi x 31 25), .bool false, .int .i64 (fi x 11 7), .int .i64 (fi x 19 15), .int .i64 (fi x 24 20)] w fun e w' => PartOf e (regOf x false) ∧ On w w' := by
  have HB := hb0 w
  go_enter Tryd.func85, Tryd.ntmps85
  go_wp2_with (first | (refine own_store w rfl rfl rfl rfl rfl (by simp [Value.oneCell']) ?_ ?_; focus ((repeat (first | exact heap_on HB.out | refine heap_past _ ?_ | refine heap_far ?_ (Nat.ne_of_gt HL.out) _)); done)))
  refine own_back2 w rfl rfl rfl rfl ?_ ?_; (focus ((repeat (first | exact heap_on HB.out | refine heap_past _ ?_ | refine heap_far ?_ (Nat.ne_of_gt HL.out) _)); done))
  exact ⟨⟨_, _, _, _, _, _, _, _, _, _, _, _, rfl, by unfold regOf; (simp [h7, h3, Ins.zero, Ins.val, u_nil]) <;> rfl⟩, by ((repeat (first | apply On.rowO | refine On.setO ?_ HL.out | apply On.alloc)); first | exact On.refl w | exact on_of HB.out)⟩
set_option maxRecDepth 100000 in
set_option maxHeartbeats 4000000 in
theorem rreg_false_32_1 (x : BitVec 32) (w : World) (h7 : fi x 31 25 = 32) (h3 : fi x 14 12 = 1) :
    Calls Tryd.prog 85 #[.int .i64 (fi x 14 12), .int .i64 (fi x 31 25), .bool false, .int .i64 (fi x 11 7), .int .i64 (fi x 19 15), .int .i64 (fi x 24 20)] w fun e w' => PartOf e (regOf x false) ∧ On w w' := by
  have HB := hb0 w
  go_enter Tryd.func85, Tryd.ntmps85
  go_wp2_with (first | (refine own_store w rfl rfl rfl rfl rfl (by simp [Value.oneCell']) ?_ ?_; focus ((repeat (first | exact heap_on HB.out | refine heap_past _ ?_ | refine heap_far ?_ (Nat.ne_of_gt HL.out) _)); done)))
  refine own_back2 w rfl rfl rfl rfl ?_ ?_; (focus ((repeat (first | exact heap_on HB.out | refine heap_past _ ?_ | refine heap_far ?_ (Nat.ne_of_gt HL.out) _)); done))
  exact ⟨⟨_, _, _, _, _, _, _, _, _, _, _, _, rfl, by unfold regOf; (simp [h7, h3, Ins.zero, Ins.val, u_nil]) <;> rfl⟩, by ((repeat (first | apply On.rowO | refine On.setO ?_ HL.out | apply On.alloc)); first | exact On.refl w | exact on_of HB.out)⟩
set_option maxRecDepth 100000 in
set_option maxHeartbeats 4000000 in
theorem rreg_false_32_2 (x : BitVec 32) (w : World) (h7 : fi x 31 25 = 32) (h3 : fi x 14 12 = 2) :
    Calls Tryd.prog 85 #[.int .i64 (fi x 14 12), .int .i64 (fi x 31 25), .bool false, .int .i64 (fi x 11 7), .int .i64 (fi x 19 15), .int .i64 (fi x 24 20)] w fun e w' => PartOf e (regOf x false) ∧ On w w' := by
  have HB := hb0 w
  go_enter Tryd.func85, Tryd.ntmps85
  go_wp2_with (first | (refine own_store w rfl rfl rfl rfl rfl (by simp [Value.oneCell']) ?_ ?_; focus ((repeat (first | exact heap_on HB.out | refine heap_past _ ?_ | refine heap_far ?_ (Nat.ne_of_gt HL.out) _)); done)))
  refine own_back2 w rfl rfl rfl rfl ?_ ?_; (focus ((repeat (first | exact heap_on HB.out | refine heap_past _ ?_ | refine heap_far ?_ (Nat.ne_of_gt HL.out) _)); done))
  exact ⟨⟨_, _, _, _, _, _, _, _, _, _, _, _, rfl, by unfold regOf; (simp [h7, h3, Ins.zero, Ins.val, u_nil]) <;> rfl⟩, by ((repeat (first | apply On.rowO | refine On.setO ?_ HL.out | apply On.alloc)); first | exact On.refl w | exact on_of HB.out)⟩
set_option maxRecDepth 100000 in
set_option maxHeartbeats 4000000 in
theorem rreg_false_32_3 (x : BitVec 32) (w : World) (h7 : fi x 31 25 = 32) (h3 : fi x 14 12 = 3) :
    Calls Tryd.prog 85 #[.int .i64 (fi x 14 12), .int .i64 (fi x 31 25), .bool false, .int .i64 (fi x 11 7), .int .i64 (fi x 19 15), .int .i64 (fi x 24 20)] w fun e w' => PartOf e (regOf x false) ∧ On w w' := by
  have HB := hb0 w
  go_enter Tryd.func85, Tryd.ntmps85
  go_wp2_with (first | (refine own_store w rfl rfl rfl rfl rfl (by simp [Value.oneCell']) ?_ ?_; focus ((repeat (first | exact heap_on HB.out | refine heap_past _ ?_ | refine heap_far ?_ (Nat.ne_of_gt HL.out) _)); done)))
  refine own_back2 w rfl rfl rfl rfl ?_ ?_; (focus ((repeat (first | exact heap_on HB.out | refine heap_past _ ?_ | refine heap_far ?_ (Nat.ne_of_gt HL.out) _)); done))
  exact ⟨⟨_, _, _, _, _, _, _, _, _, _, _, _, rfl, by unfold regOf; (simp [h7, h3, Ins.zero, Ins.val, u_nil]) <;> rfl⟩, by ((repeat (first | apply On.rowO | refine On.setO ?_ HL.out | apply On.alloc)); first | exact On.refl w | exact on_of HB.out)⟩
set_option maxRecDepth 100000 in
set_option maxHeartbeats 4000000 in
theorem rreg_false_32_4 (x : BitVec 32) (w : World) (h7 : fi x 31 25 = 32) (h3 : fi x 14 12 = 4) :
    Calls Tryd.prog 85 #[.int .i64 (fi x 14 12), .int .i64 (fi x 31 25), .bool false, .int .i64 (fi x 11 7), .int .i64 (fi x 19 15), .int .i64 (fi x 24 20)] w fun e w' => PartOf e (regOf x false) ∧ On w w' := by
  have HB := hb0 w
  go_enter Tryd.func85, Tryd.ntmps85
  go_wp2_with (first | (refine own_store w rfl rfl rfl rfl rfl (by simp [Value.oneCell']) ?_ ?_; focus ((repeat (first | exact heap_on HB.out | refine heap_past _ ?_ | refine heap_far ?_ (Nat.ne_of_gt HL.out) _)); done)))
  refine own_back2 w rfl rfl rfl rfl ?_ ?_; (focus ((repeat (first | exact heap_on HB.out | refine heap_past _ ?_ | refine heap_far ?_ (Nat.ne_of_gt HL.out) _)); done))
  exact ⟨⟨_, _, _, _, _, _, _, _, _, _, _, _, rfl, by unfold regOf; (simp [h7, h3, Ins.zero, Ins.val, u_nil]) <;> rfl⟩, by ((repeat (first | apply On.rowO | refine On.setO ?_ HL.out | apply On.alloc)); first | exact On.refl w | exact on_of HB.out)⟩
set_option maxRecDepth 100000 in
set_option maxHeartbeats 4000000 in
theorem rreg_false_32_5 (x : BitVec 32) (w : World) (h7 : fi x 31 25 = 32) (h3 : fi x 14 12 = 5) :
    Calls Tryd.prog 85 #[.int .i64 (fi x 14 12), .int .i64 (fi x 31 25), .bool false, .int .i64 (fi x 11 7), .int .i64 (fi x 19 15), .int .i64 (fi x 24 20)] w fun e w' => PartOf e (regOf x false) ∧ On w w' := by
  have HB := hb0 w
  go_enter Tryd.func85, Tryd.ntmps85
  go_wp2_with (first | (refine own_store w rfl rfl rfl rfl rfl (by simp [Value.oneCell']) ?_ ?_; focus ((repeat (first | exact heap_on HB.out | refine heap_past _ ?_ | refine heap_far ?_ (Nat.ne_of_gt HL.out) _)); done)))
  refine own_back2 w rfl rfl rfl rfl ?_ ?_; (focus ((repeat (first | exact heap_on HB.out | refine heap_past _ ?_ | refine heap_far ?_ (Nat.ne_of_gt HL.out) _)); done))
  exact ⟨⟨_, _, _, _, _, _, _, _, _, _, _, _, rfl, by unfold regOf; (simp [h7, h3, Ins.zero, Ins.val, u_nil]) <;> rfl⟩, by ((repeat (first | apply On.rowO | refine On.setO ?_ HL.out | apply On.alloc)); first | exact On.refl w | exact on_of HB.out)⟩
set_option maxRecDepth 100000 in
set_option maxHeartbeats 4000000 in
theorem rreg_false_32_6 (x : BitVec 32) (w : World) (h7 : fi x 31 25 = 32) (h3 : fi x 14 12 = 6) :
    Calls Tryd.prog 85 #[.int .i64 (fi x 14 12), .int .i64 (fi x 31 25), .bool false, .int .i64 (fi x 11 7), .int .i64 (fi x 19 15), .int .i64 (fi x 24 20)] w fun e w' => PartOf e (regOf x false) ∧ On w w' := by
  have HB := hb0 w
  go_enter Tryd.func85, Tryd.ntmps85
  go_wp2_with (first | (refine own_store w rfl rfl rfl rfl rfl (by simp [Value.oneCell']) ?_ ?_; focus ((repeat (first | exact heap_on HB.out | refine heap_past _ ?_ | refine heap_far ?_ (Nat.ne_of_gt HL.out) _)); done)))
  refine own_back2 w rfl rfl rfl rfl ?_ ?_; (focus ((repeat (first | exact heap_on HB.out | refine heap_past _ ?_ | refine heap_far ?_ (Nat.ne_of_gt HL.out) _)); done))
  exact ⟨⟨_, _, _, _, _, _, _, _, _, _, _, _, rfl, by unfold regOf; (simp [h7, h3, Ins.zero, Ins.val, u_nil]) <;> rfl⟩, by ((repeat (first | apply On.rowO | refine On.setO ?_ HL.out | apply On.alloc)); first | exact On.refl w | exact on_of HB.out)⟩
set_option maxRecDepth 100000 in
set_option maxHeartbeats 4000000 in
theorem rreg_false_32_7 (x : BitVec 32) (w : World) (h7 : fi x 31 25 = 32) (h3 : fi x 14 12 = 7) :
    Calls Tryd.prog 85 #[.int .i64 (fi x 14 12), .int .i64 (fi x 31 25), .bool false, .int .i64 (fi x 11 7), .int .i64 (fi x 19 15), .int .i64 (fi x 24 20)] w fun e w' => PartOf e (regOf x false) ∧ On w w' := by
  have HB := hb0 w
  go_enter Tryd.func85, Tryd.ntmps85
  go_wp2_with (first | (refine own_store w rfl rfl rfl rfl rfl (by simp [Value.oneCell']) ?_ ?_; focus ((repeat (first | exact heap_on HB.out | refine heap_past _ ?_ | refine heap_far ?_ (Nat.ne_of_gt HL.out) _)); done)))
  refine own_back2 w rfl rfl rfl rfl ?_ ?_; (focus ((repeat (first | exact heap_on HB.out | refine heap_past _ ?_ | refine heap_far ?_ (Nat.ne_of_gt HL.out) _)); done))
  exact ⟨⟨_, _, _, _, _, _, _, _, _, _, _, _, rfl, by unfold regOf; (simp [h7, h3, Ins.zero, Ins.val, u_nil]) <;> rfl⟩, by ((repeat (first | apply On.rowO | refine On.setO ?_ HL.out | apply On.alloc)); first | exact On.refl w | exact on_of HB.out)⟩
set_option maxRecDepth 100000 in
set_option maxHeartbeats 4000000 in
theorem rreg_false_n (x : BitVec 32) (w : World) (N : Hid (¬ fi x 31 25 = 0 ∧ ¬ fi x 31 25 = 1 ∧ ¬ fi x 31 25 = 32)) :
    Calls Tryd.prog 85 #[.int .i64 (fi x 14 12), .int .i64 (fi x 31 25), .bool false, .int .i64 (fi x 11 7), .int .i64 (fi x 19 15), .int .i64 (fi x 24 20)] w fun e w' => PartOf e (regOf x false) ∧ On w w' := by
  have b0 : (fi x 31 25 == 0) = false := by simpa using N.out.1
  have b1 : (fi x 31 25 == 1) = false := by simpa using N.out.2.1
  have b2 : (fi x 31 25 == 32) = false := by simpa using N.out.2.2
  have HB := hb0 w
  go_enter Tryd.func85, Tryd.ntmps85
  go_wp2_with (first | (refine own_store w rfl rfl rfl rfl rfl (by simp [Value.oneCell']) ?_ ?_; focus ((repeat (first | exact heap_on HB.out | refine heap_past _ ?_ | refine heap_far ?_ (Nat.ne_of_gt HL.out) _)); done)))
  refine own_back2 w rfl rfl rfl rfl ?_ ?_; (focus ((repeat (first | exact heap_on HB.out | refine heap_past _ ?_ | refine heap_far ?_ (Nat.ne_of_gt HL.out) _)); done))
  exact ⟨⟨_, _, _, _, _, _, _, _, _, _, _, _, rfl, by unfold regOf; (simp [N.out, Ins.zero, Ins.val, u_nil]) <;> rfl⟩, by ((repeat (first | apply On.rowO | refine On.setO ?_ HL.out | apply On.alloc)); first | exact On.refl w | exact on_of HB.out)⟩
theorem rreg_false_any (x : BitVec 32) (w : World) :
    Calls Tryd.prog 85 #[.int .i64 (fi x 14 12), .int .i64 (fi x 31 25), .bool false, .int .i64 (fi x 11 7), .int .i64 (fi x 19 15), .int .i64 (fi x 24 20)] w fun e w' => PartOf e (regOf x false) ∧ On w w' := by
  by_cases n0 : fi x 31 25 = 0
  · exact rreg_false_0 x w n0
  by_cases n1 : fi x 31 25 = 1
  · exact rreg_false_1 x w n1
  by_cases n32 : fi x 31 25 = 32
  · rcases f3_cases x with h3 | h3 | h3 | h3 | h3 | h3 | h3 | h3
    · exact rreg_false_32_0 x w n32 h3
    · exact rreg_false_32_1 x w n32 h3
    · exact rreg_false_32_2 x w n32 h3
    · exact rreg_false_32_3 x w n32 h3
    · exact rreg_false_32_4 x w n32 h3
    · exact rreg_false_32_5 x w n32 h3
    · exact rreg_false_32_6 x w n32 h3
    · exact rreg_false_32_7 x w n32 h3
  exact rreg_false_n x w (Lib.hid ⟨n0, n1, n32⟩)
set_option maxRecDepth 100000 in
set_option maxHeartbeats 4000000 in
theorem rreg_true_0_0 (x : BitVec 32) (w : World) (h7 : fi x 31 25 = 0) (h3 : fi x 14 12 = 0) :
    Calls Tryd.prog 85 #[.int .i64 (fi x 14 12), .int .i64 (fi x 31 25), .bool true, .int .i64 (fi x 11 7), .int .i64 (fi x 19 15), .int .i64 (fi x 24 20)] w fun e w' => PartOf e (regOf x true) ∧ On w w' := by
  have HB := hb0 w
  go_enter Tryd.func85, Tryd.ntmps85
  go_wp2_with (first | (refine own_store w rfl rfl rfl rfl rfl (by simp [Value.oneCell']) ?_ ?_; focus ((repeat (first | exact heap_on HB.out | refine heap_past _ ?_ | refine heap_far ?_ (Nat.ne_of_gt HL.out) _)); done)))
  refine own_back2 w rfl rfl rfl rfl ?_ ?_; (focus ((repeat (first | exact heap_on HB.out | refine heap_past _ ?_ | refine heap_far ?_ (Nat.ne_of_gt HL.out) _)); done))
  exact ⟨⟨_, _, _, _, _, _, _, _, _, _, _, _, rfl, by unfold regOf; (simp [h7, h3, Ins.zero, Ins.val, u_nil]) <;> rfl⟩, by ((repeat (first | apply On.rowO | refine On.setO ?_ HL.out | apply On.alloc)); first | exact On.refl w | exact on_of HB.out)⟩
set_option maxRecDepth 100000 in
set_option maxHeartbeats 4000000 in
theorem rreg_true_0_1 (x : BitVec 32) (w : World) (h7 : fi x 31 25 = 0) (h3 : fi x 14 12 = 1) :
    Calls Tryd.prog 85 #[.int .i64 (fi x 14 12), .int .i64 (fi x 31 25), .bool true, .int .i64 (fi x 11 7), .int .i64 (fi x 19 15), .int .i64 (fi x 24 20)] w fun e w' => PartOf e (regOf x true) ∧ On w w' := by
  have HB := hb0 w
  go_enter Tryd.func85, Tryd.ntmps85
  go_wp2_with (first | (refine own_store w rfl rfl rfl rfl rfl (by simp [Value.oneCell']) ?_ ?_; focus ((repeat (first | exact heap_on HB.out | refine heap_past _ ?_ | refine heap_far ?_ (Nat.ne_of_gt HL.out) _)); done)))
  refine own_back2 w rfl rfl rfl rfl ?_ ?_; (focus ((repeat (first | exact heap_on HB.out | refine heap_past _ ?_ | refine heap_far ?_ (Nat.ne_of_gt HL.out) _)); done))
  exact ⟨⟨_, _, _, _, _, _, _, _, _, _, _, _, rfl, by unfold regOf; (simp [h7, h3, Ins.zero, Ins.val, u_nil]) <;> rfl⟩, by ((repeat (first | apply On.rowO | refine On.setO ?_ HL.out | apply On.alloc)); first | exact On.refl w | exact on_of HB.out)⟩
set_option maxRecDepth 100000 in
set_option maxHeartbeats 4000000 in
theorem rreg_true_0_2 (x : BitVec 32) (w : World) (h7 : fi x 31 25 = 0) (h3 : fi x 14 12 = 2) :
    Calls Tryd.prog 85 #[.int .i64 (fi x 14 12), .int .i64 (fi x 31 25), .bool true, .int .i64 (fi x 11 7), .int .i64 (fi x 19 15), .int .i64 (fi x 24 20)] w fun e w' => PartOf e (regOf x true) ∧ On w w' := by
  have HB := hb0 w
  go_enter Tryd.func85, Tryd.ntmps85
  go_wp2_with (first | (refine own_store w rfl rfl rfl rfl rfl (by simp [Value.oneCell']) ?_ ?_; focus ((repeat (first | exact heap_on HB.out | refine heap_past _ ?_ | refine heap_far ?_ (Nat.ne_of_gt HL.out) _)); done)))
  refine own_back2 w rfl rfl rfl rfl ?_ ?_; (focus ((repeat (first | exact heap_on HB.out | refine heap_past _ ?_ | refine heap_far ?_ (Nat.ne_of_gt HL.out) _)); done))
  exact ⟨⟨_, _, _, _, _, _, _, _, _, _, _, _, rfl, by unfold regOf; (simp [h7, h3, Ins.zero, Ins.val, u_nil]) <;> rfl⟩, by ((repeat (first | apply On.rowO | refine On.setO ?_ HL.out | apply On.alloc)); first | exact On.refl w | exact on_of HB.out)⟩
set_option maxRecDepth 100000 in
set_option maxHeartbeats 4000000 in
theorem rreg_true_0_3 (x : BitVec 32) (w : World) (h7 : fi x 31 25 = 0) (h3 : fi x 14 12 = 3) :
    Calls Tryd.prog 85 #[.int .i64 (fi x 14 12), .int .i64 (fi x 31 25), .bool true, .int .i64 (fi x 11 7), .int .i64 (fi x 19 15), .int .i64 (fi x 24 20)] w fun e w' => PartOf e (regOf x true) ∧ On w w' := by
  have HB := hb0 w
  go_enter Tryd.func85, Tryd.ntmps85
  go_wp2_with (first | (refine own_store w rfl rfl rfl rfl rfl (by simp [Value.oneCell']) ?_ ?_; focus ((repeat (first | exact heap_on HB.out | refine heap_past _ ?_ | refine heap_far ?_ (Nat.ne_of_gt HL.out) _)); done)))
  refine own_back2 w rfl rfl rfl rfl ?_ ?_; (focus ((repeat (first | exact heap_on HB.out | refine heap_past _ ?_ | refine heap_far ?_ (Nat.ne_of_gt HL.out) _)); done))
  exact ⟨⟨_, _, _, _, _, _, _, _, _, _, _, _, rfl, by unfold regOf; (simp [h7, h3, Ins.zero, Ins.val, u_nil]) <;> rfl⟩, by ((repeat (first | apply On.rowO | refine On.setO ?_ HL.out | apply On.alloc)); first | exact On.refl w | exact on_of HB.out)⟩
set_option maxRecDepth 100000 in
set_option maxHeartbeats 4000000 in
theorem rreg_true_0_4 (x : BitVec 32) (w : World) (h7 : fi x 31 25 = 0) (h3 : fi x 14 12 = 4) :
    Calls Tryd.prog 85 #[.int .i64 (fi x 14 12), .int .i64 (fi x 31 25), .bool true, .int .i64 (fi x 11 7), .int .i64 (fi x 19 15), .int .i64 (fi x 24 20)] w fun e w' => PartOf e (regOf x true) ∧ On w w' := by
  have HB := hb0 w
  go_enter Tryd.func85, Tryd.ntmps85
  go_wp2_with (first | (refine own_store w rfl rfl rfl rfl rfl (by simp [Value.oneCell']) ?_ ?_; focus ((repeat (first | exact heap_on HB.out | refine heap_past _ ?_ | refine heap_far ?_ (Nat.ne_of_gt HL.out) _)); done)))
  refine own_back2 w rfl rfl rfl rfl ?_ ?_; (focus ((repeat (first | exact heap_on HB.out | refine heap_past _ ?_ | refine heap_far ?_ (Nat.ne_of_gt HL.out) _)); done))
  exact ⟨⟨_, _, _, _, _, _, _, _, _, _, _, _, rfl, by unfold regOf; (simp [h7, h3, Ins.zero, Ins.val, u_nil]) <;> rfl⟩, by ((repeat (first | apply On.rowO | refine On.setO ?_ HL.out | apply On.alloc)); first | exact On.refl w | exact on_of HB.out)⟩
set_option maxRecDepth 100000 in
set_option maxHeartbeats 4000000 in
theorem rreg_true_0_5 (x : BitVec 32) (w : World) (h7 : fi x 31 25 = 0) (h3 : fi x 14 12 = 5) :
    Calls Tryd.prog 85 #[.int .i64 (fi x 14 12), .int .i64 (fi x 31 25), .bool true, .int .i64 (fi x 11 7), .int .i64 (fi x 19 15), .int .i64 (fi x 24 20)] w fun e w' => PartOf e (regOf x true) ∧ On w w' := by
  have HB := hb0 w
  go_enter Tryd.func85, Tryd.ntmps85
  go_wp2_with (first | (refine own_store w rfl rfl rfl rfl rfl (by simp [Value.oneCell']) ?_ ?_; focus ((repeat (first | exact heap_on HB.out | refine heap_past _ ?_ | refine heap_far ?_ (Nat.ne_of_gt HL.out) _)); done)))
  refine own_back2 w rfl rfl rfl rfl ?_ ?_; (focus ((repeat (first | exact heap_on HB.out | refine heap_past _ ?_ | refine heap_far ?_ (Nat.ne_of_gt HL.out) _)); done))
  exact ⟨⟨_, _, _, _, _, _, _, _, _, _, _, _, rfl, by unfold regOf; (simp [h7, h3, Ins.zero, Ins.val, u_nil]) <;> rfl⟩, by ((repeat (first | apply On.rowO | refine On.setO ?_ HL.out | apply On.alloc)); first | exact On.refl w | exact on_of HB.out)⟩
set_option maxRecDepth 100000 in
set_option maxHeartbeats 4000000 in
theorem rreg_true_0_6 (x : BitVec 32) (w : World) (h7 : fi x 31 25 = 0) (h3 : fi x 14 12 = 6) :
    Calls Tryd.prog 85 #[.int .i64 (fi x 14 12), .int .i64 (fi x 31 25), .bool true, .int .i64 (fi x 11 7), .int .i64 (fi x 19 15), .int .i64 (fi x 24 20)] w fun e w' => PartOf e (regOf x true) ∧ On w w' := by
  have HB := hb0 w
  go_enter Tryd.func85, Tryd.ntmps85
  go_wp2_with (first | (refine own_store w rfl rfl rfl rfl rfl (by simp [Value.oneCell']) ?_ ?_; focus ((repeat (first | exact heap_on HB.out | refine heap_past _ ?_ | refine heap_far ?_ (Nat.ne_of_gt HL.out) _)); done)))
  refine own_back2 w rfl rfl rfl rfl ?_ ?_; (focus ((repeat (first | exact heap_on HB.out | refine heap_past _ ?_ | refine heap_far ?_ (Nat.ne_of_gt HL.out) _)); done))
  exact ⟨⟨_, _, _, _, _, _, _, _, _, _, _, _, rfl, by unfold regOf; (simp [h7, h3, Ins.zero, Ins.val, u_nil]) <;> rfl⟩, by ((repeat (first | apply On.rowO | refine On.setO ?_ HL.out | apply On.alloc)); first | exact On.refl w | exact on_of HB.out)⟩
set_option maxRecDepth 100000 in
set_option maxHeartbeats 4000000 in
theorem rreg_true_0_7 (x : BitVec 32) (w : World) (h7 : fi x 31 25 = 0) (h3 : fi x 14 12 = 7) :
    Calls Tryd.prog 85 #[.int .i64 (fi x 14 12), .int .i64 (fi x 31 25), .bool true, .int .i64 (fi x 11 7), .int .i64 (fi x 19 15), .int .i64 (fi x 24 20)] w fun e w' => PartOf e (regOf x true) ∧ On w w' := by
  have HB := hb0 w
  go_enter Tryd.func85, Tryd.ntmps85
  go_wp2_with (first | (refine own_store w rfl rfl rfl rfl rfl (by simp [Value.oneCell']) ?_ ?_; focus ((repeat (first | exact heap_on HB.out | refine heap_past _ ?_ | refine heap_far ?_ (Nat.ne_of_gt HL.out) _)); done)))
  refine own_back2 w rfl rfl rfl rfl ?_ ?_; (focus ((repeat (first | exact heap_on HB.out | refine heap_past _ ?_ | refine heap_far ?_ (Nat.ne_of_gt HL.out) _)); done))
  exact ⟨⟨_, _, _, _, _, _, _, _, _, _, _, _, rfl, by unfold regOf; (simp [h7, h3, Ins.zero, Ins.val, u_nil]) <;> rfl⟩, by ((repeat (first | apply On.rowO | refine On.setO ?_ HL.out | apply On.alloc)); first | exact On.refl w | exact on_of HB.out)⟩
set_option maxRecDepth 100000 in
set_option maxHeartbeats 4000000 in
theorem rreg_true_1_0 (x : BitVec 32) (w : World) (h7 : fi x 31 25 = 1) (h3 : fi x 14 12 = 0) :
    Calls Tryd.prog 85 #[.int .i64 (fi x 14 12), .int .i64 (fi x 31 25), .bool true, .int .i64 (fi x 11 7), .int .i64 (fi x 19 15), .int .i64 (fi x 24 20)] w fun e w' => PartOf e (regOf x true) ∧ On w w' := by
  have HB := hb0 w
  go_enter Tryd.func85, Tryd.ntmps85
  go_wp2_with (first | (refine own_store w rfl rfl rfl rfl rfl (by simp [Value.oneCell']) ?_ ?_; focus ((repeat (first | exact heap_on HB.out | refine heap_past _ ?_ | refine heap_far ?_ (Nat.ne_of_gt HL.out) _)); done)))
  refine own_back2 w rfl rfl rfl rfl ?_ ?_; (focus ((repeat (first | exact heap_on HB.out | refine heap_past _ ?_ | refine heap_far ?_ (Nat.ne_of_gt HL.out) _)); done))
  exact ⟨⟨_, _, _, _, _, _, _, _, _, _, _, _, rfl, by unfold regOf; (simp [h7, h3, Ins.zero, Ins.val, u_nil]) <;> rfl⟩, by ((repeat (first | apply On.rowO | refine On.setO ?_ HL.out | apply On.alloc)); first | exact On.refl w | exact on_of HB.out)⟩
set_option maxRecDepth 100000 in
set_option maxHeartbeats 4000000 in
theorem rreg_true_1_1 (x : BitVec 32) (w : World) (h7 : fi x 31 25 = 1) (h3 : fi x 14 12 = 1) :
    Calls Tryd.prog 85 #[.int .i64 (fi x 14 12), .int .i64 (fi x 31 25), .bool true, .int .i64 (fi x 11 7), .int .i64 (fi x 19 15), .int .i64 (fi x 24 20)] w fun e w' => PartOf e (regOf x true) ∧ On w w' := by
  have HB := hb0 w
  go_enter Tryd.func85, Tryd.ntmps85
  go_wp2_with (first | (refine own_store w rfl rfl rfl rfl rfl (by simp [Value.oneCell']) ?_ ?_; focus ((repeat (first | exact heap_on HB.out | refine heap_past _ ?_ | refine heap_far ?_ (Nat.ne_of_gt HL.out) _)); done)))
  refine own_back2 w rfl rfl rfl rfl ?_ ?_; (focus ((repeat (first | exact heap_on HB.out | refine heap_past _ ?_ | refine heap_far ?_ (Nat.ne_of_gt HL.out) _)); done))
  exact ⟨⟨_, _, _, _, _, _, _, _, _, _, _, _, rfl, by unfold regOf; (simp [h7, h3, Ins.zero, Ins.val, u_nil]) <;> rfl⟩, by ((repeat (first | apply On.rowO | refine On.setO ?_ HL.out | apply On.alloc)); first | exact On.refl w | exact on_of HB.out)⟩
set_option maxRecDepth 100000 in
set_option maxHeartbeats 4000000 in
theorem rreg_true_1_2 (x : BitVec 32) (w : World) (h7 : fi x 31 25 = 1) (h3 : fi x 14 12 = 2) :
    Calls Tryd.prog 85 #[.int .i64 (fi x 14 12), .int .i64 (fi x 31 25), .bool true, .int .i64 (fi x 11 7), .int .i64 (fi x 19 15), .int .i64 (fi x 24 20)] w fun e w' => PartOf e (regOf x true) ∧ On w w' := by
  have HB := hb0 w
  go_enter Tryd.func85, Tryd.ntmps85
  go_wp2_with (first | (refine own_store w rfl rfl rfl rfl rfl (by simp [Value.oneCell']) ?_ ?_; focus ((repeat (first | exact heap_on HB.out | refine heap_past _ ?_ | refine heap_far ?_ (Nat.ne_of_gt HL.out) _)); done)))
  refine own_back2 w rfl rfl rfl rfl ?_ ?_; (focus ((repeat (first | exact heap_on HB.out | refine heap_past _ ?_ | refine heap_far ?_ (Nat.ne_of_gt HL.out) _)); done))
  exact ⟨⟨_, _, _, _, _, _, _, _, _, _, _, _, rfl, by unfold regOf; (simp [h7, h3, Ins.zero, Ins.val, u_nil]) <;> rfl⟩, by ((repeat (first | apply On.rowO | refine On.setO ?_ HL.out | apply On.alloc)); first | exact On.refl w | exact on_of HB.out)⟩
set_option maxRecDepth 100000 in
set_option maxHeartbeats 4000000 in
theorem rreg_true_1_3 (x : BitVec 32) (w : World) (h7 : fi x 31 25 = 1) (h3 : fi x 14 12 = 3) :
    Calls Tryd.prog 85 #[.int .i64 (fi x 14 12), .int .i64 (fi x 31 25), .bool true, .int .i64 (fi x 11 7), .int .i64 (fi x 19 15), .int .i64 (fi x 24 20)] w fun e w' => PartOf e (regOf x true) ∧ On w w' := by
  have HB := hb0 w
  go_enter Tryd.func85, Tryd.ntmps85
  go_wp2_with (first | (refine own_store w rfl rfl rfl rfl rfl (by simp [Value.oneCell']) ?_ ?_; focus ((repeat (first | exact heap_on HB.out | refine heap_past _ ?_ | refine heap_far ?_ (Nat.ne_of_gt HL.out) _)); done)))
  refine own_back2 w rfl rfl rfl rfl ?_ ?_; (focus ((repeat (first | exact heap_on HB.out | refine heap_past _ ?_ | refine heap_far ?_ (Nat.ne_of_gt HL.out) _)); done))
  exact ⟨⟨_, _, _, _, _, _, _, _, _, _, _, _, rfl, by unfold regOf; (simp [h7, h3, Ins.zero, Ins.val, u_nil]) <;> rfl⟩, by ((repeat (first | apply On.rowO | refine On.setO ?_ HL.out | apply On.alloc)); first | exact On.refl w | exact on_of HB.out)⟩
set_option maxRecDepth 100000 in
set_option maxHeartbeats 4000000 in
theorem rreg_true_1_4 (x : BitVec 32) (w : World) (h7 : fi x 31 25 = 1) (h3 : fi x 14 12 = 4) :
    Calls Tryd.prog 85 #[.int .i64 (fi x 14 12), .int .i64 (fi x 31 25), .bool true, .int .i64 (fi x 11 7), .int .i64 (fi x 19 15), .int .i64 (fi x 24 20)] w fun e w' => PartOf e (regOf x true) ∧ On w w' := by
  have HB := hb0 w
  go_enter Tryd.func85, Tryd.ntmps85
  go_wp2_with (first | (refine own_store w rfl rfl rfl rfl rfl (by simp [Value.oneCell']) ?_ ?_; focus ((repeat (first | exact heap_on HB.out | refine heap_past _ ?_ | refine heap_far ?_ (Nat.ne_of_gt HL.out) _)); done)))
  refine own_back2 w rfl rfl rfl rfl ?_ ?_; (focus ((repeat (first | exact heap_on HB.out | refine heap_past _ ?_ | refine heap_far ?_ (Nat.ne_of_gt HL.out) _)); done))
  exact ⟨⟨_, _, _, _, _, _, _, _, _, _, _, _, rfl, by unfold regOf; (simp [h7, h3, Ins.zero, Ins.val, u_nil]) <;> rfl⟩, by ((repeat (first | apply On.rowO | refine On.setO ?_ HL.out | apply On.alloc)); first | exact On.refl w | exact on_of HB.out)⟩
set_option maxRecDepth 100000 in
set_option maxHeartbeats 4000000 in
theorem rreg_true_1_5 (x : BitVec 32) (w : World) (h7 : fi x 31 25 = 1) (h3 : fi x 14 12 = 5) :
    Calls Tryd.prog 85 #[.int .i64 (fi x 14 12), .int .i64 (fi x 31 25), .bool true, .int .i64 (fi x 11 7), .int .i64 (fi x 19 15), .int .i64 (fi x 24 20)] w fun e w' => PartOf e (regOf x true) ∧ On w w' := by
  have HB := hb0 w
  go_enter Tryd.func85, Tryd.ntmps85
  go_wp2_with (first | (refine own_store w rfl rfl rfl rfl rfl (by simp [Value.oneCell']) ?_ ?_; focus ((repeat (first | exact heap_on HB.out | refine heap_past _ ?_ | refine heap_far ?_ (Nat.ne_of_gt HL.out) _)); done)))
  refine own_back2 w rfl rfl rfl rfl ?_ ?_; (focus ((repeat (first | exact heap_on HB.out | refine heap_past _ ?_ | refine heap_far ?_ (Nat.ne_of_gt HL.out) _)); done))
  exact ⟨⟨_, _, _, _, _, _, _, _, _, _, _, _, rfl, by unfold regOf; (simp [h7, h3, Ins.zero, Ins.val, u_nil]) <;> rfl⟩, by ((repeat (first | apply On.rowO | refine On.setO ?_ HL.out | apply On.alloc)); first | exact On.refl w | exact on_of HB.out)⟩
set_option maxRecDepth 100000 in
set_option maxHeartbeats 4000000 in
theorem rreg_true_1_6 (x : BitVec 32) (w : World) (h7 : fi x 31 25 = 1) (h3 : fi x 14 12 = 6) :
    Calls Tryd.prog 85 #[.int .i64 (fi x 14 12), .int .i64 (fi x 31 25), .bool true, .int .i64 (fi x 11 7), .int .i64 (fi x 19 15), .int .i64 (fi x 24 20)] w fun e w' => PartOf e (regOf x true) ∧ On w w' := by
  have HB := hb0 w
  go_enter Tryd.func85, Tryd.ntmps85
  go_wp2_with (first | (refine own_store w rfl rfl rfl rfl rfl (by simp [Value.oneCell']) ?_ ?_; focus ((repeat (first | exact heap_on HB.out | refine heap_past _ ?_ | refine heap_far ?_ (Nat.ne_of_gt HL.out) _)); done)))
  refine own_back2 w rfl rfl rfl rfl ?_ ?_; (focus ((repeat (first | exact heap_on HB.out | refine heap_past _ ?_ | refine heap_far ?_ (Nat.ne_of_gt HL.out) _)); done))
  exact ⟨⟨_, _, _, _, _, _, _, _, _, _, _, _, rfl, by unfold regOf; (simp [h7, h3, Ins.zero, Ins.val, u_nil]) <;> rfl⟩, by ((repeat (first | apply On.rowO | refine On.setO ?_ HL.out | apply On.alloc)); first | exact On.refl w | exact on_of HB.out)⟩
set_option maxRecDepth 100000 in
set_option maxHeartbeats 4000000 in
theorem rreg_true_1_7 (x : BitVec 32) (w : World) (h7 : fi x 31 25 = 1) (h3 : fi x 14 12 = 7) :
    Calls Tryd.prog 85 #[.int .i64 (fi x 14 12), .int .i64 (fi x 31 25), .bool true, .int .i64 (fi x 11 7), .int .i64 (fi x 19 15), .int .i64 (fi x 24 20)] w fun e w' => PartOf e (regOf x true) ∧ On w w' := by
  have HB := hb0 w
  go_enter Tryd.func85, Tryd.ntmps85
  go_wp2_with (first | (refine own_store w rfl rfl rfl rfl rfl (by simp [Value.oneCell']) ?_ ?_; focus ((repeat (first | exact heap_on HB.out | refine heap_past _ ?_ | refine heap_far ?_ (Nat.ne_of_gt HL.out) _)); done)))
  refine own_back2 w rfl rfl rfl rfl ?_ ?_; (focus ((repeat (first | exact heap_on HB.out | refine heap_past _ ?_ | refine heap_far ?_ (Nat.ne_of_gt HL.out) _)); done))
  exact ⟨⟨_, _, _, _, _, _, _, _, _, _, _, _, rfl, by unfold regOf; (simp [h7, h3, Ins.zero, Ins.val, u_nil]) <;> rfl⟩, by ((repeat (first | apply On.rowO | refine On.setO ?_ HL.out | apply On.alloc)); first | exact On.refl w | exact on_of HB.out)⟩
set_option maxRecDepth 100000 in
set_option maxHeartbeats 4000000 in
theorem rreg_true_32_0 (x : BitVec 32) (w : World) (h7 : fi x 31 25 = 32) (h3 : fi x 14 12 = 0) :
    Calls Tryd.prog 85 #[.int .i64 (fi x 14 12), .int .i64 (fi x 31 25), .bool true, .int .i64 (fi x 11 7), .int .i64 (fi x 19 15), .int .i64 (fi x 24 20)] w fun e w' => PartOf e (regOf x true) ∧ On w w' := by
  have HB := hb0 w
  go_enter Tryd.func85, Tryd.ntmps85
  go_wp2_with (first | (refine own_store w rfl rfl rfl rfl rfl (by simp [Value.oneCell']) ?_ ?_; focus ((repeat (first | exact heap_on HB.out | refine heap_past _ ?_ | refine heap_far ?_ (Nat.ne_of_gt HL.out) _)); done)))
  refine own_back2 w rfl rfl rfl rfl ?_ ?_; (focus ((repeat (first | exact heap_on HB.out | refine heap_past _ ?_ | refine heap_far ?_ (Nat.ne_of_gt HL.out) _)); done))
  exact ⟨⟨_, _, _, _, _, _, _, _, _, _, _, _, rfl, by unfold regOf; (simp [h7, h3, Ins.zero, Ins.val, u_nil]) <;> rfl⟩, by ((repeat (first | apply On.rowO | refine On.setO ?_ HL.out | apply On.alloc)); first | exact On.refl w | exact on_of HB.out)⟩
set_option maxRecDepth 100000 in
set_option maxHeartbeats 4000000 in
theorem rreg_true_32_1 (x : BitVec 32) (w : World) (h7 : fi x 31 25 = 32) (h3 : fi x 14 12 = 1) :
    Calls Tryd.prog 85 #[.int .i64 (fi x 14 12), .int .i64 (fi x 31 25), .bool true, .int .i64 (fi x 11 7), .int .i64 (fi x 19 15), .int .i64 (fi x 24 20)] w fun e w' => PartOf e (regOf x true) ∧ On w w' := by
  have HB := hb0 w
  go_enter Tryd.func85, Tryd.ntmps85
  go_wp2_with (first | (refine own_store w rfl rfl rfl rfl rfl (by simp [Value.oneCell']) ?_ ?_; focus ((repeat (first | exact heap_on HB.out | refine heap_past _ ?_ | refine heap_far ?_ (Nat.ne_of_gt HL.out) _)); done)))
  refine own_back2 w rfl rfl rfl rfl ?_ ?_; (focus ((repeat (first | exact heap_on HB.out | refine heap_past _ ?_ | refine heap_far ?_ (Nat.ne_of_gt HL.out) _)); done))
  exact ⟨⟨_, _, _, _, _, _, _, _, _, _, _, _, rfl, by unfold regOf; (simp [h7, h3, Ins.zero, Ins.val, u_nil]) <;> rfl⟩, by ((repeat (first | apply On.rowO | refine On.setO ?_ HL.out | apply On.alloc)); first | exact On.refl w | exact on_of HB.out)⟩
set_option maxRecDepth 100000 in
set_option maxHeartbeats 4000000 in
theorem rreg_true_32_2 (x : BitVec 32) (w : World) (h7 : fi x 31 25 = 32) (h3 : fi x 14 12 = 2) :
    Calls Tryd.prog 85 #[.int .i64 (fi x 14 12), .int .i64 (fi x 31 25), .bool true, .int .i64 (fi x 11 7), .int .i64 (fi x 19 15), .int .i64 (fi x 24 20)] w fun e w' => PartOf e (regOf x true) ∧ On w w' := by
  have HB := hb0 w
  go_enter Tryd.func85, Tryd.ntmps85
  go_wp2_with (first | (refine own_store w rfl rfl rfl rfl rfl (by simp [Value.oneCell']) ?_ ?_; focus ((repeat (first | exact heap_on HB.out | refine heap_past _ ?_ | refine heap_far ?_ (Nat.ne_of_gt HL.out) _)); done)))
  refine own_back2 w rfl rfl rfl rfl ?_ ?_; (focus ((repeat (first | exact heap_on HB.out | refine heap_past _ ?_ | refine heap_far ?_ (Nat.ne_of_gt HL.out) _)); done))
  exact ⟨⟨_, _, _, _, _, _, _, _, _, _, _, _, rfl, by unfold regOf; (simp [h7, h3, Ins.zero, Ins.val, u_nil]) <;> rfl⟩, by ((repeat (first | apply On.rowO | refine On.setO ?_ HL.out | apply On.alloc)); first | exact On.refl w | exact on_of HB.out)⟩
set_option maxRecDepth 100000 in
set_option maxHeartbeats 4000000 in
theorem rreg_true_32_3 (x : BitVec 32) (w : World) (h7 : fi x 31 25 = 32) (h3 : fi x 14 12 = 3) :
    Calls Tryd.prog 85 #[.int .i64 (fi x 14 12), .int .i64 (fi x 31 25), .bool true, .int .i64 (fi x 11 7), .int .i64 (fi x 19 15), .int .i64 (fi x 24 20)] w fun e w' => PartOf e (regOf x true) ∧ On w w' := by
  have HB := hb0 w
  go_enter Tryd.func85, Tryd.ntmps85
  go_wp2_with (first | (refine own_store w rfl rfl rfl rfl rfl (by simp [Value.oneCell']) ?_ ?_; focus ((repeat (first | exact heap_on HB.out | refine heap_past _ ?_ | refine heap_far ?_ (Nat.ne_of_gt HL.out) _)); done)))
  refine own_back2 w rfl rfl rfl rfl ?_ ?_; (focus ((repeat (first | exact heap_on HB.out | refine heap_past _ ?_ | refine heap_far ?_ (Nat.ne_of_gt HL.out) _)); done))
  exact ⟨⟨_, _, _, _, _, _, _, _, _, _, _, _, rfl, by unfold regOf; (simp [h7, h3, Ins.zero, Ins.val, u_nil]) <;> rfl⟩, by ((repeat (first | apply On.rowO | refine On.setO ?_ HL.out | apply On.alloc)); first | exact On.refl w | exact on_of HB.out)⟩
set_option maxRecDepth 100000 in
set_option maxHeartbeats 4000000 in
theorem rreg_true_32_4 (x : BitVec 32) (w : World) (h7 : fi x 31 25 = 32) (h3 : fi x 14 12 = 4) :
    Calls Tryd.prog 85 #[.int .i64 (fi x 14 12), .int .i64 (fi x 31 25), .bool true, .int .i64 (fi x 11 7), .int .i64 (fi x 19 15), .int .i64 (fi x 24 20)] w fun e w' => PartOf e (regOf x true) ∧ On w w' := by
  have HB := hb0 w
  go_enter Tryd.func85, Tryd.ntmps85
  go_wp2_with (first | (refine own_store w rfl rfl rfl rfl rfl (by simp [Value.oneCell']) ?_ ?_; focus ((repeat (first | exact heap_on HB.out | refine heap_past _ ?_ | refine heap_far ?_ (Nat.ne_of_gt HL.out) _)); done)))
  refine own_back2 w rfl rfl rfl rfl ?_ ?_; (focus ((repeat (first | exact heap_on HB.out | refine heap_past _ ?_ | refine heap_far ?_ (Nat.ne_of_gt HL.out) _)); done))
  exact ⟨⟨_, _, _, _, _, _, _, _, _, _, _, _, rfl, by unfold regOf; (simp [h7, h3, Ins.zero, Ins.val, u_nil]) <;> rfl⟩, by ((repeat (first | apply On.rowO | refine On.setO ?_ HL.out | apply On.alloc)); first | exact On.refl w | exact on_of HB.out)⟩
set_option maxRecDepth 100000 in
set_option maxHeartbeats 4000000 in
theorem rreg_true_32_5 (x : BitVec 32) (w : World) (h7 : fi x 31 25 = 32) (h3 : fi x 14 12 = 5) :
    Calls Tryd.prog 85 #[.int .i64 (fi x 14 12), .int .i64 (fi x 31 25), .bool true, .int .i64 (fi x 11 7), .int .i64 (fi x 19 15), .int .i64 (fi x 24 20)] w fun e w' => PartOf e (regOf x true) ∧ On w w' := by
  have HB := hb0 w
  go_enter Tryd.func85, Tryd.ntmps85
  go_wp2_with (first | (refine own_store w rfl rfl rfl rfl rfl (by simp [Value.oneCell']) ?_ ?_; focus ((repeat (first | exact heap_on HB.out | refine heap_past _ ?_ | refine heap_far ?_ (Nat.ne_of_gt HL.out) _)); done)))
  refine own_back2 w rfl rfl rfl rfl ?_ ?_; (focus ((repeat (first | exact heap_on HB.out | refine heap_past _ ?_ | refine heap_far ?_ (Nat.ne_of_gt HL.out) _)); done))
  exact ⟨⟨_, _, _, _, _, _, _, _, _, _, _, _, rfl, by unfold regOf; (simp [h7, h3, Ins.zero, Ins.val, u_nil]) <;> rfl⟩, by ((repeat (first | apply On.rowO | refine On.setO ?_ HL.out | apply On.alloc)); first | exact On.refl w | exact on_of HB.out)⟩
set_option maxRecDepth 100000 in
set_option maxHeartbeats 4000000 in
theorem rreg_true_32_6 (x : BitVec 32) (w : World) (h7 : fi x 31 25 = 32) (h3 : fi x 14 12 = 6) :
    Calls Tryd.prog 85 #[.int .i64 (fi x 14 12), .int .i64 (fi x 31 25), .bool true, .int .i64 (fi x 11 7), .int .i64 (fi x 19 15), .int .i64 (fi x 24 20)] w fun e w' => PartOf e (regOf x true) ∧ On w w' := by
  have HB := hb0 w
  go_enter Tryd.func85, Tryd.ntmps85
  go_wp2_with (first | (refine own_store w rfl rfl rfl rfl rfl (by simp [Value.oneCell']) ?_ ?_; focus ((repeat (first | exact heap_on HB.out | refine heap_past _ ?_ | refine heap_far ?_ (Nat.ne_of_gt HL.out) _)); done)))
  refine own_back2 w rfl rfl rfl rfl ?_ ?_; (focus ((repeat (first | exact heap_on HB.out | refine heap_past _ ?_ | refine heap_far ?_ (Nat.ne_of_gt HL.out) _)); done))
  exact ⟨⟨_, _, _, _, _, _, _, _, _, _, _, _, rfl, by unfold regOf; (simp [h7, h3, Ins.zero, Ins.val, u_nil]) <;> rfl⟩, by ((repeat (first | apply On.rowO | refine On.setO ?_ HL.out | apply On.alloc)); first | exact On.refl w | exact on_of HB.out)⟩
set_option maxRecDepth 100000 in
set_option maxHeartbeats 4000000 in
theorem rreg_true_32_7 (x : BitVec 32) (w : World) (h7 : fi x 31 25 = 32) (h3 : fi x 14 12 = 7) :
    Calls Tryd.prog 85 #[.int .i64 (fi x 14 12), .int .i64 (fi x 31 25), .bool true, .int .i64 (fi x 11 7), .int .i64 (fi x 19 15), .int .i64 (fi x 24 20)] w fun e w' => PartOf e (regOf x true) ∧ On w w' := by
  have HB := hb0 w
  go_enter Tryd.func85, Tryd.ntmps85
  go_wp2_with (first | (refine own_store w rfl rfl rfl rfl rfl (by simp [Value.oneCell']) ?_ ?_; focus ((repeat (first | exact heap_on HB.out | refine heap_past _ ?_ | refine heap_far ?_ (Nat.ne_of_gt HL.out) _)); done)))
  refine own_back2 w rfl rfl rfl rfl ?_ ?_; (focus ((repeat (first | exact heap_on HB.out | refine heap_past _ ?_ | refine heap_far ?_ (Nat.ne_of_gt HL.out) _)); done))
  exact ⟨⟨_, _, _, _, _, _, _, _, _, _, _, _, rfl, by unfold regOf; (simp [h7, h3, Ins.zero, Ins.val, u_nil]) <;> rfl⟩, by ((repeat (first | apply On.rowO | refine On.setO ?_ HL.out | apply On.alloc)); first | exact On.refl w | exact on_of HB.out)⟩
set_option maxRecDepth 100000 in
set_option maxHeartbeats 4000000 in
theorem rreg_true_n (x : BitVec 32) (w : World) (N : Hid (¬ fi x 31 25 = 0 ∧ ¬ fi x 31 25 = 1 ∧ ¬ fi x 31 25 = 32)) :
    Calls Tryd.prog 85 #[.int .i64 (fi x 14 12), .int .i64 (fi x 31 25), .bool true, .int .i64 (fi x 11 7), .int .i64 (fi x 19 15), .int .i64 (fi x 24 20)] w fun e w' => PartOf e (regOf x true) ∧ On w w' := by
  have b0 : (fi x 31 25 == 0) = false := by simpa using N.out.1
  have b1 : (fi x 31 25 == 1) = false := by simpa using N.out.2.1
  have b2 : (fi x 31 25 == 32) = false := by simpa using N.out.2.2
  have HB := hb0 w
  go_enter Tryd.func85, Tryd.ntmps85
  go_wp2_with (first | (refine own_store w rfl rfl rfl rfl rfl (by simp [Value.oneCell']) ?_ ?_; focus ((repeat (first | exact heap_on HB.out | refine heap_past _ ?_ | refine heap_far ?_ (Nat.ne_of_gt HL.out) _)); done)))
  refine own_back2 w rfl rfl rfl rfl ?_ ?_; (focus ((repeat (first | exact heap_on HB.out | refine heap_past _ ?_ | refine heap_far ?_ (Nat.ne_of_gt HL.out) _)); done))
  exact ⟨⟨_, _, _, _, _, _, _, _, _, _, _, _, rfl, by unfold regOf; (simp [N.out, Ins.zero, Ins.val, u_nil]) <;> rfl⟩, by ((repeat (first | apply On.rowO | refine On.setO ?_ HL.out | apply On.alloc)); first | exact On.refl w | exact on_of HB.out)⟩
theorem rreg_true_any (x : BitVec 32) (w : World) :
    Calls Tryd.prog 85 #[.int .i64 (fi x 14 12), .int .i64 (fi x 31 25), .bool true, .int .i64 (fi x 11 7), .int .i64 (fi x 19 15), .int .i64 (fi x 24 20)] w fun e w' => PartOf e (regOf x true) ∧ On w w' := by
  by_cases n0 : fi x 31 25 = 0
  · rcases f3_cases x with h3 | h3 | h3 | h3 | h3 | h3 | h3 | h3
    · exact rreg_true_0_0 x w n0 h3
    · exact rreg_true_0_1 x w n0 h3
    · exact rreg_true_0_2 x w n0 h3
    · exact rreg_true_0_3 x w n0 h3
    · exact rreg_true_0_4 x w n0 h3
    · exact rreg_true_0_5 x w n0 h3
    · exact rreg_true_0_6 x w n0 h3
    · exact rreg_true_0_7 x w n0 h3
  by_cases n1 : fi x 31 25 = 1
  · rcases f3_cases x with h3 | h3 | h3 | h3 | h3 | h3 | h3 | h3
    · exact rreg_true_1_0 x w n1 h3
    · exact rreg_true_1_1 x w n1 h3
    · exact rreg_true_1_2 x w n1 h3
    · exact rreg_true_1_3 x w n1 h3
    · exact rreg_true_1_4 x w n1 h3
    · exact rreg_true_1_5 x w n1 h3
    · exact rreg_true_1_6 x w n1 h3
    · exact rreg_true_1_7 x w n1 h3
  by_cases n32 : fi x 31 25 = 32
  · rcases f3_cases x with h3 | h3 | h3 | h3 | h3 | h3 | h3 | h3
    · exact rreg_true_32_0 x w n32 h3
    · exact rreg_true_32_1 x w n32 h3
    · exact rreg_true_32_2 x w n32 h3
    · exact rreg_true_32_3 x w n32 h3
    · exact rreg_true_32_4 x w n32 h3
    · exact rreg_true_32_5 x w n32 h3
    · exact rreg_true_32_6 x w n32 h3
    · exact rreg_true_32_7 x w n32 h3
  exact rreg_true_n x w (Lib.hid ⟨n0, n1, n32⟩)
end Go.Proofs.YtjnalgilkdoalaaDoor
