/- What rows come to in the reference: a. Conditions: named at each. -/
import Derived.Test.YtjnalgilkdoalaaDoorDec6
namespace Go.Proofs.YtjnalgilkdoalaaDoor
open Go.RowKit
set_option linter.unusedSimpArgs false

set_option maxRecDepth 100000 in
set_option maxHeartbeats 4000000 in
theorem ramo_0_2z (x : BitVec 32) (w : World) (h3 : fi x 14 12 = 0) (h5 : fi x 31 27 = 2) (h2 : fi x 24 20 = 0) :
    Calls Tryd.prog 86 #[.int .i64 (fi x 14 12), .int .i64 (fi x 31 27), .int .i64 (fi x 11 7), .int .i64 (fi x 19 15), .int .i64 (fi x 24 20)] w fun e w' => PartOf e (amoOf x) ∧ On w w' := by
  have HB := hb0 w
  go_enter Tryd.func86, Tryd.ntmps86
  go_wp2_with (first | (refine own_store w rfl rfl rfl rfl rfl (by simp [Value.oneCell']) ?_ ?_; focus ((repeat (first | exact heap_on HB.out | refine heap_past _ ?_ | refine heap_far ?_ (Nat.ne_of_gt HL.out) _)); done)))
  refine own_back2 w rfl rfl rfl rfl ?_ ?_; (focus ((repeat (first | exact heap_on HB.out | refine heap_past _ ?_ | refine heap_far ?_ (Nat.ne_of_gt HL.out) _)); done))
  exact ⟨⟨_, _, _, _, _, _, _, _, _, _, _, _, rfl, by unfold amoOf; (simp [h3, h5, h2, Ins.zero, Ins.val, u_nil]) <;> rfl⟩, by ((repeat (first | apply On.rowO | refine On.setO ?_ HL.out | apply On.alloc)); first | exact On.refl w | exact on_of HB.out)⟩
set_option maxRecDepth 100000 in
set_option maxHeartbeats 4000000 in
theorem ramo_0_2n (x : BitVec 32) (w : World) (h3 : fi x 14 12 = 0) (h5 : fi x 31 27 = 2) (H2 : Hid (¬ fi x 24 20 = 0)) :
    Calls Tryd.prog 86 #[.int .i64 (fi x 14 12), .int .i64 (fi x 31 27), .int .i64 (fi x 11 7), .int .i64 (fi x 19 15), .int .i64 (fi x 24 20)] w fun e w' => PartOf e (amoOf x) ∧ On w w' := by
  have b0 : (fi x 24 20 == 0) = false := by simpa using H2.out
  have HB := hb0 w
  go_enter Tryd.func86, Tryd.ntmps86
  go_wp2_with (first | (refine own_store w rfl rfl rfl rfl rfl (by simp [Value.oneCell']) ?_ ?_; focus ((repeat (first | exact heap_on HB.out | refine heap_past _ ?_ | refine heap_far ?_ (Nat.ne_of_gt HL.out) _)); done)))
  refine own_back2 w rfl rfl rfl rfl ?_ ?_; (focus ((repeat (first | exact heap_on HB.out | refine heap_past _ ?_ | refine heap_far ?_ (Nat.ne_of_gt HL.out) _)); done))
  exact ⟨⟨_, _, _, _, _, _, _, _, _, _, _, _, rfl, by unfold amoOf; (simp [h3, h5, H2.out, Ins.zero, Ins.val, u_nil]) <;> rfl⟩, by ((repeat (first | apply On.rowO | refine On.setO ?_ HL.out | apply On.alloc)); first | exact On.refl w | exact on_of HB.out)⟩
set_option maxRecDepth 100000 in
set_option maxHeartbeats 4000000 in
theorem ramo_0_3 (x : BitVec 32) (w : World) (h3 : fi x 14 12 = 0) (h5 : fi x 31 27 = 3) :
    Calls Tryd.prog 86 #[.int .i64 (fi x 14 12), .int .i64 (fi x 31 27), .int .i64 (fi x 11 7), .int .i64 (fi x 19 15), .int .i64 (fi x 24 20)] w fun e w' => PartOf e (amoOf x) ∧ On w w' := by
  have HB := hb0 w
  go_enter Tryd.func86, Tryd.ntmps86
  go_wp2_with (first | (refine own_store w rfl rfl rfl rfl rfl (by simp [Value.oneCell']) ?_ ?_; focus ((repeat (first | exact heap_on HB.out | refine heap_past _ ?_ | refine heap_far ?_ (Nat.ne_of_gt HL.out) _)); done)))
  refine own_back2 w rfl rfl rfl rfl ?_ ?_; (focus ((repeat (first | exact heap_on HB.out | refine heap_past _ ?_ | refine heap_far ?_ (Nat.ne_of_gt HL.out) _)); done))
  exact ⟨⟨_, _, _, _, _, _, _, _, _, _, _, _, rfl, by unfold amoOf; (simp [h3, h5, Ins.zero, Ins.val, u_nil]) <;> rfl⟩, by ((repeat (first | apply On.rowO | refine On.setO ?_ HL.out | apply On.alloc)); first | exact On.refl w | exact on_of HB.out)⟩
set_option maxRecDepth 100000 in
set_option maxHeartbeats 4000000 in
theorem ramo_0_0 (x : BitVec 32) (w : World) (h3 : fi x 14 12 = 0) (h5 : fi x 31 27 = 0) :
    Calls Tryd.prog 86 #[.int .i64 (fi x 14 12), .int .i64 (fi x 31 27), .int .i64 (fi x 11 7), .int .i64 (fi x 19 15), .int .i64 (fi x 24 20)] w fun e w' => PartOf e (amoOf x) ∧ On w w' := by
  have HB := hb0 w
  go_enter Tryd.func86, Tryd.ntmps86
  go_wp2_with (first | (refine own_store w rfl rfl rfl rfl rfl (by simp [Value.oneCell']) ?_ ?_; focus ((repeat (first | exact heap_on HB.out | refine heap_past _ ?_ | refine heap_far ?_ (Nat.ne_of_gt HL.out) _)); done)))
  refine own_back2 w rfl rfl rfl rfl ?_ ?_; (focus ((repeat (first | exact heap_on HB.out | refine heap_past _ ?_ | refine heap_far ?_ (Nat.ne_of_gt HL.out) _)); done))
  exact ⟨⟨_, _, _, _, _, _, _, _, _, _, _, _, rfl, by unfold amoOf; (simp [h3, h5, Ins.zero, Ins.val, u_nil]) <;> rfl⟩, by ((repeat (first | apply On.rowO | refine On.setO ?_ HL.out | apply On.alloc)); first | exact On.refl w | exact on_of HB.out)⟩
set_option maxRecDepth 100000 in
set_option maxHeartbeats 4000000 in
theorem ramo_0_1 (x : BitVec 32) (w : World) (h3 : fi x 14 12 = 0) (h5 : fi x 31 27 = 1) :
    Calls Tryd.prog 86 #[.int .i64 (fi x 14 12), .int .i64 (fi x 31 27), .int .i64 (fi x 11 7), .int .i64 (fi x 19 15), .int .i64 (fi x 24 20)] w fun e w' => PartOf e (amoOf x) ∧ On w w' := by
  have HB := hb0 w
  go_enter Tryd.func86, Tryd.ntmps86
  go_wp2_with (first | (refine own_store w rfl rfl rfl rfl rfl (by simp [Value.oneCell']) ?_ ?_; focus ((repeat (first | exact heap_on HB.out | refine heap_past _ ?_ | refine heap_far ?_ (Nat.ne_of_gt HL.out) _)); done)))
  refine own_back2 w rfl rfl rfl rfl ?_ ?_; (focus ((repeat (first | exact heap_on HB.out | refine heap_past _ ?_ | refine heap_far ?_ (Nat.ne_of_gt HL.out) _)); done))
  exact ⟨⟨_, _, _, _, _, _, _, _, _, _, _, _, rfl, by unfold amoOf; (simp [h3, h5, Ins.zero, Ins.val, u_nil]) <;> rfl⟩, by ((repeat (first | apply On.rowO | refine On.setO ?_ HL.out | apply On.alloc)); first | exact On.refl w | exact on_of HB.out)⟩
set_option maxRecDepth 100000 in
set_option maxHeartbeats 4000000 in
theorem ramo_0_4 (x : BitVec 32) (w : World) (h3 : fi x 14 12 = 0) (h5 : fi x 31 27 = 4) :
    Calls Tryd.prog 86 #[.int .i64 (fi x 14 12), .int .i64 (fi x 31 27), .int .i64 (fi x 11 7), .int .i64 (fi x 19 15), .int .i64 (fi x 24 20)] w fun e w' => PartOf e (amoOf x) ∧ On w w' := by
  have HB := hb0 w
  go_enter Tryd.func86, Tryd.ntmps86
  go_wp2_with (first | (refine own_store w rfl rfl rfl rfl rfl (by simp [Value.oneCell']) ?_ ?_; focus ((repeat (first | exact heap_on HB.out | refine heap_past _ ?_ | refine heap_far ?_ (Nat.ne_of_gt HL.out) _)); done)))
  refine own_back2 w rfl rfl rfl rfl ?_ ?_; (focus ((repeat (first | exact heap_on HB.out | refine heap_past _ ?_ | refine heap_far ?_ (Nat.ne_of_gt HL.out) _)); done))
  exact ⟨⟨_, _, _, _, _, _, _, _, _, _, _, _, rfl, by unfold amoOf; (simp [h3, h5, Ins.zero, Ins.val, u_nil]) <;> rfl⟩, by ((repeat (first | apply On.rowO | refine On.setO ?_ HL.out | apply On.alloc)); first | exact On.refl w | exact on_of HB.out)⟩
set_option maxRecDepth 100000 in
set_option maxHeartbeats 4000000 in
theorem ramo_0_8 (x : BitVec 32) (w : World) (h3 : fi x 14 12 = 0) (h5 : fi x 31 27 = 8) :
    Calls Tryd.prog 86 #[.int .i64 (fi x 14 12), .int .i64 (fi x 31 27), .int .i64 (fi x 11 7), .int .i64 (fi x 19 15), .int .i64 (fi x 24 20)] w fun e w' => PartOf e (amoOf x) ∧ On w w' := by
  have HB := hb0 w
  go_enter Tryd.func86, Tryd.ntmps86
  go_wp2_with (first | (refine own_store w rfl rfl rfl rfl rfl (by simp [Value.oneCell']) ?_ ?_; focus ((repeat (first | exact heap_on HB.out | refine heap_past _ ?_ | refine heap_far ?_ (Nat.ne_of_gt HL.out) _)); done)))
  refine own_back2 w rfl rfl rfl rfl ?_ ?_; (focus ((repeat (first | exact heap_on HB.out | refine heap_past _ ?_ | refine heap_far ?_ (Nat.ne_of_gt HL.out) _)); done))
  exact ⟨⟨_, _, _, _, _, _, _, _, _, _, _, _, rfl, by unfold amoOf; (simp [h3, h5, Ins.zero, Ins.val, u_nil]) <;> rfl⟩, by ((repeat (first | apply On.rowO | refine On.setO ?_ HL.out | apply On.alloc)); first | exact On.refl w | exact on_of HB.out)⟩
set_option maxRecDepth 100000 in
set_option maxHeartbeats 4000000 in
theorem ramo_0_12 (x : BitVec 32) (w : World) (h3 : fi x 14 12 = 0) (h5 : fi x 31 27 = 12) :
    Calls Tryd.prog 86 #[.int .i64 (fi x 14 12), .int .i64 (fi x 31 27), .int .i64 (fi x 11 7), .int .i64 (fi x 19 15), .int .i64 (fi x 24 20)] w fun e w' => PartOf e (amoOf x) ∧ On w w' := by
  have HB := hb0 w
  go_enter Tryd.func86, Tryd.ntmps86
  go_wp2_with (first | (refine own_store w rfl rfl rfl rfl rfl (by simp [Value.oneCell']) ?_ ?_; focus ((repeat (first | exact heap_on HB.out | refine heap_past _ ?_ | refine heap_far ?_ (Nat.ne_of_gt HL.out) _)); done)))
  refine own_back2 w rfl rfl rfl rfl ?_ ?_; (focus ((repeat (first | exact heap_on HB.out | refine heap_past _ ?_ | refine heap_far ?_ (Nat.ne_of_gt HL.out) _)); done))
  exact ⟨⟨_, _, _, _, _, _, _, _, _, _, _, _, rfl, by unfold amoOf; (simp [h3, h5, Ins.zero, Ins.val, u_nil]) <;> rfl⟩, by ((repeat (first | apply On.rowO | refine On.setO ?_ HL.out | apply On.alloc)); first | exact On.refl w | exact on_of HB.out)⟩
set_option maxRecDepth 100000 in
set_option maxHeartbeats 4000000 in
theorem ramo_0_16 (x : BitVec 32) (w : World) (h3 : fi x 14 12 = 0) (h5 : fi x 31 27 = 16) :
    Calls Tryd.prog 86 #[.int .i64 (fi x 14 12), .int .i64 (fi x 31 27), .int .i64 (fi x 11 7), .int .i64 (fi x 19 15), .int .i64 (fi x 24 20)] w fun e w' => PartOf e (amoOf x) ∧ On w w' := by
  have HB := hb0 w
  go_enter Tryd.func86, Tryd.ntmps86
  go_wp2_with (first | (refine own_store w rfl rfl rfl rfl rfl (by simp [Value.oneCell']) ?_ ?_; focus ((repeat (first | exact heap_on HB.out | refine heap_past _ ?_ | refine heap_far ?_ (Nat.ne_of_gt HL.out) _)); done)))
  refine own_back2 w rfl rfl rfl rfl ?_ ?_; (focus ((repeat (first | exact heap_on HB.out | refine heap_past _ ?_ | refine heap_far ?_ (Nat.ne_of_gt HL.out) _)); done))
  exact ⟨⟨_, _, _, _, _, _, _, _, _, _, _, _, rfl, by unfold amoOf; (simp [h3, h5, Ins.zero, Ins.val, u_nil]) <;> rfl⟩, by ((repeat (first | apply On.rowO | refine On.setO ?_ HL.out | apply On.alloc)); first | exact On.refl w | exact on_of HB.out)⟩
set_option maxRecDepth 100000 in
set_option maxHeartbeats 4000000 in
theorem ramo_0_20 (x : BitVec 32) (w : World) (h3 : fi x 14 12 = 0) (h5 : fi x 31 27 = 20) :
    Calls Tryd.prog 86 #[.int .i64 (fi x 14 12), .int .i64 (fi x 31 27), .int .i64 (fi x 11 7), .int .i64 (fi x 19 15), .int .i64 (fi x 24 20)] w fun e w' => PartOf e (amoOf x) ∧ On w w' := by
  have HB := hb0 w
  go_enter Tryd.func86, Tryd.ntmps86
  go_wp2_with (first | (refine own_store w rfl rfl rfl rfl rfl (by simp [Value.oneCell']) ?_ ?_; focus ((repeat (first | exact heap_on HB.out | refine heap_past _ ?_ | refine heap_far ?_ (Nat.ne_of_gt HL.out) _)); done)))
  refine own_back2 w rfl rfl rfl rfl ?_ ?_; (focus ((repeat (first | exact heap_on HB.out | refine heap_past _ ?_ | refine heap_far ?_ (Nat.ne_of_gt HL.out) _)); done))
  exact ⟨⟨_, _, _, _, _, _, _, _, _, _, _, _, rfl, by unfold amoOf; (simp [h3, h5, Ins.zero, Ins.val, u_nil]) <;> rfl⟩, by ((repeat (first | apply On.rowO | refine On.setO ?_ HL.out | apply On.alloc)); first | exact On.refl w | exact on_of HB.out)⟩
set_option maxRecDepth 100000 in
set_option maxHeartbeats 4000000 in
theorem ramo_0_24 (x : BitVec 32) (w : World) (h3 : fi x 14 12 = 0) (h5 : fi x 31 27 = 24) :
    Calls Tryd.prog 86 #[.int .i64 (fi x 14 12), .int .i64 (fi x 31 27), .int .i64 (fi x 11 7), .int .i64 (fi x 19 15), .int .i64 (fi x 24 20)] w fun e w' => PartOf e (amoOf x) ∧ On w w' := by
  have HB := hb0 w
  go_enter Tryd.func86, Tryd.ntmps86
  go_wp2_with (first | (refine own_store w rfl rfl rfl rfl rfl (by simp [Value.oneCell']) ?_ ?_; focus ((repeat (first | exact heap_on HB.out | refine heap_past _ ?_ | refine heap_far ?_ (Nat.ne_of_gt HL.out) _)); done)))
  refine own_back2 w rfl rfl rfl rfl ?_ ?_; (focus ((repeat (first | exact heap_on HB.out | refine heap_past _ ?_ | refine heap_far ?_ (Nat.ne_of_gt HL.out) _)); done))
  exact ⟨⟨_, _, _, _, _, _, _, _, _, _, _, _, rfl, by unfold amoOf; (simp [h3, h5, Ins.zero, Ins.val, u_nil]) <;> rfl⟩, by ((repeat (first | apply On.rowO | refine On.setO ?_ HL.out | apply On.alloc)); first | exact On.refl w | exact on_of HB.out)⟩
set_option maxRecDepth 100000 in
set_option maxHeartbeats 4000000 in
theorem ramo_0_28 (x : BitVec 32) (w : World) (h3 : fi x 14 12 = 0) (h5 : fi x 31 27 = 28) :
    Calls Tryd.prog 86 #[.int .i64 (fi x 14 12), .int .i64 (fi x 31 27), .int .i64 (fi x 11 7), .int .i64 (fi x 19 15), .int .i64 (fi x 24 20)] w fun e w' => PartOf e (amoOf x) ∧ On w w' := by
  have HB := hb0 w
  go_enter Tryd.func86, Tryd.ntmps86
  go_wp2_with (first | (refine own_store w rfl rfl rfl rfl rfl (by simp [Value.oneCell']) ?_ ?_; focus ((repeat (first | exact heap_on HB.out | refine heap_past _ ?_ | refine heap_far ?_ (Nat.ne_of_gt HL.out) _)); done)))
  refine own_back2 w rfl rfl rfl rfl ?_ ?_; (focus ((repeat (first | exact heap_on HB.out | refine heap_past _ ?_ | refine heap_far ?_ (Nat.ne_of_gt HL.out) _)); done))
  exact ⟨⟨_, _, _, _, _, _, _, _, _, _, _, _, rfl, by unfold amoOf; (simp [h3, h5, Ins.zero, Ins.val, u_nil]) <;> rfl⟩, by ((repeat (first | apply On.rowO | refine On.setO ?_ HL.out | apply On.alloc)); first | exact On.refl w | exact on_of HB.out)⟩
set_option maxRecDepth 100000 in
set_option maxHeartbeats 4000000 in
theorem ramo_0_n (x : BitVec 32) (w : World) (h3 : fi x 14 12 = 0) (N : Hid (¬ fi x 31 27 = 2 ∧ ¬ fi x 31 27 = 3 ∧ ¬ fi x 31 27 = 0 ∧ ¬ fi x 31 27 = 1 ∧ ¬ fi x 31 27 = 4 ∧ ¬ fi x 31 27 = 8 ∧ ¬ fi x 31 27 = 12 ∧ ¬ fi x 31 27 = 16 ∧ ¬ fi x 31 27 = 20 ∧ ¬ fi x 31 27 = 24 ∧ ¬ fi x 31 27 = 28)) :
    Calls Tryd.prog 86 #[.int .i64 (fi x 14 12), .int .i64 (fi x 31 27), .int .i64 (fi x 11 7), .int .i64 (fi x 19 15), .int .i64 (fi x 24 20)] w fun e w' => PartOf e (amoOf x) ∧ On w w' := by
  have b0 : (fi x 31 27 == 2) = false := by simpa using N.out.1
  have b1 : (fi x 31 27 == 3) = false := by simpa using N.out.2.1
  have b2 : (fi x 31 27 == 0) = false := by simpa using N.out.2.2.1
  have b3 : (fi x 31 27 == 1) = false := by simpa using N.out.2.2.2.1
  have b4 : (fi x 31 27 == 4) = false := by simpa using N.out.2.2.2.2.1
  have b5 : (fi x 31 27 == 8) = false := by simpa using N.out.2.2.2.2.2.1
  have b6 : (fi x 31 27 == 12) = false := by simpa using N.out.2.2.2.2.2.2.1
  have b7 : (fi x 31 27 == 16) = false := by simpa using N.out.2.2.2.2.2.2.2.1
  have b8 : (fi x 31 27 == 20) = false := by simpa using N.out.2.2.2.2.2.2.2.2.1
  have b9 : (fi x 31 27 == 24) = false := by simpa using N.out.2.2.2.2.2.2.2.2.2.1
  have b10 : (fi x 31 27 == 28) = false := by simpa using N.out.2.2.2.2.2.2.2.2.2.2
  have HB := hb0 w
  go_enter Tryd.func86, Tryd.ntmps86
  go_wp2_with (first | (refine own_store w rfl rfl rfl rfl rfl (by simp [Value.oneCell']) ?_ ?_; focus ((repeat (first | exact heap_on HB.out | refine heap_past _ ?_ | refine heap_far ?_ (Nat.ne_of_gt HL.out) _)); done)))
  refine own_back2 w rfl rfl rfl rfl ?_ ?_; (focus ((repeat (first | exact heap_on HB.out | refine heap_past _ ?_ | refine heap_far ?_ (Nat.ne_of_gt HL.out) _)); done))
  exact ⟨⟨_, _, _, _, _, _, _, _, _, _, _, _, rfl, by unfold amoOf; (simp [h3, N.out, Ins.zero, Ins.val, u_nil]) <;> rfl⟩, by ((repeat (first | apply On.rowO | refine On.setO ?_ HL.out | apply On.alloc)); first | exact On.refl w | exact on_of HB.out)⟩
set_option maxRecDepth 100000 in
set_option maxHeartbeats 4000000 in
theorem ramo_1_2z (x : BitVec 32) (w : World) (h3 : fi x 14 12 = 1) (h5 : fi x 31 27 = 2) (h2 : fi x 24 20 = 0) :
    Calls Tryd.prog 86 #[.int .i64 (fi x 14 12), .int .i64 (fi x 31 27), .int .i64 (fi x 11 7), .int .i64 (fi x 19 15), .int .i64 (fi x 24 20)] w fun e w' => PartOf e (amoOf x) ∧ On w w' := by
  have HB := hb0 w
  go_enter Tryd.func86, Tryd.ntmps86
  go_wp2_with (first | (refine own_store w rfl rfl rfl rfl rfl (by simp [Value.oneCell']) ?_ ?_; focus ((repeat (first | exact heap_on HB.out | refine heap_past _ ?_ | refine heap_far ?_ (Nat.ne_of_gt HL.out) _)); done)))
  refine own_back2 w rfl rfl rfl rfl ?_ ?_; (focus ((repeat (first | exact heap_on HB.out | refine heap_past _ ?_ | refine heap_far ?_ (Nat.ne_of_gt HL.out) _)); done))
  exact ⟨⟨_, _, _, _, _, _, _, _, _, _, _, _, rfl, by unfold amoOf; (simp [h3, h5, h2, Ins.zero, Ins.val, u_nil]) <;> rfl⟩, by ((repeat (first | apply On.rowO | refine On.setO ?_ HL.out | apply On.alloc)); first | exact On.refl w | exact on_of HB.out)⟩
set_option maxRecDepth 100000 in
set_option maxHeartbeats 4000000 in
theorem ramo_1_2n (x : BitVec 32) (w : World) (h3 : fi x 14 12 = 1) (h5 : fi x 31 27 = 2) (H2 : Hid (¬ fi x 24 20 = 0)) :
    Calls Tryd.prog 86 #[.int .i64 (fi x 14 12), .int .i64 (fi x 31 27), .int .i64 (fi x 11 7), .int .i64 (fi x 19 15), .int .i64 (fi x 24 20)] w fun e w' => PartOf e (amoOf x) ∧ On w w' := by
  have b0 : (fi x 24 20 == 0) = false := by simpa using H2.out
  have HB := hb0 w
  go_enter Tryd.func86, Tryd.ntmps86
  go_wp2_with (first | (refine own_store w rfl rfl rfl rfl rfl (by simp [Value.oneCell']) ?_ ?_; focus ((repeat (first | exact heap_on HB.out | refine heap_past _ ?_ | refine heap_far ?_ (Nat.ne_of_gt HL.out) _)); done)))
  refine own_back2 w rfl rfl rfl rfl ?_ ?_; (focus ((repeat (first | exact heap_on HB.out | refine heap_past _ ?_ | refine heap_far ?_ (Nat.ne_of_gt HL.out) _)); done))
  exact ⟨⟨_, _, _, _, _, _, _, _, _, _, _, _, rfl, by unfold amoOf; (simp [h3, h5, H2.out, Ins.zero, Ins.val, u_nil]) <;> rfl⟩, by ((repeat (first | apply On.rowO | refine On.setO ?_ HL.out | apply On.alloc)); first | exact On.refl w | exact on_of HB.out)⟩
set_option maxRecDepth 100000 in
set_option maxHeartbeats 4000000 in
theorem ramo_1_3 (x : BitVec 32) (w : World) (h3 : fi x 14 12 = 1) (h5 : fi x 31 27 = 3) :
    Calls Tryd.prog 86 #[.int .i64 (fi x 14 12), .int .i64 (fi x 31 27), .int .i64 (fi x 11 7), .int .i64 (fi x 19 15), .int .i64 (fi x 24 20)] w fun e w' => PartOf e (amoOf x) ∧ On w w' := by
  have HB := hb0 w
  go_enter Tryd.func86, Tryd.ntmps86
  go_wp2_with (first | (refine own_store w rfl rfl rfl rfl rfl (by simp [Value.oneCell']) ?_ ?_; focus ((repeat (first | exact heap_on HB.out | refine heap_past _ ?_ | refine heap_far ?_ (Nat.ne_of_gt HL.out) _)); done)))
  refine own_back2 w rfl rfl rfl rfl ?_ ?_; (focus ((repeat (first | exact heap_on HB.out | refine heap_past _ ?_ | refine heap_far ?_ (Nat.ne_of_gt HL.out) _)); done))
  exact ⟨⟨_, _, _, _, _, _, _, _, _, _, _, _, rfl, by unfold amoOf; (simp [h3, h5, Ins.zero, Ins.val, u_nil]) <;> rfl⟩, by ((repeat (first | apply On.rowO | refine On.setO ?_ HL.out | apply On.alloc)); first | exact On.refl w | exact on_of HB.out)⟩
set_option maxRecDepth 100000 in
set_option maxHeartbeats 4000000 in
theorem ramo_1_0 (x : BitVec 32) (w : World) (h3 : fi x 14 12 = 1) (h5 : fi x 31 27 = 0) :
    Calls Tryd.prog 86 #[.int .i64 (fi x 14 12), .int .i64 (fi x 31 27), .int .i64 (fi x 11 7), .int .i64 (fi x 19 15), .int .i64 (fi x 24 20)] w fun e w' => PartOf e (amoOf x) ∧ On w w' := by
  have HB := hb0 w
  go_enter Tryd.func86, Tryd.ntmps86
  go_wp2_with (first | (refine own_store w rfl rfl rfl rfl rfl (by simp [Value.oneCell']) ?_ ?_; focus ((repeat (first | exact heap_on HB.out | refine heap_past _ ?_ | refine heap_far ?_ (Nat.ne_of_gt HL.out) _)); done)))
  refine own_back2 w rfl rfl rfl rfl ?_ ?_; (focus ((repeat (first | exact heap_on HB.out | refine heap_past _ ?_ | refine heap_far ?_ (Nat.ne_of_gt HL.out) _)); done))
  exact ⟨⟨_, _, _, _, _, _, _, _, _, _, _, _, rfl, by unfold amoOf; (simp [h3, h5, Ins.zero, Ins.val, u_nil]) <;> rfl⟩, by ((repeat (first | apply On.rowO | refine On.setO ?_ HL.out | apply On.alloc)); first | exact On.refl w | exact on_of HB.out)⟩
set_option maxRecDepth 100000 in
set_option maxHeartbeats 4000000 in
theorem ramo_1_1 (x : BitVec 32) (w : World) (h3 : fi x 14 12 = 1) (h5 : fi x 31 27 = 1) :
    Calls Tryd.prog 86 #[.int .i64 (fi x 14 12), .int .i64 (fi x 31 27), .int .i64 (fi x 11 7), .int .i64 (fi x 19 15), .int .i64 (fi x 24 20)] w fun e w' => PartOf e (amoOf x) ∧ On w w' := by
  have HB := hb0 w
  go_enter Tryd.func86, Tryd.ntmps86
  go_wp2_with (first | (refine own_store w rfl rfl rfl rfl rfl (by simp [Value.oneCell']) ?_ ?_; focus ((repeat (first | exact heap_on HB.out | refine heap_past _ ?_ | refine heap_far ?_ (Nat.ne_of_gt HL.out) _)); done)))
  refine own_back2 w rfl rfl rfl rfl ?_ ?_; (focus ((repeat (first | exact heap_on HB.out | refine heap_past _ ?_ | refine heap_far ?_ (Nat.ne_of_gt HL.out) _)); done))
  exact ⟨⟨_, _, _, _, _, _, _, _, _, _, _, _, rfl, by unfold amoOf; (simp [h3, h5, Ins.zero, Ins.val, u_nil]) <;> rfl⟩, by ((repeat (first | apply On.rowO | refine On.setO ?_ HL.out | apply On.alloc)); first | exact On.refl w | exact on_of HB.out)⟩
set_option maxRecDepth 100000 in
set_option maxHeartbeats 4000000 in
theorem ramo_1_4 (x : BitVec 32) (w : World) (h3 : fi x 14 12 = 1) (h5 : fi x 31 27 = 4) :
    Calls Tryd.prog 86 #[.int .i64 (fi x 14 12), .int .i64 (fi x 31 27), .int .i64 (fi x 11 7), .int .i64 (fi x 19 15), .int .i64 (fi x 24 20)] w fun e w' => PartOf e (amoOf x) ∧ On w w' := by
  have HB := hb0 w
  go_enter Tryd.func86, Tryd.ntmps86
  go_wp2_with (first | (refine own_store w rfl rfl rfl rfl rfl (by simp [Value.oneCell']) ?_ ?_; focus ((repeat (first | exact heap_on HB.out | refine heap_past _ ?_ | refine heap_far ?_ (Nat.ne_of_gt HL.out) _)); done)))
  refine own_back2 w rfl rfl rfl rfl ?_ ?_; (focus ((repeat (first | exact heap_on HB.out | refine heap_past _ ?_ | refine heap_far ?_ (Nat.ne_of_gt HL.out) _)); done))
  exact ⟨⟨_, _, _, _, _, _, _, _, _, _, _, _, rfl, by unfold amoOf; (simp [h3, h5, Ins.zero, Ins.val, u_nil]) <;> rfl⟩, by ((repeat (first | apply On.rowO | refine On.setO ?_ HL.out | apply On.alloc)); first | exact On.refl w | exact on_of HB.out)⟩
set_option maxRecDepth 100000 in
set_option maxHeartbeats 4000000 in
theorem ramo_1_8 (x : BitVec 32) (w : World) (h3 : fi x 14 12 = 1) (h5 : fi x 31 27 = 8) :
    Calls Tryd.prog 86 #[.int .i64 (fi x 14 12), .int .i64 (fi x 31 27), .int .i64 (fi x 11 7), .int .i64 (fi x 19 15), .int .i64 (fi x 24 20)] w fun e w' => PartOf e (amoOf x) ∧ On w w' := by
  have HB := hb0 w
  go_enter Tryd.func86, Tryd.ntmps86
  go_wp2_with (first | (refine own_store w rfl rfl rfl rfl rfl (by simp [Value.oneCell']) ?_ ?_; focus ((repeat (first | exact heap_on HB.out | refine heap_past _ ?_ | refine heap_far ?_ (Nat.ne_of_gt HL.out) _)); done)))
  refine own_back2 w rfl rfl rfl rfl ?_ ?_; (focus ((repeat (first | exact heap_on HB.out | refine heap_past _ ?_ | refine heap_far ?_ (Nat.ne_of_gt HL.out) _)); done))
  exact ⟨⟨_, _, _, _, _, _, _, _, _, _, _, _, rfl, by unfold amoOf; (simp [h3, h5, Ins.zero, Ins.val, u_nil]) <;> rfl⟩, by ((repeat (first | apply On.rowO | refine On.setO ?_ HL.out | apply On.alloc)); first | exact On.refl w | exact on_of HB.out)⟩
set_option maxRecDepth 100000 in
set_option maxHeartbeats 4000000 in
theorem ramo_1_12 (x : BitVec 32) (w : World) (h3 : fi x 14 12 = 1) (h5 : fi x 31 27 = 12) :
    Calls Tryd.prog 86 #[.int .i64 (fi x 14 12), .int .i64 (fi x 31 27), .int .i64 (fi x 11 7), .int .i64 (fi x 19 15), .int .i64 (fi x 24 20)] w fun e w' => PartOf e (amoOf x) ∧ On w w' := by
  have HB := hb0 w
  go_enter Tryd.func86, Tryd.ntmps86
  go_wp2_with (first | (refine own_store w rfl rfl rfl rfl rfl (by simp [Value.oneCell']) ?_ ?_; focus ((repeat (first | exact heap_on HB.out | refine heap_past _ ?_ | refine heap_far ?_ (Nat.ne_of_gt HL.out) _)); done)))
  refine own_back2 w rfl rfl rfl rfl ?_ ?_; (focus ((repeat (first | exact heap_on HB.out | refine heap_past _ ?_ | refine heap_far ?_ (Nat.ne_of_gt HL.out) _)); done))
  exact ⟨⟨_, _, _, _, _, _, _, _, _, _, _, _, rfl, by unfold amoOf; (simp [h3, h5, Ins.zero, Ins.val, u_nil]) <;> rfl⟩, by ((repeat (first | apply On.rowO | refine On.setO ?_ HL.out | apply On.alloc)); first | exact On.refl w | exact on_of HB.out)⟩
set_option maxRecDepth 100000 in
set_option maxHeartbeats 4000000 in
theorem ramo_1_16 (x : BitVec 32) (w : World) (h3 : fi x 14 12 = 1) (h5 : fi x 31 27 = 16) :
    Calls Tryd.prog 86 #[.int .i64 (fi x 14 12), .int .i64 (fi x 31 27), .int .i64 (fi x 11 7), .int .i64 (fi x 19 15), .int .i64 (fi x 24 20)] w fun e w' => PartOf e (amoOf x) ∧ On w w' := by
  have HB := hb0 w
  go_enter Tryd.func86, Tryd.ntmps86
  go_wp2_with (first | (refine own_store w rfl rfl rfl rfl rfl (by simp [Value.oneCell']) ?_ ?_; focus ((repeat (first | exact heap_on HB.out | refine heap_past _ ?_ | refine heap_far ?_ (Nat.ne_of_gt HL.out) _)); done)))
  refine own_back2 w rfl rfl rfl rfl ?_ ?_; (focus ((repeat (first | exact heap_on HB.out | refine heap_past _ ?_ | refine heap_far ?_ (Nat.ne_of_gt HL.out) _)); done))
  exact ⟨⟨_, _, _, _, _, _, _, _, _, _, _, _, rfl, by unfold amoOf; (simp [h3, h5, Ins.zero, Ins.val, u_nil]) <;> rfl⟩, by ((repeat (first | apply On.rowO | refine On.setO ?_ HL.out | apply On.alloc)); first | exact On.refl w | exact on_of HB.out)⟩
set_option maxRecDepth 100000 in
set_option maxHeartbeats 4000000 in
theorem ramo_1_20 (x : BitVec 32) (w : World) (h3 : fi x 14 12 = 1) (h5 : fi x 31 27 = 20) :
    Calls Tryd.prog 86 #[.int .i64 (fi x 14 12), .int .i64 (fi x 31 27), .int .i64 (fi x 11 7), .int .i64 (fi x 19 15), .int .i64 (fi x 24 20)] w fun e w' => PartOf e (amoOf x) ∧ On w w' := by
  have HB := hb0 w
  go_enter Tryd.func86, Tryd.ntmps86
  go_wp2_with (first | (refine own_store w rfl rfl rfl rfl rfl (by simp [Value.oneCell']) ?_ ?_; focus ((repeat (first | exact heap_on HB.out | refine heap_past _ ?_ | refine heap_far ?_ (Nat.ne_of_gt HL.out) _)); done)))
  refine own_back2 w rfl rfl rfl rfl ?_ ?_; (focus ((repeat (first | exact heap_on HB.out | refine heap_past _ ?_ | refine heap_far ?_ (Nat.ne_of_gt HL.out) _)); done))
  exact ⟨⟨_, _, _, _, _, _, _, _, _, _, _, _, rfl, by unfold amoOf; (simp [h3, h5, Ins.zero, Ins.val, u_nil]) <;> rfl⟩, by ((repeat (first | apply On.rowO | refine On.setO ?_ HL.out | apply On.alloc)); first | exact On.refl w | exact on_of HB.out)⟩
set_option maxRecDepth 100000 in
set_option maxHeartbeats 4000000 in
theorem ramo_1_24 (x : BitVec 32) (w : World) (h3 : fi x 14 12 = 1) (h5 : fi x 31 27 = 24) :
    Calls Tryd.prog 86 #[.int .i64 (fi x 14 12), .int .i64 (fi x 31 27), .int .i64 (fi x 11 7), .int .i64 (fi x 19 15), .int .i64 (fi x 24 20)] w fun e w' => PartOf e (amoOf x) ∧ On w w' := by
  have HB := hb0 w
  go_enter Tryd.func86, Tryd.ntmps86
  go_wp2_with (first | (refine own_store w rfl rfl rfl rfl rfl (by simp [Value.oneCell']) ?_ ?_; focus ((repeat (first | exact heap_on HB.out | refine heap_past _ ?_ | refine heap_far ?_ (Nat.ne_of_gt HL.out) _)); done)))
  refine own_back2 w rfl rfl rfl rfl ?_ ?_; (focus ((repeat (first | exact heap_on HB.out | refine heap_past _ ?_ | refine heap_far ?_ (Nat.ne_of_gt HL.out) _)); done))
  exact ⟨⟨_, _, _, _, _, _, _, _, _, _, _, _, rfl, by unfold amoOf; (simp [h3, h5, Ins.zero, Ins.val, u_nil]) <;> rfl⟩, by ((repeat (first | apply On.rowO | refine On.setO ?_ HL.out | apply On.alloc)); first | exact On.refl w | exact on_of HB.out)⟩
set_option maxRecDepth 100000 in
set_option maxHeartbeats 4000000 in
theorem ramo_1_28 (x : BitVec 32) (w : World) (h3 : fi x 14 12 = 1) (h5 : fi x 31 27 = 28) :
    Calls Tryd.prog 86 #[.int .i64 (fi x 14 12), .int .i64 (fi x 31 27), .int .i64 (fi x 11 7), .int .i64 (fi x 19 15), .int .i64 (fi x 24 20)] w fun e w' => PartOf e (amoOf x) ∧ On w w' := by
  have HB := hb0 w
  go_enter Tryd.func86, Tryd.ntmps86
  go_wp2_with (first | (refine own_store w rfl rfl rfl rfl rfl (by simp [Value.oneCell']) ?_ ?_; focus ((repeat (first | exact heap_on HB.out | refine heap_past _ ?_ | refine heap_far ?_ (Nat.ne_of_gt HL.out) _)); done)))
  refine own_back2 w rfl rfl rfl rfl ?_ ?_; (focus ((repeat (first | exact heap_on HB.out | refine heap_past _ ?_ | refine heap_far ?_ (Nat.ne_of_gt HL.out) _)); done))
  exact ⟨⟨_, _, _, _, _, _, _, _, _, _, _, _, rfl, by unfold amoOf; (simp [h3, h5, Ins.zero, Ins.val, u_nil]) <;> rfl⟩, by ((repeat (first | apply On.rowO | refine On.setO ?_ HL.out | apply On.alloc)); first | exact On.refl w | exact on_of HB.out)⟩
set_option maxRecDepth 100000 in
set_option maxHeartbeats 4000000 in
theorem ramo_1_n (x : BitVec 32) (w : World) (h3 : fi x 14 12 = 1) (N : Hid (¬ fi x 31 27 = 2 ∧ ¬ fi x 31 27 = 3 ∧ ¬ fi x 31 27 = 0 ∧ ¬ fi x 31 27 = 1 ∧ ¬ fi x 31 27 = 4 ∧ ¬ fi x 31 27 = 8 ∧ ¬ fi x 31 27 = 12 ∧ ¬ fi x 31 27 = 16 ∧ ¬ fi x 31 27 = 20 ∧ ¬ fi x 31 27 = 24 ∧ ¬ fi x 31 27 = 28)) :
    Calls Tryd.prog 86 #[.int .i64 (fi x 14 12), .int .i64 (fi x 31 27), .int .i64 (fi x 11 7), .int .i64 (fi x 19 15), .int .i64 (fi x 24 20)] w fun e w' => PartOf e (amoOf x) ∧ On w w' := by
  have b0 : (fi x 31 27 == 2) = false := by simpa using N.out.1
  have b1 : (fi x 31 27 == 3) = false := by simpa using N.out.2.1
  have b2 : (fi x 31 27 == 0) = false := by simpa using N.out.2.2.1
  have b3 : (fi x 31 27 == 1) = false := by simpa using N.out.2.2.2.1
  have b4 : (fi x 31 27 == 4) = false := by simpa using N.out.2.2.2.2.1
  have b5 : (fi x 31 27 == 8) = false := by simpa using N.out.2.2.2.2.2.1
  have b6 : (fi x 31 27 == 12) = false := by simpa using N.out.2.2.2.2.2.2.1
  have b7 : (fi x 31 27 == 16) = false := by simpa using N.out.2.2.2.2.2.2.2.1
  have b8 : (fi x 31 27 == 20) = false := by simpa using N.out.2.2.2.2.2.2.2.2.1
  have b9 : (fi x 31 27 == 24) = false := by simpa using N.out.2.2.2.2.2.2.2.2.2.1
  have b10 : (fi x 31 27 == 28) = false := by simpa using N.out.2.2.2.2.2.2.2.2.2.2
  have HB := hb0 w
  go_enter Tryd.func86, Tryd.ntmps86
  go_wp2_with (first | (refine own_store w rfl rfl rfl rfl rfl (by simp [Value.oneCell']) ?_ ?_; focus ((repeat (first | exact heap_on HB.out | refine heap_past _ ?_ | refine heap_far ?_ (Nat.ne_of_gt HL.out) _)); done)))
  refine own_back2 w rfl rfl rfl rfl ?_ ?_; (focus ((repeat (first | exact heap_on HB.out | refine heap_past _ ?_ | refine heap_far ?_ (Nat.ne_of_gt HL.out) _)); done))
  exact ⟨⟨_, _, _, _, _, _, _, _, _, _, _, _, rfl, by unfold amoOf; (simp [h3, N.out, Ins.zero, Ins.val, u_nil]) <;> rfl⟩, by ((repeat (first | apply On.rowO | refine On.setO ?_ HL.out | apply On.alloc)); first | exact On.refl w | exact on_of HB.out)⟩
set_option maxRecDepth 100000 in
set_option maxHeartbeats 4000000 in
theorem ramo_2_2z (x : BitVec 32) (w : World) (h3 : fi x 14 12 = 2) (h5 : fi x 31 27 = 2) (h2 : fi x 24 20 = 0) :
    Calls Tryd.prog 86 #[.int .i64 (fi x 14 12), .int .i64 (fi x 31 27), .int .i64 (fi x 11 7), .int .i64 (fi x 19 15), .int .i64 (fi x 24 20)] w fun e w' => PartOf e (amoOf x) ∧ On w w' := by
  have HB := hb0 w
  go_enter Tryd.func86, Tryd.ntmps86
  go_wp2_with (first | (refine own_store w rfl rfl rfl rfl rfl (by simp [Value.oneCell']) ?_ ?_; focus ((repeat (first | exact heap_on HB.out | refine heap_past _ ?_ | refine heap_far ?_ (Nat.ne_of_gt HL.out) _)); done)))
  refine own_back2 w rfl rfl rfl rfl ?_ ?_; (focus ((repeat (first | exact heap_on HB.out | refine heap_past _ ?_ | refine heap_far ?_ (Nat.ne_of_gt HL.out) _)); done))
  exact ⟨⟨_, _, _, _, _, _, _, _, _, _, _, _, rfl, by unfold amoOf; (simp [h3, h5, h2, Ins.zero, Ins.val, u_nil]) <;> rfl⟩, by ((repeat (first | apply On.rowO | refine On.setO ?_ HL.out | apply On.alloc)); first | exact On.refl w | exact on_of HB.out)⟩
set_option maxRecDepth 100000 in
set_option maxHeartbeats 4000000 in
theorem ramo_2_2n (x : BitVec 32) (w : World) (h3 : fi x 14 12 = 2) (h5 : fi x 31 27 = 2) (H2 : Hid (¬ fi x 24 20 = 0)) :
    Calls Tryd.prog 86 #[.int .i64 (fi x 14 12), .int .i64 (fi x 31 27), .int .i64 (fi x 11 7), .int .i64 (fi x 19 15), .int .i64 (fi x 24 20)] w fun e w' => PartOf e (amoOf x) ∧ On w w' := by
  have b0 : (fi x 24 20 == 0) = false := by simpa using H2.out
  have HB := hb0 w
  go_enter Tryd.func86, Tryd.ntmps86
  go_wp2_with (first | (refine own_store w rfl rfl rfl rfl rfl (by simp [Value.oneCell']) ?_ ?_; focus ((repeat (first | exact heap_on HB.out | refine heap_past _ ?_ | refine heap_far ?_ (Nat.ne_of_gt HL.out) _)); done)))
  refine own_back2 w rfl rfl rfl rfl ?_ ?_; (focus ((repeat (first | exact heap_on HB.out | refine heap_past _ ?_ | refine heap_far ?_ (Nat.ne_of_gt HL.out) _)); done))
  exact ⟨⟨_, _, _, _, _, _, _, _, _, _, _, _, rfl, by unfold amoOf; (simp [h3, h5, H2.out, Ins.zero, Ins.val, u_nil]) <;> rfl⟩, by ((repeat (first | apply On.rowO | refine On.setO ?_ HL.out | apply On.alloc)); first | exact On.refl w | exact on_of HB.out)⟩
set_option maxRecDepth 100000 in
set_option maxHeartbeats 4000000 in
theorem ramo_2_3 (x : BitVec 32) (w : World) (h3 : fi x 14 12 = 2) (h5 : fi x 31 27 = 3) :
    Calls Tryd.prog 86 #[.int .i64 (fi x 14 12), .int .i64 (fi x 31 27), .int .i64 (fi x 11 7), .int .i64 (fi x 19 15), .int .i64 (fi x 24 20)] w fun e w' => PartOf e (amoOf x) ∧ On w w' := by
  have HB := hb0 w
  go_enter Tryd.func86, Tryd.ntmps86
  go_wp2_with (first | (refine own_store w rfl rfl rfl rfl rfl (by simp [Value.oneCell']) ?_ ?_; focus ((repeat (first | exact heap_on HB.out | refine heap_past _ ?_ | refine heap_far ?_ (Nat.ne_of_gt HL.out) _)); done)))
  refine own_back2 w rfl rfl rfl rfl ?_ ?_; (focus ((repeat (first | exact heap_on HB.out | refine heap_past _ ?_ | refine heap_far ?_ (Nat.ne_of_gt HL.out) _)); done))
  exact ⟨⟨_, _, _, _, _, _, _, _, _, _, _, _, rfl, by unfold amoOf; (simp [h3, h5, Ins.zero, Ins.val, u_nil]) <;> rfl⟩, by ((repeat (first | apply On.rowO | refine On.setO ?_ HL.out | apply On.alloc)); first | exact On.refl w | exact on_of HB.out)⟩
set_option maxRecDepth 100000 in
set_option maxHeartbeats 4000000 in
theorem ramo_2_0 (x : BitVec 32) (w : World) (h3 : fi x 14 12 = 2) (h5 : fi x 31 27 = 0) :
    Calls Tryd.prog 86 #[.int .i64 (fi x 14 12), .int .i64 (fi x 31 27), .int .i64 (fi x 11 7), .int .i64 (fi x 19 15), .int .i64 (fi x 24 20)] w fun e w' => PartOf e (amoOf x) ∧ On w w' := by
  have HB := hb0 w
  go_enter Tryd.func86, Tryd.ntmps86
  go_wp2_with (first | (refine own_store w rfl rfl rfl rfl rfl (by simp [Value.oneCell']) ?_ ?_; focus ((repeat (first | exact heap_on HB.out | refine heap_past _ ?_ | refine heap_far ?_ (Nat.ne_of_gt HL.out) _)); done)))
  refine own_back2 w rfl rfl rfl rfl ?_ ?_; (focus ((repeat (first | exact heap_on HB.out | refine heap_past _ ?_ | refine heap_far ?_ (Nat.ne_of_gt HL.out) _)); done))
  exact ⟨⟨_, _, _, _, _, _, _, _, _, _, _, _, rfl, by unfold amoOf; (simp [h3, h5, Ins.zero, Ins.val, u_nil]) <;> rfl⟩, by ((repeat (first | apply On.rowO | refine On.setO ?_ HL.out | apply On.alloc)); first | exact On.refl w | exact on_of HB.out)⟩
set_option maxRecDepth 100000 in
set_option maxHeartbeats 4000000 in
theorem ramo_2_1 (x : BitVec 32) (w : World) (h3 : fi x 14 12 = 2) (h5 : fi x 31 27 = 1) :
    Calls Tryd.prog 86 #[.int .i64 (fi x 14 12), .int .i64 (fi x 31 27), .int .i64 (fi x 11 7), .int .i64 (fi x 19 15), .int .i64 (fi x 24 20)] w fun e w' => PartOf e (amoOf x) ∧ On w w' := by
  have HB := hb0 w
  go_enter Tryd.func86, Tryd.ntmps86
  go_wp2_with (first | (refine own_store w rfl rfl rfl rfl rfl (by simp [Value.oneCell']) ?_ ?_; focus ((repeat (first | exact heap_on HB.out | refine heap_past _ ?_ | refine heap_far ?_ (Nat.ne_of_gt HL.out) _)); done)))
  refine own_back2 w rfl rfl rfl rfl ?_ ?_; (focus ((repeat (first | exact heap_on HB.out | refine heap_past _ ?_ | refine heap_far ?_ (Nat.ne_of_gt HL.out) _)); done))
  exact ⟨⟨_, _, _, _, _, _, _, _, _, _, _, _, rfl, by unfold amoOf; (simp [h3, h5, Ins.zero, Ins.val, u_nil]) <;> rfl⟩, by ((repeat (first | apply On.rowO | refine On.setO ?_ HL.out | apply On.alloc)); first | exact On.refl w | exact on_of HB.out)⟩
set_option maxRecDepth 100000 in
set_option maxHeartbeats 4000000 in
theorem ramo_2_4 (x : BitVec 32) (w : World) (h3 : fi x 14 12 = 2) (h5 : fi x 31 27 = 4) :
    Calls Tryd.prog 86 #[.int .i64 (fi x 14 12), .int .i64 (fi x 31 27), .int .i64 (fi x 11 7), .int .i64 (fi x 19 15), .int .i64 (fi x 24 20)] w fun e w' => PartOf e (amoOf x) ∧ On w w' := by
  have HB := hb0 w
  go_enter Tryd.func86, Tryd.ntmps86
  go_wp2_with (first | (refine own_store w rfl rfl rfl rfl rfl (by simp [Value.oneCell']) ?_ ?_; focus ((repeat (first | exact heap_on HB.out | refine heap_past _ ?_ | refine heap_far ?_ (Nat.ne_of_gt HL.out) _)); done)))
  refine own_back2 w rfl rfl rfl rfl ?_ ?_; (focus ((repeat (first | exact heap_on HB.out | refine heap_past _ ?_ | refine heap_far ?_ (Nat.ne_of_gt HL.out) _)); done))
  exact ⟨⟨_, _, _, _, _, _, _, _, _, _, _, _, rfl, by unfold amoOf; (simp [h3, h5, Ins.zero, Ins.val, u_nil]) <;> rfl⟩, by ((repeat (first | apply On.rowO | refine On.setO ?_ HL.out | apply On.alloc)); first | exact On.refl w | exact on_of HB.out)⟩
set_option maxRecDepth 100000 in
set_option maxHeartbeats 4000000 in
theorem ramo_2_8 (x : BitVec 32) (w : World) (h3 : fi x 14 12 = 2) (h5 : fi x 31 27 = 8) :
    Calls Tryd.prog 86 #[.int .i64 (fi x 14 12), .int .i64 (fi x 31 27), .int .i64 (fi x 11 7), .int .i64 (fi x 19 15), .int .i64 (fi x 24 20)] w fun e w' => PartOf e (amoOf x) ∧ On w w' := by
  have HB := hb0 w
  go_enter Tryd.func86, Tryd.ntmps86
  go_wp2_with (first | (refine own_store w rfl rfl rfl rfl rfl (by simp [Value.oneCell']) ?_ ?_; focus ((repeat (first | exact heap_on HB.out | refine heap_past _ ?_ | refine heap_far ?_ (Nat.ne_of_gt HL.out) _)); done)))
  refine own_back2 w rfl rfl rfl rfl ?_ ?_; (focus ((repeat (first | exact heap_on HB.out | refine heap_past _ ?_ | refine heap_far ?_ (Nat.ne_of_gt HL.out) _)); done))
  exact ⟨⟨_, _, _, _, _, _, _, _, _, _, _, _, rfl, by unfold amoOf; (simp [h3, h5, Ins.zero, Ins.val, u_nil]) <;> rfl⟩, by ((repeat (first | apply On.rowO | refine On.setO ?_ HL.out | apply On.alloc)); first | exact On.refl w | exact on_of HB.out)⟩
set_option maxRecDepth 100000 in
set_option maxHeartbeats 4000000 in
theorem ramo_2_12 (x : BitVec 32) (w : World) (h3 : fi x 14 12 = 2) (h5 : fi x 31 27 = 12) :
    Calls Tryd.prog 86 #[.int .i64 (fi x 14 12), .int .i64 (fi x 31 27), .int .i64 (fi x 11 7), .int .i64 (fi x 19 15), .int .i64 (fi x 24 20)] w fun e w' => PartOf e (amoOf x) ∧ On w w' := by
  have HB := hb0 w
  go_enter Tryd.func86, Tryd.ntmps86
  go_wp2_with (first | (refine own_store w rfl rfl rfl rfl rfl (by simp [Value.oneCell']) ?_ ?_; focus ((repeat (first | exact heap_on HB.out | refine heap_past _ ?_ | refine heap_far ?_ (Nat.ne_of_gt HL.out) _)); done)))
  refine own_back2 w rfl rfl rfl rfl ?_ ?_; (focus ((repeat (first | exact heap_on HB.out | refine heap_past _ ?_ | refine heap_far ?_ (Nat.ne_of_gt HL.out) _)); done))
  exact ⟨⟨_, _, _, _, _, _, _, _, _, _, _, _, rfl, by unfold amoOf; (simp [h3, h5, Ins.zero, Ins.val, u_nil]) <;> rfl⟩, by ((repeat (first | apply On.rowO | refine On.setO ?_ HL.out | apply On.alloc)); first | exact On.refl w | exact on_of HB.out)⟩
set_option maxRecDepth 100000 in
set_option maxHeartbeats 4000000 in
theorem ramo_2_16 (x : BitVec 32) (w : World) (h3 : fi x 14 12 = 2) (h5 : fi x 31 27 = 16) :
    Calls Tryd.prog 86 #[.int .i64 (fi x 14 12), .int .i64 (fi x 31 27), .int .i64 (fi x 11 7), .int .i64 (fi x 19 15), .int .i64 (fi x 24 20)] w fun e w' => PartOf e (amoOf x) ∧ On w w' := by
  have HB := hb0 w
  go_enter Tryd.func86, Tryd.ntmps86
  go_wp2_with (first | (refine own_store w rfl rfl rfl rfl rfl (by simp [Value.oneCell']) ?_ ?_; focus ((repeat (first | exact heap_on HB.out | refine heap_past _ ?_ | refine heap_far ?_ (Nat.ne_of_gt HL.out) _)); done)))
  refine own_back2 w rfl rfl rfl rfl ?_ ?_; (focus ((repeat (first | exact heap_on HB.out | refine heap_past _ ?_ | refine heap_far ?_ (Nat.ne_of_gt HL.out) _)); done))
  exact ⟨⟨_, _, _, _, _, _, _, _, _, _, _, _, rfl, by unfold amoOf; (simp [h3, h5, Ins.zero, Ins.val, u_nil]) <;> rfl⟩, by ((repeat (first | apply On.rowO | refine On.setO ?_ HL.out | apply On.alloc)); first | exact On.refl w | exact on_of HB.out)⟩
set_option maxRecDepth 100000 in
set_option maxHeartbeats 4000000 in
theorem ramo_2_20 (x : BitVec 32) (w : World) (h3 : fi x 14 12 = 2) (h5 : fi x 31 27 = 20) :
    Calls Tryd.prog 86 #[.int .i64 (fi x 14 12), .int .i64 (fi x 31 27), .int .i64 (fi x 11 7), .int .i64 (fi x 19 15), .int .i64 (fi x 24 20)] w fun e w' => PartOf e (amoOf x) ∧ On w w' := by
  have HB := hb0 w
  go_enter Tryd.func86, Tryd.ntmps86
  go_wp2_with (first | (refine own_store w rfl rfl rfl rfl rfl (by simp [Value.oneCell']) ?_ ?_; focus ((repeat (first | exact heap_on HB.out | refine heap_past _ ?_ | refine heap_far ?_ (Nat.ne_of_gt HL.out) _)); done)))
  refine own_back2 w rfl rfl rfl rfl ?_ ?_; (focus ((repeat (first | exact heap_on HB.out | refine heap_past _ ?_ | refine heap_far ?_ (Nat.ne_of_gt HL.out) _)); done))
  exact ⟨⟨_, _, _, _, _, _, _, _, _, _, _, _, rfl, by unfold amoOf; (simp [h3, h5, Ins.zero, Ins.val, u_nil]) <;> rfl⟩, by ((repeat (first | apply On.rowO | refine On.setO ?_ HL.out | apply On.alloc)); first | exact On.refl w | exact on_of HB.out)⟩
set_option maxRecDepth 100000 in
set_option maxHeartbeats 4000000 in
theorem ramo_2_24 (x : BitVec 32) (w : World) (h3 : fi x 14 12 = 2) (h5 : fi x 31 27 = 24) :
    Calls Tryd.prog 86 #[.int .i64 (fi x 14 12), .int .i64 (fi x 31 27), .int .i64 (fi x 11 7), .int .i64 (fi x 19 15), .int .i64 (fi x 24 20)] w fun e w' => PartOf e (amoOf x) ∧ On w w' := by
  have HB := hb0 w
  go_enter Tryd.func86, Tryd.ntmps86
  go_wp2_with (first | (refine own_store w rfl rfl rfl rfl rfl (by simp [Value.oneCell']) ?_ ?_; focus ((repeat (first | exact heap_on HB.out | refine heap_past _ ?_ | refine heap_far ?_ (Nat.ne_of_gt HL.out) _)); done)))
  refine own_back2 w rfl rfl rfl rfl ?_ ?_; (focus ((repeat (first | exact heap_on HB.out | refine heap_past _ ?_ | refine heap_far ?_ (Nat.ne_of_gt HL.out) _)); done))
  exact ⟨⟨_, _, _, _, _, _, _, _, _, _, _, _, rfl, by unfold amoOf; (simp [h3, h5, Ins.zero, Ins.val, u_nil]) <;> rfl⟩, by ((repeat (first | apply On.rowO | refine On.setO ?_ HL.out | apply On.alloc)); first | exact On.refl w | exact on_of HB.out)⟩
set_option maxRecDepth 100000 in
set_option maxHeartbeats 4000000 in
theorem ramo_2_28 (x : BitVec 32) (w : World) (h3 : fi x 14 12 = 2) (h5 : fi x 31 27 = 28) :
    Calls Tryd.prog 86 #[.int .i64 (fi x 14 12), .int .i64 (fi x 31 27), .int .i64 (fi x 11 7), .int .i64 (fi x 19 15), .int .i64 (fi x 24 20)] w fun e w' => PartOf e (amoOf x) ∧ On w w' := by
  have HB := hb0 w
  go_enter Tryd.func86, Tryd.ntmps86
  go_wp2_with (first | (refine own_store w rfl rfl rfl rfl rfl (by simp [Value.oneCell']) ?_ ?_; focus ((repeat (first | exact heap_on HB.out | refine heap_past _ ?_ | refine heap_far ?_ (Nat.ne_of_gt HL.out) _)); done)))
  refine own_back2 w rfl rfl rfl rfl ?_ ?_; (focus ((repeat (first | exact heap_on HB.out | refine heap_past _ ?_ | refine heap_far ?_ (Nat.ne_of_gt HL.out) _)); done))
  exact ⟨⟨_, _, _, _, _, _, _, _, _, _, _, _, rfl, by unfold amoOf; (simp [h3, h5, Ins.zero, Ins.val, u_nil]) <;> rfl⟩, by ((repeat (first | apply On.rowO | refine On.setO ?_ HL.out | apply On.alloc)); first | exact On.refl w | exact on_of HB.out)⟩
set_option maxRecDepth 100000 in
set_option maxHeartbeats 4000000 in
theorem ramo_2_n (x : BitVec 32) (w : World) (h3 : fi x 14 12 = 2) (N : Hid (¬ fi x 31 27 = 2 ∧ ¬ fi x 31 27 = 3 ∧ ¬ fi x 31 27 = 0 ∧ ¬ fi x 31 27 = 1 ∧ ¬ fi x 31 27 = 4 ∧ ¬ fi x 31 27 = 8 ∧ ¬ fi x 31 27 = 12 ∧ ¬ fi x 31 27 = 16 ∧ ¬ fi x 31 27 = 20 ∧ ¬ fi x 31 27 = 24 ∧ ¬ fi x 31 27 = 28)) :
    Calls Tryd.prog 86 #[.int .i64 (fi x 14 12), .int .i64 (fi x 31 27), .int .i64 (fi x 11 7), .int .i64 (fi x 19 15), .int .i64 (fi x 24 20)] w fun e w' => PartOf e (amoOf x) ∧ On w w' := by
  have b0 : (fi x 31 27 == 2) = false := by simpa using N.out.1
  have b1 : (fi x 31 27 == 3) = false := by simpa using N.out.2.1
  have b2 : (fi x 31 27 == 0) = false := by simpa using N.out.2.2.1
  have b3 : (fi x 31 27 == 1) = false := by simpa using N.out.2.2.2.1
  have b4 : (fi x 31 27 == 4) = false := by simpa using N.out.2.2.2.2.1
  have b5 : (fi x 31 27 == 8) = false := by simpa using N.out.2.2.2.2.2.1
  have b6 : (fi x 31 27 == 12) = false := by simpa using N.out.2.2.2.2.2.2.1
  have b7 : (fi x 31 27 == 16) = false := by simpa using N.out.2.2.2.2.2.2.2.1
  have b8 : (fi x 31 27 == 20) = false := by simpa using N.out.2.2.2.2.2.2.2.2.1
  have b9 : (fi x 31 27 == 24) = false := by simpa using N.out.2.2.2.2.2.2.2.2.2.1
  have b10 : (fi x 31 27 == 28) = false := by simpa using N.out.2.2.2.2.2.2.2.2.2.2
  have HB := hb0 w
  go_enter Tryd.func86, Tryd.ntmps86
  go_wp2_with (first | (refine own_store w rfl rfl rfl rfl rfl (by simp [Value.oneCell']) ?_ ?_; focus ((repeat (first | exact heap_on HB.out | refine heap_past _ ?_ | refine heap_far ?_ (Nat.ne_of_gt HL.out) _)); done)))
  refine own_back2 w rfl rfl rfl rfl ?_ ?_; (focus ((repeat (first | exact heap_on HB.out | refine heap_past _ ?_ | refine heap_far ?_ (Nat.ne_of_gt HL.out) _)); done))
  exact ⟨⟨_, _, _, _, _, _, _, _, _, _, _, _, rfl, by unfold amoOf; (simp [h3, N.out, Ins.zero, Ins.val, u_nil]) <;> rfl⟩, by ((repeat (first | apply On.rowO | refine On.setO ?_ HL.out | apply On.alloc)); first | exact On.refl w | exact on_of HB.out)⟩
set_option maxRecDepth 100000 in
set_option maxHeartbeats 4000000 in
theorem ramo_3_2z (x : BitVec 32) (w : World) (h3 : fi x 14 12 = 3) (h5 : fi x 31 27 = 2) (h2 : fi x 24 20 = 0) :
    Calls Tryd.prog 86 #[.int .i64 (fi x 14 12), .int .i64 (fi x 31 27), .int .i64 (fi x 11 7), .int .i64 (fi x 19 15), .int .i64 (fi x 24 20)] w fun e w' => PartOf e (amoOf x) ∧ On w w' := by
  have HB := hb0 w
  go_enter Tryd.func86, Tryd.ntmps86
  go_wp2_with (first | (refine own_store w rfl rfl rfl rfl rfl (by simp [Value.oneCell']) ?_ ?_; focus ((repeat (first | exact heap_on HB.out | refine heap_past _ ?_ | refine heap_far ?_ (Nat.ne_of_gt HL.out) _)); done)))
  refine own_back2 w rfl rfl rfl rfl ?_ ?_; (focus ((repeat (first | exact heap_on HB.out | refine heap_past _ ?_ | refine heap_far ?_ (Nat.ne_of_gt HL.out) _)); done))
  exact ⟨⟨_, _, _, _, _, _, _, _, _, _, _, _, rfl, by unfold amoOf; (simp [h3, h5, h2, Ins.zero, Ins.val, u_nil]) <;> rfl⟩, by ((repeat (first | apply On.rowO | refine On.setO ?_ HL.out | apply On.alloc)); first | exact On.refl w | exact on_of HB.out)⟩
set_option maxRecDepth 100000 in
set_option maxHeartbeats 4000000 in
theorem ramo_3_2n (x : BitVec 32) (w : World) (h3 : fi x 14 12 = 3) (h5 : fi x 31 27 = 2) (H2 : Hid (¬ fi x 24 20 = 0)) :
    Calls Tryd.prog 86 #[.int .i64 (fi x 14 12), .int .i64 (fi x 31 27), .int .i64 (fi x 11 7), .int .i64 (fi x 19 15), .int .i64 (fi x 24 20)] w fun e w' => PartOf e (amoOf x) ∧ On w w' := by
  have b0 : (fi x 24 20 == 0) = false := by simpa using H2.out
  have HB := hb0 w
  go_enter Tryd.func86, Tryd.ntmps86
  go_wp2_with (first | (refine own_store w rfl rfl rfl rfl rfl (by simp [Value.oneCell']) ?_ ?_; focus ((repeat (first | exact heap_on HB.out | refine heap_past _ ?_ | refine heap_far ?_ (Nat.ne_of_gt HL.out) _)); done)))
  refine own_back2 w rfl rfl rfl rfl ?_ ?_; (focus ((repeat (first | exact heap_on HB.out | refine heap_past _ ?_ | refine heap_far ?_ (Nat.ne_of_gt HL.out) _)); done))
  exact ⟨⟨_, _, _, _, _, _, _, _, _, _, _, _, rfl, by unfold amoOf; (simp [h3, h5, H2.out, Ins.zero, Ins.val, u_nil]) <;> rfl⟩, by ((repeat (first | apply On.rowO | refine On.setO ?_ HL.out | apply On.alloc)); first | exact On.refl w | exact on_of HB.out)⟩
set_option maxRecDepth 100000 in
set_option maxHeartbeats 4000000 in
theorem ramo_3_3 (x : BitVec 32) (w : World) (h3 : fi x 14 12 = 3) (h5 : fi x 31 27 = 3) :
    Calls Tryd.prog 86 #[.int .i64 (fi x 14 12), .int .i64 (fi x 31 27), .int .i64 (fi x 11 7), .int .i64 (fi x 19 15), .int .i64 (fi x 24 20)] w fun e w' => PartOf e (amoOf x) ∧ On w w' := by
  have HB := hb0 w
  go_enter Tryd.func86, Tryd.ntmps86
  go_wp2_with (first | (refine own_store w rfl rfl rfl rfl rfl (by simp [Value.oneCell']) ?_ ?_; focus ((repeat (first | exact heap_on HB.out | refine heap_past _ ?_ | refine heap_far ?_ (Nat.ne_of_gt HL.out) _)); done)))
  refine own_back2 w rfl rfl rfl rfl ?_ ?_; (focus ((repeat (first | exact heap_on HB.out | refine heap_past _ ?_ | refine heap_far ?_ (Nat.ne_of_gt HL.out) _)); done))
  exact ⟨⟨_, _, _, _, _, _, _, _, _, _, _, _, rfl, by unfold amoOf; (simp [h3, h5, Ins.zero, Ins.val, u_nil]) <;> rfl⟩, by ((repeat (first | apply On.rowO | refine On.setO ?_ HL.out | apply On.alloc)); first | exact On.refl w | exact on_of HB.out)⟩
set_option maxRecDepth 100000 in
set_option maxHeartbeats 4000000 in
theorem ramo_3_0 (x : BitVec 32) (w : World) (h3 : fi x 14 12 = 3) (h5 : fi x 31 27 = 0) :
    Calls Tryd.prog 86 #[.int .i64 (fi x 14 12), .int .i64 (fi x 31 27), .int .i64 (fi x 11 7), .int .i64 (fi x 19 15), .int .i64 (fi x 24 20)] w fun e w' => PartOf e (amoOf x) ∧ On w w' := by
  have HB := hb0 w
  go_enter Tryd.func86, Tryd.ntmps86
  go_wp2_with (first | (refine own_store w rfl rfl rfl rfl rfl (by simp [Value.oneCell']) ?_ ?_; focus ((repeat (first | exact heap_on HB.out | refine heap_past _ ?_ | refine heap_far ?_ (Nat.ne_of_gt HL.out) _)); done)))
  refine own_back2 w rfl rfl rfl rfl ?_ ?_; (focus ((repeat (first | exact heap_on HB.out | refine heap_past _ ?_ | refine heap_far ?_ (Nat.ne_of_gt HL.out) _)); done))
  exact ⟨⟨_, _, _, _, _, _, _, _, _, _, _, _, rfl, by unfold amoOf; (simp [h3, h5, Ins.zero, Ins.val, u_nil]) <;> rfl⟩, by ((repeat (first | apply On.rowO | refine On.setO ?_ HL.out | apply On.alloc)); first | exact On.refl w | exact on_of HB.out)⟩
set_option maxRecDepth 100000 in
set_option maxHeartbeats 4000000 in
theorem ramo_3_1 (x : BitVec 32) (w : World) (h3 : fi x 14 12 = 3) (h5 : fi x 31 27 = 1) :
    Calls Tryd.prog 86 #[.int .i64 (fi x 14 12), .int .i64 (fi x 31 27), .int .i64 (fi x 11 7), .int .i64 (fi x 19 15), .int .i64 (fi x 24 20)] w fun e w' => PartOf e (amoOf x) ∧ On w w' := by
  have HB := hb0 w
  go_enter Tryd.func86, Tryd.ntmps86
  go_wp2_with (first | (refine own_store w rfl rfl rfl rfl rfl (by simp [Value.oneCell']) ?_ ?_; focus ((repeat (first | exact heap_on HB.out | refine heap_past _ ?_ | refine heap_far ?_ (Nat.ne_of_gt HL.out) _)); done)))
  refine own_back2 w rfl rfl rfl rfl ?_ ?_; (focus ((repeat (first | exact heap_on HB.out | refine heap_past _ ?_ | refine heap_far ?_ (Nat.ne_of_gt HL.out) _)); done))
  exact ⟨⟨_, _, _, _, _, _, _, _, _, _, _, _, rfl, by unfold amoOf; (simp [h3, h5, Ins.zero, Ins.val, u_nil]) <;> rfl⟩, by ((repeat (first | apply On.rowO | refine On.setO ?_ HL.out | apply On.alloc)); first | exact On.refl w | exact on_of HB.out)⟩
set_option maxRecDepth 100000 in
set_option maxHeartbeats 4000000 in
theorem ramo_3_4 (x : BitVec 32) (w : World) (h3 : fi x 14 12 = 3) (h5 : fi x 31 27 = 4) :
    Calls Tryd.prog 86 #[.int .i64 (fi x 14 12), .int .i64 (fi x 31 27), .int .i64 (fi x 11 7), .int .i64 (fi x 19 15), .int .i64 (fi x 24 20)] w fun e w' => PartOf e (amoOf x) ∧ On w w' := by
  have HB := hb0 w
  go_enter Tryd.func86, Tryd.ntmps86
  go_wp2_with (first | (refine own_store w rfl rfl rfl rfl rfl (by simp [Value.oneCell']) ?_ ?_; focus ((repeat (first | exact heap_on HB.out | refine heap_past _ ?_ | refine heap_far ?_ (Nat.ne_of_gt HL.out) _)); done)))
  refine own_back2 w rfl rfl rfl rfl ?_ ?_; (focus ((repeat (first | exact heap_on HB.out | refine heap_past _ ?_ | refine heap_far ?_ (Nat.ne_of_gt HL.out) _)); done))
  exact ⟨⟨_, _, _, _, _, _, _, _, _, _, _, _, rfl, by unfold amoOf; (simp [h3, h5, Ins.zero, Ins.val, u_nil]) <;> rfl⟩, by ((repeat (first | apply On.rowO | refine On.setO ?_ HL.out | apply On.alloc)); first | exact On.refl w | exact on_of HB.out)⟩
set_option maxRecDepth 100000 in
set_option maxHeartbeats 4000000 in
theorem ramo_3_8 (x : BitVec 32) (w : World) (h3 : fi x 14 12 = 3) (h5 : fi x 31 27 = 8) :
    Calls Tryd.prog 86 #[.int .i64 (fi x 14 12), .int .i64 (fi x 31 27), .int .i64 (fi x 11 7), .int .i64 (fi x 19 15), .int .i64 (fi x 24 20)] w fun e w' => PartOf e (amoOf x) ∧ On w w' := by
  have HB := hb0 w
  go_enter Tryd.func86, Tryd.ntmps86
  go_wp2_with (first | (refine own_store w rfl rfl rfl rfl rfl (by simp [Value.oneCell']) ?_ ?_; focus ((repeat (first | exact heap_on HB.out | refine heap_past _ ?_ | refine heap_far ?_ (Nat.ne_of_gt HL.out) _)); done)))
  refine own_back2 w rfl rfl rfl rfl ?_ ?_; (focus ((repeat (first | exact heap_on HB.out | refine heap_past _ ?_ | refine heap_far ?_ (Nat.ne_of_gt HL.out) _)); done))
  exact ⟨⟨_, _, _, _, _, _, _, _, _, _, _, _, rfl, by unfold amoOf; (simp [h3, h5, Ins.zero, Ins.val, u_nil]) <;> rfl⟩, by ((repeat (first | apply On.rowO | refine On.setO ?_ HL.out | apply On.alloc)); first | exact On.refl w | exact on_of HB.out)⟩
set_option maxRecDepth 100000 in
set_option maxHeartbeats 4000000 in
theorem ramo_3_12 (x : BitVec 32) (w : World) (h3 : fi x 14 12 = 3) (h5 : fi x 31 27 = 12) :
    Calls Tryd.prog 86 #[.int .i64 (fi x 14 12), .int .i64 (fi x 31 27), .int .i64 (fi x 11 7), .int .i64 (fi x 19 15), .int .i64 (fi x 24 20)] w fun e w' => PartOf e (amoOf x) ∧ On w w' := by
  have HB := hb0 w
  go_enter Tryd.func86, Tryd.ntmps86
  go_wp2_with (first | (refine own_store w rfl rfl rfl rfl rfl (by simp [Value.oneCell']) ?_ ?_; focus ((repeat (first | exact heap_on HB.out | refine heap_past _ ?_ | refine heap_far ?_ (Nat.ne_of_gt HL.out) _)); done)))
  refine own_back2 w rfl rfl rfl rfl ?_ ?_; (focus ((repeat (first | exact heap_on HB.out | refine heap_past _ ?_ | refine heap_far ?_ (Nat.ne_of_gt HL.out) _)); done))
  exact ⟨⟨_, _, _, _, _, _, _, _, _, _, _, _, rfl, by unfold amoOf; (simp [h3, h5, Ins.zero, Ins.val, u_nil]) <;> rfl⟩, by ((repeat (first | apply On.rowO | refine On.setO ?_ HL.out | apply On.alloc)); first | exact On.refl w | exact on_of HB.out)⟩
set_option maxRecDepth 100000 in
set_option maxHeartbeats 4000000 in
theorem ramo_3_16 (x : BitVec 32) (w : World) (h3 : fi x 14 12 = 3) (h5 : fi x 31 27 = 16) :
    Calls Tryd.prog 86 #[.int .i64 (fi x 14 12), .int .i64 (fi x 31 27), .int .i64 (fi x 11 7), .int .i64 (fi x 19 15), .int .i64 (fi x 24 20)] w fun e w' => PartOf e (amoOf x) ∧ On w w' := by
  have HB := hb0 w
  go_enter Tryd.func86, Tryd.ntmps86
  go_wp2_with (first | (refine own_store w rfl rfl rfl rfl rfl (by simp [Value.oneCell']) ?_ ?_; focus ((repeat (first | exact heap_on HB.out | refine heap_past _ ?_ | refine heap_far ?_ (Nat.ne_of_gt HL.out) _)); done)))
  refine own_back2 w rfl rfl rfl rfl ?_ ?_; (focus ((repeat (first | exact heap_on HB.out | refine heap_past _ ?_ | refine heap_far ?_ (Nat.ne_of_gt HL.out) _)); done))
  exact ⟨⟨_, _, _, _, _, _, _, _, _, _, _, _, rfl, by unfold amoOf; (simp [h3, h5, Ins.zero, Ins.val, u_nil]) <;> rfl⟩, by ((repeat (first | apply On.rowO | refine On.setO ?_ HL.out | apply On.alloc)); first | exact On.refl w | exact on_of HB.out)⟩
set_option maxRecDepth 100000 in
set_option maxHeartbeats 4000000 in
theorem ramo_3_20 (x : BitVec 32) (w : World) (h3 : fi x 14 12 = 3) (h5 : fi x 31 27 = 20) :
    Calls Tryd.prog 86 #[.int .i64 (fi x 14 12), .int .i64 (fi x 31 27), .int .i64 (fi x 11 7), .int .i64 (fi x 19 15), .int .i64 (fi x 24 20)] w fun e w' => PartOf e (amoOf x) ∧ On w w' := by
  have HB := hb0 w
  go_enter Tryd.func86, Tryd.ntmps86
  go_wp2_with (first | (refine own_store w rfl rfl rfl rfl rfl (by simp [Value.oneCell']) ?_ ?_; focus ((repeat (first | exact heap_on HB.out | refine heap_past _ ?_ | refine heap_far ?_ (Nat.ne_of_gt HL.out) _)); done)))
  refine own_back2 w rfl rfl rfl rfl ?_ ?_; (focus ((repeat (first | exact heap_on HB.out | refine heap_past _ ?_ | refine heap_far ?_ (Nat.ne_of_gt HL.out) _)); done))
  exact ⟨⟨_, _, _, _, _, _, _, _, _, _, _, _, rfl, by unfold amoOf; (simp [h3, h5, Ins.zero, Ins.val, u_nil]) <;> rfl⟩, by ((repeat (first | apply On.rowO | refine On.setO ?_ HL.out | apply On.alloc)); first | exact On.refl w | exact on_of HB.out)⟩
set_option maxRecDepth 100000 in
set_option maxHeartbeats 4000000 in
theorem ramo_3_24 (x : BitVec 32) (w : World) (h3 : fi x 14 12 = 3) (h5 : fi x 31 27 = 24) :
    Calls Tryd.prog 86 #[.int .i64 (fi x 14 12), .int .i64 (fi x 31 27), .int .i64 (fi x 11 7), .int .i64 (fi x 19 15), .int .i64 (fi x 24 20)] w fun e w' => PartOf e (amoOf x) ∧ On w w' := by
  have HB := hb0 w
  go_enter Tryd.func86, Tryd.ntmps86
  go_wp2_with (first | (refine own_store w rfl rfl rfl rfl rfl (by simp [Value.oneCell']) ?_ ?_; focus ((repeat (first | exact heap_on HB.out | refine heap_past _ ?_ | refine heap_far ?_ (Nat.ne_of_gt HL.out) _)); done)))
  refine own_back2 w rfl rfl rfl rfl ?_ ?_; (focus ((repeat (first | exact heap_on HB.out | refine heap_past _ ?_ | refine heap_far ?_ (Nat.ne_of_gt HL.out) _)); done))
  exact ⟨⟨_, _, _, _, _, _, _, _, _, _, _, _, rfl, by unfold amoOf; (simp [h3, h5, Ins.zero, Ins.val, u_nil]) <;> rfl⟩, by ((repeat (first | apply On.rowO | refine On.setO ?_ HL.out | apply On.alloc)); first | exact On.refl w | exact on_of HB.out)⟩
set_option maxRecDepth 100000 in
set_option maxHeartbeats 4000000 in
theorem ramo_3_28 (x : BitVec 32) (w : World) (h3 : fi x 14 12 = 3) (h5 : fi x 31 27 = 28) :
    Calls Tryd.prog 86 #[.int .i64 (fi x 14 12), .int .i64 (fi x 31 27), .int .i64 (fi x 11 7), .int .i64 (fi x 19 15), .int .i64 (fi x 24 20)] w fun e w' => PartOf e (amoOf x) ∧ On w w' := by
  have HB := hb0 w
  go_enter Tryd.func86, Tryd.ntmps86
  go_wp2_with (first | (refine own_store w rfl rfl rfl rfl rfl (by simp [Value.oneCell']) ?_ ?_; focus ((repeat (first | exact heap_on HB.out | refine heap_past _ ?_ | refine heap_far ?_ (Nat.ne_of_gt HL.out) _)); done)))
  refine own_back2 w rfl rfl rfl rfl ?_ ?_; (focus ((repeat (first | exact heap_on HB.out | refine heap_past _ ?_ | refine heap_far ?_ (Nat.ne_of_gt HL.out) _)); done))
  exact ⟨⟨_, _, _, _, _, _, _, _, _, _, _, _, rfl, by unfold amoOf; (simp [h3, h5, Ins.zero, Ins.val, u_nil]) <;> rfl⟩, by ((repeat (first | apply On.rowO | refine On.setO ?_ HL.out | apply On.alloc)); first | exact On.refl w | exact on_of HB.out)⟩
set_option maxRecDepth 100000 in
set_option maxHeartbeats 4000000 in
theorem ramo_3_n (x : BitVec 32) (w : World) (h3 : fi x 14 12 = 3) (N : Hid (¬ fi x 31 27 = 2 ∧ ¬ fi x 31 27 = 3 ∧ ¬ fi x 31 27 = 0 ∧ ¬ fi x 31 27 = 1 ∧ ¬ fi x 31 27 = 4 ∧ ¬ fi x 31 27 = 8 ∧ ¬ fi x 31 27 = 12 ∧ ¬ fi x 31 27 = 16 ∧ ¬ fi x 31 27 = 20 ∧ ¬ fi x 31 27 = 24 ∧ ¬ fi x 31 27 = 28)) :
    Calls Tryd.prog 86 #[.int .i64 (fi x 14 12), .int .i64 (fi x 31 27), .int .i64 (fi x 11 7), .int .i64 (fi x 19 15), .int .i64 (fi x 24 20)] w fun e w' => PartOf e (amoOf x) ∧ On w w' := by
  have b0 : (fi x 31 27 == 2) = false := by simpa using N.out.1
  have b1 : (fi x 31 27 == 3) = false := by simpa using N.out.2.1
  have b2 : (fi x 31 27 == 0) = false := by simpa using N.out.2.2.1
  have b3 : (fi x 31 27 == 1) = false := by simpa using N.out.2.2.2.1
  have b4 : (fi x 31 27 == 4) = false := by simpa using N.out.2.2.2.2.1
  have b5 : (fi x 31 27 == 8) = false := by simpa using N.out.2.2.2.2.2.1
  have b6 : (fi x 31 27 == 12) = false := by simpa using N.out.2.2.2.2.2.2.1
  have b7 : (fi x 31 27 == 16) = false := by simpa using N.out.2.2.2.2.2.2.2.1
  have b8 : (fi x 31 27 == 20) = false := by simpa using N.out.2.2.2.2.2.2.2.2.1
  have b9 : (fi x 31 27 == 24) = false := by simpa using N.out.2.2.2.2.2.2.2.2.2.1
  have b10 : (fi x 31 27 == 28) = false := by simpa using N.out.2.2.2.2.2.2.2.2.2.2
  have HB := hb0 w
  go_enter Tryd.func86, Tryd.ntmps86
  go_wp2_with (first | (refine own_store w rfl rfl rfl rfl rfl (by simp [Value.oneCell']) ?_ ?_; focus ((repeat (first | exact heap_on HB.out | refine heap_past _ ?_ | refine heap_far ?_ (Nat.ne_of_gt HL.out) _)); done)))
  refine own_back2 w rfl rfl rfl rfl ?_ ?_; (focus ((repeat (first | exact heap_on HB.out | refine heap_past _ ?_ | refine heap_far ?_ (Nat.ne_of_gt HL.out) _)); done))
  exact ⟨⟨_, _, _, _, _, _, _, _, _, _, _, _, rfl, by unfold amoOf; (simp [h3, N.out, Ins.zero, Ins.val, u_nil]) <;> rfl⟩, by ((repeat (first | apply On.rowO | refine On.setO ?_ HL.out | apply On.alloc)); first | exact On.refl w | exact on_of HB.out)⟩
end Go.Proofs.YtjnalgilkdoalaaDoor
