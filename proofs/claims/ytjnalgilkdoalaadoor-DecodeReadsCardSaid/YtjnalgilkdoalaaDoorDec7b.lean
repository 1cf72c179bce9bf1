/- What rows come to in the reference: b. Conditions: named at each. -/
import Derived.Test.YtjnalgilkdoalaaDoorDec6
namespace Go.Proofs.YtjnalgilkdoalaaDoor
open Go.RowKit
set_option linter.unusedSimpArgs false

set_option maxRecDepth 100000 in
set_option maxHeartbeats 4000000 in
theorem ramo_4_2z (x : BitVec 32) (w : World) (h3 : fi x 14 12 = 4) (h5 : fi x 31 27 = 2) (h2 : fi x 24 20 = 0) :
    Calls Tryd.prog 86 #[.int .i64 (fi x 14 12), .int .i64 (fi x 31 27), .int .i64 (fi x 11 7), .int .i64 (fi x 19 15), .int .i64 (fi x 24 20)] w fun e w' => PartOf e (amoOf x) ∧ On w w' := by
  have HB := hb0 w
  go_enter Tryd.func86, Tryd.ntmps86
  go_wp2_with (first | (refine own_store w rfl rfl rfl rfl rfl (by simp [Value.oneCell']) ?_ ?_; focus ((repeat (first | exact heap_on HB.out | refine heap_past _ ?_ | refine heap_far ?_ (Nat.ne_of_gt HL.out) _)); done)))
  refine own_back2 w rfl rfl rfl rfl ?_ ?_; (focus ((repeat (first | exact heap_on HB.out | refine heap_past _ ?_ | refine heap_far ?_ (Nat.ne_of_gt HL.out) _)); done))
  exact ⟨⟨_, _, _, _, _, _, _, _, _, _, _, _, rfl, by unfold amoOf; (simp [h3, h5, h2, Ins.zero, Ins.val, u_nil]) <;> rfl⟩, by ((repeat (first | apply On.rowO | refine On.setO ?_ HL.out | apply On.alloc)); first | exact On.refl w | exact on_of HB.out)⟩
set_option maxRecDepth 100000 in
set_option maxHeartbeats 4000000 in
theorem ramo_4_2n (x : BitVec 32) (w : World) (h3 : fi x 14 12 = 4) (h5 : fi x 31 27 = 2) (H2 : Hid (¬ fi x 24 20 = 0)) :
    Calls Tryd.prog 86 #[.int .i64 (fi x 14 12), .int .i64 (fi x 31 27), .int .i64 (fi x 11 7), .int .i64 (fi x 19 15), .int .i64 (fi x 24 20)] w fun e w' => PartOf e (amoOf x) ∧ On w w' := by
  have b0 : (fi x 24 20 == 0) = false := by simpa using H2.out
  have HB := hb0 w
  go_enter Tryd.func86, Tryd.ntmps86
  go_wp2_with (first | (refine own_store w rfl rfl rfl rfl rfl (by simp [Value.oneCell']) ?_ ?_; focus ((repeat (first | exact heap_on HB.out | refine heap_past _ ?_ | refine heap_far ?_ (Nat.ne_of_gt HL.out) _)); done)))
  refine own_back2 w rfl rfl rfl rfl ?_ ?_; (focus ((repeat (first | exact heap_on HB.out | refine heap_past _ ?_ | refine heap_far ?_ (Nat.ne_of_gt HL.out) _)); done))
  exact ⟨⟨_, _, _, _, _, _, _, _, _, _, _, _, rfl, by unfold amoOf; (simp [h3, h5, H2.out, Ins.zero, Ins.val, u_nil]) <;> rfl⟩, by ((repeat (first | apply On.rowO | refine On.setO ?_ HL.out | apply On.alloc)); first | exact On.refl w | exact on_of HB.out)⟩
set_option maxRecDepth 100000 in
set_option maxHeartbeats 4000000 in
theorem ramo_4_3 (x : BitVec 32) (w : World) (h3 : fi x 14 12 = 4) (h5 : fi x 31 27 = 3) :
    Calls Tryd.prog 86 #[.int .i64 (fi x 14 12), .int .i64 (fi x 31 27), .int .i64 (fi x 11 7), .int .i64 (fi x 19 15), .int .i64 (fi x 24 20)] w fun e w' => PartOf e (amoOf x) ∧ On w w' := by
  have HB := hb0 w
  go_enter Tryd.func86, Tryd.ntmps86
  go_wp2_with (first | (refine own_store w rfl rfl rfl rfl rfl (by simp [Value.oneCell']) ?_ ?_; focus ((repeat (first | exact heap_on HB.out | refine heap_past _ ?_ | refine heap_far ?_ (Nat.ne_of_gt HL.out) _)); done)))
  refine own_back2 w rfl rfl rfl rfl ?_ ?_; (focus ((repeat (first | exact heap_on HB.out | refine heap_past _ ?_ | refine heap_far ?_ (Nat.ne_of_gt HL.out) _)); done))
  exact ⟨⟨_, _, _, _, _, _, _, _, _, _, _, _, rfl, by unfold amoOf; (simp [h3, h5, Ins.zero, Ins.val, u_nil]) <;> rfl⟩, by ((repeat (first | apply On.rowO | refine On.setO ?_ HL.out | apply On.alloc)); first | exact On.refl w | exact on_of HB.out)⟩
set_option maxRecDepth 100000 in
set_option maxHeartbeats 4000000 in
theorem ramo_4_0 (x : BitVec 32) (w : World) (h3 : fi x 14 12 = 4) (h5 : fi x 31 27 = 0) :
    Calls Tryd.prog 86 #[.int .i64 (fi x 14 12), .int .i64 (fi x 31 27), .int .i64 (fi x 11 7), .int .i64 (fi x 19 15), .int .i64 (fi x 24 20)] w fun e w' => PartOf e (amoOf x) ∧ On w w' := by
  have HB := hb0 w
  go_enter Tryd.func86, Tryd.ntmps86
  go_wp2_with (first | (refine own_store w rfl rfl rfl rfl rfl (by simp [Value.oneCell']) ?_ ?_; focus ((repeat (first | exact heap_on HB.out | refine heap_past _ ?_ | refine heap_far ?_ (Nat.ne_of_gt HL.out) _)); done)))
  refine own_back2 w rfl rfl rfl rfl ?_ ?_; (focus ((repeat (first | exact heap_on HB.out | refine heap_past _ ?_ | refine heap_far ?_ (Nat.ne_of_gt HL.out) _)); done))
  exact ⟨⟨_, _, _, _, _, _, _, _, _, _, _, _, rfl, by unfold amoOf; (simp [h3, h5, Ins.zero, Ins.val, u_nil]) <;> rfl⟩, by ((repeat (first | apply On.rowO | refine On.setO ?_ HL.out | apply On.alloc)); first | exact On.refl w | exact on_of HB.out)⟩
set_option maxRecDepth 100000 in
set_option maxHeartbeats 4000000 in
theorem ramo_4_1 (x : BitVec 32) (w : World) (h3 : fi x 14 12 = 4) (h5 : fi x 31 27 = 1) :
    Calls Tryd.prog 86 #[.int .i64 (fi x 14 12), .int .i64 (fi x 31 27), .int .i64 (fi x 11 7), .int .i64 (fi x 19 15), .int .i64 (fi x 24 20)] w fun e w' => PartOf e (amoOf x) ∧ On w w' := by
  have HB := hb0 w
  go_enter Tryd.func86, Tryd.ntmps86
  go_wp2_with (first | (refine own_store w rfl rfl rfl rfl rfl (by simp [Value.oneCell']) ?_ ?_; focus ((repeat (first | exact heap_on HB.out | refine heap_past _ ?_ | refine heap_far ?_ (Nat.ne_of_gt HL.out) _)); done)))
  refine own_back2 w rfl rfl rfl rfl ?_ ?_; (focus ((repeat (first | exact heap_on HB.out | refine heap_past _ ?_ | refine heap_far ?_ (Nat.ne_of_gt HL.out) _)); done))
  exact ⟨⟨_, _, _, _, _, _, _, _, _, _, _, _, rfl, by unfold amoOf; (simp [h3, h5, Ins.zero, Ins.val, u_nil]) <;> rfl⟩, by ((repeat (first | apply On.rowO | refine On.setO ?_ HL.out | apply On.alloc)); first | exact On.refl w | exact on_of HB.out)⟩
set_option maxRecDepth 100000 in
set_option maxHeartbeats 4000000 in
theorem ramo_4_4 (x : BitVec 32) (w : World) (h3 : fi x 14 12 = 4) (h5 : fi x 31 27 = 4) :
    Calls Tryd.prog 86 #[.int .i64 (fi x 14 12), .int .i64 (fi x 31 27), .int .i64 (fi x 11 7), .int .i64 (fi x 19 15), .int .i64 (fi x 24 20)] w fun e w' => PartOf e (amoOf x) ∧ On w w' := by
  have HB := hb0 w
  go_enter Tryd.func86, Tryd.ntmps86
  go_wp2_with (first | (refine own_store w rfl rfl rfl rfl rfl (by simp [Value.oneCell']) ?_ ?_; focus ((repeat (first | exact heap_on HB.out | refine heap_past _ ?_ | refine heap_far ?_ (Nat.ne_of_gt HL.out) _)); done)))
  refine own_back2 w rfl rfl rfl rfl ?_ ?_; (focus ((repeat (first | exact heap_on HB.out | refine heap_past _ ?_ | refine heap_far ?_ (Nat.ne_of_gt HL.out) _)); done))
  exact ⟨⟨_, _, _, _, _, _, _, _, _, _, _, _, rfl, by unfold amoOf; (simp [h3, h5, Ins.zero, Ins.val, u_nil]) <;> rfl⟩, by ((repeat (first | apply On.rowO | refine On.setO ?_ HL.out | apply On.alloc)); first | exact On.refl w | exact on_of HB.out)⟩
set_option maxRecDepth 100000 in
set_option maxHeartbeats 4000000 in
theorem ramo_4_8 (x : BitVec 32) (w : World) (h3 : fi x 14 12 = 4) (h5 : fi x 31 27 = 8) :
    Calls Tryd.prog 86 #[.int .i64 (fi x 14 12), .int .i64 (fi x 31 27), .int .i64 (fi x 11 7), .int .i64 (fi x 19 15), .int .i64 (fi x 24 20)] w fun e w' => PartOf e (amoOf x) ∧ On w w' := by
  have HB := hb0 w
  go_enter Tryd.func86, Tryd.ntmps86
  go_wp2_with (first | (refine own_store w rfl rfl rfl rfl rfl (by simp [Value.oneCell']) ?_ ?_; focus ((repeat (first | exact heap_on HB.out | refine heap_past _ ?_ | refine heap_far ?_ (Nat.ne_of_gt HL.out) _)); done)))
  refine own_back2 w rfl rfl rfl rfl ?_ ?_; (focus ((repeat (first | exact heap_on HB.out | refine heap_past _ ?_ | refine heap_far ?_ (Nat.ne_of_gt HL.out) _)); done))
  exact ⟨⟨_, _, _, _, _, _, _, _, _, _, _, _, rfl, by unfold amoOf; (simp [h3, h5, Ins.zero, Ins.val, u_nil]) <;> rfl⟩, by ((repeat (first | apply On.rowO | refine On.setO ?_ HL.out | apply On.alloc)); first | exact On.refl w | exact on_of HB.out)⟩
set_option maxRecDepth 100000 in
set_option maxHeartbeats 4000000 in
theorem ramo_4_12 (x : BitVec 32) (w : World) (h3 : fi x 14 12 = 4) (h5 : fi x 31 27 = 12) :
    Calls Tryd.prog 86 #[.int .i64 (fi x 14 12), .int .i64 (fi x 31 27), .int .i64 (fi x 11 7), .int .i64 (fi x 19 15), .int .i64 (fi x 24 20)] w fun e w' => PartOf e (amoOf x) ∧ On w w' := by
  have HB := hb0 w
  go_enter Tryd.func86, Tryd.ntmps86
  go_wp2_with (first | (refine own_store w rfl rfl rfl rfl rfl (by simp [Value.oneCell']) ?_ ?_; focus ((repeat (first | exact heap_on HB.out | refine heap_past _ ?_ | refine heap_far ?_ (Nat.ne_of_gt HL.out) _)); done)))
  refine own_back2 w rfl rfl rfl rfl ?_ ?_; (focus ((repeat (first | exact heap_on HB.out | refine heap_past _ ?_ | refine heap_far ?_ (Nat.ne_of_gt HL.out) _)); done))
  exact ⟨⟨_, _, _, _, _, _, _, _, _, _, _, _, rfl, by unfold amoOf; (simp [h3, h5, Ins.zero, Ins.val, u_nil]) <;> rfl⟩, by ((repeat (first | apply On.rowO | refine On.setO ?_ HL.out | apply On.alloc)); first | exact On.refl w | exact on_of HB.out)⟩
set_option maxRecDepth 100000 in
set_option maxHeartbeats 4000000 in
theorem ramo_4_16 (x : BitVec 32) (w : World) (h3 : fi x 14 12 = 4) (h5 : fi x 31 27 = 16) :
    Calls Tryd.prog 86 #[.int .i64 (fi x 14 12), .int .i64 (fi x 31 27), .int .i64 (fi x 11 7), .int .i64 (fi x 19 15), .int .i64 (fi x 24 20)] w fun e w' => PartOf e (amoOf x) ∧ On w w' := by
  have HB := hb0 w
  go_enter Tryd.func86, Tryd.ntmps86
  go_wp2_with (first | (refine own_store w rfl rfl rfl rfl rfl (by simp [Value.oneCell']) ?_ ?_; focus ((repeat (first | exact heap_on HB.out | refine heap_past _ ?_ | refine heap_far ?_ (Nat.ne_of_gt HL.out) _)); done)))
  refine own_back2 w rfl rfl rfl rfl ?_ ?_; (focus ((repeat (first | exact heap_on HB.out | refine heap_past _ ?_ | refine heap_far ?_ (Nat.ne_of_gt HL.out) _)); done))
  exact ⟨⟨_, _, _, _, _, _, _, _, _, _, _, _, rfl, by unfold amoOf; (simp [h3, h5, Ins.zero, Ins.val, u_nil]) <;> rfl⟩, by ((repeat (first | apply On.rowO | refine On.setO ?_ HL.out | apply On.alloc)); first | exact On.refl w | exact on_of HB.out)⟩
set_option maxRecDepth 100000 in
set_option maxHeartbeats 4000000 in
theorem ramo_4_20 (x : BitVec 32) (w : World) (h3 : fi x 14 12 = 4) (h5 : fi x 31 27 = 20) :
    Calls Tryd.prog 86 #[.int .i64 (fi x 14 12), .int .i64 (fi x 31 27), .int .i64 (fi x 11 7), .int .i64 (fi x 19 15), .int .i64 (fi x 24 20)] w fun e w' => PartOf e (amoOf x) ∧ On w w' := by
  have HB := hb0 w
  go_enter Tryd.func86, Tryd.ntmps86
  go_wp2_with (first | (refine own_store w rfl rfl rfl rfl rfl (by simp [Value.oneCell']) ?_ ?_; focus ((repeat (first | exact heap_on HB.out | refine heap_past _ ?_ | refine heap_far ?_ (Nat.ne_of_gt HL.out) _)); done)))
  refine own_back2 w rfl rfl rfl rfl ?_ ?_; (focus ((repeat (first | exact heap_on HB.out | refine heap_past _ ?_ | refine heap_far ?_ (Nat.ne_of_gt HL.out) _)); done))
  exact ⟨⟨_, _, _, _, _, _, _, _, _, _, _, _, rfl, by unfold amoOf; (simp [h3, h5, Ins.zero, Ins.val, u_nil]) <;> rfl⟩, by ((repeat (first | apply On.rowO | refine On.setO ?_ HL.out | apply On.alloc)); first | exact On.refl w | exact on_of HB.out)⟩
set_option maxRecDepth 100000 in
set_option maxHeartbeats 4000000 in
theorem ramo_4_24 (x : BitVec 32) (w : World) (h3 : fi x 14 12 = 4) (h5 : fi x 31 27 = 24) :
    Calls Tryd.prog 86 #[.int .i64 (fi x 14 12), .int .i64 (fi x 31 27), .int .i64 (fi x 11 7), .int .i64 (fi x 19 15), .int .i64 (fi x 24 20)] w fun e w' => PartOf e (amoOf x) ∧ On w w' := by
  have HB := hb0 w
  go_enter Tryd.func86, Tryd.ntmps86
  go_wp2_with (first | (refine own_store w rfl rfl rfl rfl rfl (by simp [Value.oneCell']) ?_ ?_; focus ((repeat (first | exact heap_on HB.out | refine heap_past _ ?_ | refine heap_far ?_ (Nat.ne_of_gt HL.out) _)); done)))
  refine own_back2 w rfl rfl rfl rfl ?_ ?_; (focus ((repeat (first | exact heap_on HB.out | refine heap_past _ ?_ | refine heap_far ?_ (Nat.ne_of_gt HL.out) _)); done))
  exact ⟨⟨_, _, _, _, _, _, _, _, _, _, _, _, rfl, by unfold amoOf; (simp [h3, h5, Ins.zero, Ins.val, u_nil]) <;> rfl⟩, by ((repeat (first | apply On.rowO | refine On.setO ?_ HL.out | apply On.alloc)); first | exact On.refl w | exact on_of HB.out)⟩
set_option maxRecDepth 100000 in
set_option maxHeartbeats 4000000 in
theorem ramo_4_28 (x : BitVec 32) (w : World) (h3 : fi x 14 12 = 4) (h5 : fi x 31 27 = 28) :
    Calls Tryd.prog 86 #[.int .i64 (fi x 14 12), .int .i64 (fi x 31 27), .int .i64 (fi x 11 7), .int .i64 (fi x 19 15), .int .i64 (fi x 24 20)] w fun e w' => PartOf e (amoOf x) ∧ On w w' := by
  have HB := hb0 w
  go_enter Tryd.func86, Tryd.ntmps86
  go_wp2_with (first | (refine own_store w rfl rfl rfl rfl rfl (by simp [Value.oneCell']) ?_ ?_; focus ((repeat (first | exact heap_on HB.out | refine heap_past _ ?_ | refine heap_far ?_ (Nat.ne_of_gt HL.out) _)); done)))
  refine own_back2 w rfl rfl rfl rfl ?_ ?_; (focus ((repeat (first | exact heap_on HB.out | refine heap_past _ ?_ | refine heap_far ?_ (Nat.ne_of_gt HL.out) _)); done))
  exact ⟨⟨_, _, _, _, _, _, _, _, _, _, _, _, rfl, by unfold amoOf; (simp [h3, h5, Ins.zero, Ins.val, u_nil]) <;> rfl⟩, by ((repeat (first | apply On.rowO | refine On.setO ?_ HL.out | apply On.alloc)); first | exact On.refl w | exact on_of HB.out)⟩
set_option maxRecDepth 100000 in
set_option maxHeartbeats 4000000 in
theorem ramo_4_n (x : BitVec 32) (w : World) (h3 : fi x 14 12 = 4) (N : Hid (¬ fi x 31 27 = 2 ∧ ¬ fi x 31 27 = 3 ∧ ¬ fi x 31 27 = 0 ∧ ¬ fi x 31 27 = 1 ∧ ¬ fi x 31 27 = 4 ∧ ¬ fi x 31 27 = 8 ∧ ¬ fi x 31 27 = 12 ∧ ¬ fi x 31 27 = 16 ∧ ¬ fi x 31 27 = 20 ∧ ¬ fi x 31 27 = 24 ∧ ¬ fi x 31 27 = 28)) :
    Calls Tryd.prog 86 #[.int .i64 (fi x 14 12), .int .i64 (fi x 31 27), .int .i64 (fi x 11 7), .int .i64 (fi x 19 15), .int .i64 (fi x 24 20)] w fun e w' => PartOf e (amoOf x) ∧ On w w' := by
  have b0 : (fi x 31 27 == 2) = false := by simpa using N.out.1
  have b1 : (fi x 31 27 == 3) = false := by simpa using N.out.2.1
  have b2 : (fi x 31 27 == 0) = false := by simpa using N.out.2.2.1
  have b3 : (fi x 31 27 == 1) = false := by simpa using N.out.2.2.2.1
  have b4 : (fi x 31 27 == 4) = false := by simpa using N.out.2.2.2.2.1
  have b5 : (fi x 31 27 == 8) = false := by simpa using N.out.2.2.2.2.2.1
  have b6 : (fi x 31 27 == 12) = false := by simpa using N.out.2.2.2.2.2.2.1
  have b7 : (fi x 31 27 == 16) = false := by simpa using N.out.2.2.2.2.2.2.2.1
  have b8 : (fi x 31 27 == 20) = false := by simpa using N.out.2.2.2.2.2.2.2.2.1
  have b9 : (fi x 31 27 == 24) = false := by simpa using N.out.2.2.2.2.2.2.2.2.2.1
  have b10 : (fi x 31 27 == 28) = false := by simpa using N.out.2.2.2.2.2.2.2.2.2.2
  have HB := hb0 w
  go_enter Tryd.func86, Tryd.ntmps86
  go_wp2_with (first | (refine own_store w rfl rfl rfl rfl rfl (by simp [Value.oneCell']) ?_ ?_; focus ((repeat (first | exact heap_on HB.out | refine heap_past _ ?_ | refine heap_far ?_ (Nat.ne_of_gt HL.out) _)); done)))
  refine own_back2 w rfl rfl rfl rfl ?_ ?_; (focus ((repeat (first | exact heap_on HB.out | refine heap_past _ ?_ | refine heap_far ?_ (Nat.ne_of_gt HL.out) _)); done))
  exact ⟨⟨_, _, _, _, _, _, _, _, _, _, _, _, rfl, by unfold amoOf; (simp [h3, N.out, Ins.zero, Ins.val, u_nil]) <;> rfl⟩, by ((repeat (first | apply On.rowO | refine On.setO ?_ HL.out | apply On.alloc)); first | exact On.refl w | exact on_of HB.out)⟩
set_option maxRecDepth 100000 in
set_option maxHeartbeats 4000000 in
theorem ramo_5_2z (x : BitVec 32) (w : World) (h3 : fi x 14 12 = 5) (h5 : fi x 31 27 = 2) (h2 : fi x 24 20 = 0) :
    Calls Tryd.prog 86 #[.int .i64 (fi x 14 12), .int .i64 (fi x 31 27), .int .i64 (fi x 11 7), .int .i64 (fi x 19 15), .int .i64 (fi x 24 20)] w fun e w' => PartOf e (amoOf x) ∧ On w w' := by
  have HB := hb0 w
  go_enter Tryd.func86, Tryd.ntmps86
  go_wp2_with (first | (refine own_store w rfl rfl rfl rfl rfl (by simp [Value.oneCell']) ?_ ?_; focus ((repeat (first | exact heap_on HB.out | refine heap_past _ ?_ | refine heap_far ?_ (Nat.ne_of_gt HL.out) _)); done)))
  refine own_back2 w rfl rfl rfl rfl ?_ ?_; (focus ((repeat (first | exact heap_on HB.out | refine heap_past _ ?_ | refine heap_far ?_ (Nat.ne_of_gt HL.out) _)); done))
  exact ⟨⟨_, _, _, _, _, _, _, _, _, _, _, _, rfl, by unfold amoOf; (simp [h3, h5, h2, Ins.zero, Ins.val, u_nil]) <;> rfl⟩, by ((repeat (first | apply On.rowO | refine On.setO ?_ HL.out | apply On.alloc)); first | exact On.refl w | exact on_of HB.out)⟩
set_option maxRecDepth 100000 in
set_option maxHeartbeats 4000000 in
theorem ramo_5_2n (x : BitVec 32) (w : World) (h3 : fi x 14 12 = 5) (h5 : fi x 31 27 = 2) (H2 : Hid (¬ fi x 24 20 = 0)) :
    Calls Tryd.prog 86 #[.int .i64 (fi x 14 12), .int .i64 (fi x 31 27), .int .i64 (fi x 11 7), .int .i64 (fi x 19 15), .int .i64 (fi x 24 20)] w fun e w' => PartOf e (amoOf x) ∧ On w w' := by
  have b0 : (fi x 24 20 == 0) = false := by simpa using H2.out
  have HB := hb0 w
  go_enter Tryd.func86, Tryd.ntmps86
  go_wp2_with (first | (refine own_store w rfl rfl rfl rfl rfl (by simp [Value.oneCell']) ?_ ?_; focus ((repeat (first | exact heap_on HB.out | refine heap_past _ ?_ | refine heap_far ?_ (Nat.ne_of_gt HL.out) _)); done)))
  refine own_back2 w rfl rfl rfl rfl ?_ ?_; (focus ((repeat (first | exact heap_on HB.out | refine heap_past _ ?_ | refine heap_far ?_ (Nat.ne_of_gt HL.out) _)); done))
  exact ⟨⟨_, _, _, _, _, _, _, _, _, _, _, _, rfl, by unfold amoOf; (simp [h3, h5, H2.out, Ins.zero, Ins.val, u_nil]) <;> rfl⟩, by ((repeat (first | apply On.rowO | refine On.setO ?_ HL.out | apply On.alloc)); first | exact On.refl w | exact on_of HB.out)⟩
set_option maxRecDepth 100000 in
set_option maxHeartbeats 4000000 in
theorem ramo_5_3 (x : BitVec 32) (w : World) (h3 : fi x 14 12 = 5) (h5 : fi x 31 27 = 3) :
    Calls Tryd.prog 86 #[.int .i64 (fi x 14 12), .int .i64 (fi x 31 27), .int .i64 (fi x 11 7), .int .i64 (fi x 19 15), .int .i64 (fi x 24 20)] w fun e w' => PartOf e (amoOf x) ∧ On w w' := by
  have HB := hb0 w
  go_enter Tryd.func86, Tryd.ntmps86
  go_wp2_with (first | (refine own_store w rfl rfl rfl rfl rfl (by simp [Value.oneCell']) ?_ ?_; focus ((repeat (first | exact heap_on HB.out | refine heap_past _ ?_ | refine heap_far ?_ (Nat.ne_of_gt HL.out) _)); done)))
  refine own_back2 w rfl rfl rfl rfl ?_ ?_; (focus ((repeat (first | exact heap_on HB.out | refine heap_past _ ?_ | refine heap_far ?_ (Nat.ne_of_gt HL.out) _)); done))
  exact ⟨⟨_, _, _, _, _, _, _, _, _, _, _, _, rfl, by unfold amoOf; (simp [h3, h5, Ins.zero, Ins.val, u_nil]) <;> rfl⟩, by ((repeat (first | apply On.rowO | refine On.setO ?_ HL.out | apply On.alloc)); first | exact On.refl w | exact on_of HB.out)⟩
set_option maxRecDepth 100000 in
set_option maxHeartbeats 4000000 in
theorem ramo_5_0 (x : BitVec 32) (w : World) (h3 : fi x 14 12 = 5) (h5 : fi x 31 27 = 0) :
    Calls Tryd.prog 86 #[.int .i64 (fi x 14 12), .int .i64 (fi x 31 27), .int .i64 (fi x 11 7), .int .i64 (fi x 19 15), .int .i64 (fi x 24 20)] w fun e w' => PartOf e (amoOf x) ∧ On w w' := by
  have HB := hb0 w
  go_enter Tryd.func86, Tryd.ntmps86
  go_wp2_with (first | (refine own_store w rfl rfl rfl rfl rfl (by simp [Value.oneCell']) ?_ ?_; focus ((repeat (first | exact heap_on HB.out | refine heap_past _ ?_ | refine heap_far ?_ (Nat.ne_of_gt HL.out) _)); done)))
  refine own_back2 w rfl rfl rfl rfl ?_ ?_; (focus ((repeat (first | exact heap_on HB.out | refine heap_past _ ?_ | refine heap_far ?_ (Nat.ne_of_gt HL.out) _)); done))
  exact ⟨⟨_, _, _, _, _, _, _, _, _, _, _, _, rfl, by unfold amoOf; (simp [h3, h5, Ins.zero, Ins.val, u_nil]) <;> rfl⟩, by ((repeat (first | apply On.rowO | refine On.setO ?_ HL.out | apply On.alloc)); first | exact On.refl w | exact on_of HB.out)⟩
set_option maxRecDepth 100000 in
set_option maxHeartbeats 4000000 in
theorem ramo_5_1 (x : BitVec 32) (w : World) (h3 : fi x 14 12 = 5) (h5 : fi x 31 27 = 1) :
    Calls Tryd.prog 86 #[.int .i64 (fi x 14 12), .int .i64 (fi x 31 27), .int .i64 (fi x 11 7), .int .i64 (fi x 19 15), .int .i64 (fi x 24 20)] w fun e w' => PartOf e (amoOf x) ∧ On w w' := by
  have HB := hb0 w
  go_enter Tryd.func86, Tryd.ntmps86
  go_wp2_with (first | (refine own_store w rfl rfl rfl rfl rfl (by simp [Value.oneCell']) ?_ ?_; focus ((repeat (first | exact heap_on HB.out | refine heap_past _ ?_ | refine heap_far ?_ (Nat.ne_of_gt HL.out) _)); done)))
  refine own_back2 w rfl rfl rfl rfl ?_ ?_; (focus ((repeat (first | exact heap_on HB.out | refine heap_past _ ?_ | refine heap_far ?_ (Nat.ne_of_gt HL.out) _)); done))
  exact ⟨⟨_, _, _, _, _, _, _, _, _, _, _, _, rfl, by unfold amoOf; (simp [h3, h5, Ins.zero, Ins.val, u_nil]) <;> rfl⟩, by ((repeat (first | apply On.rowO | refine On.setO ?_ HL.out | apply On.alloc)); first | exact On.refl w | exact on_of HB.out)⟩
set_option maxRecDepth 100000 in
set_option maxHeartbeats 4000000 in
theorem ramo_5_4 (x : BitVec 32) (w : World) (h3 : fi x 14 12 = 5) (h5 : fi x 31 27 = 4) :
    Calls Tryd.prog 86 #[.int .i64 (fi x 14 12), .int .i64 (fi x 31 27), .int .i64 (fi x 11 7), .int .i64 (fi x 19 15), .int .i64 (fi x 24 20)] w fun e w' => PartOf e (amoOf x) ∧ On w w' := by
  have HB := hb0 w
  go_enter Tryd.func86, Tryd.ntmps86
  go_wp2_with (first | (refine own_store w rfl rfl rfl rfl rfl (by simp [Value.oneCell']) ?_ ?_; focus ((repeat (first | exact heap_on HB.out | refine heap_past _ ?_ | refine heap_far ?_ (Nat.ne_of_gt HL.out) _)); done)))
  refine own_back2 w rfl rfl rfl rfl ?_ ?_; (focus ((repeat (first | exact heap_on HB.out | refine heap_past _ ?_ | refine heap_far ?_ (Nat.ne_of_gt HL.out) _)); done))
  exact ⟨⟨_, _, _, _, _, _, _, _, _, _, _, _, rfl, by unfold amoOf; (simp [h3, h5, Ins.zero, Ins.val, u_nil]) <;> rfl⟩, by ((repeat (first | apply On.rowO | refine On.setO ?_ HL.out | apply On.alloc)); first | exact On.refl w | exact on_of HB.out)⟩
set_option maxRecDepth 100000 in
set_option maxHeartbeats 4000000 in
theorem ramo_5_8 (x : BitVec 32) (w : World) (h3 : fi x 14 12 = 5) (h5 : fi x 31 27 = 8) :
    Calls Tryd.prog 86 #[.int .i64 (fi x 14 12), .int .i64 (fi x 31 27), .int .i64 (fi x 11 7), .int .i64 (fi x 19 15), .int .i64 (fi x 24 20)] w fun e w' => PartOf e (amoOf x) ∧ On w w' := by
  have HB := hb0 w
  go_enter Tryd.func86, Tryd.ntmps86
  go_wp2_with (first | (refine own_store w rfl rfl rfl rfl rfl (by simp [Value.oneCell']) ?_ ?_; focus ((repeat (first | exact heap_on HB.out | refine heap_past _ ?_ | refine heap_far ?_ (Nat.ne_of_gt HL.out) _)); done)))
  refine own_back2 w rfl rfl rfl rfl ?_ ?_; (focus ((repeat (first | exact heap_on HB.out | refine heap_past _ ?_ | refine heap_far ?_ (Nat.ne_of_gt HL.out) _)); done))
  exact ⟨⟨_, _, _, _, _, _, _, _, _, _, _, _, rfl, by unfold amoOf; (simp [h3, h5, Ins.zero, Ins.val, u_nil]) <;> rfl⟩, by ((repeat (first | apply On.rowO | refine On.setO ?_ HL.out | apply On.alloc)); first | exact On.refl w | exact on_of HB.out)⟩
set_option maxRecDepth 100000 in
set_option maxHeartbeats 4000000 in
theorem ramo_5_12 (x : BitVec 32) (w : World) (h3 : fi x 14 12 = 5) (h5 : fi x 31 27 = 12) :
    Calls Tryd.prog 86 #[.int .i64 (fi x 14 12), .int .i64 (fi x 31 27), .int .i64 (fi x 11 7), .int .i64 (fi x 19 15), .int .i64 (fi x 24 20)] w fun e w' => PartOf e (amoOf x) ∧ On w w' := by
  have HB := hb0 w
  go_enter Tryd.func86, Tryd.ntmps86
  go_wp2_with (first | (refine own_store w rfl rfl rfl rfl rfl (by simp [Value.oneCell']) ?_ ?_; focus ((repeat (first | exact heap_on HB.out | refine heap_past _ ?_ | refine heap_far ?_ (Nat.ne_of_gt HL.out) _)); done)))
  refine own_back2 w rfl rfl rfl rfl ?_ ?_; (focus ((repeat (first | exact heap_on HB.out | refine heap_past _ ?_ | refine heap_far ?_ (Nat.ne_of_gt HL.out) _)); done))
  exact ⟨⟨_, _, _, _, _, _, _, _, _, _, _, _, rfl, by unfold amoOf; (simp [h3, h5, Ins.zero, Ins.val, u_nil]) <;> rfl⟩, by ((repeat (first | apply On.rowO | refine On.setO ?_ HL.out | apply On.alloc)); first | exact On.refl w | exact on_of HB.out)⟩
set_option maxRecDepth 100000 in
set_option maxHeartbeats 4000000 in
theorem ramo_5_16 (x : BitVec 32) (w : World) (h3 : fi x 14 12 = 5) (h5 : fi x 31 27 = 16) :
    Calls Tryd.prog 86 #[.int .i64 (fi x 14 12), .int .i64 (fi x 31 27), .int .i64 (fi x 11 7), .int .i64 (fi x 19 15), .int .i64 (fi x 24 20)] w fun e w' => PartOf e (amoOf x) ∧ On w w' := by
  have HB := hb0 w
  go_enter Tryd.func86, Tryd.ntmps86
  go_wp2_with (first | (refine own_store w rfl rfl rfl rfl rfl (by simp [Value.oneCell']) ?_ ?_; focus ((repeat (first | exact heap_on HB.out | refine heap_past _ ?_ | refine heap_far ?_ (Nat.ne_of_gt HL.out) _)); done)))
  refine own_back2 w rfl rfl rfl rfl ?_ ?_; (focus ((repeat (first | exact heap_on HB.out | refine heap_past _ ?_ | refine heap_far ?_ (Nat.ne_of_gt HL.out) _)); done))
  exact ⟨⟨_, _, _, _, _, _, _, _, _, _, _, _, rfl, by unfold amoOf; (simp [h3, h5, Ins.zero, Ins.val, u_nil]) <;> rfl⟩, by ((repeat (first | apply On.rowO | refine On.setO ?_ HL.out | apply On.alloc)); first | exact On.refl w | exact on_of HB.out)⟩
set_option maxRecDepth 100000 in
set_option maxHeartbeats 4000000 in
theorem ramo_5_20 (x : BitVec 32) (w : World) (h3 : fi x 14 12 = 5) (h5 : fi x 31 27 = 20) :
    Calls Tryd.prog 86 #[.int .i64 (fi x 14 12), .int .i64 (fi x 31 27), .int .i64 (fi x 11 7), .int .i64 (fi x 19 15), .int .i64 (fi x 24 20)] w fun e w' => PartOf e (amoOf x) ∧ On w w' := by
  have HB := hb0 w
  go_enter Tryd.func86, Tryd.ntmps86
  go_wp2_with (first | (refine own_store w rfl rfl rfl rfl rfl (by simp [Value.oneCell']) ?_ ?_; focus ((repeat (first | exact heap_on HB.out | refine heap_past _ ?_ | refine heap_far ?_ (Nat.ne_of_gt HL.out) _)); done)))
  refine own_back2 w rfl rfl rfl rfl ?_ ?_; (focus ((repeat (first | exact heap_on HB.out | refine heap_past _ ?_ | refine heap_far ?_ (Nat.ne_of_gt HL.out) _)); done))
  exact ⟨⟨_, _, _, _, _, _, _, _, _, _, _, _, rfl, by unfold amoOf; (simp [h3, h5, Ins.zero, Ins.val, u_nil]) <;> rfl⟩, by ((repeat (first | apply On.rowO | refine On.setO ?_ HL.out | apply On.alloc)); first | exact On.refl w | exact on_of HB.out)⟩
set_option maxRecDepth 100000 in
set_option maxHeartbeats 4000000 in
theorem ramo_5_24 (x : BitVec 32) (w : World) (h3 : fi x 14 12 = 5) (h5 : fi x 31 27 = 24) :
    Calls Tryd.prog 86 #[.int .i64 (fi x 14 12), .int .i64 (fi x 31 27), .int .i64 (fi x 11 7), .int .i64 (fi x 19 15), .int .i64 (fi x 24 20)] w fun e w' => PartOf e (amoOf x) ∧ On w w' := by
  have HB := hb0 w
  go_enter Tryd.func86, Tryd.ntmps86
  go_wp2_with (first | (refine own_store w rfl rfl rfl rfl rfl (by simp [Value.oneCell']) ?_ ?_; focus ((repeat (first | exact heap_on HB.out | refine heap_past _ ?_ | refine heap_far ?_ (Nat.ne_of_gt HL.out) _)); done)))
  refine own_back2 w rfl rfl rfl rfl ?_ ?_; (focus ((repeat (first | exact heap_on HB.out | refine heap_past _ ?_ | refine heap_far ?_ (Nat.ne_of_gt HL.out) _)); done))
  exact ⟨⟨_, _, _, _, _, _, _, _, _, _, _, _, rfl, by unfold amoOf; (simp [h3, h5, Ins.zero, Ins.val, u_nil]) <;> rfl⟩, by ((repeat (first | apply On.rowO | refine On.setO ?_ HL.out | apply On.alloc)); first | exact On.refl w | exact on_of HB.out)⟩
set_option maxRecDepth 100000 in
set_option maxHeartbeats 4000000 in
theorem ramo_5_28 (x : BitVec 32) (w : World) (h3 : fi x 14 12 = 5) (h5 : fi x 31 27 = 28) :
    Calls Tryd.prog 86 #[.int .i64 (fi x 14 12), .int .i64 (fi x 31 27), .int .i64 (fi x 11 7), .int .i64 (fi x 19 15), .int .i64 (fi x 24 20)] w fun e w' => PartOf e (amoOf x) ∧ On w w' := by
  have HB := hb0 w
  go_enter Tryd.func86, Tryd.ntmps86
  go_wp2_with (first | (refine own_store w rfl rfl rfl rfl rfl (by simp [Value.oneCell']) ?_ ?_; focus ((repeat (first | exact heap_on HB.out | refine heap_past _ ?_ | refine heap_far ?_ (Nat.ne_of_gt HL.out) _)); done)))
  refine own_back2 w rfl rfl rfl rfl ?_ ?_; (focus ((repeat (first | exact heap_on HB.out | refine heap_past _ ?_ | refine heap_far ?_ (Nat.ne_of_gt HL.out) _)); done))
  exact ⟨⟨_, _, _, _, _, _, _, _, _, _, _, _, rfl, by unfold amoOf; (simp [h3, h5, Ins.zero, Ins.val, u_nil]) <;> rfl⟩, by ((repeat (first | apply On.rowO | refine On.setO ?_ HL.out | apply On.alloc)); first | exact On.refl w | exact on_of HB.out)⟩
set_option maxRecDepth 100000 in
set_option maxHeartbeats 4000000 in
theorem ramo_5_n (x : BitVec 32) (w : World) (h3 : fi x 14 12 = 5) (N : Hid (¬ fi x 31 27 = 2 ∧ ¬ fi x 31 27 = 3 ∧ ¬ fi x 31 27 = 0 ∧ ¬ fi x 31 27 = 1 ∧ ¬ fi x 31 27 = 4 ∧ ¬ fi x 31 27 = 8 ∧ ¬ fi x 31 27 = 12 ∧ ¬ fi x 31 27 = 16 ∧ ¬ fi x 31 27 = 20 ∧ ¬ fi x 31 27 = 24 ∧ ¬ fi x 31 27 = 28)) :
    Calls Tryd.prog 86 #[.int .i64 (fi x 14 12), .int .i64 (fi x 31 27), .int .i64 (fi x 11 7), .int .i64 (fi x 19 15), .int .i64 (fi x 24 20)] w fun e w' => PartOf e (amoOf x) ∧ On w w' := by
  have b0 : (fi x 31 27 == 2) = false := by simpa using N.out.1
  have b1 : (fi x 31 27 == 3) = false := by simpa using N.out.2.1
  have b2 : (fi x 31 27 == 0) = false := by simpa using N.out.2.2.1
  have b3 : (fi x 31 27 == 1) = false := by simpa using N.out.2.2.2.1
  have b4 : (fi x 31 27 == 4) = false := by simpa using N.out.2.2.2.2.1
  have b5 : (fi x 31 27 == 8) = false := by simpa using N.out.2.2.2.2.2.1
  have b6 : (fi x 31 27 == 12) = false := by simpa using N.out.2.2.2.2.2.2.1
  have b7 : (fi x 31 27 == 16) = false := by simpa using N.out.2.2.2.2.2.2.2.1
  have b8 : (fi x 31 27 == 20) = false := by simpa using N.out.2.2.2.2.2.2.2.2.1
  have b9 : (fi x 31 27 == 24) = false := by simpa using N.out.2.2.2.2.2.2.2.2.2.1
  have b10 : (fi x 31 27 == 28) = false := by simpa using N.out.2.2.2.2.2.2.2.2.2.2
  have HB := hb0 w
  go_enter Tryd.func86, Tryd.ntmps86
  go_wp2_with (first | (refine own_store w rfl rfl rfl rfl rfl (by simp [Value.oneCell']) ?_ ?_; focus ((repeat (first | exact heap_on HB.out | refine heap_past _ ?_ | refine heap_far ?_ (Nat.ne_of_gt HL.out) _)); done)))
  refine own_back2 w rfl rfl rfl rfl ?_ ?_; (focus ((repeat (first | exact heap_on HB.out | refine heap_past _ ?_ | refine heap_far ?_ (Nat.ne_of_gt HL.out) _)); done))
  exact ⟨⟨_, _, _, _, _, _, _, _, _, _, _, _, rfl, by unfold amoOf; (simp [h3, N.out, Ins.zero, Ins.val, u_nil]) <;> rfl⟩, by ((repeat (first | apply On.rowO | refine On.setO ?_ HL.out | apply On.alloc)); first | exact On.refl w | exact on_of HB.out)⟩
set_option maxRecDepth 100000 in
set_option maxHeartbeats 4000000 in
theorem ramo_6_2z (x : BitVec 32) (w : World) (h3 : fi x 14 12 = 6) (h5 : fi x 31 27 = 2) (h2 : fi x 24 20 = 0) :
    Calls Tryd.prog 86 #[.int .i64 (fi x 14 12), .int .i64 (fi x 31 27), .int .i64 (fi x 11 7), .int .i64 (fi x 19 15), .int .i64 (fi x 24 20)] w fun e w' => PartOf e (amoOf x) ∧ On w w' := by
  have HB := hb0 w
  go_enter Tryd.func86, Tryd.ntmps86
  go_wp2_with (first | (refine own_store w rfl rfl rfl rfl rfl (by simp [Value.oneCell']) ?_ ?_; focus ((repeat (first | exact heap_on HB.out | refine heap_past _ ?_ | refine heap_far ?_ (Nat.ne_of_gt HL.out) _)); done)))
  refine own_back2 w rfl rfl rfl rfl ?_ ?_; (focus ((repeat (first | exact heap_on HB.out | refine heap_past _ ?_ | refine heap_far ?_ (Nat.ne_of_gt HL.out) _)); done))
  exact ⟨⟨_, _, _, _, _, _, _, _, _, _, _, _, rfl, by unfold amoOf; (simp [h3, h5, h2, Ins.zero, Ins.val, u_nil]) <;> rfl⟩, by ((repeat (first | apply On.rowO | refine On.setO ?_ HL.out | apply On.alloc)); first | exact On.refl w | exact on_of HB.out)⟩
set_option maxRecDepth 100000 in
set_option maxHeartbeats 4000000 in
theorem ramo_6_2n (x : BitVec 32) (w : World) (h3 : fi x 14 12 = 6) (h5 : fi x 31 27 = 2) (H2 : Hid (¬ fi x 24 20 = 0)) :
    Calls Tryd.prog 86 #[.int .i64 (fi x 14 12), .int .i64 (fi x 31 27), .int .i64 (fi x 11 7), .int .i64 (fi x 19 15), .int .i64 (fi x 24 20)] w fun e w' => PartOf e (amoOf x) ∧ On w w' := by
  have b0 : (fi x 24 20 == 0) = false := by simpa using H2.out
  have HB := hb0 w
  go_enter Tryd.func86, Tryd.ntmps86
  go_wp2_with (first | (refine own_store w rfl rfl rfl rfl rfl (by simp [Value.oneCell']) ?_ ?_; focus ((repeat (first | exact heap_on HB.out | refine heap_past _ ?_ | refine heap_far ?_ (Nat.ne_of_gt HL.out) _)); done)))
  refine own_back2 w rfl rfl rfl rfl ?_ ?_; (focus ((repeat (first | exact heap_on HB.out | refine heap_past _ ?_ | refine heap_far ?_ (Nat.ne_of_gt HL.out) _)); done))
  exact ⟨⟨_, _, _, _, _, _, _, _, _, _, _, _, rfl, by unfold amoOf; (simp [h3, h5, H2.out, Ins.zero, Ins.val, u_nil]) <;> rfl⟩, by ((repeat (first | apply On.rowO | refine On.setO ?_ HL.out | apply On.alloc)); first | exact On.refl w | exact on_of HB.out)⟩
set_option maxRecDepth 100000 in
set_option maxHeartbeats 4000000 in
theorem ramo_6_3 (x : BitVec 32) (w : World) (h3 : fi x 14 12 = 6) (h5 : fi x 31 27 = 3) :
    Calls Tryd.prog 86 #[.int .i64 (fi x 14 12), .int .i64 (fi x 31 27), .int .i64 (fi x 11 7), .int .i64 (fi x 19 15), .int .i64 (fi x 24 20)] w fun e w' => PartOf e (amoOf x) ∧ On w w' := by
  have HB := hb0 w
  go_enter Tryd.func86, Tryd.ntmps86
  go_wp2_with (first | (refine own_store w rfl rfl rfl rfl rfl (by simp [Value.oneCell']) ?_ ?_; focus ((repeat (first | exact heap_on HB.out | refine heap_past _ ?_ | refine heap_far ?_ (Nat.ne_of_gt HL.out) _)); done)))
  refine own_back2 w rfl rfl rfl rfl ?_ ?_; (focus ((repeat (first | exact heap_on HB.out | refine heap_past _ ?_ | refine heap_far ?_ (Nat.ne_of_gt HL.out) _)); done))
  exact ⟨⟨_, _, _, _, _, _, _, _, _, _, _, _, rfl, by unfold amoOf; (simp [h3, h5, Ins.zero, Ins.val, u_nil]) <;> rfl⟩, by ((repeat (first | apply On.rowO | refine On.setO ?_ HL.out | apply On.alloc)); first | exact On.refl w | exact on_of HB.out)⟩
set_option maxRecDepth 100000 in
set_option maxHeartbeats 4000000 in
theorem ramo_6_0 (x : BitVec 32) (w : World) (h3 : fi x 14 12 = 6) (h5 : fi x 31 27 = 0) :
    Calls Tryd.prog 86 #[.int .i64 (fi x 14 12), .int .i64 (fi x 31 27), .int .i64 (fi x 11 7), .int .i64 (fi x 19 15), .int .i64 (fi x 24 20)] w fun e w' => PartOf e (amoOf x) ∧ On w w' := by
  have HB := hb0 w
  go_enter Tryd.func86, Tryd.ntmps86
  go_wp2_with (first | (refine own_store w rfl rfl rfl rfl rfl (by simp [Value.oneCell']) ?_ ?_; focus ((repeat (first | exact heap_on HB.out | refine heap_past _ ?_ | refine heap_far ?_ (Nat.ne_of_gt HL.out) _)); done)))
  refine own_back2 w rfl rfl rfl rfl ?_ ?_; (focus ((repeat (first | exact heap_on HB.out | refine heap_past _ ?_ | refine heap_far ?_ (Nat.ne_of_gt HL.out) _)); done))
  exact ⟨⟨_, _, _, _, _, _, _, _, _, _, _, _, rfl, by unfold amoOf; (simp [h3, h5, Ins.zero, Ins.val, u_nil]) <;> rfl⟩, by ((repeat (first | apply On.rowO | refine On.setO ?_ HL.out | apply On.alloc)); first | exact On.refl w | exact on_of HB.out)⟩
set_option maxRecDepth 100000 in
set_option maxHeartbeats 4000000 in
theorem ramo_6_1 (x : BitVec 32) (w : World) (h3 : fi x 14 12 = 6) (h5 : fi x 31 27 = 1) :
    Calls Tryd.prog 86 #[.int .i64 (fi x 14 12), .int .i64 (fi x 31 27), .int .i64 (fi x 11 7), .int .i64 (fi x 19 15), .int .i64 (fi x 24 20)] w fun e w' => PartOf e (amoOf x) ∧ On w w' := by
  have HB := hb0 w
  go_enter Tryd.func86, Tryd.ntmps86
  go_wp2_with (first | (refine own_store w rfl rfl rfl rfl rfl (by simp [Value.oneCell']) ?_ ?_; focus ((repeat (first | exact heap_on HB.out | refine heap_past _ ?_ | refine heap_far ?_ (Nat.ne_of_gt HL.out) _)); done)))
  refine own_back2 w rfl rfl rfl rfl ?_ ?_; (focus ((repeat (first | exact heap_on HB.out | refine heap_past _ ?_ | refine heap_far ?_ (Nat.ne_of_gt HL.out) _)); done))
  exact ⟨⟨_, _, _, _, _, _, _, _, _, _, _, _, rfl, by unfold amoOf; (simp [h3, h5, Ins.zero, Ins.val, u_nil]) <;> rfl⟩, by ((repeat (first | apply On.rowO | refine On.setO ?_ HL.out | apply On.alloc)); first | exact On.refl w | exact on_of HB.out)⟩
set_option maxRecDepth 100000 in
set_option maxHeartbeats 4000000 in
theorem ramo_6_4 (x : BitVec 32) (w : World) (h3 : fi x 14 12 = 6) (h5 : fi x 31 27 = 4) :
    Calls Tryd.prog 86 #[.int .i64 (fi x 14 12), .int .i64 (fi x 31 27), .int .i64 (fi x 11 7), .int .i64 (fi x 19 15), .int .i64 (fi x 24 20)] w fun e w' => PartOf e (amoOf x) ∧ On w w' := by
  have HB := hb0 w
  go_enter Tryd.func86, Tryd.ntmps86
  go_wp2_with (first | (refine own_store w rfl rfl rfl rfl rfl (by simp [Value.oneCell']) ?_ ?_; focus ((repeat (first | exact heap_on HB.out | refine heap_past _ ?_ | refine heap_far ?_ (Nat.ne_of_gt HL.out) _)); done)))
  refine own_back2 w rfl rfl rfl rfl ?_ ?_; (focus ((repeat (first | exact heap_on HB.out | refine heap_past _ ?_ | refine heap_far ?_ (Nat.ne_of_gt HL.out) _)); done))
  exact ⟨⟨_, _, _, _, _, _, _, _, _, _, _, _, rfl, by unfold amoOf; (simp [h3, h5, Ins.zero, Ins.val, u_nil]) <;> rfl⟩, by ((repeat (first | apply On.rowO | refine On.setO ?_ HL.out | apply On.alloc)); first | exact On.refl w | exact on_of HB.out)⟩
set_option maxRecDepth 100000 in
set_option maxHeartbeats 4000000 in
theorem ramo_6_8 (x : BitVec 32) (w : World) (h3 : fi x 14 12 = 6) (h5 : fi x 31 27 = 8) :
    Calls Tryd.prog 86 #[.int .i64 (fi x 14 12), .int .i64 (fi x 31 27), .int .i64 (fi x 11 7), .int .i64 (fi x 19 15), .int .i64 (fi x 24 20)] w fun e w' => PartOf e (amoOf x) ∧ On w w' := by
  have HB := hb0 w
  go_enter Tryd.func86, Tryd.ntmps86
  go_wp2_with (first | (refine own_store w rfl rfl rfl rfl rfl (by simp [Value.oneCell']) ?_ ?_; focus ((repeat (first | exact heap_on HB.out | refine heap_past _ ?_ | refine heap_far ?_ (Nat.ne_of_gt HL.out) _)); done)))
  refine own_back2 w rfl rfl rfl rfl ?_ ?_; (focus ((repeat (first | exact heap_on HB.out | refine heap_past _ ?_ | refine heap_far ?_ (Nat.ne_of_gt HL.out) _)); done))
  exact ⟨⟨_, _, _, _, _, _, _, _, _, _, _, _, rfl, by unfold amoOf; (simp [h3, h5, Ins.zero, Ins.val, u_nil]) <;> rfl⟩, by ((repeat (first | apply On.rowO | refine On.setO ?_ HL.out | apply On.alloc)); first | exact On.refl w | exact on_of HB.out)⟩
set_option maxRecDepth 100000 in
set_option maxHeartbeats 4000000 in
theorem ramo_6_12 (x : BitVec 32) (w : World) (h3 : fi x 14 12 = 6) (h5 : fi x 31 27 = 12) :
    Calls Tryd.prog 86 #[.int .i64 (fi x 14 12), .int .i64 (fi x 31 27), .int .i64 (fi x 11 7), .int .i64 (fi x 19 15), .int .i64 (fi x 24 20)] w fun e w' => PartOf e (amoOf x) ∧ On w w' := by
  have HB := hb0 w
  go_enter Tryd.func86, Tryd.ntmps86
  go_wp2_with (first | (refine own_store w rfl rfl rfl rfl rfl (by simp [Value.oneCell']) ?_ ?_; focus ((repeat (first | exact heap_on HB.out | refine heap_past _ ?_ | refine heap_far ?_ (Nat.ne_of_gt HL.out) _)); done)))
  refine own_back2 w rfl rfl rfl rfl ?_ ?_; (focus ((repeat (first | exact heap_on HB.out | refine heap_past _ ?_ | refine heap_far ?_ (Nat.ne_of_gt HL.out) _)); done))
  exact ⟨⟨_, _, _, _, _, _, _, _, _, _, _, _, rfl, by unfold amoOf; (simp [h3, h5, Ins.zero, Ins.val, u_nil]) <;> rfl⟩, by ((repeat (first | apply On.rowO | refine On.setO ?_ HL.out | apply On.alloc)); first | exact On.refl w | exact on_of HB.out)⟩
set_option maxRecDepth 100000 in
set_option maxHeartbeats 4000000 in
theorem ramo_6_16 (x : BitVec 32) (w : World) (h3 : fi x 14 12 = 6) (h5 : fi x 31 27 = 16) :
    Calls Tryd.prog 86 #[.int .i64 (fi x 14 12), .int .i64 (fi x 31 27), .int .i64 (fi x 11 7), .int .i64 (fi x 19 15), .int .i64 (fi x 24 20)] w fun e w' => PartOf e (amoOf x) ∧ On w w' := by
  have HB := hb0 w
  go_enter Tryd.func86, Tryd.ntmps86
  go_wp2_with (first | (refine own_store w rfl rfl rfl rfl rfl (by simp [Value.oneCell']) ?_ ?_; focus ((repeat (first | exact heap_on HB.out | refine heap_past _ ?_ | refine heap_far ?_ (Nat.ne_of_gt HL.out) _)); done)))
  refine own_back2 w rfl rfl rfl rfl ?_ ?_; (focus ((repeat (first | exact heap_on HB.out | refine heap_past _ ?_ | refine heap_far ?_ (Nat.ne_of_gt HL.out) _)); done))
  exact ⟨⟨_, _, _, _, _, _, _, _, _, _, _, _, rfl, by unfold amoOf; (simp [h3, h5, Ins.zero, Ins.val, u_nil]) <;> rfl⟩, by ((repeat (first | apply On.rowO | refine On.setO ?_ HL.out | apply On.alloc)); first | exact On.refl w | exact on_of HB.out)⟩
set_option maxRecDepth 100000 in
set_option maxHeartbeats 4000000 in
theorem ramo_6_20 (x : BitVec 32) (w : World) (h3 : fi x 14 12 = 6) (h5 : fi x 31 27 = 20) :
    Calls Tryd.prog 86 #[.int .i64 (fi x 14 12), .int .i64 (fi x 31 27), .int .i64 (fi x 11 7), .int .i64 (fi x 19 15), .int .i64 (fi x 24 20)] w fun e w' => PartOf e (amoOf x) ∧ On w w' := by
  have HB := hb0 w
  go_enter Tryd.func86, Tryd.ntmps86
  go_wp2_with (first | (refine own_store w rfl rfl rfl rfl rfl (by simp [Value.oneCell']) ?_ ?_; focus ((repeat (first | exact heap_on HB.out | refine heap_past _ ?_ | refine heap_far ?_ (Nat.ne_of_gt HL.out) _)); done)))
  refine own_back2 w rfl rfl rfl rfl ?_ ?_; (focus ((repeat (first | exact heap_on HB.out | refine heap_past _ ?_ | refine heap_far ?_ (Nat.ne_of_gt HL.out) _)); done))
  exact ⟨⟨_, _, _, _, _, _, _, _, _, _, _, _, rfl, by unfold amoOf; (simp [h3, h5, Ins.zero, Ins.val, u_nil]) <;> rfl⟩, by ((repeat (first | apply On.rowO | refine On.setO ?_ HL.out | apply On.alloc)); first | exact On.refl w | exact on_of HB.out)⟩
set_option maxRecDepth 100000 in
set_option maxHeartbeats 4000000 in
theorem ramo_6_24 (x : BitVec 32) (w : World) (h3 : fi x 14 12 = 6) (h5 : fi x 31 27 = 24) :
    Calls Tryd.prog 86 #[.int .i64 (fi x 14 12), .int .i64 (fi x 31 27), .int .i64 (fi x 11 7), .int .i64 (fi x 19 15), .int .i64 (fi x 24 20)] w fun e w' => PartOf e (amoOf x) ∧ On w w' := by
  have HB := hb0 w
  go_enter Tryd.func86, Tryd.ntmps86
  go_wp2_with (first | (refine own_store w rfl rfl rfl rfl rfl (by simp [Value.oneCell']) ?_ ?_; focus ((repeat (first | exact heap_on HB.out | refine heap_past _ ?_ | refine heap_far ?_ (Nat.ne_of_gt HL.out) _)); done)))
  refine own_back2 w rfl rfl rfl rfl ?_ ?_; (focus ((repeat (first | exact heap_on HB.out | refine heap_past _ ?_ | refine heap_far ?_ (Nat.ne_of_gt HL.out) _)); done))
  exact ⟨⟨_, _, _, _, _, _, _, _, _, _, _, _, rfl, by unfold amoOf; (simp [h3, h5, Ins.zero, Ins.val, u_nil]) <;> rfl⟩, by ((repeat (first | apply On.rowO | refine On.setO ?_ HL.out | apply On.alloc)); first | exact On.refl w | exact on_of HB.out)⟩
set_option maxRecDepth 100000 in
set_option maxHeartbeats 4000000 in
theorem ramo_6_28 (x : BitVec 32) (w : World) (h3 : fi x 14 12 = 6) (h5 : fi x 31 27 = 28) :
    Calls Tryd.prog 86 #[.int .i64 (fi x 14 12), .int .i64 (fi x 31 27), .int .i64 (fi x 11 7), .int .i64 (fi x 19 15), .int .i64 (fi x 24 20)] w fun e w' => PartOf e (amoOf x) ∧ On w w' := by
  have HB := hb0 w
  go_enter Tryd.func86, Tryd.ntmps86
  go_wp2_with (first | (refine own_store w rfl rfl rfl rfl rfl (by simp [Value.oneCell']) ?_ ?_; focus ((repeat (first | exact heap_on HB.out | refine heap_past _ ?_ | refine heap_far ?_ (Nat.ne_of_gt HL.out) _)); done)))
  refine own_back2 w rfl rfl rfl rfl ?_ ?_; (focus ((repeat (first | exact heap_on HB.out | refine heap_past _ ?_ | refine heap_far ?_ (Nat.ne_of_gt HL.out) _)); done))
  exact ⟨⟨_, _, _, _, _, _, _, _, _, _, _, _, rfl, by unfold amoOf; (simp [h3, h5, Ins.zero, Ins.val, u_nil]) <;> rfl⟩, by ((repeat (first | apply On.rowO | refine On.setO ?_ HL.out | apply On.alloc)); first | exact On.refl w | exact on_of HB.out)⟩
set_option maxRecDepth 100000 in
set_option maxHeartbeats 4000000 in
theorem ramo_6_n (x : BitVec 32) (w : World) (h3 : fi x 14 12 = 6) (N : Hid (¬ fi x 31 27 = 2 ∧ ¬ fi x 31 27 = 3 ∧ ¬ fi x 31 27 = 0 ∧ ¬ fi x 31 27 = 1 ∧ ¬ fi x 31 27 = 4 ∧ ¬ fi x 31 27 = 8 ∧ ¬ fi x 31 27 = 12 ∧ ¬ fi x 31 27 = 16 ∧ ¬ fi x 31 27 = 20 ∧ ¬ fi x 31 27 = 24 ∧ ¬ fi x 31 27 = 28)) :
    Calls Tryd.prog 86 #[.int .i64 (fi x 14 12), .int .i64 (fi x 31 27), .int .i64 (fi x 11 7), .int .i64 (fi x 19 15), .int .i64 (fi x 24 20)] w fun e w' => PartOf e (amoOf x) ∧ On w w' := by
  have b0 : (fi x 31 27 == 2) = false := by simpa using N.out.1
  have b1 : (fi x 31 27 == 3) = false := by simpa using N.out.2.1
  have b2 : (fi x 31 27 == 0) = false := by simpa using N.out.2.2.1
  have b3 : (fi x 31 27 == 1) = false := by simpa using N.out.2.2.2.1
  have b4 : (fi x 31 27 == 4) = false := by simpa using N.out.2.2.2.2.1
  have b5 : (fi x 31 27 == 8) = false := by simpa using N.out.2.2.2.2.2.1
  have b6 : (fi x 31 27 == 12) = false := by simpa using N.out.2.2.2.2.2.2.1
  have b7 : (fi x 31 27 == 16) = false := by simpa using N.out.2.2.2.2.2.2.2.1
  have b8 : (fi x 31 27 == 20) = false := by simpa using N.out.2.2.2.2.2.2.2.2.1
  have b9 : (fi x 31 27 == 24) = false := by simpa using N.out.2.2.2.2.2.2.2.2.2.1
  have b10 : (fi x 31 27 == 28) = false := by simpa using N.out.2.2.2.2.2.2.2.2.2.2
  have HB := hb0 w
  go_enter Tryd.func86, Tryd.ntmps86
  go_wp2_with (first | (refine own_store w rfl rfl rfl rfl rfl (by simp [Value.oneCell']) ?_ ?_; focus ((repeat (first | exact heap_on HB.out | refine heap_past _ ?_ | refine heap_far ?_ (Nat.ne_of_gt HL.out) _)); done)))
  refine own_back2 w rfl rfl rfl rfl ?_ ?_; (focus ((repeat (first | exact heap_on HB.out | refine heap_past _ ?_ | refine heap_far ?_ (Nat.ne_of_gt HL.out) _)); done))
  exact ⟨⟨_, _, _, _, _, _, _, _, _, _, _, _, rfl, by unfold amoOf; (simp [h3, N.out, Ins.zero, Ins.val, u_nil]) <;> rfl⟩, by ((repeat (first | apply On.rowO | refine On.setO ?_ HL.out | apply On.alloc)); first | exact On.refl w | exact on_of HB.out)⟩
set_option maxRecDepth 100000 in
set_option maxHeartbeats 4000000 in
theorem ramo_7_2z (x : BitVec 32) (w : World) (h3 : fi x 14 12 = 7) (h5 : fi x 31 27 = 2) (h2 : fi x 24 20 = 0) :
    Calls Tryd.prog 86 #[.int .i64 (fi x 14 12), .int .i64 (fi x 31 27), .int .i64 (fi x 11 7), .int .i64 (fi x 19 15), .int .i64 (fi x 24 20)] w fun e w' => PartOf e (amoOf x) ∧ On w w' := by
  have HB := hb0 w
  go_enter Tryd.func86, Tryd.ntmps86
  go_wp2_with (first | (refine own_store w rfl rfl rfl rfl rfl (by simp [Value.oneCell']) ?_ ?_; focus ((repeat (first | exact heap_on HB.out | refine heap_past _ ?_ | refine heap_far ?_ (Nat.ne_of_gt HL.out) _)); done)))
  refine own_back2 w rfl rfl rfl rfl ?_ ?_; (focus ((repeat (first | exact heap_on HB.out | refine heap_past _ ?_ | refine heap_far ?_ (Nat.ne_of_gt HL.out) _)); done))
  exact ⟨⟨_, _, _, _, _, _, _, _, _, _, _, _, rfl, by unfold amoOf; (simp [h3, h5, h2, Ins.zero, Ins.val, u_nil]) <;> rfl⟩, by ((repeat (first | apply On.rowO | refine On.setO ?_ HL.out | apply On.alloc)); first | exact On.refl w | exact on_of HB.out)⟩
set_option maxRecDepth 100000 in
set_option maxHeartbeats 4000000 in
theorem ramo_7_2n (x : BitVec 32) (w : World) (h3 : fi x 14 12 = 7) (h5 : fi x 31 27 = 2) (H2 : Hid (¬ fi x 24 20 = 0)) :
    Calls Tryd.prog 86 #[.int .i64 (fi x 14 12), .int .i64 (fi x 31 27), .int .i64 (fi x 11 7), .int .i64 (fi x 19 15), .int .i64 (fi x 24 20)] w fun e w' => PartOf e (amoOf x) ∧ On w w' := by
  have b0 : (fi x 24 20 == 0) = false := by simpa using H2.out
  have HB := hb0 w
  go_enter Tryd.func86, Tryd.ntmps86
  go_wp2_with (first | (refine own_store w rfl rfl rfl rfl rfl (by simp [Value.oneCell']) ?_ ?_; focus ((repeat (first | exact heap_on HB.out | refine heap_past _ ?_ | refine heap_far ?_ (Nat.ne_of_gt HL.out) _)); done)))
  refine own_back2 w rfl rfl rfl rfl ?_ ?_; (focus ((repeat (first | exact heap_on HB.out | refine heap_past _ ?_ | refine heap_far ?_ (Nat.ne_of_gt HL.out) _)); done))
  exact ⟨⟨_, _, _, _, _, _, _, _, _, _, _, _, rfl, by unfold amoOf; (simp [h3, h5, H2.out, Ins.zero, Ins.val, u_nil]) <;> rfl⟩, by ((repeat (first | apply On.rowO | refine On.setO ?_ HL.out | apply On.alloc)); first | exact On.refl w | exact on_of HB.out)⟩
set_option maxRecDepth 100000 in
set_option maxHeartbeats 4000000 in
theorem ramo_7_3 (x : BitVec 32) (w : World) (h3 : fi x 14 12 = 7) (h5 : fi x 31 27 = 3) :
    Calls Tryd.prog 86 #[.int .i64 (fi x 14 12), .int .i64 (fi x 31 27), .int .i64 (fi x 11 7), .int .i64 (fi x 19 15), .int .i64 (fi x 24 20)] w fun e w' => PartOf e (amoOf x) ∧ On w w' := by
  have HB := hb0 w
  go_enter Tryd.func86, Tryd.ntmps86
  go_wp2_with (first | (refine own_store w rfl rfl rfl rfl rfl (by simp [Value.oneCell']) ?_ ?_; focus ((repeat (first | exact heap_on HB.out | refine heap_past _ ?_ | refine heap_far ?_ (Nat.ne_of_gt HL.out) _)); done)))
  refine own_back2 w rfl rfl rfl rfl ?_ ?_; (focus ((repeat (first | exact heap_on HB.out | refine heap_past _ ?_ | refine heap_far ?_ (Nat.ne_of_gt HL.out) _)); done))
  exact ⟨⟨_, _, _, _, _, _, _, _, _, _, _, _, rfl, by unfold amoOf; (simp [h3, h5, Ins.zero, Ins.val, u_nil]) <;> rfl⟩, by ((repeat (first | apply On.rowO | refine On.setO ?_ HL.out | apply On.alloc)); first | exact On.refl w | exact on_of HB.out)⟩
set_option maxRecDepth 100000 in
set_option maxHeartbeats 4000000 in
theorem ramo_7_0 (x : BitVec 32) (w : World) (h3 : fi x 14 12 = 7) (h5 : fi x 31 27 = 0) :
    Calls Tryd.prog 86 #[.int .i64 (fi x 14 12), .int .i64 (fi x 31 27), .int .i64 (fi x 11 7), .int .i64 (fi x 19 15), .int .i64 (fi x 24 20)] w fun e w' => PartOf e (amoOf x) ∧ On w w' := by
  have HB := hb0 w
  go_enter Tryd.func86, Tryd.ntmps86
  go_wp2_with (first | (refine own_store w rfl rfl rfl rfl rfl (by simp [Value.oneCell']) ?_ ?_; focus ((repeat (first | exact heap_on HB.out | refine heap_past _ ?_ | refine heap_far ?_ (Nat.ne_of_gt HL.out) _)); done)))
  refine own_back2 w rfl rfl rfl rfl ?_ ?_; (focus ((repeat (first | exact heap_on HB.out | refine heap_past _ ?_ | refine heap_far ?_ (Nat.ne_of_gt HL.out) _)); done))
  exact ⟨⟨_, _, _, _, _, _, _, _, _, _, _, _, rfl, by unfold amoOf; (simp [h3, h5, Ins.zero, Ins.val, u_nil]) <;> rfl⟩, by ((repeat (first | apply On.rowO | refine On.setO ?_ HL.out | apply On.alloc)); first | exact On.refl w | exact on_of HB.out)⟩
set_option maxRecDepth 100000 in
set_option maxHeartbeats 4000000 in
theorem ramo_7_1 (x : BitVec 32) (w : World) (h3 : fi x 14 12 = 7) (h5 : fi x 31 27 = 1) :
    Calls Tryd.prog 86 #[.int .i64 (fi x 14 12), .int .i64 (fi x 31 27), .int .i64 (fi x 11 7), .int .i64 (fi x 19 15), .int .i64 (fi x 24 20)] w fun e w' => PartOf e (amoOf x) ∧ On w w' := by
  have HB := hb0 w
  go_enter Tryd.func86, Tryd.ntmps86
  go_wp2_with (first | (refine own_store w rfl rfl rfl rfl rfl (by simp [Value.oneCell']) ?_ ?_; focus ((repeat (first | exact heap_on HB.out | refine heap_past _ ?_ | refine heap_far ?_ (Nat.ne_of_gt HL.out) _)); done)))
  refine own_back2 w rfl rfl rfl rfl ?_ ?_; (focus ((repeat (first | exact heap_on HB.out | refine heap_past _ ?_ | refine heap_far ?_ (Nat.ne_of_gt HL.out) _)); done))
  exact ⟨⟨_, _, _, _, _, _, _, _, _, _, _, _, rfl, by unfold amoOf; (simp [h3, h5, Ins.zero, Ins.val, u_nil]) <;> rfl⟩, by ((repeat (first | apply On.rowO | refine On.setO ?_ HL.out | apply On.alloc)); first | exact On.refl w | exact on_of HB.out)⟩
set_option maxRecDepth 100000 in
set_option maxHeartbeats 4000000 in
theorem ramo_7_4 (x : BitVec 32) (w : World) (h3 : fi x 14 12 = 7) (h5 : fi x 31 27 = 4) :
    Calls Tryd.prog 86 #[.int .i64 (fi x 14 12), .int .i64 (fi x 31 27), .int .i64 (fi x 11 7), .int .i64 (fi x 19 15), .int .i64 (fi x 24 20)] w fun e w' => PartOf e (amoOf x) ∧ On w w' := by
  have HB := hb0 w
  go_enter Tryd.func86, Tryd.ntmps86
  go_wp2_with (first | (refine own_store w rfl rfl rfl rfl rfl (by simp [Value.oneCell']) ?_ ?_; focus ((repeat (first | exact heap_on HB.out | refine heap_past _ ?_ | refine heap_far ?_ (Nat.ne_of_gt HL.out) _)); done)))
  refine own_back2 w rfl rfl rfl rfl ?_ ?_; (focus ((repeat (first | exact heap_on HB.out | refine heap_past _ ?_ | refine heap_far ?_ (Nat.ne_of_gt HL.out) _)); done))
  exact ⟨⟨_, _, _, _, _, _, _, _, _, _, _, _, rfl, by unfold amoOf; (simp [h3, h5, Ins.zero, Ins.val, u_nil]) <;> rfl⟩, by ((repeat (first | apply On.rowO | refine On.setO ?_ HL.out | apply On.alloc)); first | exact On.refl w | exact on_of HB.out)⟩
set_option maxRecDepth 100000 in
set_option maxHeartbeats 4000000 in
theorem ramo_7_8 (x : BitVec 32) (w : World) (h3 : fi x 14 12 = 7) (h5 : fi x 31 27 = 8) :
    Calls Tryd.prog 86 #[.int .i64 (fi x 14 12), .int .i64 (fi x 31 27), .int .i64 (fi x 11 7), .int .i64 (fi x 19 15), .int .i64 (fi x 24 20)] w fun e w' => PartOf e (amoOf x) ∧ On w w' := by
  have HB := hb0 w
  go_enter Tryd.func86, Tryd.ntmps86
  go_wp2_with (first | (refine own_store w rfl rfl rfl rfl rfl (by simp [Value.oneCell']) ?_ ?_; focus ((repeat (first | exact heap_on HB.out | refine heap_past _ ?_ | refine heap_far ?_ (Nat.ne_of_gt HL.out) _)); done)))
  refine own_back2 w rfl rfl rfl rfl ?_ ?_; (focus ((repeat (first | exact heap_on HB.out | refine heap_past _ ?_ | refine heap_far ?_ (Nat.ne_of_gt HL.out) _)); done))
  exact ⟨⟨_, _, _, _, _, _, _, _, _, _, _, _, rfl, by unfold amoOf; (simp [h3, h5, Ins.zero, Ins.val, u_nil]) <;> rfl⟩, by ((repeat (first | apply On.rowO | refine On.setO ?_ HL.out | apply On.alloc)); first | exact On.refl w | exact on_of HB.out)⟩
set_option maxRecDepth 100000 in
set_option maxHeartbeats 4000000 in
theorem ramo_7_12 (x : BitVec 32) (w : World) (h3 : fi x 14 12 = 7) (h5 : fi x 31 27 = 12) :
    Calls Tryd.prog 86 #[.int .i64 (fi x 14 12), .int .i64 (fi x 31 27), .int .i64 (fi x 11 7), .int .i64 (fi x 19 15), .int .i64 (fi x 24 20)] w fun e w' => PartOf e (amoOf x) ∧ On w w' := by
  have HB := hb0 w
  go_enter Tryd.func86, Tryd.ntmps86
  go_wp2_with (first | (refine own_store w rfl rfl rfl rfl rfl (by simp [Value.oneCell']) ?_ ?_; focus ((repeat (first | exact heap_on HB.out | refine heap_past _ ?_ | refine heap_far ?_ (Nat.ne_of_gt HL.out) _)); done)))
  refine own_back2 w rfl rfl rfl rfl ?_ ?_; (focus ((repeat (first | exact heap_on HB.out | refine heap_past _ ?_ | refine heap_far ?_ (Nat.ne_of_gt HL.out) _)); done))
  exact ⟨⟨_, _, _, _, _, _, _, _, _, _, _, _, rfl, by unfold amoOf; (simp [h3, h5, Ins.zero, Ins.val, u_nil]) <;> rfl⟩, by ((repeat (first | apply On.rowO | refine On.setO ?_ HL.out | apply On.alloc)); first | exact On.refl w | exact on_of HB.out)⟩
set_option maxRecDepth 100000 in
set_option maxHeartbeats 4000000 in
theorem ramo_7_16 (x : BitVec 32) (w : World) (h3 : fi x 14 12 = 7) (h5 : fi x 31 27 = 16) :
    Calls Tryd.prog 86 #[.int .i64 (fi x 14 12), .int .i64 (fi x 31 27), .int .i64 (fi x 11 7), .int .i64 (fi x 19 15), .int .i64 (fi x 24 20)] w fun e w' => PartOf e (amoOf x) ∧ On w w' := by
  have HB := hb0 w
  go_enter Tryd.func86, Tryd.ntmps86
  go_wp2_with (first | (refine own_store w rfl rfl rfl rfl rfl (by simp [Value.oneCell']) ?_ ?_; focus ((repeat (first | exact heap_on HB.out | refine heap_past _ ?_ | refine heap_far ?_ (Nat.ne_of_gt HL.out) _)); done)))
  refine own_back2 w rfl rfl rfl rfl ?_ ?_; (focus ((repeat (first | exact heap_on HB.out | refine heap_past _ ?_ | refine heap_far ?_ (Nat.ne_of_gt HL.out) _)); done))
  exact ⟨⟨_, _, _, _, _, _, _, _, _, _, _, _, rfl, by unfold amoOf; (simp [h3, h5, Ins.zero, Ins.val, u_nil]) <;> rfl⟩, by ((repeat (first | apply On.rowO | refine On.setO ?_ HL.out | apply On.alloc)); first | exact On.refl w | exact on_of HB.out)⟩
set_option maxRecDepth 100000 in
set_option maxHeartbeats 4000000 in
theorem ramo_7_20 (x : BitVec 32) (w : World) (h3 : fi x 14 12 = 7) (h5 : fi x 31 27 = 20) :
    Calls Tryd.prog 86 #[.int .i64 (fi x 14 12), .int .i64 (fi x 31 27), .int .i64 (fi x 11 7), .int .i64 (fi x 19 15), .int .i64 (fi x 24 20)] w fun e w' => PartOf e (amoOf x) ∧ On w w' := by
  have HB := hb0 w
  go_enter Tryd.func86, Tryd.ntmps86
  go_wp2_with (first | (refine own_store w rfl rfl rfl rfl rfl (by simp [Value.oneCell']) ?_ ?_; focus ((repeat (first | exact heap_on HB.out | refine heap_past _ ?_ | refine heap_far ?_ (Nat.ne_of_gt HL.out) _)); done)))
  refine own_back2 w rfl rfl rfl rfl ?_ ?_; (focus ((repeat (first | exact heap_on HB.out | refine heap_past _ ?_ | refine heap_far ?_ (Nat.ne_of_gt HL.out) _)); done))
  exact ⟨⟨_, _, _, _, _, _, _, _, _, _, _, _, rfl, by unfold amoOf; (simp [h3, h5, Ins.zero, Ins.val, u_nil]) <;> rfl⟩, by ((repeat (first | apply On.rowO | refine On.setO ?_ HL.out | apply On.alloc)); first | exact On.refl w | exact on_of HB.out)⟩
set_option maxRecDepth 100000 in
set_option maxHeartbeats 4000000 in
theorem ramo_7_24 (x : BitVec 32) (w : World) (h3 : fi x 14 12 = 7) (h5 : fi x 31 27 = 24) :
    Calls Tryd.prog 86 #[.int .i64 (fi x 14 12), .int .i64 (fi x 31 27), .int .i64 (fi x 11 7), .int .i64 (fi x 19 15), .int .i64 (fi x 24 20)] w fun e w' => PartOf e (amoOf x) ∧ On w w' := by
  have HB := hb0 w
  go_enter Tryd.func86, Tryd.ntmps86
  go_wp2_with (first | (refine own_store w rfl rfl rfl rfl rfl (by simp [Value.oneCell']) ?_ ?_; focus ((repeat (first | exact heap_on HB.out | refine heap_past _ ?_ | refine heap_far ?_ (Nat.ne_of_gt HL.out) _)); done)))
  refine own_back2 w rfl rfl rfl rfl ?_ ?_; (focus ((repeat (first | exact heap_on HB.out | refine heap_past _ ?_ | refine heap_far ?_ (Nat.ne_of_gt HL.out) _)); done))
  exact ⟨⟨_, _, _, _, _, _, _, _, _, _, _, _, rfl, by unfold amoOf; (simp [h3, h5, Ins.zero, Ins.val, u_nil]) <;> rfl⟩, by ((repeat (first | apply On.rowO | refine On.setO ?_ HL.out | apply On.alloc)); first | exact On.refl w | exact on_of HB.out)⟩
set_option maxRecDepth 100000 in
set_option maxHeartbeats 4000000 in
theorem ramo_7_28 (x : BitVec 32) (w : World) (h3 : fi x 14 12 = 7) (h5 : fi x 31 27 = 28) :
    Calls Tryd.prog 86 #[.int .i64 (fi x 14 12), .int .i64 (fi x 31 27), .int .i64 (fi x 11 7), .int .i64 (fi x 19 15), .int .i64 (fi x 24 20)] w fun e w' => PartOf e (amoOf x) ∧ On w w' := by
  have HB := hb0 w
  go_enter Tryd.func86, Tryd.ntmps86
  go_wp2_with (first | (refine own_store w rfl rfl rfl rfl rfl (by simp [Value.oneCell']) ?_ ?_; focus ((repeat (first | exact heap_on HB.out | refine heap_past _ ?_ | refine heap_far ?_ (Nat.ne_of_gt HL.out) _)); done)))
  refine own_back2 w rfl rfl rfl rfl ?_ ?_; (focus ((repeat (first | exact heap_on HB.out | refine heap_past _ ?_ | refine heap_far ?_ (Nat.ne_of_gt HL.out) _)); done))
  exact ⟨⟨_, _, _, _, _, _, _, _, _, _, _, _, rfl, by unfold amoOf; (simp [h3, h5, Ins.zero, Ins.val, u_nil]) <;> rfl⟩, by ((repeat (first | apply On.rowO | refine On.setO ?_ HL.out | apply On.alloc)); first | exact On.refl w | exact on_of HB.out)⟩
set_option maxRecDepth 100000 in
set_option maxHeartbeats 4000000 in
theorem ramo_7_n (x : BitVec 32) (w : World) (h3 : fi x 14 12 = 7) (N : Hid (¬ fi x 31 27 = 2 ∧ ¬ fi x 31 27 = 3 ∧ ¬ fi x 31 27 = 0 ∧ ¬ fi x 31 27 = 1 ∧ ¬ fi x 31 27 = 4 ∧ ¬ fi x 31 27 = 8 ∧ ¬ fi x 31 27 = 12 ∧ ¬ fi x 31 27 = 16 ∧ ¬ fi x 31 27 = 20 ∧ ¬ fi x 31 27 = 24 ∧ ¬ fi x 31 27 = 28)) :
    Calls Tryd.prog 86 #[.int .i64 (fi x 14 12), .int .i64 (fi x 31 27), .int .i64 (fi x 11 7), .int .i64 (fi x 19 15), .int .i64 (fi x 24 20)] w fun e w' => PartOf e (amoOf x) ∧ On w w' := by
  have b0 : (fi x 31 27 == 2) = false := by simpa using N.out.1
  have b1 : (fi x 31 27 == 3) = false := by simpa using N.out.2.1
  have b2 : (fi x 31 27 == 0) = false := by simpa using N.out.2.2.1
  have b3 : (fi x 31 27 == 1) = false := by simpa using N.out.2.2.2.1
  have b4 : (fi x 31 27 == 4) = false := by simpa using N.out.2.2.2.2.1
  have b5 : (fi x 31 27 == 8) = false := by simpa using N.out.2.2.2.2.2.1
  have b6 : (fi x 31 27 == 12) = false := by simpa using N.out.2.2.2.2.2.2.1
  have b7 : (fi x 31 27 == 16) = false := by simpa using N.out.2.2.2.2.2.2.2.1
  have b8 : (fi x 31 27 == 20) = false := by simpa using N.out.2.2.2.2.2.2.2.2.1
  have b9 : (fi x 31 27 == 24) = false := by simpa using N.out.2.2.2.2.2.2.2.2.2.1
  have b10 : (fi x 31 27 == 28) = false := by simpa using N.out.2.2.2.2.2.2.2.2.2.2
  have HB := hb0 w
  go_enter Tryd.func86, Tryd.ntmps86
  go_wp2_with (first | (refine own_store w rfl rfl rfl rfl rfl (by simp [Value.oneCell']) ?_ ?_; focus ((repeat (first | exact heap_on HB.out | refine heap_past _ ?_ | refine heap_far ?_ (Nat.ne_of_gt HL.out) _)); done)))
  refine own_back2 w rfl rfl rfl rfl ?_ ?_; (focus ((repeat (first | exact heap_on HB.out | refine heap_past _ ?_ | refine heap_far ?_ (Nat.ne_of_gt HL.out) _)); done))
  exact ⟨⟨_, _, _, _, _, _, _, _, _, _, _, _, rfl, by unfold amoOf; (simp [h3, N.out, Ins.zero, Ins.val, u_nil]) <;> rfl⟩, by ((repeat (first | apply On.rowO | refine On.setO ?_ HL.out | apply On.alloc)); first | exact On.refl w | exact on_of HB.out)⟩
end Go.Proofs.YtjnalgilkdoalaaDoor
