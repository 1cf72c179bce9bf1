/- What rows come to in the reference: s. Conditions: named at each. -/
import Derived.Test.YtjnalgilkdoalaaDoorDec6
namespace Go.Proofs.YtjnalgilkdoalaaDoor
open Go.RowKit
set_option linter.unusedSimpArgs false

theorem q_f3 (x : BitVec 32) (h : q x = 115 ∨ q x = 1048691 ∨ q x = 270532723 ∨ q x = 807403635 ∨ q x = 273678451) : fi x 14 12 = 0 := by
  have h1 : fi x 14 12 = ((x.toNat / 2 ^ 12 % 2 ^ 3 : Nat) : Int) := fi_nat x 14 12 (by omega) (by omega)
  unfold q at h
  omega
set_option maxRecDepth 100000 in
set_option maxHeartbeats 4000000 in
theorem rsys_w0 (x : BitVec 32) (w : World) (C : Hid (q x = 115)) :
    Calls Tryd.prog 87 #[.int .u32 (q x), .int .i64 (fi x 11 7), .int .i64 (fi x 19 15), .int .i64 (fi x 24 20), .int .i64 (fi x 14 12), .int .i64 (fi x 31 25)] w fun e w' => PartOf e (sysOf x) ∧ On w w' := by
  have h3 : fi x 14 12 = 0 := q_f3 x (by have := C.out; omega)
  have b0 : (q x == 115) = true := by rw [C.out]; rfl
  have b1 : (q x == 1048691) = false := by rw [C.out]; rfl
  have b2 : (q x == 270532723) = false := by rw [C.out]; rfl
  have b3 : (q x == 807403635) = false := by rw [C.out]; rfl
  have b4 : (q x == 273678451) = false := by rw [C.out]; rfl
  have HB := hb0 w
  go_enter Tryd.func87, Tryd.ntmps87
  go_wp2_with (first | (refine own_store w rfl rfl rfl rfl rfl (by simp [Value.oneCell']) ?_ ?_; focus ((repeat (first | exact heap_on HB.out | refine heap_past _ ?_ | refine heap_far ?_ (Nat.ne_of_gt HL.out) _)); done)) | (go_at_call 98; refine (ref_bits _ _ _ _).mono ?_; rintro e wn ⟨rfl, rfl⟩))
  refine own_back2 w rfl rfl rfl rfl ?_ ?_; (focus ((repeat (first | exact heap_on HB.out | refine heap_past _ ?_ | refine heap_far ?_ (Nat.ne_of_gt HL.out) _)); done))
  exact ⟨⟨_, _, _, _, _, _, _, _, _, _, _, _, rfl, by unfold sysOf; (simp [h3, C.out, Ins.zero, Ins.val, u_nil]) <;> rfl⟩, by ((repeat (first | apply On.rowO | refine On.setO ?_ HL.out | apply On.alloc)); first | exact On.refl w | exact on_of HB.out)⟩
set_option maxRecDepth 100000 in
set_option maxHeartbeats 4000000 in
theorem rsys_w1 (x : BitVec 32) (w : World) (C : Hid (q x = 1048691)) :
    Calls Tryd.prog 87 #[.int .u32 (q x), .int .i64 (fi x 11 7), .int .i64 (fi x 19 15), .int .i64 (fi x 24 20), .int .i64 (fi x 14 12), .int .i64 (fi x 31 25)] w fun e w' => PartOf e (sysOf x) ∧ On w w' := by
  have h3 : fi x 14 12 = 0 := q_f3 x (by have := C.out; omega)
  have b0 : (q x == 115) = false := by rw [C.out]; rfl
  have b1 : (q x == 1048691) = true := by rw [C.out]; rfl
  have b2 : (q x == 270532723) = false := by rw [C.out]; rfl
  have b3 : (q x == 807403635) = false := by rw [C.out]; rfl
  have b4 : (q x == 273678451) = false := by rw [C.out]; rfl
  have HB := hb0 w
  go_enter Tryd.func87, Tryd.ntmps87
  go_wp2_with (first | (refine own_store w rfl rfl rfl rfl rfl (by simp [Value.oneCell']) ?_ ?_; focus ((repeat (first | exact heap_on HB.out | refine heap_past _ ?_ | refine heap_far ?_ (Nat.ne_of_gt HL.out) _)); done)) | (go_at_call 98; refine (ref_bits _ _ _ _).mono ?_; rintro e wn ⟨rfl, rfl⟩))
  refine own_back2 w rfl rfl rfl rfl ?_ ?_; (focus ((repeat (first | exact heap_on HB.out | refine heap_past _ ?_ | refine heap_far ?_ (Nat.ne_of_gt HL.out) _)); done))
  exact ⟨⟨_, _, _, _, _, _, _, _, _, _, _, _, rfl, by unfold sysOf; (simp [h3, C.out, Ins.zero, Ins.val, u_nil]) <;> rfl⟩, by ((repeat (first | apply On.rowO | refine On.setO ?_ HL.out | apply On.alloc)); first | exact On.refl w | exact on_of HB.out)⟩
set_option maxRecDepth 100000 in
set_option maxHeartbeats 4000000 in
theorem rsys_w2 (x : BitVec 32) (w : World) (C : Hid (q x = 270532723)) :
    Calls Tryd.prog 87 #[.int .u32 (q x), .int .i64 (fi x 11 7), .int .i64 (fi x 19 15), .int .i64 (fi x 24 20), .int .i64 (fi x 14 12), .int .i64 (fi x 31 25)] w fun e w' => PartOf e (sysOf x) ∧ On w w' := by
  have h3 : fi x 14 12 = 0 := q_f3 x (by have := C.out; omega)
  have b0 : (q x == 115) = false := by rw [C.out]; rfl
  have b1 : (q x == 1048691) = false := by rw [C.out]; rfl
  have b2 : (q x == 270532723) = true := by rw [C.out]; rfl
  have b3 : (q x == 807403635) = false := by rw [C.out]; rfl
  have b4 : (q x == 273678451) = false := by rw [C.out]; rfl
  have HB := hb0 w
  go_enter Tryd.func87, Tryd.ntmps87
  go_wp2_with (first | (refine own_store w rfl rfl rfl rfl rfl (by simp [Value.oneCell']) ?_ ?_; focus ((repeat (first | exact heap_on HB.out | refine heap_past _ ?_ | refine heap_far ?_ (Nat.ne_of_gt HL.out) _)); done)) | (go_at_call 98; refine (ref_bits _ _ _ _).mono ?_; rintro e wn ⟨rfl, rfl⟩))
  refine own_back2 w rfl rfl rfl rfl ?_ ?_; (focus ((repeat (first | exact heap_on HB.out | refine heap_past _ ?_ | refine heap_far ?_ (Nat.ne_of_gt HL.out) _)); done))
  exact ⟨⟨_, _, _, _, _, _, _, _, _, _, _, _, rfl, by unfold sysOf; (simp [h3, C.out, Ins.zero, Ins.val, u_nil]) <;> rfl⟩, by ((repeat (first | apply On.rowO | refine On.setO ?_ HL.out | apply On.alloc)); first | exact On.refl w | exact on_of HB.out)⟩
set_option maxRecDepth 100000 in
set_option maxHeartbeats 4000000 in
theorem rsys_w3 (x : BitVec 32) (w : World) (C : Hid (q x = 807403635)) :
    Calls Tryd.prog 87 #[.int .u32 (q x), .int .i64 (fi x 11 7), .int .i64 (fi x 19 15), .int .i64 (fi x 24 20), .int .i64 (fi x 14 12), .int .i64 (fi x 31 25)] w fun e w' => PartOf e (sysOf x) ∧ On w w' := by
  have h3 : fi x 14 12 = 0 := q_f3 x (by have := C.out; omega)
  have b0 : (q x == 115) = false := by rw [C.out]; rfl
  have b1 : (q x == 1048691) = false := by rw [C.out]; rfl
  have b2 : (q x == 270532723) = false := by rw [C.out]; rfl
  have b3 : (q x == 807403635) = true := by rw [C.out]; rfl
  have b4 : (q x == 273678451) = false := by rw [C.out]; rfl
  have HB := hb0 w
  go_enter Tryd.func87, Tryd.ntmps87
  go_wp2_with (first | (refine own_store w rfl rfl rfl rfl rfl (by simp [Value.oneCell']) ?_ ?_; focus ((repeat (first | exact heap_on HB.out | refine heap_past _ ?_ | refine heap_far ?_ (Nat.ne_of_gt HL.out) _)); done)) | (go_at_call 98; refine (ref_bits _ _ _ _).mono ?_; rintro e wn ⟨rfl, rfl⟩))
  refine own_back2 w rfl rfl rfl rfl ?_ ?_; (focus ((repeat (first | exact heap_on HB.out | refine heap_past _ ?_ | refine heap_far ?_ (Nat.ne_of_gt HL.out) _)); done))
  exact ⟨⟨_, _, _, _, _, _, _, _, _, _, _, _, rfl, by unfold sysOf; (simp [h3, C.out, Ins.zero, Ins.val, u_nil]) <;> rfl⟩, by ((repeat (first | apply On.rowO | refine On.setO ?_ HL.out | apply On.alloc)); first | exact On.refl w | exact on_of HB.out)⟩
set_option maxRecDepth 100000 in
set_option maxHeartbeats 4000000 in
theorem rsys_w4 (x : BitVec 32) (w : World) (C : Hid (q x = 273678451)) :
    Calls Tryd.prog 87 #[.int .u32 (q x), .int .i64 (fi x 11 7), .int .i64 (fi x 19 15), .int .i64 (fi x 24 20), .int .i64 (fi x 14 12), .int .i64 (fi x 31 25)] w fun e w' => PartOf e (sysOf x) ∧ On w w' := by
  have h3 : fi x 14 12 = 0 := q_f3 x (by have := C.out; omega)
  have b0 : (q x == 115) = false := by rw [C.out]; rfl
  have b1 : (q x == 1048691) = false := by rw [C.out]; rfl
  have b2 : (q x == 270532723) = false := by rw [C.out]; rfl
  have b3 : (q x == 807403635) = false := by rw [C.out]; rfl
  have b4 : (q x == 273678451) = true := by rw [C.out]; rfl
  have HB := hb0 w
  go_enter Tryd.func87, Tryd.ntmps87
  go_wp2_with (first | (refine own_store w rfl rfl rfl rfl rfl (by simp [Value.oneCell']) ?_ ?_; focus ((repeat (first | exact heap_on HB.out | refine heap_past _ ?_ | refine heap_far ?_ (Nat.ne_of_gt HL.out) _)); done)) | (go_at_call 98; refine (ref_bits _ _ _ _).mono ?_; rintro e wn ⟨rfl, rfl⟩))
  refine own_back2 w rfl rfl rfl rfl ?_ ?_; (focus ((repeat (first | exact heap_on HB.out | refine heap_past _ ?_ | refine heap_far ?_ (Nat.ne_of_gt HL.out) _)); done))
  exact ⟨⟨_, _, _, _, _, _, _, _, _, _, _, _, rfl, by unfold sysOf; (simp [h3, C.out, Ins.zero, Ins.val, u_nil]) <;> rfl⟩, by ((repeat (first | apply On.rowO | refine On.setO ?_ HL.out | apply On.alloc)); first | exact On.refl w | exact on_of HB.out)⟩
set_option maxRecDepth 100000 in
set_option maxHeartbeats 4000000 in
theorem rsys_f (x : BitVec 32) (w : World) (h3 : fi x 14 12 = 0) (B : Hid (¬ q x = 115 ∧ ¬ q x = 1048691 ∧ ¬ q x = 270532723 ∧ ¬ q x = 807403635 ∧ ¬ q x = 273678451)) (hd : fi x 11 7 = 0) (h7 : fi x 31 25 = 9) :
    Calls Tryd.prog 87 #[.int .u32 (q x), .int .i64 (fi x 11 7), .int .i64 (fi x 19 15), .int .i64 (fi x 24 20), .int .i64 (fi x 14 12), .int .i64 (fi x 31 25)] w fun e w' => PartOf e (sysOf x) ∧ On w w' := by
  have b0 : (q x == 115) = false := by simpa using B.out.1
  have b1 : (q x == 1048691) = false := by simpa using B.out.2.1
  have b2 : (q x == 270532723) = false := by simpa using B.out.2.2.1
  have b3 : (q x == 807403635) = false := by simpa using B.out.2.2.2.1
  have b4 : (q x == 273678451) = false := by simpa using B.out.2.2.2.2
  have HB := hb0 w
  go_enter Tryd.func87, Tryd.ntmps87
  go_wp2_with (first | (refine own_store w rfl rfl rfl rfl rfl (by simp [Value.oneCell']) ?_ ?_; focus ((repeat (first | exact heap_on HB.out | refine heap_past _ ?_ | refine heap_far ?_ (Nat.ne_of_gt HL.out) _)); done)) | (go_at_call 98; refine (ref_bits _ _ _ _).mono ?_; rintro e wn ⟨rfl, rfl⟩))
  refine own_back2 w rfl rfl rfl rfl ?_ ?_; (focus ((repeat (first | exact heap_on HB.out | refine heap_past _ ?_ | refine heap_far ?_ (Nat.ne_of_gt HL.out) _)); done))
  exact ⟨⟨_, _, _, _, _, _, _, _, _, _, _, _, rfl, by unfold sysOf; (simp [h3, B.out, hd, h7, Ins.zero, Ins.val, u_nil]) <;> rfl⟩, by ((repeat (first | apply On.rowO | refine On.setO ?_ HL.out | apply On.alloc)); first | exact On.refl w | exact on_of HB.out)⟩
set_option maxRecDepth 100000 in
set_option maxHeartbeats 4000000 in
theorem rsys_n7 (x : BitVec 32) (w : World) (h3 : fi x 14 12 = 0) (B : Hid (¬ q x = 115 ∧ ¬ q x = 1048691 ∧ ¬ q x = 270532723 ∧ ¬ q x = 807403635 ∧ ¬ q x = 273678451)) (hd : fi x 11 7 = 0) (H7 : Hid (¬ fi x 31 25 = 9)) :
    Calls Tryd.prog 87 #[.int .u32 (q x), .int .i64 (fi x 11 7), .int .i64 (fi x 19 15), .int .i64 (fi x 24 20), .int .i64 (fi x 14 12), .int .i64 (fi x 31 25)] w fun e w' => PartOf e (sysOf x) ∧ On w w' := by
  have b0 : (q x == 115) = false := by simpa using B.out.1
  have b1 : (q x == 1048691) = false := by simpa using B.out.2.1
  have b2 : (q x == 270532723) = false := by simpa using B.out.2.2.1
  have b3 : (q x == 807403635) = false := by simpa using B.out.2.2.2.1
  have b4 : (q x == 273678451) = false := by simpa using B.out.2.2.2.2
  have b7 : (fi x 31 25 == 9) = false := by simpa using H7.out
  have HB := hb0 w
  go_enter Tryd.func87, Tryd.ntmps87
  go_wp2_with (first | (refine own_store w rfl rfl rfl rfl rfl (by simp [Value.oneCell']) ?_ ?_; focus ((repeat (first | exact heap_on HB.out | refine heap_past _ ?_ | refine heap_far ?_ (Nat.ne_of_gt HL.out) _)); done)) | (go_at_call 98; refine (ref_bits _ _ _ _).mono ?_; rintro e wn ⟨rfl, rfl⟩))
  refine own_back2 w rfl rfl rfl rfl ?_ ?_; (focus ((repeat (first | exact heap_on HB.out | refine heap_past _ ?_ | refine heap_far ?_ (Nat.ne_of_gt HL.out) _)); done))
  exact ⟨⟨_, _, _, _, _, _, _, _, _, _, _, _, rfl, by unfold sysOf; (simp [h3, B.out, hd, H7.out, Ins.zero, Ins.val, u_nil]) <;> rfl⟩, by ((repeat (first | apply On.rowO | refine On.setO ?_ HL.out | apply On.alloc)); first | exact On.refl w | exact on_of HB.out)⟩
set_option maxRecDepth 100000 in
set_option maxHeartbeats 4000000 in
theorem rsys_d (x : BitVec 32) (w : World) (h3 : fi x 14 12 = 0) (B : Hid (¬ q x = 115 ∧ ¬ q x = 1048691 ∧ ¬ q x = 270532723 ∧ ¬ q x = 807403635 ∧ ¬ q x = 273678451)) (HD : Hid (¬ fi x 11 7 = 0)) :
    Calls Tryd.prog 87 #[.int .u32 (q x), .int .i64 (fi x 11 7), .int .i64 (fi x 19 15), .int .i64 (fi x 24 20), .int .i64 (fi x 14 12), .int .i64 (fi x 31 25)] w fun e w' => PartOf e (sysOf x) ∧ On w w' := by
  have b0 : (q x == 115) = false := by simpa using B.out.1
  have b1 : (q x == 1048691) = false := by simpa using B.out.2.1
  have b2 : (q x == 270532723) = false := by simpa using B.out.2.2.1
  have b3 : (q x == 807403635) = false := by simpa using B.out.2.2.2.1
  have b4 : (q x == 273678451) = false := by simpa using B.out.2.2.2.2
  have bd : (fi x 11 7 == 0) = false := by simpa using HD.out
  have HB := hb0 w
  go_enter Tryd.func87, Tryd.ntmps87
  go_wp2_with (first | (refine own_store w rfl rfl rfl rfl rfl (by simp [Value.oneCell']) ?_ ?_; focus ((repeat (first | exact heap_on HB.out | refine heap_past _ ?_ | refine heap_far ?_ (Nat.ne_of_gt HL.out) _)); done)) | (go_at_call 98; refine (ref_bits _ _ _ _).mono ?_; rintro e wn ⟨rfl, rfl⟩))
  refine own_back2 w rfl rfl rfl rfl ?_ ?_; (focus ((repeat (first | exact heap_on HB.out | refine heap_past _ ?_ | refine heap_far ?_ (Nat.ne_of_gt HL.out) _)); done))
  exact ⟨⟨_, _, _, _, _, _, _, _, _, _, _, _, rfl, by unfold sysOf; (simp [h3, B.out, HD.out, Ins.zero, Ins.val, u_nil]) <;> rfl⟩, by ((repeat (first | apply On.rowO | refine On.setO ?_ HL.out | apply On.alloc)); first | exact On.refl w | exact on_of HB.out)⟩
set_option maxRecDepth 100000 in
set_option maxHeartbeats 4000000 in
theorem rsys_1 (x : BitVec 32) (w : World) (h3 : fi x 14 12 = 1) (B : Hid (¬ q x = 115 ∧ ¬ q x = 1048691 ∧ ¬ q x = 270532723 ∧ ¬ q x = 807403635 ∧ ¬ q x = 273678451)) :
    Calls Tryd.prog 87 #[.int .u32 (q x), .int .i64 (fi x 11 7), .int .i64 (fi x 19 15), .int .i64 (fi x 24 20), .int .i64 (fi x 14 12), .int .i64 (fi x 31 25)] w fun e w' => PartOf e (sysOf x) ∧ On w w' := by
  have b0 : (q x == 115) = false := by simpa using B.out.1
  have b1 : (q x == 1048691) = false := by simpa using B.out.2.1
  have b2 : (q x == 270532723) = false := by simpa using B.out.2.2.1
  have b3 : (q x == 807403635) = false := by simpa using B.out.2.2.2.1
  have b4 : (q x == 273678451) = false := by simpa using B.out.2.2.2.2
  have HB := hb0 w
  go_enter Tryd.func87, Tryd.ntmps87
  go_wp2_with (first | (refine own_store w rfl rfl rfl rfl rfl (by simp [Value.oneCell']) ?_ ?_; focus ((repeat (first | exact heap_on HB.out | refine heap_past _ ?_ | refine heap_far ?_ (Nat.ne_of_gt HL.out) _)); done)) | (go_at_call 98; refine (ref_bits _ _ _ _).mono ?_; rintro e wn ⟨rfl, rfl⟩))
  refine own_back2 w rfl rfl rfl rfl ?_ ?_; (focus ((repeat (first | exact heap_on HB.out | refine heap_past _ ?_ | refine heap_far ?_ (Nat.ne_of_gt HL.out) _)); done))
  exact ⟨⟨_, _, _, _, _, _, _, _, _, _, _, _, rfl, by unfold sysOf; (simp [h3, B.out, Ins.zero, Ins.val, u_nil]) <;> rfl⟩, by ((repeat (first | apply On.rowO | refine On.setO ?_ HL.out | apply On.alloc)); first | exact On.refl w | exact on_of HB.out)⟩
set_option maxRecDepth 100000 in
set_option maxHeartbeats 4000000 in
theorem rsys_2 (x : BitVec 32) (w : World) (h3 : fi x 14 12 = 2) (B : Hid (¬ q x = 115 ∧ ¬ q x = 1048691 ∧ ¬ q x = 270532723 ∧ ¬ q x = 807403635 ∧ ¬ q x = 273678451)) :
    Calls Tryd.prog 87 #[.int .u32 (q x), .int .i64 (fi x 11 7), .int .i64 (fi x 19 15), .int .i64 (fi x 24 20), .int .i64 (fi x 14 12), .int .i64 (fi x 31 25)] w fun e w' => PartOf e (sysOf x) ∧ On w w' := by
  have b0 : (q x == 115) = false := by simpa using B.out.1
  have b1 : (q x == 1048691) = false := by simpa using B.out.2.1
  have b2 : (q x == 270532723) = false := by simpa using B.out.2.2.1
  have b3 : (q x == 807403635) = false := by simpa using B.out.2.2.2.1
  have b4 : (q x == 273678451) = false := by simpa using B.out.2.2.2.2
  have HB := hb0 w
  go_enter Tryd.func87, Tryd.ntmps87
  go_wp2_with (first | (refine own_store w rfl rfl rfl rfl rfl (by simp [Value.oneCell']) ?_ ?_; focus ((repeat (first | exact heap_on HB.out | refine heap_past _ ?_ | refine heap_far ?_ (Nat.ne_of_gt HL.out) _)); done)) | (go_at_call 98; refine (ref_bits _ _ _ _).mono ?_; rintro e wn ⟨rfl, rfl⟩))
  refine own_back2 w rfl rfl rfl rfl ?_ ?_; (focus ((repeat (first | exact heap_on HB.out | refine heap_past _ ?_ | refine heap_far ?_ (Nat.ne_of_gt HL.out) _)); done))
  exact ⟨⟨_, _, _, _, _, _, _, _, _, _, _, _, rfl, by unfold sysOf; (simp [h3, B.out, Ins.zero, Ins.val, u_nil]) <;> rfl⟩, by ((repeat (first | apply On.rowO | refine On.setO ?_ HL.out | apply On.alloc)); first | exact On.refl w | exact on_of HB.out)⟩
set_option maxRecDepth 100000 in
set_option maxHeartbeats 4000000 in
theorem rsys_3 (x : BitVec 32) (w : World) (h3 : fi x 14 12 = 3) (B : Hid (¬ q x = 115 ∧ ¬ q x = 1048691 ∧ ¬ q x = 270532723 ∧ ¬ q x = 807403635 ∧ ¬ q x = 273678451)) :
    Calls Tryd.prog 87 #[.int .u32 (q x), .int .i64 (fi x 11 7), .int .i64 (fi x 19 15), .int .i64 (fi x 24 20), .int .i64 (fi x 14 12), .int .i64 (fi x 31 25)] w fun e w' => PartOf e (sysOf x) ∧ On w w' := by
  have b0 : (q x == 115) = false := by simpa using B.out.1
  have b1 : (q x == 1048691) = false := by simpa using B.out.2.1
  have b2 : (q x == 270532723) = false := by simpa using B.out.2.2.1
  have b3 : (q x == 807403635) = false := by simpa using B.out.2.2.2.1
  have b4 : (q x == 273678451) = false := by simpa using B.out.2.2.2.2
  have HB := hb0 w
  go_enter Tryd.func87, Tryd.ntmps87
  go_wp2_with (first | (refine own_store w rfl rfl rfl rfl rfl (by simp [Value.oneCell']) ?_ ?_; focus ((repeat (first | exact heap_on HB.out | refine heap_past _ ?_ | refine heap_far ?_ (Nat.ne_of_gt HL.out) _)); done)) | (go_at_call 98; refine (ref_bits _ _ _ _).mono ?_; rintro e wn ⟨rfl, rfl⟩))
  refine own_back2 w rfl rfl rfl rfl ?_ ?_; (focus ((repeat (first | exact heap_on HB.out | refine heap_past _ ?_ | refine heap_far ?_ (Nat.ne_of_gt HL.out) _)); done))
  exact ⟨⟨_, _, _, _, _, _, _, _, _, _, _, _, rfl, by unfold sysOf; (simp [h3, B.out, Ins.zero, Ins.val, u_nil]) <;> rfl⟩, by ((repeat (first | apply On.rowO | refine On.setO ?_ HL.out | apply On.alloc)); first | exact On.refl w | exact on_of HB.out)⟩
set_option maxRecDepth 100000 in
set_option maxHeartbeats 4000000 in
theorem rsys_4 (x : BitVec 32) (w : World) (h3 : fi x 14 12 = 4) (B : Hid (¬ q x = 115 ∧ ¬ q x = 1048691 ∧ ¬ q x = 270532723 ∧ ¬ q x = 807403635 ∧ ¬ q x = 273678451)) :
    Calls Tryd.prog 87 #[.int .u32 (q x), .int .i64 (fi x 11 7), .int .i64 (fi x 19 15), .int .i64 (fi x 24 20), .int .i64 (fi x 14 12), .int .i64 (fi x 31 25)] w fun e w' => PartOf e (sysOf x) ∧ On w w' := by
  have b0 : (q x == 115) = false := by simpa using B.out.1
  have b1 : (q x == 1048691) = false := by simpa using B.out.2.1
  have b2 : (q x == 270532723) = false := by simpa using B.out.2.2.1
  have b3 : (q x == 807403635) = false := by simpa using B.out.2.2.2.1
  have b4 : (q x == 273678451) = false := by simpa using B.out.2.2.2.2
  have HB := hb0 w
  go_enter Tryd.func87, Tryd.ntmps87
  go_wp2_with (first | (refine own_store w rfl rfl rfl rfl rfl (by simp [Value.oneCell']) ?_ ?_; focus ((repeat (first | exact heap_on HB.out | refine heap_past _ ?_ | refine heap_far ?_ (Nat.ne_of_gt HL.out) _)); done)) | (go_at_call 98; refine (ref_bits _ _ _ _).mono ?_; rintro e wn ⟨rfl, rfl⟩))
  refine own_back2 w rfl rfl rfl rfl ?_ ?_; (focus ((repeat (first | exact heap_on HB.out | refine heap_past _ ?_ | refine heap_far ?_ (Nat.ne_of_gt HL.out) _)); done))
  exact ⟨⟨_, _, _, _, _, _, _, _, _, _, _, _, rfl, by unfold sysOf; (simp [h3, B.out, Ins.zero, Ins.val, u_nil]) <;> rfl⟩, by ((repeat (first | apply On.rowO | refine On.setO ?_ HL.out | apply On.alloc)); first | exact On.refl w | exact on_of HB.out)⟩
set_option maxRecDepth 100000 in
set_option maxHeartbeats 4000000 in
theorem rsys_5 (x : BitVec 32) (w : World) (h3 : fi x 14 12 = 5) (B : Hid (¬ q x = 115 ∧ ¬ q x = 1048691 ∧ ¬ q x = 270532723 ∧ ¬ q x = 807403635 ∧ ¬ q x = 273678451)) :
    Calls Tryd.prog 87 #[.int .u32 (q x), .int .i64 (fi x 11 7), .int .i64 (fi x 19 15), .int .i64 (fi x 24 20), .int .i64 (fi x 14 12), .int .i64 (fi x 31 25)] w fun e w' => PartOf e (sysOf x) ∧ On w w' := by
  have b0 : (q x == 115) = false := by simpa using B.out.1
  have b1 : (q x == 1048691) = false := by simpa using B.out.2.1
  have b2 : (q x == 270532723) = false := by simpa using B.out.2.2.1
  have b3 : (q x == 807403635) = false := by simpa using B.out.2.2.2.1
  have b4 : (q x == 273678451) = false := by simpa using B.out.2.2.2.2
  have HB := hb0 w
  go_enter Tryd.func87, Tryd.ntmps87
  go_wp2_with (first | (refine own_store w rfl rfl rfl rfl rfl (by simp [Value.oneCell']) ?_ ?_; focus ((repeat (first | exact heap_on HB.out | refine heap_past _ ?_ | refine heap_far ?_ (Nat.ne_of_gt HL.out) _)); done)) | (go_at_call 98; refine (ref_bits _ _ _ _).mono ?_; rintro e wn ⟨rfl, rfl⟩))
  refine own_back2 w rfl rfl rfl rfl ?_ ?_; (focus ((repeat (first | exact heap_on HB.out | refine heap_past _ ?_ | refine heap_far ?_ (Nat.ne_of_gt HL.out) _)); done))
  exact ⟨⟨_, _, _, _, _, _, _, _, _, _, _, _, rfl, by unfold sysOf; (simp [h3, B.out, Ins.zero, Ins.val, u_nil]) <;> rfl⟩, by ((repeat (first | apply On.rowO | refine On.setO ?_ HL.out | apply On.alloc)); first | exact On.refl w | exact on_of HB.out)⟩
set_option maxRecDepth 100000 in
set_option maxHeartbeats 4000000 in
theorem rsys_6 (x : BitVec 32) (w : World) (h3 : fi x 14 12 = 6) (B : Hid (¬ q x = 115 ∧ ¬ q x = 1048691 ∧ ¬ q x = 270532723 ∧ ¬ q x = 807403635 ∧ ¬ q x = 273678451)) :
    Calls Tryd.prog 87 #[.int .u32 (q x), .int .i64 (fi x 11 7), .int .i64 (fi x 19 15), .int .i64 (fi x 24 20), .int .i64 (fi x 14 12), .int .i64 (fi x 31 25)] w fun e w' => PartOf e (sysOf x) ∧ On w w' := by
  have b0 : (q x == 115) = false := by simpa using B.out.1
  have b1 : (q x == 1048691) = false := by simpa using B.out.2.1
  have b2 : (q x == 270532723) = false := by simpa using B.out.2.2.1
  have b3 : (q x == 807403635) = false := by simpa using B.out.2.2.2.1
  have b4 : (q x == 273678451) = false := by simpa using B.out.2.2.2.2
  have HB := hb0 w
  go_enter Tryd.func87, Tryd.ntmps87
  go_wp2_with (first | (refine own_store w rfl rfl rfl rfl rfl (by simp [Value.oneCell']) ?_ ?_; focus ((repeat (first | exact heap_on HB.out | refine heap_past _ ?_ | refine heap_far ?_ (Nat.ne_of_gt HL.out) _)); done)) | (go_at_call 98; refine (ref_bits _ _ _ _).mono ?_; rintro e wn ⟨rfl, rfl⟩))
  refine own_back2 w rfl rfl rfl rfl ?_ ?_; (focus ((repeat (first | exact heap_on HB.out | refine heap_past _ ?_ | refine heap_far ?_ (Nat.ne_of_gt HL.out) _)); done))
  exact ⟨⟨_, _, _, _, _, _, _, _, _, _, _, _, rfl, by unfold sysOf; (simp [h3, B.out, Ins.zero, Ins.val, u_nil]) <;> rfl⟩, by ((repeat (first | apply On.rowO | refine On.setO ?_ HL.out | apply On.alloc)); first | exact On.refl w | exact on_of HB.out)⟩
set_option maxRecDepth 100000 in
set_option maxHeartbeats 4000000 in
theorem rsys_7 (x : BitVec 32) (w : World) (h3 : fi x 14 12 = 7) (B : Hid (¬ q x = 115 ∧ ¬ q x = 1048691 ∧ ¬ q x = 270532723 ∧ ¬ q x = 807403635 ∧ ¬ q x = 273678451)) :
    Calls Tryd.prog 87 #[.int .u32 (q x), .int .i64 (fi x 11 7), .int .i64 (fi x 19 15), .int .i64 (fi x 24 20), .int .i64 (fi x 14 12), .int .i64 (fi x 31 25)] w fun e w' => PartOf e (sysOf x) ∧ On w w' := by
  have b0 : (q x == 115) = false := by simpa using B.out.1
  have b1 : (q x == 1048691) = false := by simpa using B.out.2.1
  have b2 : (q x == 270532723) = false := by simpa using B.out.2.2.1
  have b3 : (q x == 807403635) = false := by simpa using B.out.2.2.2.1
  have b4 : (q x == 273678451) = false := by simpa using B.out.2.2.2.2
  have HB := hb0 w
  go_enter Tryd.func87, Tryd.ntmps87
  go_wp2_with (first | (refine own_store w rfl rfl rfl rfl rfl (by simp [Value.oneCell']) ?_ ?_; focus ((repeat (first | exact heap_on HB.out | refine heap_past _ ?_ | refine heap_far ?_ (Nat.ne_of_gt HL.out) _)); done)) | (go_at_call 98; refine (ref_bits _ _ _ _).mono ?_; rintro e wn ⟨rfl, rfl⟩))
  refine own_back2 w rfl rfl rfl rfl ?_ ?_; (focus ((repeat (first | exact heap_on HB.out | refine heap_past _ ?_ | refine heap_far ?_ (Nat.ne_of_gt HL.out) _)); done))
  exact ⟨⟨_, _, _, _, _, _, _, _, _, _, _, _, rfl, by unfold sysOf; (simp [h3, B.out, Ins.zero, Ins.val, u_nil]) <;> rfl⟩, by ((repeat (first | apply On.rowO | refine On.setO ?_ HL.out | apply On.alloc)); first | exact On.refl w | exact on_of HB.out)⟩
theorem rsys_any (x : BitVec 32) (w : World) :
    Calls Tryd.prog 87 #[.int .u32 (q x), .int .i64 (fi x 11 7), .int .i64 (fi x 19 15), .int .i64 (fi x 24 20), .int .i64 (fi x 14 12), .int .i64 (fi x 31 25)] w fun e w' => PartOf e (sysOf x) ∧ On w w' := by
  by_cases c0 : q x = 115
  · exact rsys_w0 x w (Lib.hid c0)
  by_cases c1 : q x = 1048691
  · exact rsys_w1 x w (Lib.hid c1)
  by_cases c2 : q x = 270532723
  · exact rsys_w2 x w (Lib.hid c2)
  by_cases c3 : q x = 807403635
  · exact rsys_w3 x w (Lib.hid c3)
  by_cases c4 : q x = 273678451
  · exact rsys_w4 x w (Lib.hid c4)
  rcases f3_cases x with h3 | h3 | h3 | h3 | h3 | h3 | h3 | h3
  · by_cases hd : fi x 11 7 = 0
    · by_cases h7 : fi x 31 25 = 9
      · exact rsys_f x w h3 (Lib.hid ⟨c0, c1, c2, c3, c4⟩) hd h7
      · exact rsys_n7 x w h3 (Lib.hid ⟨c0, c1, c2, c3, c4⟩) hd (Lib.hid h7)
    · exact rsys_d x w h3 (Lib.hid ⟨c0, c1, c2, c3, c4⟩) (Lib.hid hd)
  · exact rsys_1 x w h3 (Lib.hid ⟨c0, c1, c2, c3, c4⟩)
  · exact rsys_2 x w h3 (Lib.hid ⟨c0, c1, c2, c3, c4⟩)
  · exact rsys_3 x w h3 (Lib.hid ⟨c0, c1, c2, c3, c4⟩)
  · exact rsys_4 x w h3 (Lib.hid ⟨c0, c1, c2, c3, c4⟩)
  · exact rsys_5 x w h3 (Lib.hid ⟨c0, c1, c2, c3, c4⟩)
  · exact rsys_6 x w h3 (Lib.hid ⟨c0, c1, c2, c3, c4⟩)
  · exact rsys_7 x w h3 (Lib.hid ⟨c0, c1, c2, c3, c4⟩)
end Go.Proofs.YtjnalgilkdoalaaDoor
