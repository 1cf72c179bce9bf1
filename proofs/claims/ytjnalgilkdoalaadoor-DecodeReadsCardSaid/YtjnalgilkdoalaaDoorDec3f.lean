/- What the rows of opcodes 33 and 3b come to. Conditions: named at each. -/
import Derived.Test.YtjnalgilkdoalaaDoorDec0
import Derived.WalkMore
namespace Go.Proofs.YtjnalgilkdoalaaDoor
open Go.RowKit
set_option linter.unusedSimpArgs false

set_option maxRecDepth 100000 in
set_option maxHeartbeats 4000000 in
theorem reg_false_0_0 (x : BitVec 32) (w : World) (h3 : fi x 14 12 = 0) (h7 : fi x 31 25 = 0) :
    Calls Tryd.prog 27 #[.int .u32 (q x), .bool false] w fun e w' => e = .returned (regOf x false).val ∧ On w w' := by
  have HB := hb0 w
  go_enter Tryd.func27, Tryd.ntmps27
  go_wp2
  go_step3
  go_wp2_with (first | (go_at_call 19; refine (funct3_any _ _).mono ?_; rintro e wn ⟨rfl, h⟩; replace HB := tr HB h; clear h) | (go_at_call 16; refine (rd_any _ _).mono ?_; rintro e wn ⟨rfl, h⟩; replace HB := tr HB h; clear h) | (go_at_call 17; refine (rs1_any _ _).mono ?_; rintro e wn ⟨rfl, h⟩; replace HB := tr HB h; clear h) | (go_at_call 18; refine (rs2_any _ _).mono ?_; rintro e wn ⟨rfl, h⟩; replace HB := tr HB h; clear h) | (refine own_store w rfl rfl rfl rfl rfl (by simp [Value.oneCell']) ?_ ?_; focus ((repeat (first | exact heap_on HB.out | refine heap_past _ ?_ | refine heap_far ?_ (Nat.ne_of_gt HL.out) _)); done)) | (go_at_call 41; refine (funct7_any _ _).mono ?_; rintro e wm ⟨rfl, h⟩; obtain ⟨k0, k1, k2, k3, k4, k5, k6, k7, k8, k9, k10, kf, hlt⟩ := own11 h; have HL := Lib.hid (on_size HB.out); replace HB := tr1 HB h; clear h))
  go_step3
  go_wp2_with (first | (go_at_call 19; refine (funct3_any _ _).mono ?_; rintro e wn ⟨rfl, h⟩; replace HB := tr HB h; clear h) | (go_at_call 16; refine (rd_any _ _).mono ?_; rintro e wn ⟨rfl, h⟩; replace HB := tr HB h; clear h) | (go_at_call 17; refine (rs1_any _ _).mono ?_; rintro e wn ⟨rfl, h⟩; replace HB := tr HB h; clear h) | (go_at_call 18; refine (rs2_any _ _).mono ?_; rintro e wn ⟨rfl, h⟩; replace HB := tr HB h; clear h) | (refine own_store w rfl rfl rfl rfl rfl (by simp [Value.oneCell']) ?_ ?_; focus ((repeat (first | exact heap_on HB.out | refine heap_past _ ?_ | refine heap_far ?_ (Nat.ne_of_gt HL.out) _)); done)) | (go_at_call 41; refine (funct7_any _ _).mono ?_; rintro e wm ⟨rfl, h⟩; obtain ⟨k0, k1, k2, k3, k4, k5, k6, k7, k8, k9, k10, kf, hlt⟩ := own11 h; have HL := Lib.hid (on_size HB.out); replace HB := tr1 HB h; clear h))
  rw [Exit.noGoto_ret]
  refine own_back w rfl rfl rfl rfl ?_ ?_; (focus ((repeat (first | exact heap_on HB.out | refine heap_past _ ?_ | refine heap_far ?_ (Nat.ne_of_gt HL.out) _)); done))
  exact ⟨by unfold regOf; (simp [h3, h7, Ins.zero, Ins.val, u_nil]) <;> rfl, by ((repeat (first | apply On.rowO | refine On.setO ?_ HL.out | apply On.alloc)); first | exact On.refl w | exact on_of HB.out)⟩
set_option maxRecDepth 100000 in
set_option maxHeartbeats 4000000 in
theorem reg_false_0_32 (x : BitVec 32) (w : World) (h3 : fi x 14 12 = 0) (h7 : fi x 31 25 = 32) :
    Calls Tryd.prog 27 #[.int .u32 (q x), .bool false] w fun e w' => e = .returned (regOf x false).val ∧ On w w' := by
  have HB := hb0 w
  go_enter Tryd.func27, Tryd.ntmps27
  go_wp2
  go_step3
  go_wp2_with (first | (go_at_call 19; refine (funct3_any _ _).mono ?_; rintro e wn ⟨rfl, h⟩; replace HB := tr HB h; clear h) | (go_at_call 16; refine (rd_any _ _).mono ?_; rintro e wn ⟨rfl, h⟩; replace HB := tr HB h; clear h) | (go_at_call 17; refine (rs1_any _ _).mono ?_; rintro e wn ⟨rfl, h⟩; replace HB := tr HB h; clear h) | (go_at_call 18; refine (rs2_any _ _).mono ?_; rintro e wn ⟨rfl, h⟩; replace HB := tr HB h; clear h) | (refine own_store w rfl rfl rfl rfl rfl (by simp [Value.oneCell']) ?_ ?_; focus ((repeat (first | exact heap_on HB.out | refine heap_past _ ?_ | refine heap_far ?_ (Nat.ne_of_gt HL.out) _)); done)) | (go_at_call 41; refine (funct7_any _ _).mono ?_; rintro e wm ⟨rfl, h⟩; obtain ⟨k0, k1, k2, k3, k4, k5, k6, k7, k8, k9, k10, kf, hlt⟩ := own11 h; have HL := Lib.hid (on_size HB.out); replace HB := tr1 HB h; clear h))
  go_step3
  go_wp2_with (first | (go_at_call 19; refine (funct3_any _ _).mono ?_; rintro e wn ⟨rfl, h⟩; replace HB := tr HB h; clear h) | (go_at_call 16; refine (rd_any _ _).mono ?_; rintro e wn ⟨rfl, h⟩; replace HB := tr HB h; clear h) | (go_at_call 17; refine (rs1_any _ _).mono ?_; rintro e wn ⟨rfl, h⟩; replace HB := tr HB h; clear h) | (go_at_call 18; refine (rs2_any _ _).mono ?_; rintro e wn ⟨rfl, h⟩; replace HB := tr HB h; clear h) | (refine own_store w rfl rfl rfl rfl rfl (by simp [Value.oneCell']) ?_ ?_; focus ((repeat (first | exact heap_on HB.out | refine heap_past _ ?_ | refine heap_far ?_ (Nat.ne_of_gt HL.out) _)); done)) | (go_at_call 41; refine (funct7_any _ _).mono ?_; rintro e wm ⟨rfl, h⟩; obtain ⟨k0, k1, k2, k3, k4, k5, k6, k7, k8, k9, k10, kf, hlt⟩ := own11 h; have HL := Lib.hid (on_size HB.out); replace HB := tr1 HB h; clear h))
  rw [Exit.noGoto_ret]
  refine own_back w rfl rfl rfl rfl ?_ ?_; (focus ((repeat (first | exact heap_on HB.out | refine heap_past _ ?_ | refine heap_far ?_ (Nat.ne_of_gt HL.out) _)); done))
  exact ⟨by unfold regOf; (simp [h3, h7, Ins.zero, Ins.val, u_nil]) <;> rfl, by ((repeat (first | apply On.rowO | refine On.setO ?_ HL.out | apply On.alloc)); first | exact On.refl w | exact on_of HB.out)⟩
set_option maxRecDepth 100000 in
set_option maxHeartbeats 4000000 in
theorem reg_false_0_1 (x : BitVec 32) (w : World) (h3 : fi x 14 12 = 0) (h7 : fi x 31 25 = 1) :
    Calls Tryd.prog 27 #[.int .u32 (q x), .bool false] w fun e w' => e = .returned (regOf x false).val ∧ On w w' := by
  have HB := hb0 w
  go_enter Tryd.func27, Tryd.ntmps27
  go_wp2
  go_step3
  go_wp2_with (first | (go_at_call 19; refine (funct3_any _ _).mono ?_; rintro e wn ⟨rfl, h⟩; replace HB := tr HB h; clear h) | (go_at_call 16; refine (rd_any _ _).mono ?_; rintro e wn ⟨rfl, h⟩; replace HB := tr HB h; clear h) | (go_at_call 17; refine (rs1_any _ _).mono ?_; rintro e wn ⟨rfl, h⟩; replace HB := tr HB h; clear h) | (go_at_call 18; refine (rs2_any _ _).mono ?_; rintro e wn ⟨rfl, h⟩; replace HB := tr HB h; clear h) | (refine own_store w rfl rfl rfl rfl rfl (by simp [Value.oneCell']) ?_ ?_; focus ((repeat (first | exact heap_on HB.out | refine heap_past _ ?_ | refine heap_far ?_ (Nat.ne_of_gt HL.out) _)); done)) | (go_at_call 41; refine (funct7_any _ _).mono ?_; rintro e wm ⟨rfl, h⟩; obtain ⟨k0, k1, k2, k3, k4, k5, k6, k7, k8, k9, k10, kf, hlt⟩ := own11 h; have HL := Lib.hid (on_size HB.out); replace HB := tr1 HB h; clear h))
  go_step3
  go_wp2_with (first | (go_at_call 19; refine (funct3_any _ _).mono ?_; rintro e wn ⟨rfl, h⟩; replace HB := tr HB h; clear h) | (go_at_call 16; refine (rd_any _ _).mono ?_; rintro e wn ⟨rfl, h⟩; replace HB := tr HB h; clear h) | (go_at_call 17; refine (rs1_any _ _).mono ?_; rintro e wn ⟨rfl, h⟩; replace HB := tr HB h; clear h) | (go_at_call 18; refine (rs2_any _ _).mono ?_; rintro e wn ⟨rfl, h⟩; replace HB := tr HB h; clear h) | (refine own_store w rfl rfl rfl rfl rfl (by simp [Value.oneCell']) ?_ ?_; focus ((repeat (first | exact heap_on HB.out | refine heap_past _ ?_ | refine heap_far ?_ (Nat.ne_of_gt HL.out) _)); done)) | (go_at_call 41; refine (funct7_any _ _).mono ?_; rintro e wm ⟨rfl, h⟩; obtain ⟨k0, k1, k2, k3, k4, k5, k6, k7, k8, k9, k10, kf, hlt⟩ := own11 h; have HL := Lib.hid (on_size HB.out); replace HB := tr1 HB h; clear h))
  rw [Exit.noGoto_ret]
  refine own_back w rfl rfl rfl rfl ?_ ?_; (focus ((repeat (first | exact heap_on HB.out | refine heap_past _ ?_ | refine heap_far ?_ (Nat.ne_of_gt HL.out) _)); done))
  exact ⟨by unfold regOf; (simp [h3, h7, Ins.zero, Ins.val, u_nil]) <;> rfl, by ((repeat (first | apply On.rowO | refine On.setO ?_ HL.out | apply On.alloc)); first | exact On.refl w | exact on_of HB.out)⟩
set_option maxRecDepth 100000 in
set_option maxHeartbeats 4000000 in
theorem reg_false_1_0 (x : BitVec 32) (w : World) (h3 : fi x 14 12 = 1) (h7 : fi x 31 25 = 0) :
    Calls Tryd.prog 27 #[.int .u32 (q x), .bool false] w fun e w' => e = .returned (regOf x false).val ∧ On w w' := by
  have HB := hb0 w
  go_enter Tryd.func27, Tryd.ntmps27
  go_wp2
  go_step3
  go_wp2_with (first | (go_at_call 19; refine (funct3_any _ _).mono ?_; rintro e wn ⟨rfl, h⟩; replace HB := tr HB h; clear h) | (go_at_call 16; refine (rd_any _ _).mono ?_; rintro e wn ⟨rfl, h⟩; replace HB := tr HB h; clear h) | (go_at_call 17; refine (rs1_any _ _).mono ?_; rintro e wn ⟨rfl, h⟩; replace HB := tr HB h; clear h) | (go_at_call 18; refine (rs2_any _ _).mono ?_; rintro e wn ⟨rfl, h⟩; replace HB := tr HB h; clear h) | (refine own_store w rfl rfl rfl rfl rfl (by simp [Value.oneCell']) ?_ ?_; focus ((repeat (first | exact heap_on HB.out | refine heap_past _ ?_ | refine heap_far ?_ (Nat.ne_of_gt HL.out) _)); done)) | (go_at_call 41; refine (funct7_any _ _).mono ?_; rintro e wm ⟨rfl, h⟩; obtain ⟨k0, k1, k2, k3, k4, k5, k6, k7, k8, k9, k10, kf, hlt⟩ := own11 h; have HL := Lib.hid (on_size HB.out); replace HB := tr1 HB h; clear h))
  go_step3
  go_wp2_with (first | (go_at_call 19; refine (funct3_any _ _).mono ?_; rintro e wn ⟨rfl, h⟩; replace HB := tr HB h; clear h) | (go_at_call 16; refine (rd_any _ _).mono ?_; rintro e wn ⟨rfl, h⟩; replace HB := tr HB h; clear h) | (go_at_call 17; refine (rs1_any _ _).mono ?_; rintro e wn ⟨rfl, h⟩; replace HB := tr HB h; clear h) | (go_at_call 18; refine (rs2_any _ _).mono ?_; rintro e wn ⟨rfl, h⟩; replace HB := tr HB h; clear h) | (refine own_store w rfl rfl rfl rfl rfl (by simp [Value.oneCell']) ?_ ?_; focus ((repeat (first | exact heap_on HB.out | refine heap_past _ ?_ | refine heap_far ?_ (Nat.ne_of_gt HL.out) _)); done)) | (go_at_call 41; refine (funct7_any _ _).mono ?_; rintro e wm ⟨rfl, h⟩; obtain ⟨k0, k1, k2, k3, k4, k5, k6, k7, k8, k9, k10, kf, hlt⟩ := own11 h; have HL := Lib.hid (on_size HB.out); replace HB := tr1 HB h; clear h))
  rw [Exit.noGoto_ret]
  refine own_back w rfl rfl rfl rfl ?_ ?_; (focus ((repeat (first | exact heap_on HB.out | refine heap_past _ ?_ | refine heap_far ?_ (Nat.ne_of_gt HL.out) _)); done))
  exact ⟨by unfold regOf; (simp [h3, h7, Ins.zero, Ins.val, u_nil]) <;> rfl, by ((repeat (first | apply On.rowO | refine On.setO ?_ HL.out | apply On.alloc)); first | exact On.refl w | exact on_of HB.out)⟩
set_option maxRecDepth 100000 in
set_option maxHeartbeats 4000000 in
theorem reg_false_1_32 (x : BitVec 32) (w : World) (h3 : fi x 14 12 = 1) (h7 : fi x 31 25 = 32) :
    Calls Tryd.prog 27 #[.int .u32 (q x), .bool false] w fun e w' => e = .returned (regOf x false).val ∧ On w w' := by
  have HB := hb0 w
  go_enter Tryd.func27, Tryd.ntmps27
  go_wp2
  go_step3
  go_wp2_with (first | (go_at_call 19; refine (funct3_any _ _).mono ?_; rintro e wn ⟨rfl, h⟩; replace HB := tr HB h; clear h) | (go_at_call 16; refine (rd_any _ _).mono ?_; rintro e wn ⟨rfl, h⟩; replace HB := tr HB h; clear h) | (go_at_call 17; refine (rs1_any _ _).mono ?_; rintro e wn ⟨rfl, h⟩; replace HB := tr HB h; clear h) | (go_at_call 18; refine (rs2_any _ _).mono ?_; rintro e wn ⟨rfl, h⟩; replace HB := tr HB h; clear h) | (refine own_store w rfl rfl rfl rfl rfl (by simp [Value.oneCell']) ?_ ?_; focus ((repeat (first | exact heap_on HB.out | refine heap_past _ ?_ | refine heap_far ?_ (Nat.ne_of_gt HL.out) _)); done)) | (go_at_call 41; refine (funct7_any _ _).mono ?_; rintro e wm ⟨rfl, h⟩; obtain ⟨k0, k1, k2, k3, k4, k5, k6, k7, k8, k9, k10, kf, hlt⟩ := own11 h; have HL := Lib.hid (on_size HB.out); replace HB := tr1 HB h; clear h))
  go_step3
  go_wp2_with (first | (go_at_call 19; refine (funct3_any _ _).mono ?_; rintro e wn ⟨rfl, h⟩; replace HB := tr HB h; clear h) | (go_at_call 16; refine (rd_any _ _).mono ?_; rintro e wn ⟨rfl, h⟩; replace HB := tr HB h; clear h) | (go_at_call 17; refine (rs1_any _ _).mono ?_; rintro e wn ⟨rfl, h⟩; replace HB := tr HB h; clear h) | (go_at_call 18; refine (rs2_any _ _).mono ?_; rintro e wn ⟨rfl, h⟩; replace HB := tr HB h; clear h) | (refine own_store w rfl rfl rfl rfl rfl (by simp [Value.oneCell']) ?_ ?_; focus ((repeat (first | exact heap_on HB.out | refine heap_past _ ?_ | refine heap_far ?_ (Nat.ne_of_gt HL.out) _)); done)) | (go_at_call 41; refine (funct7_any _ _).mono ?_; rintro e wm ⟨rfl, h⟩; obtain ⟨k0, k1, k2, k3, k4, k5, k6, k7, k8, k9, k10, kf, hlt⟩ := own11 h; have HL := Lib.hid (on_size HB.out); replace HB := tr1 HB h; clear h))
  rw [Exit.noGoto_ret]
  refine own_back w rfl rfl rfl rfl ?_ ?_; (focus ((repeat (first | exact heap_on HB.out | refine heap_past _ ?_ | refine heap_far ?_ (Nat.ne_of_gt HL.out) _)); done))
  exact ⟨by unfold regOf; (simp [h3, h7, Ins.zero, Ins.val, u_nil]) <;> rfl, by ((repeat (first | apply On.rowO | refine On.setO ?_ HL.out | apply On.alloc)); first | exact On.refl w | exact on_of HB.out)⟩
set_option maxRecDepth 100000 in
set_option maxHeartbeats 4000000 in
theorem reg_false_1_1 (x : BitVec 32) (w : World) (h3 : fi x 14 12 = 1) (h7 : fi x 31 25 = 1) :
    Calls Tryd.prog 27 #[.int .u32 (q x), .bool false] w fun e w' => e = .returned (regOf x false).val ∧ On w w' := by
  have HB := hb0 w
  go_enter Tryd.func27, Tryd.ntmps27
  go_wp2
  go_step3
  go_wp2_with (first | (go_at_call 19; refine (funct3_any _ _).mono ?_; rintro e wn ⟨rfl, h⟩; replace HB := tr HB h; clear h) | (go_at_call 16; refine (rd_any _ _).mono ?_; rintro e wn ⟨rfl, h⟩; replace HB := tr HB h; clear h) | (go_at_call 17; refine (rs1_any _ _).mono ?_; rintro e wn ⟨rfl, h⟩; replace HB := tr HB h; clear h) | (go_at_call 18; refine (rs2_any _ _).mono ?_; rintro e wn ⟨rfl, h⟩; replace HB := tr HB h; clear h) | (refine own_store w rfl rfl rfl rfl rfl (by simp [Value.oneCell']) ?_ ?_; focus ((repeat (first | exact heap_on HB.out | refine heap_past _ ?_ | refine heap_far ?_ (Nat.ne_of_gt HL.out) _)); done)) | (go_at_call 41; refine (funct7_any _ _).mono ?_; rintro e wm ⟨rfl, h⟩; obtain ⟨k0, k1, k2, k3, k4, k5, k6, k7, k8, k9, k10, kf, hlt⟩ := own11 h; have HL := Lib.hid (on_size HB.out); replace HB := tr1 HB h; clear h))
  go_step3
  go_wp2_with (first | (go_at_call 19; refine (funct3_any _ _).mono ?_; rintro e wn ⟨rfl, h⟩; replace HB := tr HB h; clear h) | (go_at_call 16; refine (rd_any _ _).mono ?_; rintro e wn ⟨rfl, h⟩; replace HB := tr HB h; clear h) | (go_at_call 17; refine (rs1_any _ _).mono ?_; rintro e wn ⟨rfl, h⟩; replace HB := tr HB h; clear h) | (go_at_call 18; refine (rs2_any _ _).mono ?_; rintro e wn ⟨rfl, h⟩; replace HB := tr HB h; clear h) | (refine own_store w rfl rfl rfl rfl rfl (by simp [Value.oneCell']) ?_ ?_; focus ((repeat (first | exact heap_on HB.out | refine heap_past _ ?_ | refine heap_far ?_ (Nat.ne_of_gt HL.out) _)); done)) | (go_at_call 41; refine (funct7_any _ _).mono ?_; rintro e wm ⟨rfl, h⟩; obtain ⟨k0, k1, k2, k3, k4, k5, k6, k7, k8, k9, k10, kf, hlt⟩ := own11 h; have HL := Lib.hid (on_size HB.out); replace HB := tr1 HB h; clear h))
  rw [Exit.noGoto_ret]
  refine own_back w rfl rfl rfl rfl ?_ ?_; (focus ((repeat (first | exact heap_on HB.out | refine heap_past _ ?_ | refine heap_far ?_ (Nat.ne_of_gt HL.out) _)); done))
  exact ⟨by unfold regOf; (simp [h3, h7, Ins.zero, Ins.val, u_nil]) <;> rfl, by ((repeat (first | apply On.rowO | refine On.setO ?_ HL.out | apply On.alloc)); first | exact On.refl w | exact on_of HB.out)⟩
set_option maxRecDepth 100000 in
set_option maxHeartbeats 4000000 in
theorem reg_false_2_0 (x : BitVec 32) (w : World) (h3 : fi x 14 12 = 2) (h7 : fi x 31 25 = 0) :
    Calls Tryd.prog 27 #[.int .u32 (q x), .bool false] w fun e w' => e = .returned (regOf x false).val ∧ On w w' := by
  have HB := hb0 w
  go_enter Tryd.func27, Tryd.ntmps27
  go_wp2
  go_step3
  go_wp2_with (first | (go_at_call 19; refine (funct3_any _ _).mono ?_; rintro e wn ⟨rfl, h⟩; replace HB := tr HB h; clear h) | (go_at_call 16; refine (rd_any _ _).mono ?_; rintro e wn ⟨rfl, h⟩; replace HB := tr HB h; clear h) | (go_at_call 17; refine (rs1_any _ _).mono ?_; rintro e wn ⟨rfl, h⟩; replace HB := tr HB h; clear h) | (go_at_call 18; refine (rs2_any _ _).mono ?_; rintro e wn ⟨rfl, h⟩; replace HB := tr HB h; clear h) | (refine own_store w rfl rfl rfl rfl rfl (by simp [Value.oneCell']) ?_ ?_; focus ((repeat (first | exact heap_on HB.out | refine heap_past _ ?_ | refine heap_far ?_ (Nat.ne_of_gt HL.out) _)); done)) | (go_at_call 41; refine (funct7_any _ _).mono ?_; rintro e wm ⟨rfl, h⟩; obtain ⟨k0, k1, k2, k3, k4, k5, k6, k7, k8, k9, k10, kf, hlt⟩ := own11 h; have HL := Lib.hid (on_size HB.out); replace HB := tr1 HB h; clear h))
  go_step3
  go_wp2_with (first | (go_at_call 19; refine (funct3_any _ _).mono ?_; rintro e wn ⟨rfl, h⟩; replace HB := tr HB h; clear h) | (go_at_call 16; refine (rd_any _ _).mono ?_; rintro e wn ⟨rfl, h⟩; replace HB := tr HB h; clear h) | (go_at_call 17; refine (rs1_any _ _).mono ?_; rintro e wn ⟨rfl, h⟩; replace HB := tr HB h; clear h) | (go_at_call 18; refine (rs2_any _ _).mono ?_; rintro e wn ⟨rfl, h⟩; replace HB := tr HB h; clear h) | (refine own_store w rfl rfl rfl rfl rfl (by simp [Value.oneCell']) ?_ ?_; focus ((repeat (first | exact heap_on HB.out | refine heap_past _ ?_ | refine heap_far ?_ (Nat.ne_of_gt HL.out) _)); done)) | (go_at_call 41; refine (funct7_any _ _).mono ?_; rintro e wm ⟨rfl, h⟩; obtain ⟨k0, k1, k2, k3, k4, k5, k6, k7, k8, k9, k10, kf, hlt⟩ := own11 h; have HL := Lib.hid (on_size HB.out); replace HB := tr1 HB h; clear h))
  rw [Exit.noGoto_ret]
  refine own_back w rfl rfl rfl rfl ?_ ?_; (focus ((repeat (first | exact heap_on HB.out | refine heap_past _ ?_ | refine heap_far ?_ (Nat.ne_of_gt HL.out) _)); done))
  exact ⟨by unfold regOf; (simp [h3, h7, Ins.zero, Ins.val, u_nil]) <;> rfl, by ((repeat (first | apply On.rowO | refine On.setO ?_ HL.out | apply On.alloc)); first | exact On.refl w | exact on_of HB.out)⟩
set_option maxRecDepth 100000 in
set_option maxHeartbeats 4000000 in
theorem reg_false_2_32 (x : BitVec 32) (w : World) (h3 : fi x 14 12 = 2) (h7 : fi x 31 25 = 32) :
    Calls Tryd.prog 27 #[.int .u32 (q x), .bool false] w fun e w' => e = .returned (regOf x false).val ∧ On w w' := by
  have HB := hb0 w
  go_enter Tryd.func27, Tryd.ntmps27
  go_wp2
  go_step3
  go_wp2_with (first | (go_at_call 19; refine (funct3_any _ _).mono ?_; rintro e wn ⟨rfl, h⟩; replace HB := tr HB h; clear h) | (go_at_call 16; refine (rd_any _ _).mono ?_; rintro e wn ⟨rfl, h⟩; replace HB := tr HB h; clear h) | (go_at_call 17; refine (rs1_any _ _).mono ?_; rintro e wn ⟨rfl, h⟩; replace HB := tr HB h; clear h) | (go_at_call 18; refine (rs2_any _ _).mono ?_; rintro e wn ⟨rfl, h⟩; replace HB := tr HB h; clear h) | (refine own_store w rfl rfl rfl rfl rfl (by simp [Value.oneCell']) ?_ ?_; focus ((repeat (first | exact heap_on HB.out | refine heap_past _ ?_ | refine heap_far ?_ (Nat.ne_of_gt HL.out) _)); done)) | (go_at_call 41; refine (funct7_any _ _).mono ?_; rintro e wm ⟨rfl, h⟩; obtain ⟨k0, k1, k2, k3, k4, k5, k6, k7, k8, k9, k10, kf, hlt⟩ := own11 h; have HL := Lib.hid (on_size HB.out); replace HB := tr1 HB h; clear h))
  go_step3
  go_wp2_with (first | (go_at_call 19; refine (funct3_any _ _).mono ?_; rintro e wn ⟨rfl, h⟩; replace HB := tr HB h; clear h) | (go_at_call 16; refine (rd_any _ _).mono ?_; rintro e wn ⟨rfl, h⟩; replace HB := tr HB h; clear h) | (go_at_call 17; refine (rs1_any _ _).mono ?_; rintro e wn ⟨rfl, h⟩; replace HB := tr HB h; clear h) | (go_at_call 18; refine (rs2_any _ _).mono ?_; rintro e wn ⟨rfl, h⟩; replace HB := tr HB h; clear h) | (refine own_store w rfl rfl rfl rfl rfl (by simp [Value.oneCell']) ?_ ?_; focus ((repeat (first | exact heap_on HB.out | refine heap_past _ ?_ | refine heap_far ?_ (Nat.ne_of_gt HL.out) _)); done)) | (go_at_call 41; refine (funct7_any _ _).mono ?_; rintro e wm ⟨rfl, h⟩; obtain ⟨k0, k1, k2, k3, k4, k5, k6, k7, k8, k9, k10, kf, hlt⟩ := own11 h; have HL := Lib.hid (on_size HB.out); replace HB := tr1 HB h; clear h))
  rw [Exit.noGoto_ret]
  refine own_back w rfl rfl rfl rfl ?_ ?_; (focus ((repeat (first | exact heap_on HB.out | refine heap_past _ ?_ | refine heap_far ?_ (Nat.ne_of_gt HL.out) _)); done))
  exact ⟨by unfold regOf; (simp [h3, h7, Ins.zero, Ins.val, u_nil]) <;> rfl, by ((repeat (first | apply On.rowO | refine On.setO ?_ HL.out | apply On.alloc)); first | exact On.refl w | exact on_of HB.out)⟩
set_option maxRecDepth 100000 in
set_option maxHeartbeats 4000000 in
theorem reg_false_2_1 (x : BitVec 32) (w : World) (h3 : fi x 14 12 = 2) (h7 : fi x 31 25 = 1) :
    Calls Tryd.prog 27 #[.int .u32 (q x), .bool false] w fun e w' => e = .returned (regOf x false).val ∧ On w w' := by
  have HB := hb0 w
  go_enter Tryd.func27, Tryd.ntmps27
  go_wp2
  go_step3
  go_wp2_with (first | (go_at_call 19; refine (funct3_any _ _).mono ?_; rintro e wn ⟨rfl, h⟩; replace HB := tr HB h; clear h) | (go_at_call 16; refine (rd_any _ _).mono ?_; rintro e wn ⟨rfl, h⟩; replace HB := tr HB h; clear h) | (go_at_call 17; refine (rs1_any _ _).mono ?_; rintro e wn ⟨rfl, h⟩; replace HB := tr HB h; clear h) | (go_at_call 18; refine (rs2_any _ _).mono ?_; rintro e wn ⟨rfl, h⟩; replace HB := tr HB h; clear h) | (refine own_store w rfl rfl rfl rfl rfl (by simp [Value.oneCell']) ?_ ?_; focus ((repeat (first | exact heap_on HB.out | refine heap_past _ ?_ | refine heap_far ?_ (Nat.ne_of_gt HL.out) _)); done)) | (go_at_call 41; refine (funct7_any _ _).mono ?_; rintro e wm ⟨rfl, h⟩; obtain ⟨k0, k1, k2, k3, k4, k5, k6, k7, k8, k9, k10, kf, hlt⟩ := own11 h; have HL := Lib.hid (on_size HB.out); replace HB := tr1 HB h; clear h))
  go_step3
  go_wp2_with (first | (go_at_call 19; refine (funct3_any _ _).mono ?_; rintro e wn ⟨rfl, h⟩; replace HB := tr HB h; clear h) | (go_at_call 16; refine (rd_any _ _).mono ?_; rintro e wn ⟨rfl, h⟩; replace HB := tr HB h; clear h) | (go_at_call 17; refine (rs1_any _ _).mono ?_; rintro e wn ⟨rfl, h⟩; replace HB := tr HB h; clear h) | (go_at_call 18; refine (rs2_any _ _).mono ?_; rintro e wn ⟨rfl, h⟩; replace HB := tr HB h; clear h) | (refine own_store w rfl rfl rfl rfl rfl (by simp [Value.oneCell']) ?_ ?_; focus ((repeat (first | exact heap_on HB.out | refine heap_past _ ?_ | refine heap_far ?_ (Nat.ne_of_gt HL.out) _)); done)) | (go_at_call 41; refine (funct7_any _ _).mono ?_; rintro e wm ⟨rfl, h⟩; obtain ⟨k0, k1, k2, k3, k4, k5, k6, k7, k8, k9, k10, kf, hlt⟩ := own11 h; have HL := Lib.hid (on_size HB.out); replace HB := tr1 HB h; clear h))
  rw [Exit.noGoto_ret]
  refine own_back w rfl rfl rfl rfl ?_ ?_; (focus ((repeat (first | exact heap_on HB.out | refine heap_past _ ?_ | refine heap_far ?_ (Nat.ne_of_gt HL.out) _)); done))
  exact ⟨by unfold regOf; (simp [h3, h7, Ins.zero, Ins.val, u_nil]) <;> rfl, by ((repeat (first | apply On.rowO | refine On.setO ?_ HL.out | apply On.alloc)); first | exact On.refl w | exact on_of HB.out)⟩
set_option maxRecDepth 100000 in
set_option maxHeartbeats 4000000 in
theorem reg_false_3_0 (x : BitVec 32) (w : World) (h3 : fi x 14 12 = 3) (h7 : fi x 31 25 = 0) :
    Calls Tryd.prog 27 #[.int .u32 (q x), .bool false] w fun e w' => e = .returned (regOf x false).val ∧ On w w' := by
  have HB := hb0 w
  go_enter Tryd.func27, Tryd.ntmps27
  go_wp2
  go_step3
  go_wp2_with (first | (go_at_call 19; refine (funct3_any _ _).mono ?_; rintro e wn ⟨rfl, h⟩; replace HB := tr HB h; clear h) | (go_at_call 16; refine (rd_any _ _).mono ?_; rintro e wn ⟨rfl, h⟩; replace HB := tr HB h; clear h) | (go_at_call 17; refine (rs1_any _ _).mono ?_; rintro e wn ⟨rfl, h⟩; replace HB := tr HB h; clear h) | (go_at_call 18; refine (rs2_any _ _).mono ?_; rintro e wn ⟨rfl, h⟩; replace HB := tr HB h; clear h) | (refine own_store w rfl rfl rfl rfl rfl (by simp [Value.oneCell']) ?_ ?_; focus ((repeat (first | exact heap_on HB.out | refine heap_past _ ?_ | refine heap_far ?_ (Nat.ne_of_gt HL.out) _)); done)) | (go_at_call 41; refine (funct7_any _ _).mono ?_; rintro e wm ⟨rfl, h⟩; obtain ⟨k0, k1, k2, k3, k4, k5, k6, k7, k8, k9, k10, kf, hlt⟩ := own11 h; have HL := Lib.hid (on_size HB.out); replace HB := tr1 HB h; clear h))
  go_step3
  go_wp2_with (first | (go_at_call 19; refine (funct3_any _ _).mono ?_; rintro e wn ⟨rfl, h⟩; replace HB := tr HB h; clear h) | (go_at_call 16; refine (rd_any _ _).mono ?_; rintro e wn ⟨rfl, h⟩; replace HB := tr HB h; clear h) | (go_at_call 17; refine (rs1_any _ _).mono ?_; rintro e wn ⟨rfl, h⟩; replace HB := tr HB h; clear h) | (go_at_call 18; refine (rs2_any _ _).mono ?_; rintro e wn ⟨rfl, h⟩; replace HB := tr HB h; clear h) | (refine own_store w rfl rfl rfl rfl rfl (by simp [Value.oneCell']) ?_ ?_; focus ((repeat (first | exact heap_on HB.out | refine heap_past _ ?_ | refine heap_far ?_ (Nat.ne_of_gt HL.out) _)); done)) | (go_at_call 41; refine (funct7_any _ _).mono ?_; rintro e wm ⟨rfl, h⟩; obtain ⟨k0, k1, k2, k3, k4, k5, k6, k7, k8, k9, k10, kf, hlt⟩ := own11 h; have HL := Lib.hid (on_size HB.out); replace HB := tr1 HB h; clear h))
  rw [Exit.noGoto_ret]
  refine own_back w rfl rfl rfl rfl ?_ ?_; (focus ((repeat (first | exact heap_on HB.out | refine heap_past _ ?_ | refine heap_far ?_ (Nat.ne_of_gt HL.out) _)); done))
  exact ⟨by unfold regOf; (simp [h3, h7, Ins.zero, Ins.val, u_nil]) <;> rfl, by ((repeat (first | apply On.rowO | refine On.setO ?_ HL.out | apply On.alloc)); first | exact On.refl w | exact on_of HB.out)⟩
set_option maxRecDepth 100000 in
set_option maxHeartbeats 4000000 in
theorem reg_false_3_32 (x : BitVec 32) (w : World) (h3 : fi x 14 12 = 3) (h7 : fi x 31 25 = 32) :
    Calls Tryd.prog 27 #[.int .u32 (q x), .bool false] w fun e w' => e = .returned (regOf x false).val ∧ On w w' := by
  have HB := hb0 w
  go_enter Tryd.func27, Tryd.ntmps27
  go_wp2
  go_step3
  go_wp2_with (first | (go_at_call 19; refine (funct3_any _ _).mono ?_; rintro e wn ⟨rfl, h⟩; replace HB := tr HB h; clear h) | (go_at_call 16; refine (rd_any _ _).mono ?_; rintro e wn ⟨rfl, h⟩; replace HB := tr HB h; clear h) | (go_at_call 17; refine (rs1_any _ _).mono ?_; rintro e wn ⟨rfl, h⟩; replace HB := tr HB h; clear h) | (go_at_call 18; refine (rs2_any _ _).mono ?_; rintro e wn ⟨rfl, h⟩; replace HB := tr HB h; clear h) | (refine own_store w rfl rfl rfl rfl rfl (by simp [Value.oneCell']) ?_ ?_; focus ((repeat (first | exact heap_on HB.out | refine heap_past _ ?_ | refine heap_far ?_ (Nat.ne_of_gt HL.out) _)); done)) | (go_at_call 41; refine (funct7_any _ _).mono ?_; rintro e wm ⟨rfl, h⟩; obtain ⟨k0, k1, k2, k3, k4, k5, k6, k7, k8, k9, k10, kf, hlt⟩ := own11 h; have HL := Lib.hid (on_size HB.out); replace HB := tr1 HB h; clear h))
  go_step3
  go_wp2_with (first | (go_at_call 19; refine (funct3_any _ _).mono ?_; rintro e wn ⟨rfl, h⟩; replace HB := tr HB h; clear h) | (go_at_call 16; refine (rd_any _ _).mono ?_; rintro e wn ⟨rfl, h⟩; replace HB := tr HB h; clear h) | (go_at_call 17; refine (rs1_any _ _).mono ?_; rintro e wn ⟨rfl, h⟩; replace HB := tr HB h; clear h) | (go_at_call 18; refine (rs2_any _ _).mono ?_; rintro e wn ⟨rfl, h⟩; replace HB := tr HB h; clear h) | (refine own_store w rfl rfl rfl rfl rfl (by simp [Value.oneCell']) ?_ ?_; focus ((repeat (first | exact heap_on HB.out | refine heap_past _ ?_ | refine heap_far ?_ (Nat.ne_of_gt HL.out) _)); done)) | (go_at_call 41; refine (funct7_any _ _).mono ?_; rintro e wm ⟨rfl, h⟩; obtain ⟨k0, k1, k2, k3, k4, k5, k6, k7, k8, k9, k10, kf, hlt⟩ := own11 h; have HL := Lib.hid (on_size HB.out); replace HB := tr1 HB h; clear h))
  rw [Exit.noGoto_ret]
  refine own_back w rfl rfl rfl rfl ?_ ?_; (focus ((repeat (first | exact heap_on HB.out | refine heap_past _ ?_ | refine heap_far ?_ (Nat.ne_of_gt HL.out) _)); done))
  exact ⟨by unfold regOf; (simp [h3, h7, Ins.zero, Ins.val, u_nil]) <;> rfl, by ((repeat (first | apply On.rowO | refine On.setO ?_ HL.out | apply On.alloc)); first | exact On.refl w | exact on_of HB.out)⟩
set_option maxRecDepth 100000 in
set_option maxHeartbeats 4000000 in
theorem reg_false_3_1 (x : BitVec 32) (w : World) (h3 : fi x 14 12 = 3) (h7 : fi x 31 25 = 1) :
    Calls Tryd.prog 27 #[.int .u32 (q x), .bool false] w fun e w' => e = .returned (regOf x false).val ∧ On w w' := by
  have HB := hb0 w
  go_enter Tryd.func27, Tryd.ntmps27
  go_wp2
  go_step3
  go_wp2_with (first | (go_at_call 19; refine (funct3_any _ _).mono ?_; rintro e wn ⟨rfl, h⟩; replace HB := tr HB h; clear h) | (go_at_call 16; refine (rd_any _ _).mono ?_; rintro e wn ⟨rfl, h⟩; replace HB := tr HB h; clear h) | (go_at_call 17; refine (rs1_any _ _).mono ?_; rintro e wn ⟨rfl, h⟩; replace HB := tr HB h; clear h) | (go_at_call 18; refine (rs2_any _ _).mono ?_; rintro e wn ⟨rfl, h⟩; replace HB := tr HB h; clear h) | (refine own_store w rfl rfl rfl rfl rfl (by simp [Value.oneCell']) ?_ ?_; focus ((repeat (first | exact heap_on HB.out | refine heap_past _ ?_ | refine heap_far ?_ (Nat.ne_of_gt HL.out) _)); done)) | (go_at_call 41; refine (funct7_any _ _).mono ?_; rintro e wm ⟨rfl, h⟩; obtain ⟨k0, k1, k2, k3, k4, k5, k6, k7, k8, k9, k10, kf, hlt⟩ := own11 h; have HL := Lib.hid (on_size HB.out); replace HB := tr1 HB h; clear h))
  go_step3
  go_wp2_with (first | (go_at_call 19; refine (funct3_any _ _).mono ?_; rintro e wn ⟨rfl, h⟩; replace HB := tr HB h; clear h) | (go_at_call 16; refine (rd_any _ _).mono ?_; rintro e wn ⟨rfl, h⟩; replace HB := tr HB h; clear h) | (go_at_call 17; refine (rs1_any _ _).mono ?_; rintro e wn ⟨rfl, h⟩; replace HB := tr HB h; clear h) | (go_at_call 18; refine (rs2_any _ _).mono ?_; rintro e wn ⟨rfl, h⟩; replace HB := tr HB h; clear h) | (refine own_store w rfl rfl rfl rfl rfl (by simp [Value.oneCell']) ?_ ?_; focus ((repeat (first | exact heap_on HB.out | refine heap_past _ ?_ | refine heap_far ?_ (Nat.ne_of_gt HL.out) _)); done)) | (go_at_call 41; refine (funct7_any _ _).mono ?_; rintro e wm ⟨rfl, h⟩; obtain ⟨k0, k1, k2, k3, k4, k5, k6, k7, k8, k9, k10, kf, hlt⟩ := own11 h; have HL := Lib.hid (on_size HB.out); replace HB := tr1 HB h; clear h))
  rw [Exit.noGoto_ret]
  refine own_back w rfl rfl rfl rfl ?_ ?_; (focus ((repeat (first | exact heap_on HB.out | refine heap_past _ ?_ | refine heap_far ?_ (Nat.ne_of_gt HL.out) _)); done))
  exact ⟨by unfold regOf; (simp [h3, h7, Ins.zero, Ins.val, u_nil]) <;> rfl, by ((repeat (first | apply On.rowO | refine On.setO ?_ HL.out | apply On.alloc)); first | exact On.refl w | exact on_of HB.out)⟩
set_option maxRecDepth 100000 in
set_option maxHeartbeats 4000000 in
theorem reg_false_4_0 (x : BitVec 32) (w : World) (h3 : fi x 14 12 = 4) (h7 : fi x 31 25 = 0) :
    Calls Tryd.prog 27 #[.int .u32 (q x), .bool false] w fun e w' => e = .returned (regOf x false).val ∧ On w w' := by
  have HB := hb0 w
  go_enter Tryd.func27, Tryd.ntmps27
  go_wp2
  go_step3
  go_wp2_with (first | (go_at_call 19; refine (funct3_any _ _).mono ?_; rintro e wn ⟨rfl, h⟩; replace HB := tr HB h; clear h) | (go_at_call 16; refine (rd_any _ _).mono ?_; rintro e wn ⟨rfl, h⟩; replace HB := tr HB h; clear h) | (go_at_call 17; refine (rs1_any _ _).mono ?_; rintro e wn ⟨rfl, h⟩; replace HB := tr HB h; clear h) | (go_at_call 18; refine (rs2_any _ _).mono ?_; rintro e wn ⟨rfl, h⟩; replace HB := tr HB h; clear h) | (refine own_store w rfl rfl rfl rfl rfl (by simp [Value.oneCell']) ?_ ?_; focus ((repeat (first | exact heap_on HB.out | refine heap_past _ ?_ | refine heap_far ?_ (Nat.ne_of_gt HL.out) _)); done)) | (go_at_call 41; refine (funct7_any _ _).mono ?_; rintro e wm ⟨rfl, h⟩; obtain ⟨k0, k1, k2, k3, k4, k5, k6, k7, k8, k9, k10, kf, hlt⟩ := own11 h; have HL := Lib.hid (on_size HB.out); replace HB := tr1 HB h; clear h))
  go_step3
  go_wp2_with (first | (go_at_call 19; refine (funct3_any _ _).mono ?_; rintro e wn ⟨rfl, h⟩; replace HB := tr HB h; clear h) | (go_at_call 16; refine (rd_any _ _).mono ?_; rintro e wn ⟨rfl, h⟩; replace HB := tr HB h; clear h) | (go_at_call 17; refine (rs1_any _ _).mono ?_; rintro e wn ⟨rfl, h⟩; replace HB := tr HB h; clear h) | (go_at_call 18; refine (rs2_any _ _).mono ?_; rintro e wn ⟨rfl, h⟩; replace HB := tr HB h; clear h) | (refine own_store w rfl rfl rfl rfl rfl (by simp [Value.oneCell']) ?_ ?_; focus ((repeat (first | exact heap_on HB.out | refine heap_past _ ?_ | refine heap_far ?_ (Nat.ne_of_gt HL.out) _)); done)) | (go_at_call 41; refine (funct7_any _ _).mono ?_; rintro e wm ⟨rfl, h⟩; obtain ⟨k0, k1, k2, k3, k4, k5, k6, k7, k8, k9, k10, kf, hlt⟩ := own11 h; have HL := Lib.hid (on_size HB.out); replace HB := tr1 HB h; clear h))
  rw [Exit.noGoto_ret]
  refine own_back w rfl rfl rfl rfl ?_ ?_; (focus ((repeat (first | exact heap_on HB.out | refine heap_past _ ?_ | refine heap_far ?_ (Nat.ne_of_gt HL.out) _)); done))
  exact ⟨by unfold regOf; (simp [h3, h7, Ins.zero, Ins.val, u_nil]) <;> rfl, by ((repeat (first | apply On.rowO | refine On.setO ?_ HL.out | apply On.alloc)); first | exact On.refl w | exact on_of HB.out)⟩
set_option maxRecDepth 100000 in
set_option maxHeartbeats 4000000 in
theorem reg_false_4_32 (x : BitVec 32) (w : World) (h3 : fi x 14 12 = 4) (h7 : fi x 31 25 = 32) :
    Calls Tryd.prog 27 #[.int .u32 (q x), .bool false] w fun e w' => e = .returned (regOf x false).val ∧ On w w' := by
  have HB := hb0 w
  go_enter Tryd.func27, Tryd.ntmps27
  go_wp2
  go_step3
  go_wp2_with (first | (go_at_call 19; refine (funct3_any _ _).mono ?_; rintro e wn ⟨rfl, h⟩; replace HB := tr HB h; clear h) | (go_at_call 16; refine (rd_any _ _).mono ?_; rintro e wn ⟨rfl, h⟩; replace HB := tr HB h; clear h) | (go_at_call 17; refine (rs1_any _ _).mono ?_; rintro e wn ⟨rfl, h⟩; replace HB := tr HB h; clear h) | (go_at_call 18; refine (rs2_any _ _).mono ?_; rintro e wn ⟨rfl, h⟩; replace HB := tr HB h; clear h) | (refine own_store w rfl rfl rfl rfl rfl (by simp [Value.oneCell']) ?_ ?_; focus ((repeat (first | exact heap_on HB.out | refine heap_past _ ?_ | refine heap_far ?_ (Nat.ne_of_gt HL.out) _)); done)) | (go_at_call 41; refine (funct7_any _ _).mono ?_; rintro e wm ⟨rfl, h⟩; obtain ⟨k0, k1, k2, k3, k4, k5, k6, k7, k8, k9, k10, kf, hlt⟩ := own11 h; have HL := Lib.hid (on_size HB.out); replace HB := tr1 HB h; clear h))
  go_step3
  go_wp2_with (first | (go_at_call 19; refine (funct3_any _ _).mono ?_; rintro e wn ⟨rfl, h⟩; replace HB := tr HB h; clear h) | (go_at_call 16; refine (rd_any _ _).mono ?_; rintro e wn ⟨rfl, h⟩; replace HB := tr HB h; clear h) | (go_at_call 17; refine (rs1_any _ _).mono ?_; rintro e wn ⟨rfl, h⟩; replace HB := tr HB h; clear h) | (go_at_call 18; refine (rs2_any _ _).mono ?_; rintro e wn ⟨rfl, h⟩; replace HB := tr HB h; clear h) | (refine own_store w rfl rfl rfl rfl rfl (by simp [Value.oneCell']) ?_ ?_; focus ((repeat (first | exact heap_on HB.out | refine heap_past _ ?_ | refine heap_far ?_ (Nat.ne_of_gt HL.out) _)); done)) | (go_at_call 41; refine (funct7_any _ _).mono ?_; rintro e wm ⟨rfl, h⟩; obtain ⟨k0, k1, k2, k3, k4, k5, k6, k7, k8, k9, k10, kf, hlt⟩ := own11 h; have HL := Lib.hid (on_size HB.out); replace HB := tr1 HB h; clear h))
  rw [Exit.noGoto_ret]
  refine own_back w rfl rfl rfl rfl ?_ ?_; (focus ((repeat (first | exact heap_on HB.out | refine heap_past _ ?_ | refine heap_far ?_ (Nat.ne_of_gt HL.out) _)); done))
  exact ⟨by unfold regOf; (simp [h3, h7, Ins.zero, Ins.val, u_nil]) <;> rfl, by ((repeat (first | apply On.rowO | refine On.setO ?_ HL.out | apply On.alloc)); first | exact On.refl w | exact on_of HB.out)⟩
set_option maxRecDepth 100000 in
set_option maxHeartbeats 4000000 in
theorem reg_false_4_1 (x : BitVec 32) (w : World) (h3 : fi x 14 12 = 4) (h7 : fi x 31 25 = 1) :
    Calls Tryd.prog 27 #[.int .u32 (q x), .bool false] w fun e w' => e = .returned (regOf x false).val ∧ On w w' := by
  have HB := hb0 w
  go_enter Tryd.func27, Tryd.ntmps27
  go_wp2
  go_step3
  go_wp2_with (first | (go_at_call 19; refine (funct3_any _ _).mono ?_; rintro e wn ⟨rfl, h⟩; replace HB := tr HB h; clear h) | (go_at_call 16; refine (rd_any _ _).mono ?_; rintro e wn ⟨rfl, h⟩; replace HB := tr HB h; clear h) | (go_at_call 17; refine (rs1_any _ _).mono ?_; rintro e wn ⟨rfl, h⟩; replace HB := tr HB h; clear h) | (go_at_call 18; refine (rs2_any _ _).mono ?_; rintro e wn ⟨rfl, h⟩; replace HB := tr HB h; clear h) | (refine own_store w rfl rfl rfl rfl rfl (by simp [Value.oneCell']) ?_ ?_; focus ((repeat (first | exact heap_on HB.out | refine heap_past _ ?_ | refine heap_far ?_ (Nat.ne_of_gt HL.out) _)); done)) | (go_at_call 41; refine (funct7_any _ _).mono ?_; rintro e wm ⟨rfl, h⟩; obtain ⟨k0, k1, k2, k3, k4, k5, k6, k7, k8, k9, k10, kf, hlt⟩ := own11 h; have HL := Lib.hid (on_size HB.out); replace HB := tr1 HB h; clear h))
  go_step3
  go_wp2_with (first | (go_at_call 19; refine (funct3_any _ _).mono ?_; rintro e wn ⟨rfl, h⟩; replace HB := tr HB h; clear h) | (go_at_call 16; refine (rd_any _ _).mono ?_; rintro e wn ⟨rfl, h⟩; replace HB := tr HB h; clear h) | (go_at_call 17; refine (rs1_any _ _).mono ?_; rintro e wn ⟨rfl, h⟩; replace HB := tr HB h; clear h) | (go_at_call 18; refine (rs2_any _ _).mono ?_; rintro e wn ⟨rfl, h⟩; replace HB := tr HB h; clear h) | (refine own_store w rfl rfl rfl rfl rfl (by simp [Value.oneCell']) ?_ ?_; focus ((repeat (first | exact heap_on HB.out | refine heap_past _ ?_ | refine heap_far ?_ (Nat.ne_of_gt HL.out) _)); done)) | (go_at_call 41; refine (funct7_any _ _).mono ?_; rintro e wm ⟨rfl, h⟩; obtain ⟨k0, k1, k2, k3, k4, k5, k6, k7, k8, k9, k10, kf, hlt⟩ := own11 h; have HL := Lib.hid (on_size HB.out); replace HB := tr1 HB h; clear h))
  rw [Exit.noGoto_ret]
  refine own_back w rfl rfl rfl rfl ?_ ?_; (focus ((repeat (first | exact heap_on HB.out | refine heap_past _ ?_ | refine heap_far ?_ (Nat.ne_of_gt HL.out) _)); done))
  exact ⟨by unfold regOf; (simp [h3, h7, Ins.zero, Ins.val, u_nil]) <;> rfl, by ((repeat (first | apply On.rowO | refine On.setO ?_ HL.out | apply On.alloc)); first | exact On.refl w | exact on_of HB.out)⟩
set_option maxRecDepth 100000 in
set_option maxHeartbeats 4000000 in
theorem reg_false_5_0 (x : BitVec 32) (w : World) (h3 : fi x 14 12 = 5) (h7 : fi x 31 25 = 0) :
    Calls Tryd.prog 27 #[.int .u32 (q x), .bool false] w fun e w' => e = .returned (regOf x false).val ∧ On w w' := by
  have HB := hb0 w
  go_enter Tryd.func27, Tryd.ntmps27
  go_wp2
  go_step3
  go_wp2_with (first | (go_at_call 19; refine (funct3_any _ _).mono ?_; rintro e wn ⟨rfl, h⟩; replace HB := tr HB h; clear h) | (go_at_call 16; refine (rd_any _ _).mono ?_; rintro e wn ⟨rfl, h⟩; replace HB := tr HB h; clear h) | (go_at_call 17; refine (rs1_any _ _).mono ?_; rintro e wn ⟨rfl, h⟩; replace HB := tr HB h; clear h) | (go_at_call 18; refine (rs2_any _ _).mono ?_; rintro e wn ⟨rfl, h⟩; replace HB := tr HB h; clear h) | (refine own_store w rfl rfl rfl rfl rfl (by simp [Value.oneCell']) ?_ ?_; focus ((repeat (first | exact heap_on HB.out | refine heap_past _ ?_ | refine heap_far ?_ (Nat.ne_of_gt HL.out) _)); done)) | (go_at_call 41; refine (funct7_any _ _).mono ?_; rintro e wm ⟨rfl, h⟩; obtain ⟨k0, k1, k2, k3, k4, k5, k6, k7, k8, k9, k10, kf, hlt⟩ := own11 h; have HL := Lib.hid (on_size HB.out); replace HB := tr1 HB h; clear h))
  go_step3
  go_wp2_with (first | (go_at_call 19; refine (funct3_any _ _).mono ?_; rintro e wn ⟨rfl, h⟩; replace HB := tr HB h; clear h) | (go_at_call 16; refine (rd_any _ _).mono ?_; rintro e wn ⟨rfl, h⟩; replace HB := tr HB h; clear h) | (go_at_call 17; refine (rs1_any _ _).mono ?_; rintro e wn ⟨rfl, h⟩; replace HB := tr HB h; clear h) | (go_at_call 18; refine (rs2_any _ _).mono ?_; rintro e wn ⟨rfl, h⟩; replace HB := tr HB h; clear h) | (refine own_store w rfl rfl rfl rfl rfl (by simp [Value.oneCell']) ?_ ?_; focus ((repeat (first | exact heap_on HB.out | refine heap_past _ ?_ | refine heap_far ?_ (Nat.ne_of_gt HL.out) _)); done)) | (go_at_call 41; refine (funct7_any _ _).mono ?_; rintro e wm ⟨rfl, h⟩; obtain ⟨k0, k1, k2, k3, k4, k5, k6, k7, k8, k9, k10, kf, hlt⟩ := own11 h; have HL := Lib.hid (on_size HB.out); replace HB := tr1 HB h; clear h))
  rw [Exit.noGoto_ret]
  refine own_back w rfl rfl rfl rfl ?_ ?_; (focus ((repeat (first | exact heap_on HB.out | refine heap_past _ ?_ | refine heap_far ?_ (Nat.ne_of_gt HL.out) _)); done))
  exact ⟨by unfold regOf; (simp [h3, h7, Ins.zero, Ins.val, u_nil]) <;> rfl, by ((repeat (first | apply On.rowO | refine On.setO ?_ HL.out | apply On.alloc)); first | exact On.refl w | exact on_of HB.out)⟩
set_option maxRecDepth 100000 in
set_option maxHeartbeats 4000000 in
theorem reg_false_5_32 (x : BitVec 32) (w : World) (h3 : fi x 14 12 = 5) (h7 : fi x 31 25 = 32) :
    Calls Tryd.prog 27 #[.int .u32 (q x), .bool false] w fun e w' => e = .returned (regOf x false).val ∧ On w w' := by
  have HB := hb0 w
  go_enter Tryd.func27, Tryd.ntmps27
  go_wp2
  go_step3
  go_wp2_with (first | (go_at_call 19; refine (funct3_any _ _).mono ?_; rintro e wn ⟨rfl, h⟩; replace HB := tr HB h; clear h) | (go_at_call 16; refine (rd_any _ _).mono ?_; rintro e wn ⟨rfl, h⟩; replace HB := tr HB h; clear h) | (go_at_call 17; refine (rs1_any _ _).mono ?_; rintro e wn ⟨rfl, h⟩; replace HB := tr HB h; clear h) | (go_at_call 18; refine (rs2_any _ _).mono ?_; rintro e wn ⟨rfl, h⟩; replace HB := tr HB h; clear h) | (refine own_store w rfl rfl rfl rfl rfl (by simp [Value.oneCell']) ?_ ?_; focus ((repeat (first | exact heap_on HB.out | refine heap_past _ ?_ | refine heap_far ?_ (Nat.ne_of_gt HL.out) _)); done)) | (go_at_call 41; refine (funct7_any _ _).mono ?_; rintro e wm ⟨rfl, h⟩; obtain ⟨k0, k1, k2, k3, k4, k5, k6, k7, k8, k9, k10, kf, hlt⟩ := own11 h; have HL := Lib.hid (on_size HB.out); replace HB := tr1 HB h; clear h))
  go_step3
  go_wp2_with (first | (go_at_call 19; refine (funct3_any _ _).mono ?_; rintro e wn ⟨rfl, h⟩; replace HB := tr HB h; clear h) | (go_at_call 16; refine (rd_any _ _).mono ?_; rintro e wn ⟨rfl, h⟩; replace HB := tr HB h; clear h) | (go_at_call 17; refine (rs1_any _ _).mono ?_; rintro e wn ⟨rfl, h⟩; replace HB := tr HB h; clear h) | (go_at_call 18; refine (rs2_any _ _).mono ?_; rintro e wn ⟨rfl, h⟩; replace HB := tr HB h; clear h) | (refine own_store w rfl rfl rfl rfl rfl (by simp [Value.oneCell']) ?_ ?_; focus ((repeat (first | exact heap_on HB.out | refine heap_past _ ?_ | refine heap_far ?_ (Nat.ne_of_gt HL.out) _)); done)) | (go_at_call 41; refine (funct7_any _ _).mono ?_; rintro e wm ⟨rfl, h⟩; obtain ⟨k0, k1, k2, k3, k4, k5, k6, k7, k8, k9, k10, kf, hlt⟩ := own11 h; have HL := Lib.hid (on_size HB.out); replace HB := tr1 HB h; clear h))
  rw [Exit.noGoto_ret]
  refine own_back w rfl rfl rfl rfl ?_ ?_; (focus ((repeat (first | exact heap_on HB.out | refine heap_past _ ?_ | refine heap_far ?_ (Nat.ne_of_gt HL.out) _)); done))
  exact ⟨by unfold regOf; (simp [h3, h7, Ins.zero, Ins.val, u_nil]) <;> rfl, by ((repeat (first | apply On.rowO | refine On.setO ?_ HL.out | apply On.alloc)); first | exact On.refl w | exact on_of HB.out)⟩
set_option maxRecDepth 100000 in
set_option maxHeartbeats 4000000 in
theorem reg_false_5_1 (x : BitVec 32) (w : World) (h3 : fi x 14 12 = 5) (h7 : fi x 31 25 = 1) :
    Calls Tryd.prog 27 #[.int .u32 (q x), .bool false] w fun e w' => e = .returned (regOf x false).val ∧ On w w' := by
  have HB := hb0 w
  go_enter Tryd.func27, Tryd.ntmps27
  go_wp2
  go_step3
  go_wp2_with (first | (go_at_call 19; refine (funct3_any _ _).mono ?_; rintro e wn ⟨rfl, h⟩; replace HB := tr HB h; clear h) | (go_at_call 16; refine (rd_any _ _).mono ?_; rintro e wn ⟨rfl, h⟩; replace HB := tr HB h; clear h) | (go_at_call 17; refine (rs1_any _ _).mono ?_; rintro e wn ⟨rfl, h⟩; replace HB := tr HB h; clear h) | (go_at_call 18; refine (rs2_any _ _).mono ?_; rintro e wn ⟨rfl, h⟩; replace HB := tr HB h; clear h) | (refine own_store w rfl rfl rfl rfl rfl (by simp [Value.oneCell']) ?_ ?_; focus ((repeat (first | exact heap_on HB.out | refine heap_past _ ?_ | refine heap_far ?_ (Nat.ne_of_gt HL.out) _)); done)) | (go_at_call 41; refine (funct7_any _ _).mono ?_; rintro e wm ⟨rfl, h⟩; obtain ⟨k0, k1, k2, k3, k4, k5, k6, k7, k8, k9, k10, kf, hlt⟩ := own11 h; have HL := Lib.hid (on_size HB.out); replace HB := tr1 HB h; clear h))
  go_step3
  go_wp2_with (first | (go_at_call 19; refine (funct3_any _ _).mono ?_; rintro e wn ⟨rfl, h⟩; replace HB := tr HB h; clear h) | (go_at_call 16; refine (rd_any _ _).mono ?_; rintro e wn ⟨rfl, h⟩; replace HB := tr HB h; clear h) | (go_at_call 17; refine (rs1_any _ _).mono ?_; rintro e wn ⟨rfl, h⟩; replace HB := tr HB h; clear h) | (go_at_call 18; refine (rs2_any _ _).mono ?_; rintro e wn ⟨rfl, h⟩; replace HB := tr HB h; clear h) | (refine own_store w rfl rfl rfl rfl rfl (by simp [Value.oneCell']) ?_ ?_; focus ((repeat (first | exact heap_on HB.out | refine heap_past _ ?_ | refine heap_far ?_ (Nat.ne_of_gt HL.out) _)); done)) | (go_at_call 41; refine (funct7_any _ _).mono ?_; rintro e wm ⟨rfl, h⟩; obtain ⟨k0, k1, k2, k3, k4, k5, k6, k7, k8, k9, k10, kf, hlt⟩ := own11 h; have HL := Lib.hid (on_size HB.out); replace HB := tr1 HB h; clear h))
  rw [Exit.noGoto_ret]
  refine own_back w rfl rfl rfl rfl ?_ ?_; (focus ((repeat (first | exact heap_on HB.out | refine heap_past _ ?_ | refine heap_far ?_ (Nat.ne_of_gt HL.out) _)); done))
  exact ⟨by unfold regOf; (simp [h3, h7, Ins.zero, Ins.val, u_nil]) <;> rfl, by ((repeat (first | apply On.rowO | refine On.setO ?_ HL.out | apply On.alloc)); first | exact On.refl w | exact on_of HB.out)⟩
set_option maxRecDepth 100000 in
set_option maxHeartbeats 4000000 in
theorem reg_false_6_0 (x : BitVec 32) (w : World) (h3 : fi x 14 12 = 6) (h7 : fi x 31 25 = 0) :
    Calls Tryd.prog 27 #[.int .u32 (q x), .bool false] w fun e w' => e = .returned (regOf x false).val ∧ On w w' := by
  have HB := hb0 w
  go_enter Tryd.func27, Tryd.ntmps27
  go_wp2
  go_step3
  go_wp2_with (first | (go_at_call 19; refine (funct3_any _ _).mono ?_; rintro e wn ⟨rfl, h⟩; replace HB := tr HB h; clear h) | (go_at_call 16; refine (rd_any _ _).mono ?_; rintro e wn ⟨rfl, h⟩; replace HB := tr HB h; clear h) | (go_at_call 17; refine (rs1_any _ _).mono ?_; rintro e wn ⟨rfl, h⟩; replace HB := tr HB h; clear h) | (go_at_call 18; refine (rs2_any _ _).mono ?_; rintro e wn ⟨rfl, h⟩; replace HB := tr HB h; clear h) | (refine own_store w rfl rfl rfl rfl rfl (by simp [Value.oneCell']) ?_ ?_; focus ((repeat (first | exact heap_on HB.out | refine heap_past _ ?_ | refine heap_far ?_ (Nat.ne_of_gt HL.out) _)); done)) | (go_at_call 41; refine (funct7_any _ _).mono ?_; rintro e wm ⟨rfl, h⟩; obtain ⟨k0, k1, k2, k3, k4, k5, k6, k7, k8, k9, k10, kf, hlt⟩ := own11 h; have HL := Lib.hid (on_size HB.out); replace HB := tr1 HB h; clear h))
  go_step3
  go_wp2_with (first | (go_at_call 19; refine (funct3_any _ _).mono ?_; rintro e wn ⟨rfl, h⟩; replace HB := tr HB h; clear h) | (go_at_call 16; refine (rd_any _ _).mono ?_; rintro e wn ⟨rfl, h⟩; replace HB := tr HB h; clear h) | (go_at_call 17; refine (rs1_any _ _).mono ?_; rintro e wn ⟨rfl, h⟩; replace HB := tr HB h; clear h) | (go_at_call 18; refine (rs2_any _ _).mono ?_; rintro e wn ⟨rfl, h⟩; replace HB := tr HB h; clear h) | (refine own_store w rfl rfl rfl rfl rfl (by simp [Value.oneCell']) ?_ ?_; focus ((repeat (first | exact heap_on HB.out | refine heap_past _ ?_ | refine heap_far ?_ (Nat.ne_of_gt HL.out) _)); done)) | (go_at_call 41; refine (funct7_any _ _).mono ?_; rintro e wm ⟨rfl, h⟩; obtain ⟨k0, k1, k2, k3, k4, k5, k6, k7, k8, k9, k10, kf, hlt⟩ := own11 h; have HL := Lib.hid (on_size HB.out); replace HB := tr1 HB h; clear h))
  rw [Exit.noGoto_ret]
  refine own_back w rfl rfl rfl rfl ?_ ?_; (focus ((repeat (first | exact heap_on HB.out | refine heap_past _ ?_ | refine heap_far ?_ (Nat.ne_of_gt HL.out) _)); done))
  exact ⟨by unfold regOf; (simp [h3, h7, Ins.zero, Ins.val, u_nil]) <;> rfl, by ((repeat (first | apply On.rowO | refine On.setO ?_ HL.out | apply On.alloc)); first | exact On.refl w | exact on_of HB.out)⟩
set_option maxRecDepth 100000 in
set_option maxHeartbeats 4000000 in
theorem reg_false_6_32 (x : BitVec 32) (w : World) (h3 : fi x 14 12 = 6) (h7 : fi x 31 25 = 32) :
    Calls Tryd.prog 27 #[.int .u32 (q x), .bool false] w fun e w' => e = .returned (regOf x false).val ∧ On w w' := by
  have HB := hb0 w
  go_enter Tryd.func27, Tryd.ntmps27
  go_wp2
  go_step3
  go_wp2_with (first | (go_at_call 19; refine (funct3_any _ _).mono ?_; rintro e wn ⟨rfl, h⟩; replace HB := tr HB h; clear h) | (go_at_call 16; refine (rd_any _ _).mono ?_; rintro e wn ⟨rfl, h⟩; replace HB := tr HB h; clear h) | (go_at_call 17; refine (rs1_any _ _).mono ?_; rintro e wn ⟨rfl, h⟩; replace HB := tr HB h; clear h) | (go_at_call 18; refine (rs2_any _ _).mono ?_; rintro e wn ⟨rfl, h⟩; replace HB := tr HB h; clear h) | (refine own_store w rfl rfl rfl rfl rfl (by simp [Value.oneCell']) ?_ ?_; focus ((repeat (first | exact heap_on HB.out | refine heap_past _ ?_ | refine heap_far ?_ (Nat.ne_of_gt HL.out) _)); done)) | (go_at_call 41; refine (funct7_any _ _).mono ?_; rintro e wm ⟨rfl, h⟩; obtain ⟨k0, k1, k2, k3, k4, k5, k6, k7, k8, k9, k10, kf, hlt⟩ := own11 h; have HL := Lib.hid (on_size HB.out); replace HB := tr1 HB h; clear h))
  go_step3
  go_wp2_with (first | (go_at_call 19; refine (funct3_any _ _).mono ?_; rintro e wn ⟨rfl, h⟩; replace HB := tr HB h; clear h) | (go_at_call 16; refine (rd_any _ _).mono ?_; rintro e wn ⟨rfl, h⟩; replace HB := tr HB h; clear h) | (go_at_call 17; refine (rs1_any _ _).mono ?_; rintro e wn ⟨rfl, h⟩; replace HB := tr HB h; clear h) | (go_at_call 18; refine (rs2_any _ _).mono ?_; rintro e wn ⟨rfl, h⟩; replace HB := tr HB h; clear h) | (refine own_store w rfl rfl rfl rfl rfl (by simp [Value.oneCell']) ?_ ?_; focus ((repeat (first | exact heap_on HB.out | refine heap_past _ ?_ | refine heap_far ?_ (Nat.ne_of_gt HL.out) _)); done)) | (go_at_call 41; refine (funct7_any _ _).mono ?_; rintro e wm ⟨rfl, h⟩; obtain ⟨k0, k1, k2, k3, k4, k5, k6, k7, k8, k9, k10, kf, hlt⟩ := own11 h; have HL := Lib.hid (on_size HB.out); replace HB := tr1 HB h; clear h))
  rw [Exit.noGoto_ret]
  refine own_back w rfl rfl rfl rfl ?_ ?_; (focus ((repeat (first | exact heap_on HB.out | refine heap_past _ ?_ | refine heap_far ?_ (Nat.ne_of_gt HL.out) _)); done))
  exact ⟨by unfold regOf; (simp [h3, h7, Ins.zero, Ins.val, u_nil]) <;> rfl, by ((repeat (first | apply On.rowO | refine On.setO ?_ HL.out | apply On.alloc)); first | exact On.refl w | exact on_of HB.out)⟩
set_option maxRecDepth 100000 in
set_option maxHeartbeats 4000000 in
theorem reg_false_6_1 (x : BitVec 32) (w : World) (h3 : fi x 14 12 = 6) (h7 : fi x 31 25 = 1) :
    Calls Tryd.prog 27 #[.int .u32 (q x), .bool false] w fun e w' => e = .returned (regOf x false).val ∧ On w w' := by
  have HB := hb0 w
  go_enter Tryd.func27, Tryd.ntmps27
  go_wp2
  go_step3
  go_wp2_with (first | (go_at_call 19; refine (funct3_any _ _).mono ?_; rintro e wn ⟨rfl, h⟩; replace HB := tr HB h; clear h) | (go_at_call 16; refine (rd_any _ _).mono ?_; rintro e wn ⟨rfl, h⟩; replace HB := tr HB h; clear h) | (go_at_call 17; refine (rs1_any _ _).mono ?_; rintro e wn ⟨rfl, h⟩; replace HB := tr HB h; clear h) | (go_at_call 18; refine (rs2_any _ _).mono ?_; rintro e wn ⟨rfl, h⟩; replace HB := tr HB h; clear h) | (refine own_store w rfl rfl rfl rfl rfl (by simp [Value.oneCell']) ?_ ?_; focus ((repeat (first | exact heap_on HB.out | refine heap_past _ ?_ | refine heap_far ?_ (Nat.ne_of_gt HL.out) _)); done)) | (go_at_call 41; refine (funct7_any _ _).mono ?_; rintro e wm ⟨rfl, h⟩; obtain ⟨k0, k1, k2, k3, k4, k5, k6, k7, k8, k9, k10, kf, hlt⟩ := own11 h; have HL := Lib.hid (on_size HB.out); replace HB := tr1 HB h; clear h))
  go_step3
  go_wp2_with (first | (go_at_call 19; refine (funct3_any _ _).mono ?_; rintro e wn ⟨rfl, h⟩; replace HB := tr HB h; clear h) | (go_at_call 16; refine (rd_any _ _).mono ?_; rintro e wn ⟨rfl, h⟩; replace HB := tr HB h; clear h) | (go_at_call 17; refine (rs1_any _ _).mono ?_; rintro e wn ⟨rfl, h⟩; replace HB := tr HB h; clear h) | (go_at_call 18; refine (rs2_any _ _).mono ?_; rintro e wn ⟨rfl, h⟩; replace HB := tr HB h; clear h) | (refine own_store w rfl rfl rfl rfl rfl (by simp [Value.oneCell']) ?_ ?_; focus ((repeat (first | exact heap_on HB.out | refine heap_past _ ?_ | refine heap_far ?_ (Nat.ne_of_gt HL.out) _)); done)) | (go_at_call 41; refine (funct7_any _ _).mono ?_; rintro e wm ⟨rfl, h⟩; obtain ⟨k0, k1, k2, k3, k4, k5, k6, k7, k8, k9, k10, kf, hlt⟩ := own11 h; have HL := Lib.hid (on_size HB.out); replace HB := tr1 HB h; clear h))
  rw [Exit.noGoto_ret]
  refine own_back w rfl rfl rfl rfl ?_ ?_; (focus ((repeat (first | exact heap_on HB.out | refine heap_past _ ?_ | refine heap_far ?_ (Nat.ne_of_gt HL.out) _)); done))
  exact ⟨by unfold regOf; (simp [h3, h7, Ins.zero, Ins.val, u_nil]) <;> rfl, by ((repeat (first | apply On.rowO | refine On.setO ?_ HL.out | apply On.alloc)); first | exact On.refl w | exact on_of HB.out)⟩
set_option maxRecDepth 100000 in
set_option maxHeartbeats 4000000 in
theorem reg_false_7_0 (x : BitVec 32) (w : World) (h3 : fi x 14 12 = 7) (h7 : fi x 31 25 = 0) :
    Calls Tryd.prog 27 #[.int .u32 (q x), .bool false] w fun e w' => e = .returned (regOf x false).val ∧ On w w' := by
  have HB := hb0 w
  go_enter Tryd.func27, Tryd.ntmps27
  go_wp2
  go_step3
  go_wp2_with (first | (go_at_call 19; refine (funct3_any _ _).mono ?_; rintro e wn ⟨rfl, h⟩; replace HB := tr HB h; clear h) | (go_at_call 16; refine (rd_any _ _).mono ?_; rintro e wn ⟨rfl, h⟩; replace HB := tr HB h; clear h) | (go_at_call 17; refine (rs1_any _ _).mono ?_; rintro e wn ⟨rfl, h⟩; replace HB := tr HB h; clear h) | (go_at_call 18; refine (rs2_any _ _).mono ?_; rintro e wn ⟨rfl, h⟩; replace HB := tr HB h; clear h) | (refine own_store w rfl rfl rfl rfl rfl (by simp [Value.oneCell']) ?_ ?_; focus ((repeat (first | exact heap_on HB.out | refine heap_past _ ?_ | refine heap_far ?_ (Nat.ne_of_gt HL.out) _)); done)) | (go_at_call 41; refine (funct7_any _ _).mono ?_; rintro e wm ⟨rfl, h⟩; obtain ⟨k0, k1, k2, k3, k4, k5, k6, k7, k8, k9, k10, kf, hlt⟩ := own11 h; have HL := Lib.hid (on_size HB.out); replace HB := tr1 HB h; clear h))
  go_step3
  go_wp2_with (first | (go_at_call 19; refine (funct3_any _ _).mono ?_; rintro e wn ⟨rfl, h⟩; replace HB := tr HB h; clear h) | (go_at_call 16; refine (rd_any _ _).mono ?_; rintro e wn ⟨rfl, h⟩; replace HB := tr HB h; clear h) | (go_at_call 17; refine (rs1_any _ _).mono ?_; rintro e wn ⟨rfl, h⟩; replace HB := tr HB h; clear h) | (go_at_call 18; refine (rs2_any _ _).mono ?_; rintro e wn ⟨rfl, h⟩; replace HB := tr HB h; clear h) | (refine own_store w rfl rfl rfl rfl rfl (by simp [Value.oneCell']) ?_ ?_; focus ((repeat (first | exact heap_on HB.out | refine heap_past _ ?_ | refine heap_far ?_ (Nat.ne_of_gt HL.out) _)); done)) | (go_at_call 41; refine (funct7_any _ _).mono ?_; rintro e wm ⟨rfl, h⟩; obtain ⟨k0, k1, k2, k3, k4, k5, k6, k7, k8, k9, k10, kf, hlt⟩ := own11 h; have HL := Lib.hid (on_size HB.out); replace HB := tr1 HB h; clear h))
  rw [Exit.noGoto_ret]
  refine own_back w rfl rfl rfl rfl ?_ ?_; (focus ((repeat (first | exact heap_on HB.out | refine heap_past _ ?_ | refine heap_far ?_ (Nat.ne_of_gt HL.out) _)); done))
  exact ⟨by unfold regOf; (simp [h3, h7, Ins.zero, Ins.val, u_nil]) <;> rfl, by ((repeat (first | apply On.rowO | refine On.setO ?_ HL.out | apply On.alloc)); first | exact On.refl w | exact on_of HB.out)⟩
set_option maxRecDepth 100000 in
set_option maxHeartbeats 4000000 in
theorem reg_false_7_32 (x : BitVec 32) (w : World) (h3 : fi x 14 12 = 7) (h7 : fi x 31 25 = 32) :
    Calls Tryd.prog 27 #[.int .u32 (q x), .bool false] w fun e w' => e = .returned (regOf x false).val ∧ On w w' := by
  have HB := hb0 w
  go_enter Tryd.func27, Tryd.ntmps27
  go_wp2
  go_step3
  go_wp2_with (first | (go_at_call 19; refine (funct3_any _ _).mono ?_; rintro e wn ⟨rfl, h⟩; replace HB := tr HB h; clear h) | (go_at_call 16; refine (rd_any _ _).mono ?_; rintro e wn ⟨rfl, h⟩; replace HB := tr HB h; clear h) | (go_at_call 17; refine (rs1_any _ _).mono ?_; rintro e wn ⟨rfl, h⟩; replace HB := tr HB h; clear h) | (go_at_call 18; refine (rs2_any _ _).mono ?_; rintro e wn ⟨rfl, h⟩; replace HB := tr HB h; clear h) | (refine own_store w rfl rfl rfl rfl rfl (by simp [Value.oneCell']) ?_ ?_; focus ((repeat (first | exact heap_on HB.out | refine heap_past _ ?_ | refine heap_far ?_ (Nat.ne_of_gt HL.out) _)); done)) | (go_at_call 41; refine (funct7_any _ _).mono ?_; rintro e wm ⟨rfl, h⟩; obtain ⟨k0, k1, k2, k3, k4, k5, k6, k7, k8, k9, k10, kf, hlt⟩ := own11 h; have HL := Lib.hid (on_size HB.out); replace HB := tr1 HB h; clear h))
  go_step3
  go_wp2_with (first | (go_at_call 19; refine (funct3_any _ _).mono ?_; rintro e wn ⟨rfl, h⟩; replace HB := tr HB h; clear h) | (go_at_call 16; refine (rd_any _ _).mono ?_; rintro e wn ⟨rfl, h⟩; replace HB := tr HB h; clear h) | (go_at_call 17; refine (rs1_any _ _).mono ?_; rintro e wn ⟨rfl, h⟩; replace HB := tr HB h; clear h) | (go_at_call 18; refine (rs2_any _ _).mono ?_; rintro e wn ⟨rfl, h⟩; replace HB := tr HB h; clear h) | (refine own_store w rfl rfl rfl rfl rfl (by simp [Value.oneCell']) ?_ ?_; focus ((repeat (first | exact heap_on HB.out | refine heap_past _ ?_ | refine heap_far ?_ (Nat.ne_of_gt HL.out) _)); done)) | (go_at_call 41; refine (funct7_any _ _).mono ?_; rintro e wm ⟨rfl, h⟩; obtain ⟨k0, k1, k2, k3, k4, k5, k6, k7, k8, k9, k10, kf, hlt⟩ := own11 h; have HL := Lib.hid (on_size HB.out); replace HB := tr1 HB h; clear h))
  rw [Exit.noGoto_ret]
  refine own_back w rfl rfl rfl rfl ?_ ?_; (focus ((repeat (first | exact heap_on HB.out | refine heap_past _ ?_ | refine heap_far ?_ (Nat.ne_of_gt HL.out) _)); done))
  exact ⟨by unfold regOf; (simp [h3, h7, Ins.zero, Ins.val, u_nil]) <;> rfl, by ((repeat (first | apply On.rowO | refine On.setO ?_ HL.out | apply On.alloc)); first | exact On.refl w | exact on_of HB.out)⟩
set_option maxRecDepth 100000 in
set_option maxHeartbeats 4000000 in
theorem reg_false_7_1 (x : BitVec 32) (w : World) (h3 : fi x 14 12 = 7) (h7 : fi x 31 25 = 1) :
    Calls Tryd.prog 27 #[.int .u32 (q x), .bool false] w fun e w' => e = .returned (regOf x false).val ∧ On w w' := by
  have HB := hb0 w
  go_enter Tryd.func27, Tryd.ntmps27
  go_wp2
  go_step3
  go_wp2_with (first | (go_at_call 19; refine (funct3_any _ _).mono ?_; rintro e wn ⟨rfl, h⟩; replace HB := tr HB h; clear h) | (go_at_call 16; refine (rd_any _ _).mono ?_; rintro e wn ⟨rfl, h⟩; replace HB := tr HB h; clear h) | (go_at_call 17; refine (rs1_any _ _).mono ?_; rintro e wn ⟨rfl, h⟩; replace HB := tr HB h; clear h) | (go_at_call 18; refine (rs2_any _ _).mono ?_; rintro e wn ⟨rfl, h⟩; replace HB := tr HB h; clear h) | (refine own_store w rfl rfl rfl rfl rfl (by simp [Value.oneCell']) ?_ ?_; focus ((repeat (first | exact heap_on HB.out | refine heap_past _ ?_ | refine heap_far ?_ (Nat.ne_of_gt HL.out) _)); done)) | (go_at_call 41; refine (funct7_any _ _).mono ?_; rintro e wm ⟨rfl, h⟩; obtain ⟨k0, k1, k2, k3, k4, k5, k6, k7, k8, k9, k10, kf, hlt⟩ := own11 h; have HL := Lib.hid (on_size HB.out); replace HB := tr1 HB h; clear h))
  go_step3
  go_wp2_with (first | (go_at_call 19; refine (funct3_any _ _).mono ?_; rintro e wn ⟨rfl, h⟩; replace HB := tr HB h; clear h) | (go_at_call 16; refine (rd_any _ _).mono ?_; rintro e wn ⟨rfl, h⟩; replace HB := tr HB h; clear h) | (go_at_call 17; refine (rs1_any _ _).mono ?_; rintro e wn ⟨rfl, h⟩; replace HB := tr HB h; clear h) | (go_at_call 18; refine (rs2_any _ _).mono ?_; rintro e wn ⟨rfl, h⟩; replace HB := tr HB h; clear h) | (refine own_store w rfl rfl rfl rfl rfl (by simp [Value.oneCell']) ?_ ?_; focus ((repeat (first | exact heap_on HB.out | refine heap_past _ ?_ | refine heap_far ?_ (Nat.ne_of_gt HL.out) _)); done)) | (go_at_call 41; refine (funct7_any _ _).mono ?_; rintro e wm ⟨rfl, h⟩; obtain ⟨k0, k1, k2, k3, k4, k5, k6, k7, k8, k9, k10, kf, hlt⟩ := own11 h; have HL := Lib.hid (on_size HB.out); replace HB := tr1 HB h; clear h))
  rw [Exit.noGoto_ret]
  refine own_back w rfl rfl rfl rfl ?_ ?_; (focus ((repeat (first | exact heap_on HB.out | refine heap_past _ ?_ | refine heap_far ?_ (Nat.ne_of_gt HL.out) _)); done))
  exact ⟨by unfold regOf; (simp [h3, h7, Ins.zero, Ins.val, u_nil]) <;> rfl, by ((repeat (first | apply On.rowO | refine On.setO ?_ HL.out | apply On.alloc)); first | exact On.refl w | exact on_of HB.out)⟩
set_option maxRecDepth 100000 in
set_option maxHeartbeats 4000000 in
theorem reg_false_n (x : BitVec 32) (w : World) (H7 : Hid (¬ fi x 31 25 = 0 ∧ ¬ fi x 31 25 = 32 ∧ ¬ fi x 31 25 = 1)) :
    Calls Tryd.prog 27 #[.int .u32 (q x), .bool false] w fun e w' => e = .returned (regOf x false).val ∧ On w w' := by
  have b0 : (fi x 31 25 == 0) = false := by simpa using H7.out.1
  have b1 : (fi x 31 25 == 32) = false := by simpa using H7.out.2.1
  have b2 : (fi x 31 25 == 1) = false := by simpa using H7.out.2.2
  have HB := hb0 w
  go_enter Tryd.func27, Tryd.ntmps27
  go_wp2
  go_step3
  go_wp2_with (first | (go_at_call 19; refine (funct3_any _ _).mono ?_; rintro e wn ⟨rfl, h⟩; replace HB := tr HB h; clear h) | (go_at_call 16; refine (rd_any _ _).mono ?_; rintro e wn ⟨rfl, h⟩; replace HB := tr HB h; clear h) | (go_at_call 17; refine (rs1_any _ _).mono ?_; rintro e wn ⟨rfl, h⟩; replace HB := tr HB h; clear h) | (go_at_call 18; refine (rs2_any _ _).mono ?_; rintro e wn ⟨rfl, h⟩; replace HB := tr HB h; clear h) | (refine own_store w rfl rfl rfl rfl rfl (by simp [Value.oneCell']) ?_ ?_; focus ((repeat (first | exact heap_on HB.out | refine heap_past _ ?_ | refine heap_far ?_ (Nat.ne_of_gt HL.out) _)); done)) | (go_at_call 41; refine (funct7_any _ _).mono ?_; rintro e wm ⟨rfl, h⟩; obtain ⟨k0, k1, k2, k3, k4, k5, k6, k7, k8, k9, k10, kf, hlt⟩ := own11 h; have HL := Lib.hid (on_size HB.out); replace HB := tr1 HB h; clear h))
  go_step3
  go_wp2_with (first | (go_at_call 19; refine (funct3_any _ _).mono ?_; rintro e wn ⟨rfl, h⟩; replace HB := tr HB h; clear h) | (go_at_call 16; refine (rd_any _ _).mono ?_; rintro e wn ⟨rfl, h⟩; replace HB := tr HB h; clear h) | (go_at_call 17; refine (rs1_any _ _).mono ?_; rintro e wn ⟨rfl, h⟩; replace HB := tr HB h; clear h) | (go_at_call 18; refine (rs2_any _ _).mono ?_; rintro e wn ⟨rfl, h⟩; replace HB := tr HB h; clear h) | (refine own_store w rfl rfl rfl rfl rfl (by simp [Value.oneCell']) ?_ ?_; focus ((repeat (first | exact heap_on HB.out | refine heap_past _ ?_ | refine heap_far ?_ (Nat.ne_of_gt HL.out) _)); done)) | (go_at_call 41; refine (funct7_any _ _).mono ?_; rintro e wm ⟨rfl, h⟩; obtain ⟨k0, k1, k2, k3, k4, k5, k6, k7, k8, k9, k10, kf, hlt⟩ := own11 h; have HL := Lib.hid (on_size HB.out); replace HB := tr1 HB h; clear h))
  rw [Exit.noGoto_ret]
  refine own_back w rfl rfl rfl rfl ?_ ?_; (focus ((repeat (first | exact heap_on HB.out | refine heap_past _ ?_ | refine heap_far ?_ (Nat.ne_of_gt HL.out) _)); done))
  exact ⟨by unfold regOf; (simp [H7.out, Ins.zero, Ins.val, u_nil]) <;> rfl, by ((repeat (first | apply On.rowO | refine On.setO ?_ HL.out | apply On.alloc)); first | exact On.refl w | exact on_of HB.out)⟩
theorem reg_false_any (x : BitVec 32) (w : World) :
    Calls Tryd.prog 27 #[.int .u32 (q x), .bool false] w fun e w' => e = .returned (regOf x false).val ∧ On w w' := by
  by_cases a0 : fi x 31 25 = 0
  · rcases f3_cases x with h3 | h3 | h3 | h3 | h3 | h3 | h3 | h3
    · exact reg_false_0_0 x w h3 a0
    · exact reg_false_1_0 x w h3 a0
    · exact reg_false_2_0 x w h3 a0
    · exact reg_false_3_0 x w h3 a0
    · exact reg_false_4_0 x w h3 a0
    · exact reg_false_5_0 x w h3 a0
    · exact reg_false_6_0 x w h3 a0
    · exact reg_false_7_0 x w h3 a0
  by_cases a1 : fi x 31 25 = 32
  · rcases f3_cases x with h3 | h3 | h3 | h3 | h3 | h3 | h3 | h3
    · exact reg_false_0_32 x w h3 a1
    · exact reg_false_1_32 x w h3 a1
    · exact reg_false_2_32 x w h3 a1
    · exact reg_false_3_32 x w h3 a1
    · exact reg_false_4_32 x w h3 a1
    · exact reg_false_5_32 x w h3 a1
    · exact reg_false_6_32 x w h3 a1
    · exact reg_false_7_32 x w h3 a1
  by_cases a2 : fi x 31 25 = 1
  · rcases f3_cases x with h3 | h3 | h3 | h3 | h3 | h3 | h3 | h3
    · exact reg_false_0_1 x w h3 a2
    · exact reg_false_1_1 x w h3 a2
    · exact reg_false_2_1 x w h3 a2
    · exact reg_false_3_1 x w h3 a2
    · exact reg_false_4_1 x w h3 a2
    · exact reg_false_5_1 x w h3 a2
    · exact reg_false_6_1 x w h3 a2
    · exact reg_false_7_1 x w h3 a2
  exact reg_false_n x w (Lib.hid ⟨a0, a1, a2⟩)
end Go.Proofs.YtjnalgilkdoalaaDoor
