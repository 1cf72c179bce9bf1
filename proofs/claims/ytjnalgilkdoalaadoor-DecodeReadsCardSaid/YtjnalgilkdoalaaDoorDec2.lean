/- What the rows of opcodes 13 and 1b come to. Conditions: named at each. -/
import Derived.Test.YtjnalgilkdoalaaDoorDec0
import Derived.WalkMore
namespace Go.Proofs.YtjnalgilkdoalaaDoor
open Go.RowKit
set_option linter.unusedSimpArgs false

set_option maxRecDepth 100000 in
set_option maxHeartbeats 4000000 in
theorem kind_any (x : BitVec 32) (word : Bool) (w : World) :
    Calls Tryd.prog 40 #[.int .u32 (q x), .bool word] w fun e w' => e = .returned (.int .i64 (kindOf x word)) ∧ On w w' := by
  have e0 : bits .andNot .i64 (fi x 31 25) 1 = fi x 31 25 / 2 * 2 := kind_even x
  cases word
  · go_enter Tryd.func40, Tryd.ntmps40
    go_wp2_with (go_at_call 41; refine (funct7_any _ _).mono ?_; rintro e wn ⟨rfl, hb⟩; have HB := Lib.hid hb; clear hb)
    go_ret
    exact ⟨rfl, HB.out⟩
  · go_enter Tryd.func40, Tryd.ntmps40
    go_wp2_with (go_at_call 41; refine (funct7_any _ _).mono ?_; rintro e wn ⟨rfl, hb⟩; have HB := Lib.hid hb; clear hb)
    go_ret
    exact ⟨rfl, HB.out⟩
set_option maxRecDepth 100000 in
set_option maxHeartbeats 4000000 in
theorem num_false_0 (x : BitVec 32) (w : World) (h3 : fi x 14 12 = 0) :
    Calls Tryd.prog 26 #[.int .u32 (q x), .bool false] w fun e w' => e = .returned (numOf x false).val ∧ On w w' := by
  have HB := hb0 w
  go_enter Tryd.func26, Tryd.ntmps26
  go_wp2
  go_step3
  go_wp2_with (first | (go_at_call 19; refine (funct3_any _ _).mono ?_; rintro e wn ⟨rfl, h⟩; replace HB := tr HB h; clear h) | (go_at_call 16; refine (rd_any _ _).mono ?_; rintro e wn ⟨rfl, h⟩; replace HB := tr HB h; clear h) | (go_at_call 17; refine (rs1_any _ _).mono ?_; rintro e wn ⟨rfl, h⟩; replace HB := tr HB h; clear h) | (go_at_call 23; refine (immI_any _ _).mono ?_; rintro e wn ⟨rfl, h⟩; replace HB := tr HB h; clear h) | (refine own_store w rfl rfl rfl rfl rfl (by simp [Value.oneCell']) ?_ ?_; focus ((repeat (first | exact heap_on HB.out | refine heap_past _ ?_ | refine heap_far ?_ (Nat.ne_of_gt HL.out) _)); done)))
  go_step3
  go_wp2_with (first | (go_at_call 19; refine (funct3_any _ _).mono ?_; rintro e wn ⟨rfl, h⟩; replace HB := tr HB h; clear h) | (go_at_call 16; refine (rd_any _ _).mono ?_; rintro e wn ⟨rfl, h⟩; replace HB := tr HB h; clear h) | (go_at_call 17; refine (rs1_any _ _).mono ?_; rintro e wn ⟨rfl, h⟩; replace HB := tr HB h; clear h) | (go_at_call 23; refine (immI_any _ _).mono ?_; rintro e wn ⟨rfl, h⟩; replace HB := tr HB h; clear h) | (refine own_store w rfl rfl rfl rfl rfl (by simp [Value.oneCell']) ?_ ?_; focus ((repeat (first | exact heap_on HB.out | refine heap_past _ ?_ | refine heap_far ?_ (Nat.ne_of_gt HL.out) _)); done)))
  rw [Exit.noGoto_ret]
  refine own_back w rfl rfl rfl rfl ?_ ?_; (focus ((repeat (first | exact heap_on HB.out | refine heap_past _ ?_ | refine heap_far ?_ (Nat.ne_of_gt HL.out) _)); done))
  exact ⟨by unfold numOf; (simp [h3, Ins.zero, Ins.val, u_nil]) <;> rfl, by ((repeat (first | apply On.rowO | refine On.setO ?_ HL.out | apply On.alloc)); first | exact On.refl w | exact on_of HB.out)⟩
set_option maxRecDepth 100000 in
set_option maxHeartbeats 4000000 in
theorem num_false_2 (x : BitVec 32) (w : World) (h3 : fi x 14 12 = 2) :
    Calls Tryd.prog 26 #[.int .u32 (q x), .bool false] w fun e w' => e = .returned (numOf x false).val ∧ On w w' := by
  have HB := hb0 w
  go_enter Tryd.func26, Tryd.ntmps26
  go_wp2
  go_step3
  go_wp2_with (first | (go_at_call 19; refine (funct3_any _ _).mono ?_; rintro e wn ⟨rfl, h⟩; replace HB := tr HB h; clear h) | (go_at_call 16; refine (rd_any _ _).mono ?_; rintro e wn ⟨rfl, h⟩; replace HB := tr HB h; clear h) | (go_at_call 17; refine (rs1_any _ _).mono ?_; rintro e wn ⟨rfl, h⟩; replace HB := tr HB h; clear h) | (go_at_call 23; refine (immI_any _ _).mono ?_; rintro e wn ⟨rfl, h⟩; replace HB := tr HB h; clear h) | (refine own_store w rfl rfl rfl rfl rfl (by simp [Value.oneCell']) ?_ ?_; focus ((repeat (first | exact heap_on HB.out | refine heap_past _ ?_ | refine heap_far ?_ (Nat.ne_of_gt HL.out) _)); done)))
  go_step3
  go_wp2_with (first | (go_at_call 19; refine (funct3_any _ _).mono ?_; rintro e wn ⟨rfl, h⟩; replace HB := tr HB h; clear h) | (go_at_call 16; refine (rd_any _ _).mono ?_; rintro e wn ⟨rfl, h⟩; replace HB := tr HB h; clear h) | (go_at_call 17; refine (rs1_any _ _).mono ?_; rintro e wn ⟨rfl, h⟩; replace HB := tr HB h; clear h) | (go_at_call 23; refine (immI_any _ _).mono ?_; rintro e wn ⟨rfl, h⟩; replace HB := tr HB h; clear h) | (refine own_store w rfl rfl rfl rfl rfl (by simp [Value.oneCell']) ?_ ?_; focus ((repeat (first | exact heap_on HB.out | refine heap_past _ ?_ | refine heap_far ?_ (Nat.ne_of_gt HL.out) _)); done)))
  rw [Exit.noGoto_ret]
  refine own_back w rfl rfl rfl rfl ?_ ?_; (focus ((repeat (first | exact heap_on HB.out | refine heap_past _ ?_ | refine heap_far ?_ (Nat.ne_of_gt HL.out) _)); done))
  exact ⟨by unfold numOf; (simp [h3, Ins.zero, Ins.val, u_nil]) <;> rfl, by ((repeat (first | apply On.rowO | refine On.setO ?_ HL.out | apply On.alloc)); first | exact On.refl w | exact on_of HB.out)⟩
set_option maxRecDepth 100000 in
set_option maxHeartbeats 4000000 in
theorem num_false_3 (x : BitVec 32) (w : World) (h3 : fi x 14 12 = 3) :
    Calls Tryd.prog 26 #[.int .u32 (q x), .bool false] w fun e w' => e = .returned (numOf x false).val ∧ On w w' := by
  have HB := hb0 w
  go_enter Tryd.func26, Tryd.ntmps26
  go_wp2
  go_step3
  go_wp2_with (first | (go_at_call 19; refine (funct3_any _ _).mono ?_; rintro e wn ⟨rfl, h⟩; replace HB := tr HB h; clear h) | (go_at_call 16; refine (rd_any _ _).mono ?_; rintro e wn ⟨rfl, h⟩; replace HB := tr HB h; clear h) | (go_at_call 17; refine (rs1_any _ _).mono ?_; rintro e wn ⟨rfl, h⟩; replace HB := tr HB h; clear h) | (go_at_call 23; refine (immI_any _ _).mono ?_; rintro e wn ⟨rfl, h⟩; replace HB := tr HB h; clear h) | (refine own_store w rfl rfl rfl rfl rfl (by simp [Value.oneCell']) ?_ ?_; focus ((repeat (first | exact heap_on HB.out | refine heap_past _ ?_ | refine heap_far ?_ (Nat.ne_of_gt HL.out) _)); done)))
  go_step3
  go_wp2_with (first | (go_at_call 19; refine (funct3_any _ _).mono ?_; rintro e wn ⟨rfl, h⟩; replace HB := tr HB h; clear h) | (go_at_call 16; refine (rd_any _ _).mono ?_; rintro e wn ⟨rfl, h⟩; replace HB := tr HB h; clear h) | (go_at_call 17; refine (rs1_any _ _).mono ?_; rintro e wn ⟨rfl, h⟩; replace HB := tr HB h; clear h) | (go_at_call 23; refine (immI_any _ _).mono ?_; rintro e wn ⟨rfl, h⟩; replace HB := tr HB h; clear h) | (refine own_store w rfl rfl rfl rfl rfl (by simp [Value.oneCell']) ?_ ?_; focus ((repeat (first | exact heap_on HB.out | refine heap_past _ ?_ | refine heap_far ?_ (Nat.ne_of_gt HL.out) _)); done)))
  rw [Exit.noGoto_ret]
  refine own_back w rfl rfl rfl rfl ?_ ?_; (focus ((repeat (first | exact heap_on HB.out | refine heap_past _ ?_ | refine heap_far ?_ (Nat.ne_of_gt HL.out) _)); done))
  exact ⟨by unfold numOf; (simp [h3, Ins.zero, Ins.val, u_nil]) <;> rfl, by ((repeat (first | apply On.rowO | refine On.setO ?_ HL.out | apply On.alloc)); first | exact On.refl w | exact on_of HB.out)⟩
set_option maxRecDepth 100000 in
set_option maxHeartbeats 4000000 in
theorem num_false_4 (x : BitVec 32) (w : World) (h3 : fi x 14 12 = 4) :
    Calls Tryd.prog 26 #[.int .u32 (q x), .bool false] w fun e w' => e = .returned (numOf x false).val ∧ On w w' := by
  have HB := hb0 w
  go_enter Tryd.func26, Tryd.ntmps26
  go_wp2
  go_step3
  go_wp2_with (first | (go_at_call 19; refine (funct3_any _ _).mono ?_; rintro e wn ⟨rfl, h⟩; replace HB := tr HB h; clear h) | (go_at_call 16; refine (rd_any _ _).mono ?_; rintro e wn ⟨rfl, h⟩; replace HB := tr HB h; clear h) | (go_at_call 17; refine (rs1_any _ _).mono ?_; rintro e wn ⟨rfl, h⟩; replace HB := tr HB h; clear h) | (go_at_call 23; refine (immI_any _ _).mono ?_; rintro e wn ⟨rfl, h⟩; replace HB := tr HB h; clear h) | (refine own_store w rfl rfl rfl rfl rfl (by simp [Value.oneCell']) ?_ ?_; focus ((repeat (first | exact heap_on HB.out | refine heap_past _ ?_ | refine heap_far ?_ (Nat.ne_of_gt HL.out) _)); done)))
  go_step3
  go_wp2_with (first | (go_at_call 19; refine (funct3_any _ _).mono ?_; rintro e wn ⟨rfl, h⟩; replace HB := tr HB h; clear h) | (go_at_call 16; refine (rd_any _ _).mono ?_; rintro e wn ⟨rfl, h⟩; replace HB := tr HB h; clear h) | (go_at_call 17; refine (rs1_any _ _).mono ?_; rintro e wn ⟨rfl, h⟩; replace HB := tr HB h; clear h) | (go_at_call 23; refine (immI_any _ _).mono ?_; rintro e wn ⟨rfl, h⟩; replace HB := tr HB h; clear h) | (refine own_store w rfl rfl rfl rfl rfl (by simp [Value.oneCell']) ?_ ?_; focus ((repeat (first | exact heap_on HB.out | refine heap_past _ ?_ | refine heap_far ?_ (Nat.ne_of_gt HL.out) _)); done)))
  rw [Exit.noGoto_ret]
  refine own_back w rfl rfl rfl rfl ?_ ?_; (focus ((repeat (first | exact heap_on HB.out | refine heap_past _ ?_ | refine heap_far ?_ (Nat.ne_of_gt HL.out) _)); done))
  exact ⟨by unfold numOf; (simp [h3, Ins.zero, Ins.val, u_nil]) <;> rfl, by ((repeat (first | apply On.rowO | refine On.setO ?_ HL.out | apply On.alloc)); first | exact On.refl w | exact on_of HB.out)⟩
set_option maxRecDepth 100000 in
set_option maxHeartbeats 4000000 in
theorem num_false_6 (x : BitVec 32) (w : World) (h3 : fi x 14 12 = 6) :
    Calls Tryd.prog 26 #[.int .u32 (q x), .bool false] w fun e w' => e = .returned (numOf x false).val ∧ On w w' := by
  have HB := hb0 w
  go_enter Tryd.func26, Tryd.ntmps26
  go_wp2
  go_step3
  go_wp2_with (first | (go_at_call 19; refine (funct3_any _ _).mono ?_; rintro e wn ⟨rfl, h⟩; replace HB := tr HB h; clear h) | (go_at_call 16; refine (rd_any _ _).mono ?_; rintro e wn ⟨rfl, h⟩; replace HB := tr HB h; clear h) | (go_at_call 17; refine (rs1_any _ _).mono ?_; rintro e wn ⟨rfl, h⟩; replace HB := tr HB h; clear h) | (go_at_call 23; refine (immI_any _ _).mono ?_; rintro e wn ⟨rfl, h⟩; replace HB := tr HB h; clear h) | (refine own_store w rfl rfl rfl rfl rfl (by simp [Value.oneCell']) ?_ ?_; focus ((repeat (first | exact heap_on HB.out | refine heap_past _ ?_ | refine heap_far ?_ (Nat.ne_of_gt HL.out) _)); done)))
  go_step3
  go_wp2_with (first | (go_at_call 19; refine (funct3_any _ _).mono ?_; rintro e wn ⟨rfl, h⟩; replace HB := tr HB h; clear h) | (go_at_call 16; refine (rd_any _ _).mono ?_; rintro e wn ⟨rfl, h⟩; replace HB := tr HB h; clear h) | (go_at_call 17; refine (rs1_any _ _).mono ?_; rintro e wn ⟨rfl, h⟩; replace HB := tr HB h; clear h) | (go_at_call 23; refine (immI_any _ _).mono ?_; rintro e wn ⟨rfl, h⟩; replace HB := tr HB h; clear h) | (refine own_store w rfl rfl rfl rfl rfl (by simp [Value.oneCell']) ?_ ?_; focus ((repeat (first | exact heap_on HB.out | refine heap_past _ ?_ | refine heap_far ?_ (Nat.ne_of_gt HL.out) _)); done)))
  rw [Exit.noGoto_ret]
  refine own_back w rfl rfl rfl rfl ?_ ?_; (focus ((repeat (first | exact heap_on HB.out | refine heap_past _ ?_ | refine heap_far ?_ (Nat.ne_of_gt HL.out) _)); done))
  exact ⟨by unfold numOf; (simp [h3, Ins.zero, Ins.val, u_nil]) <;> rfl, by ((repeat (first | apply On.rowO | refine On.setO ?_ HL.out | apply On.alloc)); first | exact On.refl w | exact on_of HB.out)⟩
set_option maxRecDepth 100000 in
set_option maxHeartbeats 4000000 in
theorem num_false_7 (x : BitVec 32) (w : World) (h3 : fi x 14 12 = 7) :
    Calls Tryd.prog 26 #[.int .u32 (q x), .bool false] w fun e w' => e = .returned (numOf x false).val ∧ On w w' := by
  have HB := hb0 w
  go_enter Tryd.func26, Tryd.ntmps26
  go_wp2
  go_step3
  go_wp2_with (first | (go_at_call 19; refine (funct3_any _ _).mono ?_; rintro e wn ⟨rfl, h⟩; replace HB := tr HB h; clear h) | (go_at_call 16; refine (rd_any _ _).mono ?_; rintro e wn ⟨rfl, h⟩; replace HB := tr HB h; clear h) | (go_at_call 17; refine (rs1_any _ _).mono ?_; rintro e wn ⟨rfl, h⟩; replace HB := tr HB h; clear h) | (go_at_call 23; refine (immI_any _ _).mono ?_; rintro e wn ⟨rfl, h⟩; replace HB := tr HB h; clear h) | (refine own_store w rfl rfl rfl rfl rfl (by simp [Value.oneCell']) ?_ ?_; focus ((repeat (first | exact heap_on HB.out | refine heap_past _ ?_ | refine heap_far ?_ (Nat.ne_of_gt HL.out) _)); done)))
  go_step3
  go_wp2_with (first | (go_at_call 19; refine (funct3_any _ _).mono ?_; rintro e wn ⟨rfl, h⟩; replace HB := tr HB h; clear h) | (go_at_call 16; refine (rd_any _ _).mono ?_; rintro e wn ⟨rfl, h⟩; replace HB := tr HB h; clear h) | (go_at_call 17; refine (rs1_any _ _).mono ?_; rintro e wn ⟨rfl, h⟩; replace HB := tr HB h; clear h) | (go_at_call 23; refine (immI_any _ _).mono ?_; rintro e wn ⟨rfl, h⟩; replace HB := tr HB h; clear h) | (refine own_store w rfl rfl rfl rfl rfl (by simp [Value.oneCell']) ?_ ?_; focus ((repeat (first | exact heap_on HB.out | refine heap_past _ ?_ | refine heap_far ?_ (Nat.ne_of_gt HL.out) _)); done)))
  rw [Exit.noGoto_ret]
  refine own_back w rfl rfl rfl rfl ?_ ?_; (focus ((repeat (first | exact heap_on HB.out | refine heap_past _ ?_ | refine heap_far ?_ (Nat.ne_of_gt HL.out) _)); done))
  exact ⟨by unfold numOf; (simp [h3, Ins.zero, Ins.val, u_nil]) <;> rfl, by ((repeat (first | apply On.rowO | refine On.setO ?_ HL.out | apply On.alloc)); first | exact On.refl w | exact on_of HB.out)⟩
set_option maxRecDepth 100000 in
set_option maxHeartbeats 4000000 in
theorem num_false_1z (x : BitVec 32) (w : World) (h3 : fi x 14 12 = 1) (HK : Hid (kindOf x false = 0)) :
    Calls Tryd.prog 26 #[.int .u32 (q x), .bool false] w fun e w' => e = .returned (numOf x false).val ∧ On w w' := by
  have e0 := imm_tmod x
  have HB := hb0 w
  have b0 : (kindOf x false == 0) = true := by rw [HK.out]; rfl
  have b1 : (kindOf x false == 32) = false := by rw [HK.out]; rfl
  go_enter Tryd.func26, Tryd.ntmps26
  go_wp2
  go_step3
  go_wp2_with (first | (go_at_call 19; refine (funct3_any _ _).mono ?_; rintro e wn ⟨rfl, h⟩; replace HB := tr HB h; clear h) | (go_at_call 16; refine (rd_any _ _).mono ?_; rintro e wn ⟨rfl, h⟩; replace HB := tr HB h; clear h) | (go_at_call 17; refine (rs1_any _ _).mono ?_; rintro e wn ⟨rfl, h⟩; replace HB := tr HB h; clear h) | (go_at_call 23; refine (immI_any _ _).mono ?_; rintro e wn ⟨rfl, h⟩; replace HB := tr HB h; clear h) | (refine own_store w rfl rfl rfl rfl rfl (by simp [Value.oneCell']) ?_ ?_; focus ((repeat (first | exact heap_on HB.out | refine heap_past _ ?_ | refine heap_far ?_ (Nat.ne_of_gt HL.out) _)); done)) | (go_at_call 40; refine (kind_any _ _ _).mono ?_; rintro e wm ⟨rfl, h⟩; obtain ⟨k0, k1, k2, k3, k4, k5, k6, k7, k8, k9, k10, kf, hlt⟩ := own11 h; have HL := Lib.hid (on_size HB.out); replace HB := tr1 HB h; clear h))
  go_step3
  go_wp2_with (first | (go_at_call 19; refine (funct3_any _ _).mono ?_; rintro e wn ⟨rfl, h⟩; replace HB := tr HB h; clear h) | (go_at_call 16; refine (rd_any _ _).mono ?_; rintro e wn ⟨rfl, h⟩; replace HB := tr HB h; clear h) | (go_at_call 17; refine (rs1_any _ _).mono ?_; rintro e wn ⟨rfl, h⟩; replace HB := tr HB h; clear h) | (go_at_call 23; refine (immI_any _ _).mono ?_; rintro e wn ⟨rfl, h⟩; replace HB := tr HB h; clear h) | (refine own_store w rfl rfl rfl rfl rfl (by simp [Value.oneCell']) ?_ ?_; focus ((repeat (first | exact heap_on HB.out | refine heap_past _ ?_ | refine heap_far ?_ (Nat.ne_of_gt HL.out) _)); done)) | (go_at_call 40; refine (kind_any _ _ _).mono ?_; rintro e wm ⟨rfl, h⟩; obtain ⟨k0, k1, k2, k3, k4, k5, k6, k7, k8, k9, k10, kf, hlt⟩ := own11 h; have HL := Lib.hid (on_size HB.out); replace HB := tr1 HB h; clear h))
  rw [Exit.noGoto_ret]
  refine own_back w rfl rfl rfl rfl ?_ ?_; (focus ((repeat (first | exact heap_on HB.out | refine heap_past _ ?_ | refine heap_far ?_ (Nat.ne_of_gt HL.out) _)); done))
  exact ⟨by unfold numOf; (simp [h3, HK.out, Ins.zero, Ins.val, u_nil]) <;> rfl, by ((repeat (first | apply On.rowO | refine On.setO ?_ HL.out | apply On.alloc)); first | exact On.refl w | exact on_of HB.out)⟩
set_option maxRecDepth 100000 in
set_option maxHeartbeats 4000000 in
theorem num_false_1s (x : BitVec 32) (w : World) (h3 : fi x 14 12 = 1) (HK : Hid (kindOf x false = 32)) :
    Calls Tryd.prog 26 #[.int .u32 (q x), .bool false] w fun e w' => e = .returned (numOf x false).val ∧ On w w' := by
  have e0 := imm_tmod x
  have HB := hb0 w
  have b0 : (kindOf x false == 0) = false := by rw [HK.out]; rfl
  have b1 : (kindOf x false == 32) = true := by rw [HK.out]; rfl
  go_enter Tryd.func26, Tryd.ntmps26
  go_wp2
  go_step3
  go_wp2_with (first | (go_at_call 19; refine (funct3_any _ _).mono ?_; rintro e wn ⟨rfl, h⟩; replace HB := tr HB h; clear h) | (go_at_call 16; refine (rd_any _ _).mono ?_; rintro e wn ⟨rfl, h⟩; replace HB := tr HB h; clear h) | (go_at_call 17; refine (rs1_any _ _).mono ?_; rintro e wn ⟨rfl, h⟩; replace HB := tr HB h; clear h) | (go_at_call 23; refine (immI_any _ _).mono ?_; rintro e wn ⟨rfl, h⟩; replace HB := tr HB h; clear h) | (refine own_store w rfl rfl rfl rfl rfl (by simp [Value.oneCell']) ?_ ?_; focus ((repeat (first | exact heap_on HB.out | refine heap_past _ ?_ | refine heap_far ?_ (Nat.ne_of_gt HL.out) _)); done)) | (go_at_call 40; refine (kind_any _ _ _).mono ?_; rintro e wm ⟨rfl, h⟩; obtain ⟨k0, k1, k2, k3, k4, k5, k6, k7, k8, k9, k10, kf, hlt⟩ := own11 h; have HL := Lib.hid (on_size HB.out); replace HB := tr1 HB h; clear h))
  go_step3
  go_wp2_with (first | (go_at_call 19; refine (funct3_any _ _).mono ?_; rintro e wn ⟨rfl, h⟩; replace HB := tr HB h; clear h) | (go_at_call 16; refine (rd_any _ _).mono ?_; rintro e wn ⟨rfl, h⟩; replace HB := tr HB h; clear h) | (go_at_call 17; refine (rs1_any _ _).mono ?_; rintro e wn ⟨rfl, h⟩; replace HB := tr HB h; clear h) | (go_at_call 23; refine (immI_any _ _).mono ?_; rintro e wn ⟨rfl, h⟩; replace HB := tr HB h; clear h) | (refine own_store w rfl rfl rfl rfl rfl (by simp [Value.oneCell']) ?_ ?_; focus ((repeat (first | exact heap_on HB.out | refine heap_past _ ?_ | refine heap_far ?_ (Nat.ne_of_gt HL.out) _)); done)) | (go_at_call 40; refine (kind_any _ _ _).mono ?_; rintro e wm ⟨rfl, h⟩; obtain ⟨k0, k1, k2, k3, k4, k5, k6, k7, k8, k9, k10, kf, hlt⟩ := own11 h; have HL := Lib.hid (on_size HB.out); replace HB := tr1 HB h; clear h))
  rw [Exit.noGoto_ret]
  refine own_back w rfl rfl rfl rfl ?_ ?_; (focus ((repeat (first | exact heap_on HB.out | refine heap_past _ ?_ | refine heap_far ?_ (Nat.ne_of_gt HL.out) _)); done))
  exact ⟨by unfold numOf; (simp [h3, HK.out, Ins.zero, Ins.val, u_nil]) <;> rfl, by ((repeat (first | apply On.rowO | refine On.setO ?_ HL.out | apply On.alloc)); first | exact On.refl w | exact on_of HB.out)⟩
set_option maxRecDepth 100000 in
set_option maxHeartbeats 4000000 in
theorem num_false_1n (x : BitVec 32) (w : World) (h3 : fi x 14 12 = 1) (HK : Hid (¬ kindOf x false = 0 ∧ ¬ kindOf x false = 32)) :
    Calls Tryd.prog 26 #[.int .u32 (q x), .bool false] w fun e w' => e = .returned (numOf x false).val ∧ On w w' := by
  have e0 := imm_tmod x
  have HB := hb0 w
  have b0 : (kindOf x false == 0) = false := by simpa using HK.out.1
  have b1 : (kindOf x false == 32) = false := by simpa using HK.out.2
  go_enter Tryd.func26, Tryd.ntmps26
  go_wp2
  go_step3
  go_wp2_with (first | (go_at_call 19; refine (funct3_any _ _).mono ?_; rintro e wn ⟨rfl, h⟩; replace HB := tr HB h; clear h) | (go_at_call 16; refine (rd_any _ _).mono ?_; rintro e wn ⟨rfl, h⟩; replace HB := tr HB h; clear h) | (go_at_call 17; refine (rs1_any _ _).mono ?_; rintro e wn ⟨rfl, h⟩; replace HB := tr HB h; clear h) | (go_at_call 23; refine (immI_any _ _).mono ?_; rintro e wn ⟨rfl, h⟩; replace HB := tr HB h; clear h) | (refine own_store w rfl rfl rfl rfl rfl (by simp [Value.oneCell']) ?_ ?_; focus ((repeat (first | exact heap_on HB.out | refine heap_past _ ?_ | refine heap_far ?_ (Nat.ne_of_gt HL.out) _)); done)) | (go_at_call 40; refine (kind_any _ _ _).mono ?_; rintro e wm ⟨rfl, h⟩; obtain ⟨k0, k1, k2, k3, k4, k5, k6, k7, k8, k9, k10, kf, hlt⟩ := own11 h; have HL := Lib.hid (on_size HB.out); replace HB := tr1 HB h; clear h))
  go_step3
  go_wp2_with (first | (go_at_call 19; refine (funct3_any _ _).mono ?_; rintro e wn ⟨rfl, h⟩; replace HB := tr HB h; clear h) | (go_at_call 16; refine (rd_any _ _).mono ?_; rintro e wn ⟨rfl, h⟩; replace HB := tr HB h; clear h) | (go_at_call 17; refine (rs1_any _ _).mono ?_; rintro e wn ⟨rfl, h⟩; replace HB := tr HB h; clear h) | (go_at_call 23; refine (immI_any _ _).mono ?_; rintro e wn ⟨rfl, h⟩; replace HB := tr HB h; clear h) | (refine own_store w rfl rfl rfl rfl rfl (by simp [Value.oneCell']) ?_ ?_; focus ((repeat (first | exact heap_on HB.out | refine heap_past _ ?_ | refine heap_far ?_ (Nat.ne_of_gt HL.out) _)); done)) | (go_at_call 40; refine (kind_any _ _ _).mono ?_; rintro e wm ⟨rfl, h⟩; obtain ⟨k0, k1, k2, k3, k4, k5, k6, k7, k8, k9, k10, kf, hlt⟩ := own11 h; have HL := Lib.hid (on_size HB.out); replace HB := tr1 HB h; clear h))
  rw [Exit.noGoto_ret]
  refine own_back w rfl rfl rfl rfl ?_ ?_; (focus ((repeat (first | exact heap_on HB.out | refine heap_past _ ?_ | refine heap_far ?_ (Nat.ne_of_gt HL.out) _)); done))
  exact ⟨by unfold numOf; (simp [h3, HK.out, Ins.zero, Ins.val, u_nil]) <;> rfl, by ((repeat (first | apply On.rowO | refine On.setO ?_ HL.out | apply On.alloc)); first | exact On.refl w | exact on_of HB.out)⟩
set_option maxRecDepth 100000 in
set_option maxHeartbeats 4000000 in
theorem num_false_5z (x : BitVec 32) (w : World) (h3 : fi x 14 12 = 5) (HK : Hid (kindOf x false = 0)) :
    Calls Tryd.prog 26 #[.int .u32 (q x), .bool false] w fun e w' => e = .returned (numOf x false).val ∧ On w w' := by
  have e0 := imm_tmod x
  have HB := hb0 w
  have b0 : (kindOf x false == 0) = true := by rw [HK.out]; rfl
  have b1 : (kindOf x false == 32) = false := by rw [HK.out]; rfl
  go_enter Tryd.func26, Tryd.ntmps26
  go_wp2
  go_step3
  go_wp2_with (first | (go_at_call 19; refine (funct3_any _ _).mono ?_; rintro e wn ⟨rfl, h⟩; replace HB := tr HB h; clear h) | (go_at_call 16; refine (rd_any _ _).mono ?_; rintro e wn ⟨rfl, h⟩; replace HB := tr HB h; clear h) | (go_at_call 17; refine (rs1_any _ _).mono ?_; rintro e wn ⟨rfl, h⟩; replace HB := tr HB h; clear h) | (go_at_call 23; refine (immI_any _ _).mono ?_; rintro e wn ⟨rfl, h⟩; replace HB := tr HB h; clear h) | (refine own_store w rfl rfl rfl rfl rfl (by simp [Value.oneCell']) ?_ ?_; focus ((repeat (first | exact heap_on HB.out | refine heap_past _ ?_ | refine heap_far ?_ (Nat.ne_of_gt HL.out) _)); done)) | (go_at_call 40; refine (kind_any _ _ _).mono ?_; rintro e wm ⟨rfl, h⟩; obtain ⟨k0, k1, k2, k3, k4, k5, k6, k7, k8, k9, k10, kf, hlt⟩ := own11 h; have HL := Lib.hid (on_size HB.out); replace HB := tr1 HB h; clear h))
  go_step3
  go_wp2_with (first | (go_at_call 19; refine (funct3_any _ _).mono ?_; rintro e wn ⟨rfl, h⟩; replace HB := tr HB h; clear h) | (go_at_call 16; refine (rd_any _ _).mono ?_; rintro e wn ⟨rfl, h⟩; replace HB := tr HB h; clear h) | (go_at_call 17; refine (rs1_any _ _).mono ?_; rintro e wn ⟨rfl, h⟩; replace HB := tr HB h; clear h) | (go_at_call 23; refine (immI_any _ _).mono ?_; rintro e wn ⟨rfl, h⟩; replace HB := tr HB h; clear h) | (refine own_store w rfl rfl rfl rfl rfl (by simp [Value.oneCell']) ?_ ?_; focus ((repeat (first | exact heap_on HB.out | refine heap_past _ ?_ | refine heap_far ?_ (Nat.ne_of_gt HL.out) _)); done)) | (go_at_call 40; refine (kind_any _ _ _).mono ?_; rintro e wm ⟨rfl, h⟩; obtain ⟨k0, k1, k2, k3, k4, k5, k6, k7, k8, k9, k10, kf, hlt⟩ := own11 h; have HL := Lib.hid (on_size HB.out); replace HB := tr1 HB h; clear h))
  rw [Exit.noGoto_ret]
  refine own_back w rfl rfl rfl rfl ?_ ?_; (focus ((repeat (first | exact heap_on HB.out | refine heap_past _ ?_ | refine heap_far ?_ (Nat.ne_of_gt HL.out) _)); done))
  exact ⟨by unfold numOf; (simp [h3, HK.out, Ins.zero, Ins.val, u_nil]) <;> rfl, by ((repeat (first | apply On.rowO | refine On.setO ?_ HL.out | apply On.alloc)); first | exact On.refl w | exact on_of HB.out)⟩
set_option maxRecDepth 100000 in
set_option maxHeartbeats 4000000 in
theorem num_false_5s (x : BitVec 32) (w : World) (h3 : fi x 14 12 = 5) (HK : Hid (kindOf x false = 32)) :
    Calls Tryd.prog 26 #[.int .u32 (q x), .bool false] w fun e w' => e = .returned (numOf x false).val ∧ On w w' := by
  have e0 := imm_tmod x
  have HB := hb0 w
  have b0 : (kindOf x false == 0) = false := by rw [HK.out]; rfl
  have b1 : (kindOf x false == 32) = true := by rw [HK.out]; rfl
  go_enter Tryd.func26, Tryd.ntmps26
  go_wp2
  go_step3
  go_wp2_with (first | (go_at_call 19; refine (funct3_any _ _).mono ?_; rintro e wn ⟨rfl, h⟩; replace HB := tr HB h; clear h) | (go_at_call 16; refine (rd_any _ _).mono ?_; rintro e wn ⟨rfl, h⟩; replace HB := tr HB h; clear h) | (go_at_call 17; refine (rs1_any _ _).mono ?_; rintro e wn ⟨rfl, h⟩; replace HB := tr HB h; clear h) | (go_at_call 23; refine (immI_any _ _).mono ?_; rintro e wn ⟨rfl, h⟩; replace HB := tr HB h; clear h) | (refine own_store w rfl rfl rfl rfl rfl (by simp [Value.oneCell']) ?_ ?_; focus ((repeat (first | exact heap_on HB.out | refine heap_past _ ?_ | refine heap_far ?_ (Nat.ne_of_gt HL.out) _)); done)) | (go_at_call 40; refine (kind_any _ _ _).mono ?_; rintro e wm ⟨rfl, h⟩; obtain ⟨k0, k1, k2, k3, k4, k5, k6, k7, k8, k9, k10, kf, hlt⟩ := own11 h; have HL := Lib.hid (on_size HB.out); replace HB := tr1 HB h; clear h))
  go_step3
  go_wp2_with (first | (go_at_call 19; refine (funct3_any _ _).mono ?_; rintro e wn ⟨rfl, h⟩; replace HB := tr HB h; clear h) | (go_at_call 16; refine (rd_any _ _).mono ?_; rintro e wn ⟨rfl, h⟩; replace HB := tr HB h; clear h) | (go_at_call 17; refine (rs1_any _ _).mono ?_; rintro e wn ⟨rfl, h⟩; replace HB := tr HB h; clear h) | (go_at_call 23; refine (immI_any _ _).mono ?_; rintro e wn ⟨rfl, h⟩; replace HB := tr HB h; clear h) | (refine own_store w rfl rfl rfl rfl rfl (by simp [Value.oneCell']) ?_ ?_; focus ((repeat (first | exact heap_on HB.out | refine heap_past _ ?_ | refine heap_far ?_ (Nat.ne_of_gt HL.out) _)); done)) | (go_at_call 40; refine (kind_any _ _ _).mono ?_; rintro e wm ⟨rfl, h⟩; obtain ⟨k0, k1, k2, k3, k4, k5, k6, k7, k8, k9, k10, kf, hlt⟩ := own11 h; have HL := Lib.hid (on_size HB.out); replace HB := tr1 HB h; clear h))
  rw [Exit.noGoto_ret]
  refine own_back w rfl rfl rfl rfl ?_ ?_; (focus ((repeat (first | exact heap_on HB.out | refine heap_past _ ?_ | refine heap_far ?_ (Nat.ne_of_gt HL.out) _)); done))
  exact ⟨by unfold numOf; (simp [h3, HK.out, Ins.zero, Ins.val, u_nil]) <;> rfl, by ((repeat (first | apply On.rowO | refine On.setO ?_ HL.out | apply On.alloc)); first | exact On.refl w | exact on_of HB.out)⟩
set_option maxRecDepth 100000 in
set_option maxHeartbeats 4000000 in
theorem num_false_5n (x : BitVec 32) (w : World) (h3 : fi x 14 12 = 5) (HK : Hid (¬ kindOf x false = 0 ∧ ¬ kindOf x false = 32)) :
    Calls Tryd.prog 26 #[.int .u32 (q x), .bool false] w fun e w' => e = .returned (numOf x false).val ∧ On w w' := by
  have e0 := imm_tmod x
  have HB := hb0 w
  have b0 : (kindOf x false == 0) = false := by simpa using HK.out.1
  have b1 : (kindOf x false == 32) = false := by simpa using HK.out.2
  go_enter Tryd.func26, Tryd.ntmps26
  go_wp2
  go_step3
  go_wp2_with (first | (go_at_call 19; refine (funct3_any _ _).mono ?_; rintro e wn ⟨rfl, h⟩; replace HB := tr HB h; clear h) | (go_at_call 16; refine (rd_any _ _).mono ?_; rintro e wn ⟨rfl, h⟩; replace HB := tr HB h; clear h) | (go_at_call 17; refine (rs1_any _ _).mono ?_; rintro e wn ⟨rfl, h⟩; replace HB := tr HB h; clear h) | (go_at_call 23; refine (immI_any _ _).mono ?_; rintro e wn ⟨rfl, h⟩; replace HB := tr HB h; clear h) | (refine own_store w rfl rfl rfl rfl rfl (by simp [Value.oneCell']) ?_ ?_; focus ((repeat (first | exact heap_on HB.out | refine heap_past _ ?_ | refine heap_far ?_ (Nat.ne_of_gt HL.out) _)); done)) | (go_at_call 40; refine (kind_any _ _ _).mono ?_; rintro e wm ⟨rfl, h⟩; obtain ⟨k0, k1, k2, k3, k4, k5, k6, k7, k8, k9, k10, kf, hlt⟩ := own11 h; have HL := Lib.hid (on_size HB.out); replace HB := tr1 HB h; clear h))
  go_step3
  go_wp2_with (first | (go_at_call 19; refine (funct3_any _ _).mono ?_; rintro e wn ⟨rfl, h⟩; replace HB := tr HB h; clear h) | (go_at_call 16; refine (rd_any _ _).mono ?_; rintro e wn ⟨rfl, h⟩; replace HB := tr HB h; clear h) | (go_at_call 17; refine (rs1_any _ _).mono ?_; rintro e wn ⟨rfl, h⟩; replace HB := tr HB h; clear h) | (go_at_call 23; refine (immI_any _ _).mono ?_; rintro e wn ⟨rfl, h⟩; replace HB := tr HB h; clear h) | (refine own_store w rfl rfl rfl rfl rfl (by simp [Value.oneCell']) ?_ ?_; focus ((repeat (first | exact heap_on HB.out | refine heap_past _ ?_ | refine heap_far ?_ (Nat.ne_of_gt HL.out) _)); done)) | (go_at_call 40; refine (kind_any _ _ _).mono ?_; rintro e wm ⟨rfl, h⟩; obtain ⟨k0, k1, k2, k3, k4, k5, k6, k7, k8, k9, k10, kf, hlt⟩ := own11 h; have HL := Lib.hid (on_size HB.out); replace HB := tr1 HB h; clear h))
  rw [Exit.noGoto_ret]
  refine own_back w rfl rfl rfl rfl ?_ ?_; (focus ((repeat (first | exact heap_on HB.out | refine heap_past _ ?_ | refine heap_far ?_ (Nat.ne_of_gt HL.out) _)); done))
  exact ⟨by unfold numOf; (simp [h3, HK.out, Ins.zero, Ins.val, u_nil]) <;> rfl, by ((repeat (first | apply On.rowO | refine On.setO ?_ HL.out | apply On.alloc)); first | exact On.refl w | exact on_of HB.out)⟩
theorem num_false_any (x : BitVec 32) (w : World) :
    Calls Tryd.prog 26 #[.int .u32 (q x), .bool false] w fun e w' => e = .returned (numOf x false).val ∧ On w w' := by
  rcases f3_cases x with h3 | h3 | h3 | h3 | h3 | h3 | h3 | h3
  · exact num_false_0 x w h3
  · by_cases c : kindOf x false = 0
    · exact num_false_1z x w h3 (Lib.hid c)
    by_cases d : kindOf x false = 32
    · exact num_false_1s x w h3 (Lib.hid d)
    · exact num_false_1n x w h3 (Lib.hid ⟨c, d⟩)
  · exact num_false_2 x w h3
  · exact num_false_3 x w h3
  · exact num_false_4 x w h3
  · by_cases c : kindOf x false = 0
    · exact num_false_5z x w h3 (Lib.hid c)
    by_cases d : kindOf x false = 32
    · exact num_false_5s x w h3 (Lib.hid d)
    · exact num_false_5n x w h3 (Lib.hid ⟨c, d⟩)
  · exact num_false_6 x w h3
  · exact num_false_7 x w h3
set_option maxRecDepth 100000 in
set_option maxHeartbeats 4000000 in
theorem num_true_0 (x : BitVec 32) (w : World) (h3 : fi x 14 12 = 0) :
    Calls Tryd.prog 26 #[.int .u32 (q x), .bool true] w fun e w' => e = .returned (numOf x true).val ∧ On w w' := by
  have HB := hb0 w
  go_enter Tryd.func26, Tryd.ntmps26
  go_wp2
  go_step3
  go_wp2_with (first | (go_at_call 19; refine (funct3_any _ _).mono ?_; rintro e wn ⟨rfl, h⟩; replace HB := tr HB h; clear h) | (go_at_call 16; refine (rd_any _ _).mono ?_; rintro e wn ⟨rfl, h⟩; replace HB := tr HB h; clear h) | (go_at_call 17; refine (rs1_any _ _).mono ?_; rintro e wn ⟨rfl, h⟩; replace HB := tr HB h; clear h) | (go_at_call 23; refine (immI_any _ _).mono ?_; rintro e wn ⟨rfl, h⟩; replace HB := tr HB h; clear h) | (refine own_store w rfl rfl rfl rfl rfl (by simp [Value.oneCell']) ?_ ?_; focus ((repeat (first | exact heap_on HB.out | refine heap_past _ ?_ | refine heap_far ?_ (Nat.ne_of_gt HL.out) _)); done)))
  go_step3
  go_wp2_with (first | (go_at_call 19; refine (funct3_any _ _).mono ?_; rintro e wn ⟨rfl, h⟩; replace HB := tr HB h; clear h) | (go_at_call 16; refine (rd_any _ _).mono ?_; rintro e wn ⟨rfl, h⟩; replace HB := tr HB h; clear h) | (go_at_call 17; refine (rs1_any _ _).mono ?_; rintro e wn ⟨rfl, h⟩; replace HB := tr HB h; clear h) | (go_at_call 23; refine (immI_any _ _).mono ?_; rintro e wn ⟨rfl, h⟩; replace HB := tr HB h; clear h) | (refine own_store w rfl rfl rfl rfl rfl (by simp [Value.oneCell']) ?_ ?_; focus ((repeat (first | exact heap_on HB.out | refine heap_past _ ?_ | refine heap_far ?_ (Nat.ne_of_gt HL.out) _)); done)))
  rw [Exit.noGoto_ret]
  refine own_back w rfl rfl rfl rfl ?_ ?_; (focus ((repeat (first | exact heap_on HB.out | refine heap_past _ ?_ | refine heap_far ?_ (Nat.ne_of_gt HL.out) _)); done))
  exact ⟨by unfold numOf; (simp [h3, Ins.zero, Ins.val, u_nil]) <;> rfl, by ((repeat (first | apply On.rowO | refine On.setO ?_ HL.out | apply On.alloc)); first | exact On.refl w | exact on_of HB.out)⟩
set_option maxRecDepth 100000 in
set_option maxHeartbeats 4000000 in
theorem num_true_2 (x : BitVec 32) (w : World) (h3 : fi x 14 12 = 2) :
    Calls Tryd.prog 26 #[.int .u32 (q x), .bool true] w fun e w' => e = .returned (numOf x true).val ∧ On w w' := by
  have HB := hb0 w
  go_enter Tryd.func26, Tryd.ntmps26
  go_wp2
  go_step3
  go_wp2_with (first | (go_at_call 19; refine (funct3_any _ _).mono ?_; rintro e wn ⟨rfl, h⟩; replace HB := tr HB h; clear h) | (go_at_call 16; refine (rd_any _ _).mono ?_; rintro e wn ⟨rfl, h⟩; replace HB := tr HB h; clear h) | (go_at_call 17; refine (rs1_any _ _).mono ?_; rintro e wn ⟨rfl, h⟩; replace HB := tr HB h; clear h) | (go_at_call 23; refine (immI_any _ _).mono ?_; rintro e wn ⟨rfl, h⟩; replace HB := tr HB h; clear h) | (refine own_store w rfl rfl rfl rfl rfl (by simp [Value.oneCell']) ?_ ?_; focus ((repeat (first | exact heap_on HB.out | refine heap_past _ ?_ | refine heap_far ?_ (Nat.ne_of_gt HL.out) _)); done)))
  go_step3
  go_wp2_with (first | (go_at_call 19; refine (funct3_any _ _).mono ?_; rintro e wn ⟨rfl, h⟩; replace HB := tr HB h; clear h) | (go_at_call 16; refine (rd_any _ _).mono ?_; rintro e wn ⟨rfl, h⟩; replace HB := tr HB h; clear h) | (go_at_call 17; refine (rs1_any _ _).mono ?_; rintro e wn ⟨rfl, h⟩; replace HB := tr HB h; clear h) | (go_at_call 23; refine (immI_any _ _).mono ?_; rintro e wn ⟨rfl, h⟩; replace HB := tr HB h; clear h) | (refine own_store w rfl rfl rfl rfl rfl (by simp [Value.oneCell']) ?_ ?_; focus ((repeat (first | exact heap_on HB.out | refine heap_past _ ?_ | refine heap_far ?_ (Nat.ne_of_gt HL.out) _)); done)))
  rw [Exit.noGoto_ret]
  refine own_back w rfl rfl rfl rfl ?_ ?_; (focus ((repeat (first | exact heap_on HB.out | refine heap_past _ ?_ | refine heap_far ?_ (Nat.ne_of_gt HL.out) _)); done))
  exact ⟨by unfold numOf; (simp [h3, Ins.zero, Ins.val, u_nil]) <;> rfl, by ((repeat (first | apply On.rowO | refine On.setO ?_ HL.out | apply On.alloc)); first | exact On.refl w | exact on_of HB.out)⟩
set_option maxRecDepth 100000 in
set_option maxHeartbeats 4000000 in
theorem num_true_3 (x : BitVec 32) (w : World) (h3 : fi x 14 12 = 3) :
    Calls Tryd.prog 26 #[.int .u32 (q x), .bool true] w fun e w' => e = .returned (numOf x true).val ∧ On w w' := by
  have HB := hb0 w
  go_enter Tryd.func26, Tryd.ntmps26
  go_wp2
  go_step3
  go_wp2_with (first | (go_at_call 19; refine (funct3_any _ _).mono ?_; rintro e wn ⟨rfl, h⟩; replace HB := tr HB h; clear h) | (go_at_call 16; refine (rd_any _ _).mono ?_; rintro e wn ⟨rfl, h⟩; replace HB := tr HB h; clear h) | (go_at_call 17; refine (rs1_any _ _).mono ?_; rintro e wn ⟨rfl, h⟩; replace HB := tr HB h; clear h) | (go_at_call 23; refine (immI_any _ _).mono ?_; rintro e wn ⟨rfl, h⟩; replace HB := tr HB h; clear h) | (refine own_store w rfl rfl rfl rfl rfl (by simp [Value.oneCell']) ?_ ?_; focus ((repeat (first | exact heap_on HB.out | refine heap_past _ ?_ | refine heap_far ?_ (Nat.ne_of_gt HL.out) _)); done)))
  go_step3
  go_wp2_with (first | (go_at_call 19; refine (funct3_any _ _).mono ?_; rintro e wn ⟨rfl, h⟩; replace HB := tr HB h; clear h) | (go_at_call 16; refine (rd_any _ _).mono ?_; rintro e wn ⟨rfl, h⟩; replace HB := tr HB h; clear h) | (go_at_call 17; refine (rs1_any _ _).mono ?_; rintro e wn ⟨rfl, h⟩; replace HB := tr HB h; clear h) | (go_at_call 23; refine (immI_any _ _).mono ?_; rintro e wn ⟨rfl, h⟩; replace HB := tr HB h; clear h) | (refine own_store w rfl rfl rfl rfl rfl (by simp [Value.oneCell']) ?_ ?_; focus ((repeat (first | exact heap_on HB.out | refine heap_past _ ?_ | refine heap_far ?_ (Nat.ne_of_gt HL.out) _)); done)))
  rw [Exit.noGoto_ret]
  refine own_back w rfl rfl rfl rfl ?_ ?_; (focus ((repeat (first | exact heap_on HB.out | refine heap_past _ ?_ | refine heap_far ?_ (Nat.ne_of_gt HL.out) _)); done))
  exact ⟨by unfold numOf; (simp [h3, Ins.zero, Ins.val, u_nil]) <;> rfl, by ((repeat (first | apply On.rowO | refine On.setO ?_ HL.out | apply On.alloc)); first | exact On.refl w | exact on_of HB.out)⟩
set_option maxRecDepth 100000 in
set_option maxHeartbeats 4000000 in
theorem num_true_4 (x : BitVec 32) (w : World) (h3 : fi x 14 12 = 4) :
    Calls Tryd.prog 26 #[.int .u32 (q x), .bool true] w fun e w' => e = .returned (numOf x true).val ∧ On w w' := by
  have HB := hb0 w
  go_enter Tryd.func26, Tryd.ntmps26
  go_wp2
  go_step3
  go_wp2_with (first | (go_at_call 19; refine (funct3_any _ _).mono ?_; rintro e wn ⟨rfl, h⟩; replace HB := tr HB h; clear h) | (go_at_call 16; refine (rd_any _ _).mono ?_; rintro e wn ⟨rfl, h⟩; replace HB := tr HB h; clear h) | (go_at_call 17; refine (rs1_any _ _).mono ?_; rintro e wn ⟨rfl, h⟩; replace HB := tr HB h; clear h) | (go_at_call 23; refine (immI_any _ _).mono ?_; rintro e wn ⟨rfl, h⟩; replace HB := tr HB h; clear h) | (refine own_store w rfl rfl rfl rfl rfl (by simp [Value.oneCell']) ?_ ?_; focus ((repeat (first | exact heap_on HB.out | refine heap_past _ ?_ | refine heap_far ?_ (Nat.ne_of_gt HL.out) _)); done)))
  go_step3
  go_wp2_with (first | (go_at_call 19; refine (funct3_any _ _).mono ?_; rintro e wn ⟨rfl, h⟩; replace HB := tr HB h; clear h) | (go_at_call 16; refine (rd_any _ _).mono ?_; rintro e wn ⟨rfl, h⟩; replace HB := tr HB h; clear h) | (go_at_call 17; refine (rs1_any _ _).mono ?_; rintro e wn ⟨rfl, h⟩; replace HB := tr HB h; clear h) | (go_at_call 23; refine (immI_any _ _).mono ?_; rintro e wn ⟨rfl, h⟩; replace HB := tr HB h; clear h) | (refine own_store w rfl rfl rfl rfl rfl (by simp [Value.oneCell']) ?_ ?_; focus ((repeat (first | exact heap_on HB.out | refine heap_past _ ?_ | refine heap_far ?_ (Nat.ne_of_gt HL.out) _)); done)))
  rw [Exit.noGoto_ret]
  refine own_back w rfl rfl rfl rfl ?_ ?_; (focus ((repeat (first | exact heap_on HB.out | refine heap_past _ ?_ | refine heap_far ?_ (Nat.ne_of_gt HL.out) _)); done))
  exact ⟨by unfold numOf; (simp [h3, Ins.zero, Ins.val, u_nil]) <;> rfl, by ((repeat (first | apply On.rowO | refine On.setO ?_ HL.out | apply On.alloc)); first | exact On.refl w | exact on_of HB.out)⟩
set_option maxRecDepth 100000 in
set_option maxHeartbeats 4000000 in
theorem num_true_6 (x : BitVec 32) (w : World) (h3 : fi x 14 12 = 6) :
    Calls Tryd.prog 26 #[.int .u32 (q x), .bool true] w fun e w' => e = .returned (numOf x true).val ∧ On w w' := by
  have HB := hb0 w
  go_enter Tryd.func26, Tryd.ntmps26
  go_wp2
  go_step3
  go_wp2_with (first | (go_at_call 19; refine (funct3_any _ _).mono ?_; rintro e wn ⟨rfl, h⟩; replace HB := tr HB h; clear h) | (go_at_call 16; refine (rd_any _ _).mono ?_; rintro e wn ⟨rfl, h⟩; replace HB := tr HB h; clear h) | (go_at_call 17; refine (rs1_any _ _).mono ?_; rintro e wn ⟨rfl, h⟩; replace HB := tr HB h; clear h) | (go_at_call 23; refine (immI_any _ _).mono ?_; rintro e wn ⟨rfl, h⟩; replace HB := tr HB h; clear h) | (refine own_store w rfl rfl rfl rfl rfl (by simp [Value.oneCell']) ?_ ?_; focus ((repeat (first | exact heap_on HB.out | refine heap_past _ ?_ | refine heap_far ?_ (Nat.ne_of_gt HL.out) _)); done)))
  go_step3
  go_wp2_with (first | (go_at_call 19; refine (funct3_any _ _).mono ?_; rintro e wn ⟨rfl, h⟩; replace HB := tr HB h; clear h) | (go_at_call 16; refine (rd_any _ _).mono ?_; rintro e wn ⟨rfl, h⟩; replace HB := tr HB h; clear h) | (go_at_call 17; refine (rs1_any _ _).mono ?_; rintro e wn ⟨rfl, h⟩; replace HB := tr HB h; clear h) | (go_at_call 23; refine (immI_any _ _).mono ?_; rintro e wn ⟨rfl, h⟩; replace HB := tr HB h; clear h) | (refine own_store w rfl rfl rfl rfl rfl (by simp [Value.oneCell']) ?_ ?_; focus ((repeat (first | exact heap_on HB.out | refine heap_past _ ?_ | refine heap_far ?_ (Nat.ne_of_gt HL.out) _)); done)))
  rw [Exit.noGoto_ret]
  refine own_back w rfl rfl rfl rfl ?_ ?_; (focus ((repeat (first | exact heap_on HB.out | refine heap_past _ ?_ | refine heap_far ?_ (Nat.ne_of_gt HL.out) _)); done))
  exact ⟨by unfold numOf; (simp [h3, Ins.zero, Ins.val, u_nil]) <;> rfl, by ((repeat (first | apply On.rowO | refine On.setO ?_ HL.out | apply On.alloc)); first | exact On.refl w | exact on_of HB.out)⟩
set_option maxRecDepth 100000 in
set_option maxHeartbeats 4000000 in
theorem num_true_7 (x : BitVec 32) (w : World) (h3 : fi x 14 12 = 7) :
    Calls Tryd.prog 26 #[.int .u32 (q x), .bool true] w fun e w' => e = .returned (numOf x true).val ∧ On w w' := by
  have HB := hb0 w
  go_enter Tryd.func26, Tryd.ntmps26
  go_wp2
  go_step3
  go_wp2_with (first | (go_at_call 19; refine (funct3_any _ _).mono ?_; rintro e wn ⟨rfl, h⟩; replace HB := tr HB h; clear h) | (go_at_call 16; refine (rd_any _ _).mono ?_; rintro e wn ⟨rfl, h⟩; replace HB := tr HB h; clear h) | (go_at_call 17; refine (rs1_any _ _).mono ?_; rintro e wn ⟨rfl, h⟩; replace HB := tr HB h; clear h) | (go_at_call 23; refine (immI_any _ _).mono ?_; rintro e wn ⟨rfl, h⟩; replace HB := tr HB h; clear h) | (refine own_store w rfl rfl rfl rfl rfl (by simp [Value.oneCell']) ?_ ?_; focus ((repeat (first | exact heap_on HB.out | refine heap_past _ ?_ | refine heap_far ?_ (Nat.ne_of_gt HL.out) _)); done)))
  go_step3
  go_wp2_with (first | (go_at_call 19; refine (funct3_any _ _).mono ?_; rintro e wn ⟨rfl, h⟩; replace HB := tr HB h; clear h) | (go_at_call 16; refine (rd_any _ _).mono ?_; rintro e wn ⟨rfl, h⟩; replace HB := tr HB h; clear h) | (go_at_call 17; refine (rs1_any _ _).mono ?_; rintro e wn ⟨rfl, h⟩; replace HB := tr HB h; clear h) | (go_at_call 23; refine (immI_any _ _).mono ?_; rintro e wn ⟨rfl, h⟩; replace HB := tr HB h; clear h) | (refine own_store w rfl rfl rfl rfl rfl (by simp [Value.oneCell']) ?_ ?_; focus ((repeat (first | exact heap_on HB.out | refine heap_past _ ?_ | refine heap_far ?_ (Nat.ne_of_gt HL.out) _)); done)))
  rw [Exit.noGoto_ret]
  refine own_back w rfl rfl rfl rfl ?_ ?_; (focus ((repeat (first | exact heap_on HB.out | refine heap_past _ ?_ | refine heap_far ?_ (Nat.ne_of_gt HL.out) _)); done))
  exact ⟨by unfold numOf; (simp [h3, Ins.zero, Ins.val, u_nil]) <;> rfl, by ((repeat (first | apply On.rowO | refine On.setO ?_ HL.out | apply On.alloc)); first | exact On.refl w | exact on_of HB.out)⟩
set_option maxRecDepth 100000 in
set_option maxHeartbeats 4000000 in
theorem num_true_1z (x : BitVec 32) (w : World) (h3 : fi x 14 12 = 1) (HK : Hid (kindOf x true = 0)) :
    Calls Tryd.prog 26 #[.int .u32 (q x), .bool true] w fun e w' => e = .returned (numOf x true).val ∧ On w w' := by
  have e0 := imm_tmod x
  have HB := hb0 w
  have b0 : (kindOf x true == 0) = true := by rw [HK.out]; rfl
  have b1 : (kindOf x true == 32) = false := by rw [HK.out]; rfl
  go_enter Tryd.func26, Tryd.ntmps26
  go_wp2
  go_step3
  go_wp2_with (first | (go_at_call 19; refine (funct3_any _ _).mono ?_; rintro e wn ⟨rfl, h⟩; replace HB := tr HB h; clear h) | (go_at_call 16; refine (rd_any _ _).mono ?_; rintro e wn ⟨rfl, h⟩; replace HB := tr HB h; clear h) | (go_at_call 17; refine (rs1_any _ _).mono ?_; rintro e wn ⟨rfl, h⟩; replace HB := tr HB h; clear h) | (go_at_call 23; refine (immI_any _ _).mono ?_; rintro e wn ⟨rfl, h⟩; replace HB := tr HB h; clear h) | (refine own_store w rfl rfl rfl rfl rfl (by simp [Value.oneCell']) ?_ ?_; focus ((repeat (first | exact heap_on HB.out | refine heap_past _ ?_ | refine heap_far ?_ (Nat.ne_of_gt HL.out) _)); done)) | (go_at_call 40; refine (kind_any _ _ _).mono ?_; rintro e wm ⟨rfl, h⟩; obtain ⟨k0, k1, k2, k3, k4, k5, k6, k7, k8, k9, k10, kf, hlt⟩ := own11 h; have HL := Lib.hid (on_size HB.out); replace HB := tr1 HB h; clear h))
  go_step3
  go_wp2_with (first | (go_at_call 19; refine (funct3_any _ _).mono ?_; rintro e wn ⟨rfl, h⟩; replace HB := tr HB h; clear h) | (go_at_call 16; refine (rd_any _ _).mono ?_; rintro e wn ⟨rfl, h⟩; replace HB := tr HB h; clear h) | (go_at_call 17; refine (rs1_any _ _).mono ?_; rintro e wn ⟨rfl, h⟩; replace HB := tr HB h; clear h) | (go_at_call 23; refine (immI_any _ _).mono ?_; rintro e wn ⟨rfl, h⟩; replace HB := tr HB h; clear h) | (refine own_store w rfl rfl rfl rfl rfl (by simp [Value.oneCell']) ?_ ?_; focus ((repeat (first | exact heap_on HB.out | refine heap_past _ ?_ | refine heap_far ?_ (Nat.ne_of_gt HL.out) _)); done)) | (go_at_call 40; refine (kind_any _ _ _).mono ?_; rintro e wm ⟨rfl, h⟩; obtain ⟨k0, k1, k2, k3, k4, k5, k6, k7, k8, k9, k10, kf, hlt⟩ := own11 h; have HL := Lib.hid (on_size HB.out); replace HB := tr1 HB h; clear h))
  rw [Exit.noGoto_ret]
  refine own_back w rfl rfl rfl rfl ?_ ?_; (focus ((repeat (first | exact heap_on HB.out | refine heap_past _ ?_ | refine heap_far ?_ (Nat.ne_of_gt HL.out) _)); done))
  exact ⟨by unfold numOf; (simp [h3, HK.out, Ins.zero, Ins.val, u_nil]) <;> rfl, by ((repeat (first | apply On.rowO | refine On.setO ?_ HL.out | apply On.alloc)); first | exact On.refl w | exact on_of HB.out)⟩
set_option maxRecDepth 100000 in
set_option maxHeartbeats 4000000 in
theorem num_true_1s (x : BitVec 32) (w : World) (h3 : fi x 14 12 = 1) (HK : Hid (kindOf x true = 32)) :
    Calls Tryd.prog 26 #[.int .u32 (q x), .bool true] w fun e w' => e = .returned (numOf x true).val ∧ On w w' := by
  have e0 := imm_tmod x
  have HB := hb0 w
  have b0 : (kindOf x true == 0) = false := by rw [HK.out]; rfl
  have b1 : (kindOf x true == 32) = true := by rw [HK.out]; rfl
  go_enter Tryd.func26, Tryd.ntmps26
  go_wp2
  go_step3
  go_wp2_with (first | (go_at_call 19; refine (funct3_any _ _).mono ?_; rintro e wn ⟨rfl, h⟩; replace HB := tr HB h; clear h) | (go_at_call 16; refine (rd_any _ _).mono ?_; rintro e wn ⟨rfl, h⟩; replace HB := tr HB h; clear h) | (go_at_call 17; refine (rs1_any _ _).mono ?_; rintro e wn ⟨rfl, h⟩; replace HB := tr HB h; clear h) | (go_at_call 23; refine (immI_any _ _).mono ?_; rintro e wn ⟨rfl, h⟩; replace HB := tr HB h; clear h) | (refine own_store w rfl rfl rfl rfl rfl (by simp [Value.oneCell']) ?_ ?_; focus ((repeat (first | exact heap_on HB.out | refine heap_past _ ?_ | refine heap_far ?_ (Nat.ne_of_gt HL.out) _)); done)) | (go_at_call 40; refine (kind_any _ _ _).mono ?_; rintro e wm ⟨rfl, h⟩; obtain ⟨k0, k1, k2, k3, k4, k5, k6, k7, k8, k9, k10, kf, hlt⟩ := own11 h; have HL := Lib.hid (on_size HB.out); replace HB := tr1 HB h; clear h))
  go_step3
  go_wp2_with (first | (go_at_call 19; refine (funct3_any _ _).mono ?_; rintro e wn ⟨rfl, h⟩; replace HB := tr HB h; clear h) | (go_at_call 16; refine (rd_any _ _).mono ?_; rintro e wn ⟨rfl, h⟩; replace HB := tr HB h; clear h) | (go_at_call 17; refine (rs1_any _ _).mono ?_; rintro e wn ⟨rfl, h⟩; replace HB := tr HB h; clear h) | (go_at_call 23; refine (immI_any _ _).mono ?_; rintro e wn ⟨rfl, h⟩; replace HB := tr HB h; clear h) | (refine own_store w rfl rfl rfl rfl rfl (by simp [Value.oneCell']) ?_ ?_; focus ((repeat (first | exact heap_on HB.out | refine heap_past _ ?_ | refine heap_far ?_ (Nat.ne_of_gt HL.out) _)); done)) | (go_at_call 40; refine (kind_any _ _ _).mono ?_; rintro e wm ⟨rfl, h⟩; obtain ⟨k0, k1, k2, k3, k4, k5, k6, k7, k8, k9, k10, kf, hlt⟩ := own11 h; have HL := Lib.hid (on_size HB.out); replace HB := tr1 HB h; clear h))
  rw [Exit.noGoto_ret]
  refine own_back w rfl rfl rfl rfl ?_ ?_; (focus ((repeat (first | exact heap_on HB.out | refine heap_past _ ?_ | refine heap_far ?_ (Nat.ne_of_gt HL.out) _)); done))
  exact ⟨by unfold numOf; (simp [h3, HK.out, Ins.zero, Ins.val, u_nil]) <;> rfl, by ((repeat (first | apply On.rowO | refine On.setO ?_ HL.out | apply On.alloc)); first | exact On.refl w | exact on_of HB.out)⟩
set_option maxRecDepth 100000 in
set_option maxHeartbeats 4000000 in
theorem num_true_1n (x : BitVec 32) (w : World) (h3 : fi x 14 12 = 1) (HK : Hid (¬ kindOf x true = 0 ∧ ¬ kindOf x true = 32)) :
    Calls Tryd.prog 26 #[.int .u32 (q x), .bool true] w fun e w' => e = .returned (numOf x true).val ∧ On w w' := by
  have e0 := imm_tmod x
  have HB := hb0 w
  have b0 : (kindOf x true == 0) = false := by simpa using HK.out.1
  have b1 : (kindOf x true == 32) = false := by simpa using HK.out.2
  go_enter Tryd.func26, Tryd.ntmps26
  go_wp2
  go_step3
  go_wp2_with (first | (go_at_call 19; refine (funct3_any _ _).mono ?_; rintro e wn ⟨rfl, h⟩; replace HB := tr HB h; clear h) | (go_at_call 16; refine (rd_any _ _).mono ?_; rintro e wn ⟨rfl, h⟩; replace HB := tr HB h; clear h) | (go_at_call 17; refine (rs1_any _ _).mono ?_; rintro e wn ⟨rfl, h⟩; replace HB := tr HB h; clear h) | (go_at_call 23; refine (immI_any _ _).mono ?_; rintro e wn ⟨rfl, h⟩; replace HB := tr HB h; clear h) | (refine own_store w rfl rfl rfl rfl rfl (by simp [Value.oneCell']) ?_ ?_; focus ((repeat (first | exact heap_on HB.out | refine heap_past _ ?_ | refine heap_far ?_ (Nat.ne_of_gt HL.out) _)); done)) | (go_at_call 40; refine (kind_any _ _ _).mono ?_; rintro e wm ⟨rfl, h⟩; obtain ⟨k0, k1, k2, k3, k4, k5, k6, k7, k8, k9, k10, kf, hlt⟩ := own11 h; have HL := Lib.hid (on_size HB.out); replace HB := tr1 HB h; clear h))
  go_step3
  go_wp2_with (first | (go_at_call 19; refine (funct3_any _ _).mono ?_; rintro e wn ⟨rfl, h⟩; replace HB := tr HB h; clear h) | (go_at_call 16; refine (rd_any _ _).mono ?_; rintro e wn ⟨rfl, h⟩; replace HB := tr HB h; clear h) | (go_at_call 17; refine (rs1_any _ _).mono ?_; rintro e wn ⟨rfl, h⟩; replace HB := tr HB h; clear h) | (go_at_call 23; refine (immI_any _ _).mono ?_; rintro e wn ⟨rfl, h⟩; replace HB := tr HB h; clear h) | (refine own_store w rfl rfl rfl rfl rfl (by simp [Value.oneCell']) ?_ ?_; focus ((repeat (first | exact heap_on HB.out | refine heap_past _ ?_ | refine heap_far ?_ (Nat.ne_of_gt HL.out) _)); done)) | (go_at_call 40; refine (kind_any _ _ _).mono ?_; rintro e wm ⟨rfl, h⟩; obtain ⟨k0, k1, k2, k3, k4, k5, k6, k7, k8, k9, k10, kf, hlt⟩ := own11 h; have HL := Lib.hid (on_size HB.out); replace HB := tr1 HB h; clear h))
  rw [Exit.noGoto_ret]
  refine own_back w rfl rfl rfl rfl ?_ ?_; (focus ((repeat (first | exact heap_on HB.out | refine heap_past _ ?_ | refine heap_far ?_ (Nat.ne_of_gt HL.out) _)); done))
  exact ⟨by unfold numOf; (simp [h3, HK.out, Ins.zero, Ins.val, u_nil]) <;> rfl, by ((repeat (first | apply On.rowO | refine On.setO ?_ HL.out | apply On.alloc)); first | exact On.refl w | exact on_of HB.out)⟩
set_option maxRecDepth 100000 in
set_option maxHeartbeats 4000000 in
theorem num_true_5z (x : BitVec 32) (w : World) (h3 : fi x 14 12 = 5) (HK : Hid (kindOf x true = 0)) :
    Calls Tryd.prog 26 #[.int .u32 (q x), .bool true] w fun e w' => e = .returned (numOf x true).val ∧ On w w' := by
  have e0 := imm_tmod x
  have HB := hb0 w
  have b0 : (kindOf x true == 0) = true := by rw [HK.out]; rfl
  have b1 : (kindOf x true == 32) = false := by rw [HK.out]; rfl
  go_enter Tryd.func26, Tryd.ntmps26
  go_wp2
  go_step3
  go_wp2_with (first | (go_at_call 19; refine (funct3_any _ _).mono ?_; rintro e wn ⟨rfl, h⟩; replace HB := tr HB h; clear h) | (go_at_call 16; refine (rd_any _ _).mono ?_; rintro e wn ⟨rfl, h⟩; replace HB := tr HB h; clear h) | (go_at_call 17; refine (rs1_any _ _).mono ?_; rintro e wn ⟨rfl, h⟩; replace HB := tr HB h; clear h) | (go_at_call 23; refine (immI_any _ _).mono ?_; rintro e wn ⟨rfl, h⟩; replace HB := tr HB h; clear h) | (refine own_store w rfl rfl rfl rfl rfl (by simp [Value.oneCell']) ?_ ?_; focus ((repeat (first | exact heap_on HB.out | refine heap_past _ ?_ | refine heap_far ?_ (Nat.ne_of_gt HL.out) _)); done)) | (go_at_call 40; refine (kind_any _ _ _).mono ?_; rintro e wm ⟨rfl, h⟩; obtain ⟨k0, k1, k2, k3, k4, k5, k6, k7, k8, k9, k10, kf, hlt⟩ := own11 h; have HL := Lib.hid (on_size HB.out); replace HB := tr1 HB h; clear h))
  go_step3
  go_wp2_with (first | (go_at_call 19; refine (funct3_any _ _).mono ?_; rintro e wn ⟨rfl, h⟩; replace HB := tr HB h; clear h) | (go_at_call 16; refine (rd_any _ _).mono ?_; rintro e wn ⟨rfl, h⟩; replace HB := tr HB h; clear h) | (go_at_call 17; refine (rs1_any _ _).mono ?_; rintro e wn ⟨rfl, h⟩; replace HB := tr HB h; clear h) | (go_at_call 23; refine (immI_any _ _).mono ?_; rintro e wn ⟨rfl, h⟩; replace HB := tr HB h; clear h) | (refine own_store w rfl rfl rfl rfl rfl (by simp [Value.oneCell']) ?_ ?_; focus ((repeat (first | exact heap_on HB.out | refine heap_past _ ?_ | refine heap_far ?_ (Nat.ne_of_gt HL.out) _)); done)) | (go_at_call 40; refine (kind_any _ _ _).mono ?_; rintro e wm ⟨rfl, h⟩; obtain ⟨k0, k1, k2, k3, k4, k5, k6, k7, k8, k9, k10, kf, hlt⟩ := own11 h; have HL := Lib.hid (on_size HB.out); replace HB := tr1 HB h; clear h))
  rw [Exit.noGoto_ret]
  refine own_back w rfl rfl rfl rfl ?_ ?_; (focus ((repeat (first | exact heap_on HB.out | refine heap_past _ ?_ | refine heap_far ?_ (Nat.ne_of_gt HL.out) _)); done))
  exact ⟨by unfold numOf; (simp [h3, HK.out, Ins.zero, Ins.val, u_nil]) <;> rfl, by ((repeat (first | apply On.rowO | refine On.setO ?_ HL.out | apply On.alloc)); first | exact On.refl w | exact on_of HB.out)⟩
set_option maxRecDepth 100000 in
set_option maxHeartbeats 4000000 in
theorem num_true_5s (x : BitVec 32) (w : World) (h3 : fi x 14 12 = 5) (HK : Hid (kindOf x true = 32)) :
    Calls Tryd.prog 26 #[.int .u32 (q x), .bool true] w fun e w' => e = .returned (numOf x true).val ∧ On w w' := by
  have e0 := imm_tmod x
  have HB := hb0 w
  have b0 : (kindOf x true == 0) = false := by rw [HK.out]; rfl
  have b1 : (kindOf x true == 32) = true := by rw [HK.out]; rfl
  go_enter Tryd.func26, Tryd.ntmps26
  go_wp2
  go_step3
  go_wp2_with (first | (go_at_call 19; refine (funct3_any _ _).mono ?_; rintro e wn ⟨rfl, h⟩; replace HB := tr HB h; clear h) | (go_at_call 16; refine (rd_any _ _).mono ?_; rintro e wn ⟨rfl, h⟩; replace HB := tr HB h; clear h) | (go_at_call 17; refine (rs1_any _ _).mono ?_; rintro e wn ⟨rfl, h⟩; replace HB := tr HB h; clear h) | (go_at_call 23; refine (immI_any _ _).mono ?_; rintro e wn ⟨rfl, h⟩; replace HB := tr HB h; clear h) | (refine own_store w rfl rfl rfl rfl rfl (by simp [Value.oneCell']) ?_ ?_; focus ((repeat (first | exact heap_on HB.out | refine heap_past _ ?_ | refine heap_far ?_ (Nat.ne_of_gt HL.out) _)); done)) | (go_at_call 40; refine (kind_any _ _ _).mono ?_; rintro e wm ⟨rfl, h⟩; obtain ⟨k0, k1, k2, k3, k4, k5, k6, k7, k8, k9, k10, kf, hlt⟩ := own11 h; have HL := Lib.hid (on_size HB.out); replace HB := tr1 HB h; clear h))
  go_step3
  go_wp2_with (first | (go_at_call 19; refine (funct3_any _ _).mono ?_; rintro e wn ⟨rfl, h⟩; replace HB := tr HB h; clear h) | (go_at_call 16; refine (rd_any _ _).mono ?_; rintro e wn ⟨rfl, h⟩; replace HB := tr HB h; clear h) | (go_at_call 17; refine (rs1_any _ _).mono ?_; rintro e wn ⟨rfl, h⟩; replace HB := tr HB h; clear h) | (go_at_call 23; refine (immI_any _ _).mono ?_; rintro e wn ⟨rfl, h⟩; replace HB := tr HB h; clear h) | (refine own_store w rfl rfl rfl rfl rfl (by simp [Value.oneCell']) ?_ ?_; focus ((repeat (first | exact heap_on HB.out | refine heap_past _ ?_ | refine heap_far ?_ (Nat.ne_of_gt HL.out) _)); done)) | (go_at_call 40; refine (kind_any _ _ _).mono ?_; rintro e wm ⟨rfl, h⟩; obtain ⟨k0, k1, k2, k3, k4, k5, k6, k7, k8, k9, k10, kf, hlt⟩ := own11 h; have HL := Lib.hid (on_size HB.out); replace HB := tr1 HB h; clear h))
  rw [Exit.noGoto_ret]
  refine own_back w rfl rfl rfl rfl ?_ ?_; (focus ((repeat (first | exact heap_on HB.out | refine heap_past _ ?_ | refine heap_far ?_ (Nat.ne_of_gt HL.out) _)); done))
  exact ⟨by unfold numOf; (simp [h3, HK.out, Ins.zero, Ins.val, u_nil]) <;> rfl, by ((repeat (first | apply On.rowO | refine On.setO ?_ HL.out | apply On.alloc)); first | exact On.refl w | exact on_of HB.out)⟩
set_option maxRecDepth 100000 in
set_option maxHeartbeats 4000000 in
theorem num_true_5n (x : BitVec 32) (w : World) (h3 : fi x 14 12 = 5) (HK : Hid (¬ kindOf x true = 0 ∧ ¬ kindOf x true = 32)) :
    Calls Tryd.prog 26 #[.int .u32 (q x), .bool true] w fun e w' => e = .returned (numOf x true).val ∧ On w w' := by
  have e0 := imm_tmod x
  have HB := hb0 w
  have b0 : (kindOf x true == 0) = false := by simpa using HK.out.1
  have b1 : (kindOf x true == 32) = false := by simpa using HK.out.2
  go_enter Tryd.func26, Tryd.ntmps26
  go_wp2
  go_step3
  go_wp2_with (first | (go_at_call 19; refine (funct3_any _ _).mono ?_; rintro e wn ⟨rfl, h⟩; replace HB := tr HB h; clear h) | (go_at_call 16; refine (rd_any _ _).mono ?_; rintro e wn ⟨rfl, h⟩; replace HB := tr HB h; clear h) | (go_at_call 17; refine (rs1_any _ _).mono ?_; rintro e wn ⟨rfl, h⟩; replace HB := tr HB h; clear h) | (go_at_call 23; refine (immI_any _ _).mono ?_; rintro e wn ⟨rfl, h⟩; replace HB := tr HB h; clear h) | (refine own_store w rfl rfl rfl rfl rfl (by simp [Value.oneCell']) ?_ ?_; focus ((repeat (first | exact heap_on HB.out | refine heap_past _ ?_ | refine heap_far ?_ (Nat.ne_of_gt HL.out) _)); done)) | (go_at_call 40; refine (kind_any _ _ _).mono ?_; rintro e wm ⟨rfl, h⟩; obtain ⟨k0, k1, k2, k3, k4, k5, k6, k7, k8, k9, k10, kf, hlt⟩ := own11 h; have HL := Lib.hid (on_size HB.out); replace HB := tr1 HB h; clear h))
  go_step3
  go_wp2_with (first | (go_at_call 19; refine (funct3_any _ _).mono ?_; rintro e wn ⟨rfl, h⟩; replace HB := tr HB h; clear h) | (go_at_call 16; refine (rd_any _ _).mono ?_; rintro e wn ⟨rfl, h⟩; replace HB := tr HB h; clear h) | (go_at_call 17; refine (rs1_any _ _).mono ?_; rintro e wn ⟨rfl, h⟩; replace HB := tr HB h; clear h) | (go_at_call 23; refine (immI_any _ _).mono ?_; rintro e wn ⟨rfl, h⟩; replace HB := tr HB h; clear h) | (refine own_store w rfl rfl rfl rfl rfl (by simp [Value.oneCell']) ?_ ?_; focus ((repeat (first | exact heap_on HB.out | refine heap_past _ ?_ | refine heap_far ?_ (Nat.ne_of_gt HL.out) _)); done)) | (go_at_call 40; refine (kind_any _ _ _).mono ?_; rintro e wm ⟨rfl, h⟩; obtain ⟨k0, k1, k2, k3, k4, k5, k6, k7, k8, k9, k10, kf, hlt⟩ := own11 h; have HL := Lib.hid (on_size HB.out); replace HB := tr1 HB h; clear h))
  rw [Exit.noGoto_ret]
  refine own_back w rfl rfl rfl rfl ?_ ?_; (focus ((repeat (first | exact heap_on HB.out | refine heap_past _ ?_ | refine heap_far ?_ (Nat.ne_of_gt HL.out) _)); done))
  exact ⟨by unfold numOf; (simp [h3, HK.out, Ins.zero, Ins.val, u_nil]) <;> rfl, by ((repeat (first | apply On.rowO | refine On.setO ?_ HL.out | apply On.alloc)); first | exact On.refl w | exact on_of HB.out)⟩
theorem num_true_any (x : BitVec 32) (w : World) :
    Calls Tryd.prog 26 #[.int .u32 (q x), .bool true] w fun e w' => e = .returned (numOf x true).val ∧ On w w' := by
  rcases f3_cases x with h3 | h3 | h3 | h3 | h3 | h3 | h3 | h3
  · exact num_true_0 x w h3
  · by_cases c : kindOf x true = 0
    · exact num_true_1z x w h3 (Lib.hid c)
    by_cases d : kindOf x true = 32
    · exact num_true_1s x w h3 (Lib.hid d)
    · exact num_true_1n x w h3 (Lib.hid ⟨c, d⟩)
  · exact num_true_2 x w h3
  · exact num_true_3 x w h3
  · exact num_true_4 x w h3
  · by_cases c : kindOf x true = 0
    · exact num_true_5z x w h3 (Lib.hid c)
    by_cases d : kindOf x true = 32
    · exact num_true_5s x w h3 (Lib.hid d)
    · exact num_true_5n x w h3 (Lib.hid ⟨c, d⟩)
  · exact num_true_6 x w h3
  · exact num_true_7 x w h3
end Go.Proofs.YtjnalgilkdoalaaDoor
