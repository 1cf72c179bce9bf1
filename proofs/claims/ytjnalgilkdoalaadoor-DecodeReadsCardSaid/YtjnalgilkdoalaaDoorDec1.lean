/- What the rows of opcode 73 come to. Conditions: named at each. -/
import Derived.Test.YtjnalgilkdoalaaDoorDec0
import Derived.Deep.RegionWith
namespace Go.Proofs.YtjnalgilkdoalaaDoor
open Go.RowKit
set_option linter.unusedSimpArgs false

set_option maxRecDepth 100000 in
set_option maxHeartbeats 4000000 in
theorem sys_w0 (x : BitVec 32) (w : World) (h3 : fi x 14 12 = 0) (C : Hid (q x = 115)) :
    Calls Tryd.prog 29 #[.int .u32 (q x)] w fun e w' => e = .returned (sysOf x).val ∧ On w w' := by
  have e0 := q_shr20 x
  have e1 := fi_wrap x 31 20
  have HB := hb0 w
  have b0 : (q x == 115) = true := by rw [C.out]; rfl
  have b1 : (q x == 1048691) = false := by rw [C.out]; rfl
  have b2 : (q x == 270532723) = false := by rw [C.out]; rfl
  have b3 : (q x == 807403635) = false := by rw [C.out]; rfl
  have b4 : (q x == 273678451) = false := by rw [C.out]; rfl
  go_enter Tryd.func29, Tryd.ntmps29
  go_wp2_with (first | (go_at_call 19; refine (funct3_any _ _).mono ?_; rintro e wn ⟨rfl, h⟩; replace HB := tr HB h; clear h) | (go_at_call 16; refine (rd_any _ _).mono ?_; rintro e wn ⟨rfl, h⟩; replace HB := tr HB h; clear h) | (go_at_call 17; refine (rs1_any _ _).mono ?_; rintro e wn ⟨rfl, h⟩; replace HB := tr HB h; clear h) | (refine own_store w rfl rfl rfl rfl rfl (by simp [Value.oneCell']) ?_ ?_; focus ((repeat (first | exact heap_on HB.out | refine heap_past _ ?_ | refine heap_far ?_ (Nat.ne_of_gt HL.out) _)); done)))
  refine own_back w rfl rfl rfl rfl ?_ ?_; (focus ((repeat (first | exact heap_on HB.out | refine heap_past _ ?_ | refine heap_far ?_ (Nat.ne_of_gt HL.out) _)); done))
  exact ⟨by unfold sysOf; (simp [h3, C.out, Ins.val, u_nil]) <;> rfl, by ((repeat (first | apply On.rowO | refine On.setO ?_ HL.out | apply On.alloc)); first | exact On.refl w | exact on_of HB.out)⟩
set_option maxRecDepth 100000 in
set_option maxHeartbeats 4000000 in
theorem sys_w1 (x : BitVec 32) (w : World) (h3 : fi x 14 12 = 0) (C : Hid (q x = 1048691)) :
    Calls Tryd.prog 29 #[.int .u32 (q x)] w fun e w' => e = .returned (sysOf x).val ∧ On w w' := by
  have e0 := q_shr20 x
  have e1 := fi_wrap x 31 20
  have HB := hb0 w
  have b0 : (q x == 115) = false := by rw [C.out]; rfl
  have b1 : (q x == 1048691) = true := by rw [C.out]; rfl
  have b2 : (q x == 270532723) = false := by rw [C.out]; rfl
  have b3 : (q x == 807403635) = false := by rw [C.out]; rfl
  have b4 : (q x == 273678451) = false := by rw [C.out]; rfl
  go_enter Tryd.func29, Tryd.ntmps29
  go_wp2_with (first | (go_at_call 19; refine (funct3_any _ _).mono ?_; rintro e wn ⟨rfl, h⟩; replace HB := tr HB h; clear h) | (go_at_call 16; refine (rd_any _ _).mono ?_; rintro e wn ⟨rfl, h⟩; replace HB := tr HB h; clear h) | (go_at_call 17; refine (rs1_any _ _).mono ?_; rintro e wn ⟨rfl, h⟩; replace HB := tr HB h; clear h) | (refine own_store w rfl rfl rfl rfl rfl (by simp [Value.oneCell']) ?_ ?_; focus ((repeat (first | exact heap_on HB.out | refine heap_past _ ?_ | refine heap_far ?_ (Nat.ne_of_gt HL.out) _)); done)))
  refine own_back w rfl rfl rfl rfl ?_ ?_; (focus ((repeat (first | exact heap_on HB.out | refine heap_past _ ?_ | refine heap_far ?_ (Nat.ne_of_gt HL.out) _)); done))
  exact ⟨by unfold sysOf; (simp [h3, C.out, Ins.val, u_nil]) <;> rfl, by ((repeat (first | apply On.rowO | refine On.setO ?_ HL.out | apply On.alloc)); first | exact On.refl w | exact on_of HB.out)⟩
set_option maxRecDepth 100000 in
set_option maxHeartbeats 4000000 in
theorem sys_w2 (x : BitVec 32) (w : World) (h3 : fi x 14 12 = 0) (C : Hid (q x = 270532723)) :
    Calls Tryd.prog 29 #[.int .u32 (q x)] w fun e w' => e = .returned (sysOf x).val ∧ On w w' := by
  have e0 := q_shr20 x
  have e1 := fi_wrap x 31 20
  have HB := hb0 w
  have b0 : (q x == 115) = false := by rw [C.out]; rfl
  have b1 : (q x == 1048691) = false := by rw [C.out]; rfl
  have b2 : (q x == 270532723) = true := by rw [C.out]; rfl
  have b3 : (q x == 807403635) = false := by rw [C.out]; rfl
  have b4 : (q x == 273678451) = false := by rw [C.out]; rfl
  go_enter Tryd.func29, Tryd.ntmps29
  go_wp2_with (first | (go_at_call 19; refine (funct3_any _ _).mono ?_; rintro e wn ⟨rfl, h⟩; replace HB := tr HB h; clear h) | (go_at_call 16; refine (rd_any _ _).mono ?_; rintro e wn ⟨rfl, h⟩; replace HB := tr HB h; clear h) | (go_at_call 17; refine (rs1_any _ _).mono ?_; rintro e wn ⟨rfl, h⟩; replace HB := tr HB h; clear h) | (refine own_store w rfl rfl rfl rfl rfl (by simp [Value.oneCell']) ?_ ?_; focus ((repeat (first | exact heap_on HB.out | refine heap_past _ ?_ | refine heap_far ?_ (Nat.ne_of_gt HL.out) _)); done)))
  refine own_back w rfl rfl rfl rfl ?_ ?_; (focus ((repeat (first | exact heap_on HB.out | refine heap_past _ ?_ | refine heap_far ?_ (Nat.ne_of_gt HL.out) _)); done))
  exact ⟨by unfold sysOf; (simp [h3, C.out, Ins.val, u_nil]) <;> rfl, by ((repeat (first | apply On.rowO | refine On.setO ?_ HL.out | apply On.alloc)); first | exact On.refl w | exact on_of HB.out)⟩
set_option maxRecDepth 100000 in
set_option maxHeartbeats 4000000 in
theorem sys_w3 (x : BitVec 32) (w : World) (h3 : fi x 14 12 = 0) (C : Hid (q x = 807403635)) :
    Calls Tryd.prog 29 #[.int .u32 (q x)] w fun e w' => e = .returned (sysOf x).val ∧ On w w' := by
  have e0 := q_shr20 x
  have e1 := fi_wrap x 31 20
  have HB := hb0 w
  have b0 : (q x == 115) = false := by rw [C.out]; rfl
  have b1 : (q x == 1048691) = false := by rw [C.out]; rfl
  have b2 : (q x == 270532723) = false := by rw [C.out]; rfl
  have b3 : (q x == 807403635) = true := by rw [C.out]; rfl
  have b4 : (q x == 273678451) = false := by rw [C.out]; rfl
  go_enter Tryd.func29, Tryd.ntmps29
  go_wp2_with (first | (go_at_call 19; refine (funct3_any _ _).mono ?_; rintro e wn ⟨rfl, h⟩; replace HB := tr HB h; clear h) | (go_at_call 16; refine (rd_any _ _).mono ?_; rintro e wn ⟨rfl, h⟩; replace HB := tr HB h; clear h) | (go_at_call 17; refine (rs1_any _ _).mono ?_; rintro e wn ⟨rfl, h⟩; replace HB := tr HB h; clear h) | (refine own_store w rfl rfl rfl rfl rfl (by simp [Value.oneCell']) ?_ ?_; focus ((repeat (first | exact heap_on HB.out | refine heap_past _ ?_ | refine heap_far ?_ (Nat.ne_of_gt HL.out) _)); done)))
  refine own_back w rfl rfl rfl rfl ?_ ?_; (focus ((repeat (first | exact heap_on HB.out | refine heap_past _ ?_ | refine heap_far ?_ (Nat.ne_of_gt HL.out) _)); done))
  exact ⟨by unfold sysOf; (simp [h3, C.out, Ins.val, u_nil]) <;> rfl, by ((repeat (first | apply On.rowO | refine On.setO ?_ HL.out | apply On.alloc)); first | exact On.refl w | exact on_of HB.out)⟩
set_option maxRecDepth 100000 in
set_option maxHeartbeats 4000000 in
theorem sys_w4 (x : BitVec 32) (w : World) (h3 : fi x 14 12 = 0) (C : Hid (q x = 273678451)) :
    Calls Tryd.prog 29 #[.int .u32 (q x)] w fun e w' => e = .returned (sysOf x).val ∧ On w w' := by
  have e0 := q_shr20 x
  have e1 := fi_wrap x 31 20
  have HB := hb0 w
  have b0 : (q x == 115) = false := by rw [C.out]; rfl
  have b1 : (q x == 1048691) = false := by rw [C.out]; rfl
  have b2 : (q x == 270532723) = false := by rw [C.out]; rfl
  have b3 : (q x == 807403635) = false := by rw [C.out]; rfl
  have b4 : (q x == 273678451) = true := by rw [C.out]; rfl
  go_enter Tryd.func29, Tryd.ntmps29
  go_wp2_with (first | (go_at_call 19; refine (funct3_any _ _).mono ?_; rintro e wn ⟨rfl, h⟩; replace HB := tr HB h; clear h) | (go_at_call 16; refine (rd_any _ _).mono ?_; rintro e wn ⟨rfl, h⟩; replace HB := tr HB h; clear h) | (go_at_call 17; refine (rs1_any _ _).mono ?_; rintro e wn ⟨rfl, h⟩; replace HB := tr HB h; clear h) | (refine own_store w rfl rfl rfl rfl rfl (by simp [Value.oneCell']) ?_ ?_; focus ((repeat (first | exact heap_on HB.out | refine heap_past _ ?_ | refine heap_far ?_ (Nat.ne_of_gt HL.out) _)); done)))
  refine own_back w rfl rfl rfl rfl ?_ ?_; (focus ((repeat (first | exact heap_on HB.out | refine heap_past _ ?_ | refine heap_far ?_ (Nat.ne_of_gt HL.out) _)); done))
  exact ⟨by unfold sysOf; (simp [h3, C.out, Ins.val, u_nil]) <;> rfl, by ((repeat (first | apply On.rowO | refine On.setO ?_ HL.out | apply On.alloc)); first | exact On.refl w | exact on_of HB.out)⟩
set_option maxRecDepth 100000 in
set_option maxHeartbeats 4000000 in
theorem sys_fence (x : BitVec 32) (w : World) (h3 : fi x 14 12 = 0) (B : Hid (¬ q x = 115 ∧ ¬ q x = 1048691 ∧ ¬ q x = 270532723 ∧ ¬ q x = 807403635 ∧ ¬ q x = 273678451)) (hd : fi x 11 7 = 0) (h7 : fi x 31 25 = 9) :
    Calls Tryd.prog 29 #[.int .u32 (q x)] w fun e w' => e = .returned (sysOf x).val ∧ On w w' := by
  have e0 := q_shr20 x
  have e1 := fi_wrap x 31 20
  have HB := hb0 w
  have b0 : (q x == 115) = false := by simpa using B.out.1
  have b1 : (q x == 1048691) = false := by simpa using B.out.2.1
  have b2 : (q x == 270532723) = false := by simpa using B.out.2.2.1
  have b3 : (q x == 807403635) = false := by simpa using B.out.2.2.2.1
  have b4 : (q x == 273678451) = false := by simpa using B.out.2.2.2.2
  go_enter Tryd.func29, Tryd.ntmps29
  go_wp2_with (first | (go_at_call 19; refine (funct3_any _ _).mono ?_; rintro e wn ⟨rfl, h⟩; replace HB := tr HB h; clear h) | (go_at_call 41; refine (funct7_any _ _).mono ?_; rintro e wm ⟨rfl, h⟩; obtain ⟨k0, k1, k2, k3, k4, k5, k6, k7, k8, k9, k10, kf, hlt⟩ := own11 h; have HL := Lib.hid (on_size HB.out); replace HB := tr1 HB h; clear h) | (go_at_call 16; refine (rd_any _ _).mono ?_; rintro e wn ⟨rfl, h⟩; replace HB := tr HB h; clear h) | (go_at_call 17; refine (rs1_any _ _).mono ?_; rintro e wn ⟨rfl, h⟩; replace HB := tr HB h; clear h) | (refine own_store w rfl rfl rfl rfl rfl (by simp [Value.oneCell']) ?_ ?_; focus ((repeat (first | exact heap_on HB.out | refine heap_past _ ?_ | refine heap_far ?_ (Nat.ne_of_gt HL.out) _)); done)))
  go_region_with (first | (go_at_call 19; refine (funct3_any _ _).mono ?_; rintro e wn ⟨rfl, h⟩; replace HB := tr HB h; clear h) | (go_at_call 41; refine (funct7_any _ _).mono ?_; rintro e wm ⟨rfl, h⟩; obtain ⟨k0, k1, k2, k3, k4, k5, k6, k7, k8, k9, k10, kf, hlt⟩ := own11 h; have HL := Lib.hid (on_size HB.out); replace HB := tr1 HB h; clear h) | (go_at_call 16; refine (rd_any _ _).mono ?_; rintro e wn ⟨rfl, h⟩; replace HB := tr HB h; clear h) | (go_at_call 17; refine (rs1_any _ _).mono ?_; rintro e wn ⟨rfl, h⟩; replace HB := tr HB h; clear h) | (refine own_store w rfl rfl rfl rfl rfl (by simp [Value.oneCell']) ?_ ?_; focus ((repeat (first | exact heap_on HB.out | refine heap_past _ ?_ | refine heap_far ?_ (Nat.ne_of_gt HL.out) _)); done)) | (first | (go_at_call 18; refine (rs2_any _ _).mono ?_; rintro e wx ⟨rfl, h⟩; have h11 := keep11 h hlt k0 k1 k2 k3 k4 k5 k6 k7 k8 k9 k10 kf; replace HB := tr HB h; clear h hlt k0 k1 k2 k3 k4 k5 k6 k7 k8 k9 k10 kf; obtain ⟨k0, k1, k2, k3, k4, k5, k6, k7, k8, k9, k10, kf, hlt⟩ := h11; obtain ⟨r0, r1, r2, r3, r4, r5, r6, r7, r8, r9, r10, rf, -⟩ := own11 HB.out) | (go_at_call 18; refine (rs2_any _ _).mono ?_; rintro e wx ⟨rfl, h⟩; have h11 := drew11 h hlt k0 k1 k2 k3 k4 k5 k6 k7 k8 k9 k10 kf; replace HB := trd HB h; clear h hlt k0 k1 k2 k3 k4 k5 k6 k7 k8 k9 k10 kf; obtain ⟨k0, k1, k2, k3, k4, k5, k6, k7, k8, k9, k10, kf, hlt⟩ := h11; obtain ⟨r0, r1, r2, r3, r4, r5, r6, r7, r8, r9, r10, rf, -⟩ := own11 HB.out)))
  all_goals (go_wp2; refine own_back11 w rfl rfl rfl (heap_on HB.out) ?_; exact ⟨by unfold sysOf; (simp [h3, B.out, hd, h7, Ins.val, u_nil]) <;> rfl, by (repeat (refine On.set ?_ _ _ (Nat.le_refl _))); exact on_of HB.out⟩)
set_option maxRecDepth 100000 in
set_option maxHeartbeats 4000000 in
theorem sys_no7 (x : BitVec 32) (w : World) (h3 : fi x 14 12 = 0) (B : Hid (¬ q x = 115 ∧ ¬ q x = 1048691 ∧ ¬ q x = 270532723 ∧ ¬ q x = 807403635 ∧ ¬ q x = 273678451)) (hd : fi x 11 7 = 0) (H7 : Hid (¬ fi x 31 25 = 9)) :
    Calls Tryd.prog 29 #[.int .u32 (q x)] w fun e w' => e = .returned (sysOf x).val ∧ On w w' := by
  have e0 := q_shr20 x
  have e1 := fi_wrap x 31 20
  have HB := hb0 w
  have b0 : (q x == 115) = false := by simpa using B.out.1
  have b1 : (q x == 1048691) = false := by simpa using B.out.2.1
  have b2 : (q x == 270532723) = false := by simpa using B.out.2.2.1
  have b3 : (q x == 807403635) = false := by simpa using B.out.2.2.2.1
  have b4 : (q x == 273678451) = false := by simpa using B.out.2.2.2.2
  have b7 : (fi x 31 25 == 9) = false := by simpa using H7.out
  go_enter Tryd.func29, Tryd.ntmps29
  go_wp2_with (first | (go_at_call 19; refine (funct3_any _ _).mono ?_; rintro e wn ⟨rfl, h⟩; replace HB := tr HB h; clear h) | (go_at_call 41; refine (funct7_any _ _).mono ?_; rintro e wm ⟨rfl, h⟩; obtain ⟨k0, k1, k2, k3, k4, k5, k6, k7, k8, k9, k10, kf, hlt⟩ := own11 h; have HL := Lib.hid (on_size HB.out); replace HB := tr1 HB h; clear h) | (go_at_call 16; refine (rd_any _ _).mono ?_; rintro e wn ⟨rfl, h⟩; replace HB := tr HB h; clear h) | (go_at_call 17; refine (rs1_any _ _).mono ?_; rintro e wn ⟨rfl, h⟩; replace HB := tr HB h; clear h) | (refine own_store w rfl rfl rfl rfl rfl (by simp [Value.oneCell']) ?_ ?_; focus ((repeat (first | exact heap_on HB.out | refine heap_past _ ?_ | refine heap_far ?_ (Nat.ne_of_gt HL.out) _)); done)))
  refine own_back w rfl rfl rfl rfl ?_ ?_; (focus ((repeat (first | exact heap_on HB.out | refine heap_past _ ?_ | refine heap_far ?_ (Nat.ne_of_gt HL.out) _)); done))
  exact ⟨by unfold sysOf; (simp [h3, B.out, hd, H7.out, Ins.zero, Ins.val, u_nil]) <;> rfl, by ((repeat (first | apply On.rowO | refine On.setO ?_ HL.out | apply On.alloc)); first | exact On.refl w | exact on_of HB.out)⟩
set_option maxRecDepth 100000 in
set_option maxHeartbeats 4000000 in
theorem sys_nod (x : BitVec 32) (w : World) (h3 : fi x 14 12 = 0) (B : Hid (¬ q x = 115 ∧ ¬ q x = 1048691 ∧ ¬ q x = 270532723 ∧ ¬ q x = 807403635 ∧ ¬ q x = 273678451)) (HD : Hid (¬ fi x 11 7 = 0)) :
    Calls Tryd.prog 29 #[.int .u32 (q x)] w fun e w' => e = .returned (sysOf x).val ∧ On w w' := by
  have e0 := q_shr20 x
  have e1 := fi_wrap x 31 20
  have HB := hb0 w
  have b0 : (q x == 115) = false := by simpa using B.out.1
  have b1 : (q x == 1048691) = false := by simpa using B.out.2.1
  have b2 : (q x == 270532723) = false := by simpa using B.out.2.2.1
  have b3 : (q x == 807403635) = false := by simpa using B.out.2.2.2.1
  have b4 : (q x == 273678451) = false := by simpa using B.out.2.2.2.2
  have bd : (fi x 11 7 == 0) = false := by simpa using HD.out
  go_enter Tryd.func29, Tryd.ntmps29
  go_wp2_with (first | (go_at_call 19; refine (funct3_any _ _).mono ?_; rintro e wn ⟨rfl, h⟩; replace HB := tr HB h; clear h) | (go_at_call 41; refine (funct7_any _ _).mono ?_; rintro e wm ⟨rfl, h⟩; obtain ⟨k0, k1, k2, k3, k4, k5, k6, k7, k8, k9, k10, kf, hlt⟩ := own11 h; have HL := Lib.hid (on_size HB.out); replace HB := tr1 HB h; clear h) | (go_at_call 16; refine (rd_any _ _).mono ?_; rintro e wn ⟨rfl, h⟩; replace HB := tr HB h; clear h) | (go_at_call 17; refine (rs1_any _ _).mono ?_; rintro e wn ⟨rfl, h⟩; replace HB := tr HB h; clear h) | (refine own_store w rfl rfl rfl rfl rfl (by simp [Value.oneCell']) ?_ ?_; focus ((repeat (first | exact heap_on HB.out | refine heap_past _ ?_ | refine heap_far ?_ (Nat.ne_of_gt HL.out) _)); done)))
  refine own_back w rfl rfl rfl rfl ?_ ?_; (focus ((repeat (first | exact heap_on HB.out | refine heap_past _ ?_ | refine heap_far ?_ (Nat.ne_of_gt HL.out) _)); done))
  exact ⟨by unfold sysOf; (simp [h3, B.out, HD.out, Ins.zero, Ins.val, u_nil]) <;> rfl, by ((repeat (first | apply On.rowO | refine On.setO ?_ HL.out | apply On.alloc)); first | exact On.refl w | exact on_of HB.out)⟩
set_option maxRecDepth 100000 in
set_option maxHeartbeats 4000000 in
theorem sys_1 (x : BitVec 32) (w : World) (h3 : fi x 14 12 = 1) :
    Calls Tryd.prog 29 #[.int .u32 (q x)] w fun e w' => e = .returned (sysOf x).val ∧ On w w' := by
  have e0 := q_shr20 x
  have e1 := fi_wrap x 31 20
  have HB := hb0 w
  go_enter Tryd.func29, Tryd.ntmps29
  go_wp2_with (first | (go_at_call 19; refine (funct3_any _ _).mono ?_; rintro e wn ⟨rfl, h⟩; replace HB := tr HB h; clear h) | (go_at_call 16; refine (rd_any _ _).mono ?_; rintro e wn ⟨rfl, h⟩; replace HB := tr HB h; clear h) | (go_at_call 17; refine (rs1_any _ _).mono ?_; rintro e wn ⟨rfl, h⟩; replace HB := tr HB h; clear h) | (refine own_store w rfl rfl rfl rfl rfl (by simp [Value.oneCell']) ?_ ?_; focus ((repeat (first | exact heap_on HB.out | refine heap_past _ ?_ | refine heap_far ?_ (Nat.ne_of_gt HL.out) _)); done)))
  refine own_back w rfl rfl rfl rfl ?_ ?_; (focus ((repeat (first | exact heap_on HB.out | refine heap_past _ ?_ | refine heap_far ?_ (Nat.ne_of_gt HL.out) _)); done))
  exact ⟨by unfold sysOf; (simp [h3, Ins.zero, Ins.val, u_nil]) <;> rfl, by ((repeat (first | apply On.rowO | refine On.setO ?_ HL.out | apply On.alloc)); first | exact On.refl w | exact on_of HB.out)⟩
set_option maxRecDepth 100000 in
set_option maxHeartbeats 4000000 in
theorem sys_2 (x : BitVec 32) (w : World) (h3 : fi x 14 12 = 2) :
    Calls Tryd.prog 29 #[.int .u32 (q x)] w fun e w' => e = .returned (sysOf x).val ∧ On w w' := by
  have e0 := q_shr20 x
  have e1 := fi_wrap x 31 20
  have HB := hb0 w
  go_enter Tryd.func29, Tryd.ntmps29
  go_wp2_with (first | (go_at_call 19; refine (funct3_any _ _).mono ?_; rintro e wn ⟨rfl, h⟩; replace HB := tr HB h; clear h) | (go_at_call 16; refine (rd_any _ _).mono ?_; rintro e wn ⟨rfl, h⟩; replace HB := tr HB h; clear h) | (go_at_call 17; refine (rs1_any _ _).mono ?_; rintro e wn ⟨rfl, h⟩; replace HB := tr HB h; clear h) | (refine own_store w rfl rfl rfl rfl rfl (by simp [Value.oneCell']) ?_ ?_; focus ((repeat (first | exact heap_on HB.out | refine heap_past _ ?_ | refine heap_far ?_ (Nat.ne_of_gt HL.out) _)); done)))
  refine own_back w rfl rfl rfl rfl ?_ ?_; (focus ((repeat (first | exact heap_on HB.out | refine heap_past _ ?_ | refine heap_far ?_ (Nat.ne_of_gt HL.out) _)); done))
  exact ⟨by unfold sysOf; (simp [h3, Ins.zero, Ins.val, u_nil]) <;> rfl, by ((repeat (first | apply On.rowO | refine On.setO ?_ HL.out | apply On.alloc)); first | exact On.refl w | exact on_of HB.out)⟩
set_option maxRecDepth 100000 in
set_option maxHeartbeats 4000000 in
theorem sys_3 (x : BitVec 32) (w : World) (h3 : fi x 14 12 = 3) :
    Calls Tryd.prog 29 #[.int .u32 (q x)] w fun e w' => e = .returned (sysOf x).val ∧ On w w' := by
  have e0 := q_shr20 x
  have e1 := fi_wrap x 31 20
  have HB := hb0 w
  go_enter Tryd.func29, Tryd.ntmps29
  go_wp2_with (first | (go_at_call 19; refine (funct3_any _ _).mono ?_; rintro e wn ⟨rfl, h⟩; replace HB := tr HB h; clear h) | (go_at_call 16; refine (rd_any _ _).mono ?_; rintro e wn ⟨rfl, h⟩; replace HB := tr HB h; clear h) | (go_at_call 17; refine (rs1_any _ _).mono ?_; rintro e wn ⟨rfl, h⟩; replace HB := tr HB h; clear h) | (refine own_store w rfl rfl rfl rfl rfl (by simp [Value.oneCell']) ?_ ?_; focus ((repeat (first | exact heap_on HB.out | refine heap_past _ ?_ | refine heap_far ?_ (Nat.ne_of_gt HL.out) _)); done)))
  refine own_back w rfl rfl rfl rfl ?_ ?_; (focus ((repeat (first | exact heap_on HB.out | refine heap_past _ ?_ | refine heap_far ?_ (Nat.ne_of_gt HL.out) _)); done))
  exact ⟨by unfold sysOf; (simp [h3, Ins.zero, Ins.val, u_nil]) <;> rfl, by ((repeat (first | apply On.rowO | refine On.setO ?_ HL.out | apply On.alloc)); first | exact On.refl w | exact on_of HB.out)⟩
set_option maxRecDepth 100000 in
set_option maxHeartbeats 4000000 in
theorem sys_4 (x : BitVec 32) (w : World) (h3 : fi x 14 12 = 4) :
    Calls Tryd.prog 29 #[.int .u32 (q x)] w fun e w' => e = .returned (sysOf x).val ∧ On w w' := by
  have e0 := q_shr20 x
  have e1 := fi_wrap x 31 20
  have HB := hb0 w
  go_enter Tryd.func29, Tryd.ntmps29
  go_wp2_with (first | (go_at_call 19; refine (funct3_any _ _).mono ?_; rintro e wn ⟨rfl, h⟩; replace HB := tr HB h; clear h) | (go_at_call 16; refine (rd_any _ _).mono ?_; rintro e wn ⟨rfl, h⟩; replace HB := tr HB h; clear h) | (go_at_call 17; refine (rs1_any _ _).mono ?_; rintro e wn ⟨rfl, h⟩; replace HB := tr HB h; clear h) | (refine own_store w rfl rfl rfl rfl rfl (by simp [Value.oneCell']) ?_ ?_; focus ((repeat (first | exact heap_on HB.out | refine heap_past _ ?_ | refine heap_far ?_ (Nat.ne_of_gt HL.out) _)); done)))
  refine own_back w rfl rfl rfl rfl ?_ ?_; (focus ((repeat (first | exact heap_on HB.out | refine heap_past _ ?_ | refine heap_far ?_ (Nat.ne_of_gt HL.out) _)); done))
  exact ⟨by unfold sysOf; (simp [h3, Ins.zero, Ins.val, u_nil]) <;> rfl, by ((repeat (first | apply On.rowO | refine On.setO ?_ HL.out | apply On.alloc)); first | exact On.refl w | exact on_of HB.out)⟩
set_option maxRecDepth 100000 in
set_option maxHeartbeats 4000000 in
theorem sys_5 (x : BitVec 32) (w : World) (h3 : fi x 14 12 = 5) :
    Calls Tryd.prog 29 #[.int .u32 (q x)] w fun e w' => e = .returned (sysOf x).val ∧ On w w' := by
  have e0 := q_shr20 x
  have e1 := fi_wrap x 31 20
  have HB := hb0 w
  go_enter Tryd.func29, Tryd.ntmps29
  go_wp2_with (first | (go_at_call 19; refine (funct3_any _ _).mono ?_; rintro e wn ⟨rfl, h⟩; replace HB := tr HB h; clear h) | (go_at_call 16; refine (rd_any _ _).mono ?_; rintro e wn ⟨rfl, h⟩; replace HB := tr HB h; clear h) | (go_at_call 17; refine (rs1_any _ _).mono ?_; rintro e wn ⟨rfl, h⟩; replace HB := tr HB h; clear h) | (refine own_store w rfl rfl rfl rfl rfl (by simp [Value.oneCell']) ?_ ?_; focus ((repeat (first | exact heap_on HB.out | refine heap_past _ ?_ | refine heap_far ?_ (Nat.ne_of_gt HL.out) _)); done)))
  refine own_back w rfl rfl rfl rfl ?_ ?_; (focus ((repeat (first | exact heap_on HB.out | refine heap_past _ ?_ | refine heap_far ?_ (Nat.ne_of_gt HL.out) _)); done))
  exact ⟨by unfold sysOf; (simp [h3, Ins.zero, Ins.val, u_nil]) <;> rfl, by ((repeat (first | apply On.rowO | refine On.setO ?_ HL.out | apply On.alloc)); first | exact On.refl w | exact on_of HB.out)⟩
set_option maxRecDepth 100000 in
set_option maxHeartbeats 4000000 in
theorem sys_6 (x : BitVec 32) (w : World) (h3 : fi x 14 12 = 6) :
    Calls Tryd.prog 29 #[.int .u32 (q x)] w fun e w' => e = .returned (sysOf x).val ∧ On w w' := by
  have e0 := q_shr20 x
  have e1 := fi_wrap x 31 20
  have HB := hb0 w
  go_enter Tryd.func29, Tryd.ntmps29
  go_wp2_with (first | (go_at_call 19; refine (funct3_any _ _).mono ?_; rintro e wn ⟨rfl, h⟩; replace HB := tr HB h; clear h) | (go_at_call 16; refine (rd_any _ _).mono ?_; rintro e wn ⟨rfl, h⟩; replace HB := tr HB h; clear h) | (go_at_call 17; refine (rs1_any _ _).mono ?_; rintro e wn ⟨rfl, h⟩; replace HB := tr HB h; clear h) | (refine own_store w rfl rfl rfl rfl rfl (by simp [Value.oneCell']) ?_ ?_; focus ((repeat (first | exact heap_on HB.out | refine heap_past _ ?_ | refine heap_far ?_ (Nat.ne_of_gt HL.out) _)); done)))
  refine own_back w rfl rfl rfl rfl ?_ ?_; (focus ((repeat (first | exact heap_on HB.out | refine heap_past _ ?_ | refine heap_far ?_ (Nat.ne_of_gt HL.out) _)); done))
  exact ⟨by unfold sysOf; (simp [h3, Ins.zero, Ins.val, u_nil]) <;> rfl, by ((repeat (first | apply On.rowO | refine On.setO ?_ HL.out | apply On.alloc)); first | exact On.refl w | exact on_of HB.out)⟩
set_option maxRecDepth 100000 in
set_option maxHeartbeats 4000000 in
theorem sys_7 (x : BitVec 32) (w : World) (h3 : fi x 14 12 = 7) :
    Calls Tryd.prog 29 #[.int .u32 (q x)] w fun e w' => e = .returned (sysOf x).val ∧ On w w' := by
  have e0 := q_shr20 x
  have e1 := fi_wrap x 31 20
  have HB := hb0 w
  go_enter Tryd.func29, Tryd.ntmps29
  go_wp2_with (first | (go_at_call 19; refine (funct3_any _ _).mono ?_; rintro e wn ⟨rfl, h⟩; replace HB := tr HB h; clear h) | (go_at_call 16; refine (rd_any _ _).mono ?_; rintro e wn ⟨rfl, h⟩; replace HB := tr HB h; clear h) | (go_at_call 17; refine (rs1_any _ _).mono ?_; rintro e wn ⟨rfl, h⟩; replace HB := tr HB h; clear h) | (refine own_store w rfl rfl rfl rfl rfl (by simp [Value.oneCell']) ?_ ?_; focus ((repeat (first | exact heap_on HB.out | refine heap_past _ ?_ | refine heap_far ?_ (Nat.ne_of_gt HL.out) _)); done)))
  refine own_back w rfl rfl rfl rfl ?_ ?_; (focus ((repeat (first | exact heap_on HB.out | refine heap_past _ ?_ | refine heap_far ?_ (Nat.ne_of_gt HL.out) _)); done))
  exact ⟨by unfold sysOf; (simp [h3, Ins.zero, Ins.val, u_nil]) <;> rfl, by ((repeat (first | apply On.rowO | refine On.setO ?_ HL.out | apply On.alloc)); first | exact On.refl w | exact on_of HB.out)⟩
theorem system_any (x : BitVec 32) (w : World) :
    Calls Tryd.prog 29 #[.int .u32 (q x)] w fun e w' => e = .returned (sysOf x).val ∧ On w w' := by
  rcases f3_cases x with h3 | h3 | h3 | h3 | h3 | h3 | h3 | h3
  · by_cases c0 : q x = 115
    · exact sys_w0 x w h3 (Lib.hid c0)
    by_cases c1 : q x = 1048691
    · exact sys_w1 x w h3 (Lib.hid c1)
    by_cases c2 : q x = 270532723
    · exact sys_w2 x w h3 (Lib.hid c2)
    by_cases c3 : q x = 807403635
    · exact sys_w3 x w h3 (Lib.hid c3)
    by_cases c4 : q x = 273678451
    · exact sys_w4 x w h3 (Lib.hid c4)
    by_cases hd : fi x 11 7 = 0
    · by_cases h7 : fi x 31 25 = 9
      · exact sys_fence x w h3 (Lib.hid ⟨c0, c1, c2, c3, c4⟩) hd h7
      · exact sys_no7 x w h3 (Lib.hid ⟨c0, c1, c2, c3, c4⟩) hd (Lib.hid h7)
    · exact sys_nod x w h3 (Lib.hid ⟨c0, c1, c2, c3, c4⟩) (Lib.hid hd)
  · exact sys_1 x w h3
  · exact sys_2 x w h3
  · exact sys_3 x w h3
  · exact sys_4 x w h3
  · exact sys_5 x w h3
  · exact sys_6 x w h3
  · exact sys_7 x w h3
end Go.Proofs.YtjnalgilkdoalaaDoor
