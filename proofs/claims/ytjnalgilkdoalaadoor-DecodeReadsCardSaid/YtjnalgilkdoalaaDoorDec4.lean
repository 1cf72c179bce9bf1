/- What the rows of opcode 2f come to. Conditions: named at each. -/
import Derived.Test.YtjnalgilkdoalaaDoorDec0
import Derived.WalkMore
namespace Go.Proofs.YtjnalgilkdoalaaDoor
open Go.RowKit
set_option linter.unusedSimpArgs false

set_option maxRecDepth 100000 in
set_option maxHeartbeats 4000000 in
theorem amo_0 (x : BitVec 32) (w : World) (h3 : fi x 14 12 = 0) :
    Calls Tryd.prog 28 #[.int .u32 (q x)] w fun e w' => e = .returned (amoOf x).val ∧ On w w' := by
  have HB := hb0 w
  go_enter Tryd.func28, Tryd.ntmps28
  go_wp2
  go_step3
  go_wp2_with (first | (go_at_call 16; refine (rd_any _ _).mono ?_; rintro e wn ⟨rfl, h⟩; replace HB := tr HB h; clear h) | (go_at_call 17; refine (rs1_any _ _).mono ?_; rintro e wn ⟨rfl, h⟩; replace HB := tr HB h; clear h) | (go_at_call 18; refine (rs2_any _ _).mono ?_; rintro e wn ⟨rfl, h⟩; replace HB := tr HB h; clear h) | (refine own_store w rfl rfl rfl rfl rfl (by simp [Value.oneCell']) ?_ ?_; focus ((repeat (first | exact heap_on HB.out | refine heap_past _ ?_ | refine heap_far ?_ (Nat.ne_of_gt HL.out) _)); done)) | (go_at_call 19; refine (funct3_any _ _).mono ?_; rintro e wm ⟨rfl, h⟩; obtain ⟨k0, k1, k2, k3, k4, k5, k6, k7, k8, k9, k10, kf, hlt⟩ := own11 h; have HL := Lib.hid (on_size HB.out); replace HB := tr1 HB h; clear h) | (go_at_call 41; refine (funct7_any _ _).mono ?_; rintro e wx ⟨rfl, h⟩; have h11 := put6 h hlt k0 k1 k2 k3 k4 k5 k6 k7 k8 k9 k10 kf; replace HB := trs HB HL h; clear h hlt k0 k1 k2 k3 k4 k5 k6 k7 k8 k9 k10 kf; obtain ⟨k0, k1, k2, k3, k4, k5, k6, k7, k8, k9, k10, kf, hlt⟩ := h11))
  go_step3
  go_wp2_with (first | (go_at_call 16; refine (rd_any _ _).mono ?_; rintro e wn ⟨rfl, h⟩; replace HB := tr HB h; clear h) | (go_at_call 17; refine (rs1_any _ _).mono ?_; rintro e wn ⟨rfl, h⟩; replace HB := tr HB h; clear h) | (go_at_call 18; refine (rs2_any _ _).mono ?_; rintro e wn ⟨rfl, h⟩; replace HB := tr HB h; clear h) | (refine own_store w rfl rfl rfl rfl rfl (by simp [Value.oneCell']) ?_ ?_; focus ((repeat (first | exact heap_on HB.out | refine heap_past _ ?_ | refine heap_far ?_ (Nat.ne_of_gt HL.out) _)); done)) | (go_at_call 19; refine (funct3_any _ _).mono ?_; rintro e wm ⟨rfl, h⟩; obtain ⟨k0, k1, k2, k3, k4, k5, k6, k7, k8, k9, k10, kf, hlt⟩ := own11 h; have HL := Lib.hid (on_size HB.out); replace HB := tr1 HB h; clear h) | (go_at_call 41; refine (funct7_any _ _).mono ?_; rintro e wx ⟨rfl, h⟩; have h11 := put6 h hlt k0 k1 k2 k3 k4 k5 k6 k7 k8 k9 k10 kf; replace HB := trs HB HL h; clear h hlt k0 k1 k2 k3 k4 k5 k6 k7 k8 k9 k10 kf; obtain ⟨k0, k1, k2, k3, k4, k5, k6, k7, k8, k9, k10, kf, hlt⟩ := h11))
  rw [Exit.noGoto_ret]
  refine own_back w rfl rfl rfl rfl ?_ ?_; (focus ((repeat (first | exact heap_on HB.out | refine heap_past _ ?_ | refine heap_far ?_ (Nat.ne_of_gt HL.out) _)); done))
  exact ⟨by unfold amoOf; (simp [h3, Ins.zero, Ins.val, u_nil]) <;> rfl, by ((repeat (first | apply On.rowO | refine On.setO ?_ HL.out | apply On.alloc)); first | exact On.refl w | exact on_of HB.out)⟩
set_option maxRecDepth 100000 in
set_option maxHeartbeats 4000000 in
theorem amo_1 (x : BitVec 32) (w : World) (h3 : fi x 14 12 = 1) :
    Calls Tryd.prog 28 #[.int .u32 (q x)] w fun e w' => e = .returned (amoOf x).val ∧ On w w' := by
  have HB := hb0 w
  go_enter Tryd.func28, Tryd.ntmps28
  go_wp2
  go_step3
  go_wp2_with (first | (go_at_call 16; refine (rd_any _ _).mono ?_; rintro e wn ⟨rfl, h⟩; replace HB := tr HB h; clear h) | (go_at_call 17; refine (rs1_any _ _).mono ?_; rintro e wn ⟨rfl, h⟩; replace HB := tr HB h; clear h) | (go_at_call 18; refine (rs2_any _ _).mono ?_; rintro e wn ⟨rfl, h⟩; replace HB := tr HB h; clear h) | (refine own_store w rfl rfl rfl rfl rfl (by simp [Value.oneCell']) ?_ ?_; focus ((repeat (first | exact heap_on HB.out | refine heap_past _ ?_ | refine heap_far ?_ (Nat.ne_of_gt HL.out) _)); done)) | (go_at_call 19; refine (funct3_any _ _).mono ?_; rintro e wm ⟨rfl, h⟩; obtain ⟨k0, k1, k2, k3, k4, k5, k6, k7, k8, k9, k10, kf, hlt⟩ := own11 h; have HL := Lib.hid (on_size HB.out); replace HB := tr1 HB h; clear h) | (go_at_call 41; refine (funct7_any _ _).mono ?_; rintro e wx ⟨rfl, h⟩; have h11 := put6 h hlt k0 k1 k2 k3 k4 k5 k6 k7 k8 k9 k10 kf; replace HB := trs HB HL h; clear h hlt k0 k1 k2 k3 k4 k5 k6 k7 k8 k9 k10 kf; obtain ⟨k0, k1, k2, k3, k4, k5, k6, k7, k8, k9, k10, kf, hlt⟩ := h11))
  go_step3
  go_wp2_with (first | (go_at_call 16; refine (rd_any _ _).mono ?_; rintro e wn ⟨rfl, h⟩; replace HB := tr HB h; clear h) | (go_at_call 17; refine (rs1_any _ _).mono ?_; rintro e wn ⟨rfl, h⟩; replace HB := tr HB h; clear h) | (go_at_call 18; refine (rs2_any _ _).mono ?_; rintro e wn ⟨rfl, h⟩; replace HB := tr HB h; clear h) | (refine own_store w rfl rfl rfl rfl rfl (by simp [Value.oneCell']) ?_ ?_; focus ((repeat (first | exact heap_on HB.out | refine heap_past _ ?_ | refine heap_far ?_ (Nat.ne_of_gt HL.out) _)); done)) | (go_at_call 19; refine (funct3_any _ _).mono ?_; rintro e wm ⟨rfl, h⟩; obtain ⟨k0, k1, k2, k3, k4, k5, k6, k7, k8, k9, k10, kf, hlt⟩ := own11 h; have HL := Lib.hid (on_size HB.out); replace HB := tr1 HB h; clear h) | (go_at_call 41; refine (funct7_any _ _).mono ?_; rintro e wx ⟨rfl, h⟩; have h11 := put6 h hlt k0 k1 k2 k3 k4 k5 k6 k7 k8 k9 k10 kf; replace HB := trs HB HL h; clear h hlt k0 k1 k2 k3 k4 k5 k6 k7 k8 k9 k10 kf; obtain ⟨k0, k1, k2, k3, k4, k5, k6, k7, k8, k9, k10, kf, hlt⟩ := h11))
  rw [Exit.noGoto_ret]
  refine own_back w rfl rfl rfl rfl ?_ ?_; (focus ((repeat (first | exact heap_on HB.out | refine heap_past _ ?_ | refine heap_far ?_ (Nat.ne_of_gt HL.out) _)); done))
  exact ⟨by unfold amoOf; (simp [h3, Ins.zero, Ins.val, u_nil]) <;> rfl, by ((repeat (first | apply On.rowO | refine On.setO ?_ HL.out | apply On.alloc)); first | exact On.refl w | exact on_of HB.out)⟩
set_option maxRecDepth 100000 in
set_option maxHeartbeats 4000000 in
theorem amo_2_3 (x : BitVec 32) (w : World) (h3 : fi x 14 12 = 2) (h5 : fi x 31 27 = 3) :
    Calls Tryd.prog 28 #[.int .u32 (q x)] w fun e w' => e = .returned (amoOf x).val ∧ On w w' := by
  have e4 : fi x 31 25 / 4 = 3 := (f7_parts x).2.1.trans h5
  have HB := hb0 w
  go_enter Tryd.func28, Tryd.ntmps28
  go_wp2
  go_step3
  go_wp2_with (first | (go_at_call 16; refine (rd_any _ _).mono ?_; rintro e wn ⟨rfl, h⟩; replace HB := tr HB h; clear h) | (go_at_call 17; refine (rs1_any _ _).mono ?_; rintro e wn ⟨rfl, h⟩; replace HB := tr HB h; clear h) | (go_at_call 18; refine (rs2_any _ _).mono ?_; rintro e wn ⟨rfl, h⟩; replace HB := tr HB h; clear h) | (refine own_store w rfl rfl rfl rfl rfl (by simp [Value.oneCell']) ?_ ?_; focus ((repeat (first | exact heap_on HB.out | refine heap_past _ ?_ | refine heap_far ?_ (Nat.ne_of_gt HL.out) _)); done)) | (go_at_call 19; refine (funct3_any _ _).mono ?_; rintro e wm ⟨rfl, h⟩; obtain ⟨k0, k1, k2, k3, k4, k5, k6, k7, k8, k9, k10, kf, hlt⟩ := own11 h; have HL := Lib.hid (on_size HB.out); replace HB := tr1 HB h; clear h) | (go_at_call 41; refine (funct7_any _ _).mono ?_; rintro e wx ⟨rfl, h⟩; have h11 := put6 h hlt k0 k1 k2 k3 k4 k5 k6 k7 k8 k9 k10 kf; replace HB := trs HB HL h; clear h hlt k0 k1 k2 k3 k4 k5 k6 k7 k8 k9 k10 kf; obtain ⟨k0, k1, k2, k3, k4, k5, k6, k7, k8, k9, k10, kf, hlt⟩ := h11))
  go_step3
  go_wp2_with (first | (go_at_call 16; refine (rd_any _ _).mono ?_; rintro e wn ⟨rfl, h⟩; replace HB := tr HB h; clear h) | (go_at_call 17; refine (rs1_any _ _).mono ?_; rintro e wn ⟨rfl, h⟩; replace HB := tr HB h; clear h) | (go_at_call 18; refine (rs2_any _ _).mono ?_; rintro e wn ⟨rfl, h⟩; replace HB := tr HB h; clear h) | (refine own_store w rfl rfl rfl rfl rfl (by simp [Value.oneCell']) ?_ ?_; focus ((repeat (first | exact heap_on HB.out | refine heap_past _ ?_ | refine heap_far ?_ (Nat.ne_of_gt HL.out) _)); done)) | (go_at_call 19; refine (funct3_any _ _).mono ?_; rintro e wm ⟨rfl, h⟩; obtain ⟨k0, k1, k2, k3, k4, k5, k6, k7, k8, k9, k10, kf, hlt⟩ := own11 h; have HL := Lib.hid (on_size HB.out); replace HB := tr1 HB h; clear h) | (go_at_call 41; refine (funct7_any _ _).mono ?_; rintro e wx ⟨rfl, h⟩; have h11 := put6 h hlt k0 k1 k2 k3 k4 k5 k6 k7 k8 k9 k10 kf; replace HB := trs HB HL h; clear h hlt k0 k1 k2 k3 k4 k5 k6 k7 k8 k9 k10 kf; obtain ⟨k0, k1, k2, k3, k4, k5, k6, k7, k8, k9, k10, kf, hlt⟩ := h11))
  rw [Exit.noGoto_ret]
  refine own_back w rfl rfl rfl rfl ?_ ?_; (focus ((repeat (first | exact heap_on HB.out | refine heap_past _ ?_ | refine heap_far ?_ (Nat.ne_of_gt HL.out) _)); done))
  exact ⟨by unfold amoOf; (simp [h3, h5, Ins.zero, Ins.val, u_nil]) <;> rfl, by ((repeat (first | apply On.rowO | refine On.setO ?_ HL.out | apply On.alloc)); first | exact On.refl w | exact on_of HB.out)⟩
set_option maxRecDepth 100000 in
set_option maxHeartbeats 4000000 in
theorem amo_2_0 (x : BitVec 32) (w : World) (h3 : fi x 14 12 = 2) (h5 : fi x 31 27 = 0) :
    Calls Tryd.prog 28 #[.int .u32 (q x)] w fun e w' => e = .returned (amoOf x).val ∧ On w w' := by
  have e4 : fi x 31 25 / 4 = 0 := (f7_parts x).2.1.trans h5
  have HB := hb0 w
  go_enter Tryd.func28, Tryd.ntmps28
  go_wp2
  go_step3
  go_wp2_with (first | (go_at_call 16; refine (rd_any _ _).mono ?_; rintro e wn ⟨rfl, h⟩; replace HB := tr HB h; clear h) | (go_at_call 17; refine (rs1_any _ _).mono ?_; rintro e wn ⟨rfl, h⟩; replace HB := tr HB h; clear h) | (go_at_call 18; refine (rs2_any _ _).mono ?_; rintro e wn ⟨rfl, h⟩; replace HB := tr HB h; clear h) | (refine own_store w rfl rfl rfl rfl rfl (by simp [Value.oneCell']) ?_ ?_; focus ((repeat (first | exact heap_on HB.out | refine heap_past _ ?_ | refine heap_far ?_ (Nat.ne_of_gt HL.out) _)); done)) | (go_at_call 19; refine (funct3_any _ _).mono ?_; rintro e wm ⟨rfl, h⟩; obtain ⟨k0, k1, k2, k3, k4, k5, k6, k7, k8, k9, k10, kf, hlt⟩ := own11 h; have HL := Lib.hid (on_size HB.out); replace HB := tr1 HB h; clear h) | (go_at_call 41; refine (funct7_any _ _).mono ?_; rintro e wx ⟨rfl, h⟩; have h11 := put6 h hlt k0 k1 k2 k3 k4 k5 k6 k7 k8 k9 k10 kf; replace HB := trs HB HL h; clear h hlt k0 k1 k2 k3 k4 k5 k6 k7 k8 k9 k10 kf; obtain ⟨k0, k1, k2, k3, k4, k5, k6, k7, k8, k9, k10, kf, hlt⟩ := h11))
  go_step3
  go_wp2_with (first | (go_at_call 16; refine (rd_any _ _).mono ?_; rintro e wn ⟨rfl, h⟩; replace HB := tr HB h; clear h) | (go_at_call 17; refine (rs1_any _ _).mono ?_; rintro e wn ⟨rfl, h⟩; replace HB := tr HB h; clear h) | (go_at_call 18; refine (rs2_any _ _).mono ?_; rintro e wn ⟨rfl, h⟩; replace HB := tr HB h; clear h) | (refine own_store w rfl rfl rfl rfl rfl (by simp [Value.oneCell']) ?_ ?_; focus ((repeat (first | exact heap_on HB.out | refine heap_past _ ?_ | refine heap_far ?_ (Nat.ne_of_gt HL.out) _)); done)) | (go_at_call 19; refine (funct3_any _ _).mono ?_; rintro e wm ⟨rfl, h⟩; obtain ⟨k0, k1, k2, k3, k4, k5, k6, k7, k8, k9, k10, kf, hlt⟩ := own11 h; have HL := Lib.hid (on_size HB.out); replace HB := tr1 HB h; clear h) | (go_at_call 41; refine (funct7_any _ _).mono ?_; rintro e wx ⟨rfl, h⟩; have h11 := put6 h hlt k0 k1 k2 k3 k4 k5 k6 k7 k8 k9 k10 kf; replace HB := trs HB HL h; clear h hlt k0 k1 k2 k3 k4 k5 k6 k7 k8 k9 k10 kf; obtain ⟨k0, k1, k2, k3, k4, k5, k6, k7, k8, k9, k10, kf, hlt⟩ := h11))
  rw [Exit.noGoto_ret]
  refine own_back w rfl rfl rfl rfl ?_ ?_; (focus ((repeat (first | exact heap_on HB.out | refine heap_past _ ?_ | refine heap_far ?_ (Nat.ne_of_gt HL.out) _)); done))
  exact ⟨by unfold amoOf; (simp [h3, h5, Ins.zero, Ins.val, u_nil]) <;> rfl, by ((repeat (first | apply On.rowO | refine On.setO ?_ HL.out | apply On.alloc)); first | exact On.refl w | exact on_of HB.out)⟩
set_option maxRecDepth 100000 in
set_option maxHeartbeats 4000000 in
theorem amo_2_1 (x : BitVec 32) (w : World) (h3 : fi x 14 12 = 2) (h5 : fi x 31 27 = 1) :
    Calls Tryd.prog 28 #[.int .u32 (q x)] w fun e w' => e = .returned (amoOf x).val ∧ On w w' := by
  have e4 : fi x 31 25 / 4 = 1 := (f7_parts x).2.1.trans h5
  have HB := hb0 w
  go_enter Tryd.func28, Tryd.ntmps28
  go_wp2
  go_step3
  go_wp2_with (first | (go_at_call 16; refine (rd_any _ _).mono ?_; rintro e wn ⟨rfl, h⟩; replace HB := tr HB h; clear h) | (go_at_call 17; refine (rs1_any _ _).mono ?_; rintro e wn ⟨rfl, h⟩; replace HB := tr HB h; clear h) | (go_at_call 18; refine (rs2_any _ _).mono ?_; rintro e wn ⟨rfl, h⟩; replace HB := tr HB h; clear h) | (refine own_store w rfl rfl rfl rfl rfl (by simp [Value.oneCell']) ?_ ?_; focus ((repeat (first | exact heap_on HB.out | refine heap_past _ ?_ | refine heap_far ?_ (Nat.ne_of_gt HL.out) _)); done)) | (go_at_call 19; refine (funct3_any _ _).mono ?_; rintro e wm ⟨rfl, h⟩; obtain ⟨k0, k1, k2, k3, k4, k5, k6, k7, k8, k9, k10, kf, hlt⟩ := own11 h; have HL := Lib.hid (on_size HB.out); replace HB := tr1 HB h; clear h) | (go_at_call 41; refine (funct7_any _ _).mono ?_; rintro e wx ⟨rfl, h⟩; have h11 := put6 h hlt k0 k1 k2 k3 k4 k5 k6 k7 k8 k9 k10 kf; replace HB := trs HB HL h; clear h hlt k0 k1 k2 k3 k4 k5 k6 k7 k8 k9 k10 kf; obtain ⟨k0, k1, k2, k3, k4, k5, k6, k7, k8, k9, k10, kf, hlt⟩ := h11))
  go_step3
  go_wp2_with (first | (go_at_call 16; refine (rd_any _ _).mono ?_; rintro e wn ⟨rfl, h⟩; replace HB := tr HB h; clear h) | (go_at_call 17; refine (rs1_any _ _).mono ?_; rintro e wn ⟨rfl, h⟩; replace HB := tr HB h; clear h) | (go_at_call 18; refine (rs2_any _ _).mono ?_; rintro e wn ⟨rfl, h⟩; replace HB := tr HB h; clear h) | (refine own_store w rfl rfl rfl rfl rfl (by simp [Value.oneCell']) ?_ ?_; focus ((repeat (first | exact heap_on HB.out | refine heap_past _ ?_ | refine heap_far ?_ (Nat.ne_of_gt HL.out) _)); done)) | (go_at_call 19; refine (funct3_any _ _).mono ?_; rintro e wm ⟨rfl, h⟩; obtain ⟨k0, k1, k2, k3, k4, k5, k6, k7, k8, k9, k10, kf, hlt⟩ := own11 h; have HL := Lib.hid (on_size HB.out); replace HB := tr1 HB h; clear h) | (go_at_call 41; refine (funct7_any _ _).mono ?_; rintro e wx ⟨rfl, h⟩; have h11 := put6 h hlt k0 k1 k2 k3 k4 k5 k6 k7 k8 k9 k10 kf; replace HB := trs HB HL h; clear h hlt k0 k1 k2 k3 k4 k5 k6 k7 k8 k9 k10 kf; obtain ⟨k0, k1, k2, k3, k4, k5, k6, k7, k8, k9, k10, kf, hlt⟩ := h11))
  rw [Exit.noGoto_ret]
  refine own_back w rfl rfl rfl rfl ?_ ?_; (focus ((repeat (first | exact heap_on HB.out | refine heap_past _ ?_ | refine heap_far ?_ (Nat.ne_of_gt HL.out) _)); done))
  exact ⟨by unfold amoOf; (simp [h3, h5, Ins.zero, Ins.val, u_nil]) <;> rfl, by ((repeat (first | apply On.rowO | refine On.setO ?_ HL.out | apply On.alloc)); first | exact On.refl w | exact on_of HB.out)⟩
set_option maxRecDepth 100000 in
set_option maxHeartbeats 4000000 in
theorem amo_2_4 (x : BitVec 32) (w : World) (h3 : fi x 14 12 = 2) (h5 : fi x 31 27 = 4) :
    Calls Tryd.prog 28 #[.int .u32 (q x)] w fun e w' => e = .returned (amoOf x).val ∧ On w w' := by
  have e4 : fi x 31 25 / 4 = 4 := (f7_parts x).2.1.trans h5
  have HB := hb0 w
  go_enter Tryd.func28, Tryd.ntmps28
  go_wp2
  go_step3
  go_wp2_with (first | (go_at_call 16; refine (rd_any _ _).mono ?_; rintro e wn ⟨rfl, h⟩; replace HB := tr HB h; clear h) | (go_at_call 17; refine (rs1_any _ _).mono ?_; rintro e wn ⟨rfl, h⟩; replace HB := tr HB h; clear h) | (go_at_call 18; refine (rs2_any _ _).mono ?_; rintro e wn ⟨rfl, h⟩; replace HB := tr HB h; clear h) | (refine own_store w rfl rfl rfl rfl rfl (by simp [Value.oneCell']) ?_ ?_; focus ((repeat (first | exact heap_on HB.out | refine heap_past _ ?_ | refine heap_far ?_ (Nat.ne_of_gt HL.out) _)); done)) | (go_at_call 19; refine (funct3_any _ _).mono ?_; rintro e wm ⟨rfl, h⟩; obtain ⟨k0, k1, k2, k3, k4, k5, k6, k7, k8, k9, k10, kf, hlt⟩ := own11 h; have HL := Lib.hid (on_size HB.out); replace HB := tr1 HB h; clear h) | (go_at_call 41; refine (funct7_any _ _).mono ?_; rintro e wx ⟨rfl, h⟩; have h11 := put6 h hlt k0 k1 k2 k3 k4 k5 k6 k7 k8 k9 k10 kf; replace HB := trs HB HL h; clear h hlt k0 k1 k2 k3 k4 k5 k6 k7 k8 k9 k10 kf; obtain ⟨k0, k1, k2, k3, k4, k5, k6, k7, k8, k9, k10, kf, hlt⟩ := h11))
  go_step3
  go_wp2_with (first | (go_at_call 16; refine (rd_any _ _).mono ?_; rintro e wn ⟨rfl, h⟩; replace HB := tr HB h; clear h) | (go_at_call 17; refine (rs1_any _ _).mono ?_; rintro e wn ⟨rfl, h⟩; replace HB := tr HB h; clear h) | (go_at_call 18; refine (rs2_any _ _).mono ?_; rintro e wn ⟨rfl, h⟩; replace HB := tr HB h; clear h) | (refine own_store w rfl rfl rfl rfl rfl (by simp [Value.oneCell']) ?_ ?_; focus ((repeat (first | exact heap_on HB.out | refine heap_past _ ?_ | refine heap_far ?_ (Nat.ne_of_gt HL.out) _)); done)) | (go_at_call 19; refine (funct3_any _ _).mono ?_; rintro e wm ⟨rfl, h⟩; obtain ⟨k0, k1, k2, k3, k4, k5, k6, k7, k8, k9, k10, kf, hlt⟩ := own11 h; have HL := Lib.hid (on_size HB.out); replace HB := tr1 HB h; clear h) | (go_at_call 41; refine (funct7_any _ _).mono ?_; rintro e wx ⟨rfl, h⟩; have h11 := put6 h hlt k0 k1 k2 k3 k4 k5 k6 k7 k8 k9 k10 kf; replace HB := trs HB HL h; clear h hlt k0 k1 k2 k3 k4 k5 k6 k7 k8 k9 k10 kf; obtain ⟨k0, k1, k2, k3, k4, k5, k6, k7, k8, k9, k10, kf, hlt⟩ := h11))
  rw [Exit.noGoto_ret]
  refine own_back w rfl rfl rfl rfl ?_ ?_; (focus ((repeat (first | exact heap_on HB.out | refine heap_past _ ?_ | refine heap_far ?_ (Nat.ne_of_gt HL.out) _)); done))
  exact ⟨by unfold amoOf; (simp [h3, h5, Ins.zero, Ins.val, u_nil]) <;> rfl, by ((repeat (first | apply On.rowO | refine On.setO ?_ HL.out | apply On.alloc)); first | exact On.refl w | exact on_of HB.out)⟩
set_option maxRecDepth 100000 in
set_option maxHeartbeats 4000000 in
theorem amo_2_8 (x : BitVec 32) (w : World) (h3 : fi x 14 12 = 2) (h5 : fi x 31 27 = 8) :
    Calls Tryd.prog 28 #[.int .u32 (q x)] w fun e w' => e = .returned (amoOf x).val ∧ On w w' := by
  have e4 : fi x 31 25 / 4 = 8 := (f7_parts x).2.1.trans h5
  have HB := hb0 w
  go_enter Tryd.func28, Tryd.ntmps28
  go_wp2
  go_step3
  go_wp2_with (first | (go_at_call 16; refine (rd_any _ _).mono ?_; rintro e wn ⟨rfl, h⟩; replace HB := tr HB h; clear h) | (go_at_call 17; refine (rs1_any _ _).mono ?_; rintro e wn ⟨rfl, h⟩; replace HB := tr HB h; clear h) | (go_at_call 18; refine (rs2_any _ _).mono ?_; rintro e wn ⟨rfl, h⟩; replace HB := tr HB h; clear h) | (refine own_store w rfl rfl rfl rfl rfl (by simp [Value.oneCell']) ?_ ?_; focus ((repeat (first | exact heap_on HB.out | refine heap_past _ ?_ | refine heap_far ?_ (Nat.ne_of_gt HL.out) _)); done)) | (go_at_call 19; refine (funct3_any _ _).mono ?_; rintro e wm ⟨rfl, h⟩; obtain ⟨k0, k1, k2, k3, k4, k5, k6, k7, k8, k9, k10, kf, hlt⟩ := own11 h; have HL := Lib.hid (on_size HB.out); replace HB := tr1 HB h; clear h) | (go_at_call 41; refine (funct7_any _ _).mono ?_; rintro e wx ⟨rfl, h⟩; have h11 := put6 h hlt k0 k1 k2 k3 k4 k5 k6 k7 k8 k9 k10 kf; replace HB := trs HB HL h; clear h hlt k0 k1 k2 k3 k4 k5 k6 k7 k8 k9 k10 kf; obtain ⟨k0, k1, k2, k3, k4, k5, k6, k7, k8, k9, k10, kf, hlt⟩ := h11))
  go_step3
  go_wp2_with (first | (go_at_call 16; refine (rd_any _ _).mono ?_; rintro e wn ⟨rfl, h⟩; replace HB := tr HB h; clear h) | (go_at_call 17; refine (rs1_any _ _).mono ?_; rintro e wn ⟨rfl, h⟩; replace HB := tr HB h; clear h) | (go_at_call 18; refine (rs2_any _ _).mono ?_; rintro e wn ⟨rfl, h⟩; replace HB := tr HB h; clear h) | (refine own_store w rfl rfl rfl rfl rfl (by simp [Value.oneCell']) ?_ ?_; focus ((repeat (first | exact heap_on HB.out | refine heap_past _ ?_ | refine heap_far ?_ (Nat.ne_of_gt HL.out) _)); done)) | (go_at_call 19; refine (funct3_any _ _).mono ?_; rintro e wm ⟨rfl, h⟩; obtain ⟨k0, k1, k2, k3, k4, k5, k6, k7, k8, k9, k10, kf, hlt⟩ := own11 h; have HL := Lib.hid (on_size HB.out); replace HB := tr1 HB h; clear h) | (go_at_call 41; refine (funct7_any _ _).mono ?_; rintro e wx ⟨rfl, h⟩; have h11 := put6 h hlt k0 k1 k2 k3 k4 k5 k6 k7 k8 k9 k10 kf; replace HB := trs HB HL h; clear h hlt k0 k1 k2 k3 k4 k5 k6 k7 k8 k9 k10 kf; obtain ⟨k0, k1, k2, k3, k4, k5, k6, k7, k8, k9, k10, kf, hlt⟩ := h11))
  rw [Exit.noGoto_ret]
  refine own_back w rfl rfl rfl rfl ?_ ?_; (focus ((repeat (first | exact heap_on HB.out | refine heap_past _ ?_ | refine heap_far ?_ (Nat.ne_of_gt HL.out) _)); done))
  exact ⟨by unfold amoOf; (simp [h3, h5, Ins.zero, Ins.val, u_nil]) <;> rfl, by ((repeat (first | apply On.rowO | refine On.setO ?_ HL.out | apply On.alloc)); first | exact On.refl w | exact on_of HB.out)⟩
set_option maxRecDepth 100000 in
set_option maxHeartbeats 4000000 in
theorem amo_2_12 (x : BitVec 32) (w : World) (h3 : fi x 14 12 = 2) (h5 : fi x 31 27 = 12) :
    Calls Tryd.prog 28 #[.int .u32 (q x)] w fun e w' => e = .returned (amoOf x).val ∧ On w w' := by
  have e4 : fi x 31 25 / 4 = 12 := (f7_parts x).2.1.trans h5
  have HB := hb0 w
  go_enter Tryd.func28, Tryd.ntmps28
  go_wp2
  go_step3
  go_wp2_with (first | (go_at_call 16; refine (rd_any _ _).mono ?_; rintro e wn ⟨rfl, h⟩; replace HB := tr HB h; clear h) | (go_at_call 17; refine (rs1_any _ _).mono ?_; rintro e wn ⟨rfl, h⟩; replace HB := tr HB h; clear h) | (go_at_call 18; refine (rs2_any _ _).mono ?_; rintro e wn ⟨rfl, h⟩; replace HB := tr HB h; clear h) | (refine own_store w rfl rfl rfl rfl rfl (by simp [Value.oneCell']) ?_ ?_; focus ((repeat (first | exact heap_on HB.out | refine heap_past _ ?_ | refine heap_far ?_ (Nat.ne_of_gt HL.out) _)); done)) | (go_at_call 19; refine (funct3_any _ _).mono ?_; rintro e wm ⟨rfl, h⟩; obtain ⟨k0, k1, k2, k3, k4, k5, k6, k7, k8, k9, k10, kf, hlt⟩ := own11 h; have HL := Lib.hid (on_size HB.out); replace HB := tr1 HB h; clear h) | (go_at_call 41; refine (funct7_any _ _).mono ?_; rintro e wx ⟨rfl, h⟩; have h11 := put6 h hlt k0 k1 k2 k3 k4 k5 k6 k7 k8 k9 k10 kf; replace HB := trs HB HL h; clear h hlt k0 k1 k2 k3 k4 k5 k6 k7 k8 k9 k10 kf; obtain ⟨k0, k1, k2, k3, k4, k5, k6, k7, k8, k9, k10, kf, hlt⟩ := h11))
  go_step3
  go_wp2_with (first | (go_at_call 16; refine (rd_any _ _).mono ?_; rintro e wn ⟨rfl, h⟩; replace HB := tr HB h; clear h) | (go_at_call 17; refine (rs1_any _ _).mono ?_; rintro e wn ⟨rfl, h⟩; replace HB := tr HB h; clear h) | (go_at_call 18; refine (rs2_any _ _).mono ?_; rintro e wn ⟨rfl, h⟩; replace HB := tr HB h; clear h) | (refine own_store w rfl rfl rfl rfl rfl (by simp [Value.oneCell']) ?_ ?_; focus ((repeat (first | exact heap_on HB.out | refine heap_past _ ?_ | refine heap_far ?_ (Nat.ne_of_gt HL.out) _)); done)) | (go_at_call 19; refine (funct3_any _ _).mono ?_; rintro e wm ⟨rfl, h⟩; obtain ⟨k0, k1, k2, k3, k4, k5, k6, k7, k8, k9, k10, kf, hlt⟩ := own11 h; have HL := Lib.hid (on_size HB.out); replace HB := tr1 HB h; clear h) | (go_at_call 41; refine (funct7_any _ _).mono ?_; rintro e wx ⟨rfl, h⟩; have h11 := put6 h hlt k0 k1 k2 k3 k4 k5 k6 k7 k8 k9 k10 kf; replace HB := trs HB HL h; clear h hlt k0 k1 k2 k3 k4 k5 k6 k7 k8 k9 k10 kf; obtain ⟨k0, k1, k2, k3, k4, k5, k6, k7, k8, k9, k10, kf, hlt⟩ := h11))
  rw [Exit.noGoto_ret]
  refine own_back w rfl rfl rfl rfl ?_ ?_; (focus ((repeat (first | exact heap_on HB.out | refine heap_past _ ?_ | refine heap_far ?_ (Nat.ne_of_gt HL.out) _)); done))
  exact ⟨by unfold amoOf; (simp [h3, h5, Ins.zero, Ins.val, u_nil]) <;> rfl, by ((repeat (first | apply On.rowO | refine On.setO ?_ HL.out | apply On.alloc)); first | exact On.refl w | exact on_of HB.out)⟩
set_option maxRecDepth 100000 in
set_option maxHeartbeats 4000000 in
theorem amo_2_16 (x : BitVec 32) (w : World) (h3 : fi x 14 12 = 2) (h5 : fi x 31 27 = 16) :
    Calls Tryd.prog 28 #[.int .u32 (q x)] w fun e w' => e = .returned (amoOf x).val ∧ On w w' := by
  have e4 : fi x 31 25 / 4 = 16 := (f7_parts x).2.1.trans h5
  have HB := hb0 w
  go_enter Tryd.func28, Tryd.ntmps28
  go_wp2
  go_step3
  go_wp2_with (first | (go_at_call 16; refine (rd_any _ _).mono ?_; rintro e wn ⟨rfl, h⟩; replace HB := tr HB h; clear h) | (go_at_call 17; refine (rs1_any _ _).mono ?_; rintro e wn ⟨rfl, h⟩; replace HB := tr HB h; clear h) | (go_at_call 18; refine (rs2_any _ _).mono ?_; rintro e wn ⟨rfl, h⟩; replace HB := tr HB h; clear h) | (refine own_store w rfl rfl rfl rfl rfl (by simp [Value.oneCell']) ?_ ?_; focus ((repeat (first | exact heap_on HB.out | refine heap_past _ ?_ | refine heap_far ?_ (Nat.ne_of_gt HL.out) _)); done)) | (go_at_call 19; refine (funct3_any _ _).mono ?_; rintro e wm ⟨rfl, h⟩; obtain ⟨k0, k1, k2, k3, k4, k5, k6, k7, k8, k9, k10, kf, hlt⟩ := own11 h; have HL := Lib.hid (on_size HB.out); replace HB := tr1 HB h; clear h) | (go_at_call 41; refine (funct7_any _ _).mono ?_; rintro e wx ⟨rfl, h⟩; have h11 := put6 h hlt k0 k1 k2 k3 k4 k5 k6 k7 k8 k9 k10 kf; replace HB := trs HB HL h; clear h hlt k0 k1 k2 k3 k4 k5 k6 k7 k8 k9 k10 kf; obtain ⟨k0, k1, k2, k3, k4, k5, k6, k7, k8, k9, k10, kf, hlt⟩ := h11))
  go_step3
  go_wp2_with (first | (go_at_call 16; refine (rd_any _ _).mono ?_; rintro e wn ⟨rfl, h⟩; replace HB := tr HB h; clear h) | (go_at_call 17; refine (rs1_any _ _).mono ?_; rintro e wn ⟨rfl, h⟩; replace HB := tr HB h; clear h) | (go_at_call 18; refine (rs2_any _ _).mono ?_; rintro e wn ⟨rfl, h⟩; replace HB := tr HB h; clear h) | (refine own_store w rfl rfl rfl rfl rfl (by simp [Value.oneCell']) ?_ ?_; focus ((repeat (first | exact heap_on HB.out | refine heap_past _ ?_ | refine heap_far ?_ (Nat.ne_of_gt HL.out) _)); done)) | (go_at_call 19; refine (funct3_any _ _).mono ?_; rintro e wm ⟨rfl, h⟩; obtain ⟨k0, k1, k2, k3, k4, k5, k6, k7, k8, k9, k10, kf, hlt⟩ := own11 h; have HL := Lib.hid (on_size HB.out); replace HB := tr1 HB h; clear h) | (go_at_call 41; refine (funct7_any _ _).mono ?_; rintro e wx ⟨rfl, h⟩; have h11 := put6 h hlt k0 k1 k2 k3 k4 k5 k6 k7 k8 k9 k10 kf; replace HB := trs HB HL h; clear h hlt k0 k1 k2 k3 k4 k5 k6 k7 k8 k9 k10 kf; obtain ⟨k0, k1, k2, k3, k4, k5, k6, k7, k8, k9, k10, kf, hlt⟩ := h11))
  rw [Exit.noGoto_ret]
  refine own_back w rfl rfl rfl rfl ?_ ?_; (focus ((repeat (first | exact heap_on HB.out | refine heap_past _ ?_ | refine heap_far ?_ (Nat.ne_of_gt HL.out) _)); done))
  exact ⟨by unfold amoOf; (simp [h3, h5, Ins.zero, Ins.val, u_nil]) <;> rfl, by ((repeat (first | apply On.rowO | refine On.setO ?_ HL.out | apply On.alloc)); first | exact On.refl w | exact on_of HB.out)⟩
set_option maxRecDepth 100000 in
set_option maxHeartbeats 4000000 in
theorem amo_2_20 (x : BitVec 32) (w : World) (h3 : fi x 14 12 = 2) (h5 : fi x 31 27 = 20) :
    Calls Tryd.prog 28 #[.int .u32 (q x)] w fun e w' => e = .returned (amoOf x).val ∧ On w w' := by
  have e4 : fi x 31 25 / 4 = 20 := (f7_parts x).2.1.trans h5
  have HB := hb0 w
  go_enter Tryd.func28, Tryd.ntmps28
  go_wp2
  go_step3
  go_wp2_with (first | (go_at_call 16; refine (rd_any _ _).mono ?_; rintro e wn ⟨rfl, h⟩; replace HB := tr HB h; clear h) | (go_at_call 17; refine (rs1_any _ _).mono ?_; rintro e wn ⟨rfl, h⟩; replace HB := tr HB h; clear h) | (go_at_call 18; refine (rs2_any _ _).mono ?_; rintro e wn ⟨rfl, h⟩; replace HB := tr HB h; clear h) | (refine own_store w rfl rfl rfl rfl rfl (by simp [Value.oneCell']) ?_ ?_; focus ((repeat (first | exact heap_on HB.out | refine heap_past _ ?_ | refine heap_far ?_ (Nat.ne_of_gt HL.out) _)); done)) | (go_at_call 19; refine (funct3_any _ _).mono ?_; rintro e wm ⟨rfl, h⟩; obtain ⟨k0, k1, k2, k3, k4, k5, k6, k7, k8, k9, k10, kf, hlt⟩ := own11 h; have HL := Lib.hid (on_size HB.out); replace HB := tr1 HB h; clear h) | (go_at_call 41; refine (funct7_any _ _).mono ?_; rintro e wx ⟨rfl, h⟩; have h11 := put6 h hlt k0 k1 k2 k3 k4 k5 k6 k7 k8 k9 k10 kf; replace HB := trs HB HL h; clear h hlt k0 k1 k2 k3 k4 k5 k6 k7 k8 k9 k10 kf; obtain ⟨k0, k1, k2, k3, k4, k5, k6, k7, k8, k9, k10, kf, hlt⟩ := h11))
  go_step3
  go_wp2_with (first | (go_at_call 16; refine (rd_any _ _).mono ?_; rintro e wn ⟨rfl, h⟩; replace HB := tr HB h; clear h) | (go_at_call 17; refine (rs1_any _ _).mono ?_; rintro e wn ⟨rfl, h⟩; replace HB := tr HB h; clear h) | (go_at_call 18; refine (rs2_any _ _).mono ?_; rintro e wn ⟨rfl, h⟩; replace HB := tr HB h; clear h) | (refine own_store w rfl rfl rfl rfl rfl (by simp [Value.oneCell']) ?_ ?_; focus ((repeat (first | exact heap_on HB.out | refine heap_past _ ?_ | refine heap_far ?_ (Nat.ne_of_gt HL.out) _)); done)) | (go_at_call 19; refine (funct3_any _ _).mono ?_; rintro e wm ⟨rfl, h⟩; obtain ⟨k0, k1, k2, k3, k4, k5, k6, k7, k8, k9, k10, kf, hlt⟩ := own11 h; have HL := Lib.hid (on_size HB.out); replace HB := tr1 HB h; clear h) | (go_at_call 41; refine (funct7_any _ _).mono ?_; rintro e wx ⟨rfl, h⟩; have h11 := put6 h hlt k0 k1 k2 k3 k4 k5 k6 k7 k8 k9 k10 kf; replace HB := trs HB HL h; clear h hlt k0 k1 k2 k3 k4 k5 k6 k7 k8 k9 k10 kf; obtain ⟨k0, k1, k2, k3, k4, k5, k6, k7, k8, k9, k10, kf, hlt⟩ := h11))
  rw [Exit.noGoto_ret]
  refine own_back w rfl rfl rfl rfl ?_ ?_; (focus ((repeat (first | exact heap_on HB.out | refine heap_past _ ?_ | refine heap_far ?_ (Nat.ne_of_gt HL.out) _)); done))
  exact ⟨by unfold amoOf; (simp [h3, h5, Ins.zero, Ins.val, u_nil]) <;> rfl, by ((repeat (first | apply On.rowO | refine On.setO ?_ HL.out | apply On.alloc)); first | exact On.refl w | exact on_of HB.out)⟩
set_option maxRecDepth 100000 in
set_option maxHeartbeats 4000000 in
theorem amo_2_24 (x : BitVec 32) (w : World) (h3 : fi x 14 12 = 2) (h5 : fi x 31 27 = 24) :
    Calls Tryd.prog 28 #[.int .u32 (q x)] w fun e w' => e = .returned (amoOf x).val ∧ On w w' := by
  have e4 : fi x 31 25 / 4 = 24 := (f7_parts x).2.1.trans h5
  have HB := hb0 w
  go_enter Tryd.func28, Tryd.ntmps28
  go_wp2
  go_step3
  go_wp2_with (first | (go_at_call 16; refine (rd_any _ _).mono ?_; rintro e wn ⟨rfl, h⟩; replace HB := tr HB h; clear h) | (go_at_call 17; refine (rs1_any _ _).mono ?_; rintro e wn ⟨rfl, h⟩; replace HB := tr HB h; clear h) | (go_at_call 18; refine (rs2_any _ _).mono ?_; rintro e wn ⟨rfl, h⟩; replace HB := tr HB h; clear h) | (refine own_store w rfl rfl rfl rfl rfl (by simp [Value.oneCell']) ?_ ?_; focus ((repeat (first | exact heap_on HB.out | refine heap_past _ ?_ | refine heap_far ?_ (Nat.ne_of_gt HL.out) _)); done)) | (go_at_call 19; refine (funct3_any _ _).mono ?_; rintro e wm ⟨rfl, h⟩; obtain ⟨k0, k1, k2, k3, k4, k5, k6, k7, k8, k9, k10, kf, hlt⟩ := own11 h; have HL := Lib.hid (on_size HB.out); replace HB := tr1 HB h; clear h) | (go_at_call 41; refine (funct7_any _ _).mono ?_; rintro e wx ⟨rfl, h⟩; have h11 := put6 h hlt k0 k1 k2 k3 k4 k5 k6 k7 k8 k9 k10 kf; replace HB := trs HB HL h; clear h hlt k0 k1 k2 k3 k4 k5 k6 k7 k8 k9 k10 kf; obtain ⟨k0, k1, k2, k3, k4, k5, k6, k7, k8, k9, k10, kf, hlt⟩ := h11))
  go_step3
  go_wp2_with (first | (go_at_call 16; refine (rd_any _ _).mono ?_; rintro e wn ⟨rfl, h⟩; replace HB := tr HB h; clear h) | (go_at_call 17; refine (rs1_any _ _).mono ?_; rintro e wn ⟨rfl, h⟩; replace HB := tr HB h; clear h) | (go_at_call 18; refine (rs2_any _ _).mono ?_; rintro e wn ⟨rfl, h⟩; replace HB := tr HB h; clear h) | (refine own_store w rfl rfl rfl rfl rfl (by simp [Value.oneCell']) ?_ ?_; focus ((repeat (first | exact heap_on HB.out | refine heap_past _ ?_ | refine heap_far ?_ (Nat.ne_of_gt HL.out) _)); done)) | (go_at_call 19; refine (funct3_any _ _).mono ?_; rintro e wm ⟨rfl, h⟩; obtain ⟨k0, k1, k2, k3, k4, k5, k6, k7, k8, k9, k10, kf, hlt⟩ := own11 h; have HL := Lib.hid (on_size HB.out); replace HB := tr1 HB h; clear h) | (go_at_call 41; refine (funct7_any _ _).mono ?_; rintro e wx ⟨rfl, h⟩; have h11 := put6 h hlt k0 k1 k2 k3 k4 k5 k6 k7 k8 k9 k10 kf; replace HB := trs HB HL h; clear h hlt k0 k1 k2 k3 k4 k5 k6 k7 k8 k9 k10 kf; obtain ⟨k0, k1, k2, k3, k4, k5, k6, k7, k8, k9, k10, kf, hlt⟩ := h11))
  rw [Exit.noGoto_ret]
  refine own_back w rfl rfl rfl rfl ?_ ?_; (focus ((repeat (first | exact heap_on HB.out | refine heap_past _ ?_ | refine heap_far ?_ (Nat.ne_of_gt HL.out) _)); done))
  exact ⟨by unfold amoOf; (simp [h3, h5, Ins.zero, Ins.val, u_nil]) <;> rfl, by ((repeat (first | apply On.rowO | refine On.setO ?_ HL.out | apply On.alloc)); first | exact On.refl w | exact on_of HB.out)⟩
set_option maxRecDepth 100000 in
set_option maxHeartbeats 4000000 in
theorem amo_2_28 (x : BitVec 32) (w : World) (h3 : fi x 14 12 = 2) (h5 : fi x 31 27 = 28) :
    Calls Tryd.prog 28 #[.int .u32 (q x)] w fun e w' => e = .returned (amoOf x).val ∧ On w w' := by
  have e4 : fi x 31 25 / 4 = 28 := (f7_parts x).2.1.trans h5
  have HB := hb0 w
  go_enter Tryd.func28, Tryd.ntmps28
  go_wp2
  go_step3
  go_wp2_with (first | (go_at_call 16; refine (rd_any _ _).mono ?_; rintro e wn ⟨rfl, h⟩; replace HB := tr HB h; clear h) | (go_at_call 17; refine (rs1_any _ _).mono ?_; rintro e wn ⟨rfl, h⟩; replace HB := tr HB h; clear h) | (go_at_call 18; refine (rs2_any _ _).mono ?_; rintro e wn ⟨rfl, h⟩; replace HB := tr HB h; clear h) | (refine own_store w rfl rfl rfl rfl rfl (by simp [Value.oneCell']) ?_ ?_; focus ((repeat (first | exact heap_on HB.out | refine heap_past _ ?_ | refine heap_far ?_ (Nat.ne_of_gt HL.out) _)); done)) | (go_at_call 19; refine (funct3_any _ _).mono ?_; rintro e wm ⟨rfl, h⟩; obtain ⟨k0, k1, k2, k3, k4, k5, k6, k7, k8, k9, k10, kf, hlt⟩ := own11 h; have HL := Lib.hid (on_size HB.out); replace HB := tr1 HB h; clear h) | (go_at_call 41; refine (funct7_any _ _).mono ?_; rintro e wx ⟨rfl, h⟩; have h11 := put6 h hlt k0 k1 k2 k3 k4 k5 k6 k7 k8 k9 k10 kf; replace HB := trs HB HL h; clear h hlt k0 k1 k2 k3 k4 k5 k6 k7 k8 k9 k10 kf; obtain ⟨k0, k1, k2, k3, k4, k5, k6, k7, k8, k9, k10, kf, hlt⟩ := h11))
  go_step3
  go_wp2_with (first | (go_at_call 16; refine (rd_any _ _).mono ?_; rintro e wn ⟨rfl, h⟩; replace HB := tr HB h; clear h) | (go_at_call 17; refine (rs1_any _ _).mono ?_; rintro e wn ⟨rfl, h⟩; replace HB := tr HB h; clear h) | (go_at_call 18; refine (rs2_any _ _).mono ?_; rintro e wn ⟨rfl, h⟩; replace HB := tr HB h; clear h) | (refine own_store w rfl rfl rfl rfl rfl (by simp [Value.oneCell']) ?_ ?_; focus ((repeat (first | exact heap_on HB.out | refine heap_past _ ?_ | refine heap_far ?_ (Nat.ne_of_gt HL.out) _)); done)) | (go_at_call 19; refine (funct3_any _ _).mono ?_; rintro e wm ⟨rfl, h⟩; obtain ⟨k0, k1, k2, k3, k4, k5, k6, k7, k8, k9, k10, kf, hlt⟩ := own11 h; have HL := Lib.hid (on_size HB.out); replace HB := tr1 HB h; clear h) | (go_at_call 41; refine (funct7_any _ _).mono ?_; rintro e wx ⟨rfl, h⟩; have h11 := put6 h hlt k0 k1 k2 k3 k4 k5 k6 k7 k8 k9 k10 kf; replace HB := trs HB HL h; clear h hlt k0 k1 k2 k3 k4 k5 k6 k7 k8 k9 k10 kf; obtain ⟨k0, k1, k2, k3, k4, k5, k6, k7, k8, k9, k10, kf, hlt⟩ := h11))
  rw [Exit.noGoto_ret]
  refine own_back w rfl rfl rfl rfl ?_ ?_; (focus ((repeat (first | exact heap_on HB.out | refine heap_past _ ?_ | refine heap_far ?_ (Nat.ne_of_gt HL.out) _)); done))
  exact ⟨by unfold amoOf; (simp [h3, h5, Ins.zero, Ins.val, u_nil]) <;> rfl, by ((repeat (first | apply On.rowO | refine On.setO ?_ HL.out | apply On.alloc)); first | exact On.refl w | exact on_of HB.out)⟩
set_option maxRecDepth 100000 in
set_option maxHeartbeats 4000000 in
theorem amo_2_2z (x : BitVec 32) (w : World) (h3 : fi x 14 12 = 2) (h5 : fi x 31 27 = 2) (h2 : fi x 24 20 = 0) :
    Calls Tryd.prog 28 #[.int .u32 (q x)] w fun e w' => e = .returned (amoOf x).val ∧ On w w' := by
  have e4 : fi x 31 25 / 4 = 2 := (f7_parts x).2.1.trans h5
  have HB := hb0 w
  go_enter Tryd.func28, Tryd.ntmps28
  go_wp2
  go_step3
  go_wp2_with (first | (go_at_call 16; refine (rd_any _ _).mono ?_; rintro e wn ⟨rfl, h⟩; replace HB := tr HB h; clear h) | (go_at_call 17; refine (rs1_any _ _).mono ?_; rintro e wn ⟨rfl, h⟩; replace HB := tr HB h; clear h) | (go_at_call 18; refine (rs2_any _ _).mono ?_; rintro e wn ⟨rfl, h⟩; replace HB := tr HB h; clear h) | (refine own_store w rfl rfl rfl rfl rfl (by simp [Value.oneCell']) ?_ ?_; focus ((repeat (first | exact heap_on HB.out | refine heap_past _ ?_ | refine heap_far ?_ (Nat.ne_of_gt HL.out) _)); done)) | (go_at_call 19; refine (funct3_any _ _).mono ?_; rintro e wm ⟨rfl, h⟩; obtain ⟨k0, k1, k2, k3, k4, k5, k6, k7, k8, k9, k10, kf, hlt⟩ := own11 h; have HL := Lib.hid (on_size HB.out); replace HB := tr1 HB h; clear h) | (go_at_call 41; refine (funct7_any _ _).mono ?_; rintro e wx ⟨rfl, h⟩; have h11 := put6 h hlt k0 k1 k2 k3 k4 k5 k6 k7 k8 k9 k10 kf; replace HB := trs HB HL h; clear h hlt k0 k1 k2 k3 k4 k5 k6 k7 k8 k9 k10 kf; obtain ⟨k0, k1, k2, k3, k4, k5, k6, k7, k8, k9, k10, kf, hlt⟩ := h11))
  go_step3
  go_wp2_with (first | (go_at_call 16; refine (rd_any _ _).mono ?_; rintro e wn ⟨rfl, h⟩; replace HB := tr HB h; clear h) | (go_at_call 17; refine (rs1_any _ _).mono ?_; rintro e wn ⟨rfl, h⟩; replace HB := tr HB h; clear h) | (go_at_call 18; refine (rs2_any _ _).mono ?_; rintro e wn ⟨rfl, h⟩; replace HB := tr HB h; clear h) | (refine own_store w rfl rfl rfl rfl rfl (by simp [Value.oneCell']) ?_ ?_; focus ((repeat (first | exact heap_on HB.out | refine heap_past _ ?_ | refine heap_far ?_ (Nat.ne_of_gt HL.out) _)); done)) | (go_at_call 19; refine (funct3_any _ _).mono ?_; rintro e wm ⟨rfl, h⟩; obtain ⟨k0, k1, k2, k3, k4, k5, k6, k7, k8, k9, k10, kf, hlt⟩ := own11 h; have HL := Lib.hid (on_size HB.out); replace HB := tr1 HB h; clear h) | (go_at_call 41; refine (funct7_any _ _).mono ?_; rintro e wx ⟨rfl, h⟩; have h11 := put6 h hlt k0 k1 k2 k3 k4 k5 k6 k7 k8 k9 k10 kf; replace HB := trs HB HL h; clear h hlt k0 k1 k2 k3 k4 k5 k6 k7 k8 k9 k10 kf; obtain ⟨k0, k1, k2, k3, k4, k5, k6, k7, k8, k9, k10, kf, hlt⟩ := h11))
  rw [Exit.noGoto_ret]
  refine own_back w rfl rfl rfl rfl ?_ ?_; (focus ((repeat (first | exact heap_on HB.out | refine heap_past _ ?_ | refine heap_far ?_ (Nat.ne_of_gt HL.out) _)); done))
  exact ⟨by unfold amoOf; (simp [h3, h5, h2, Ins.zero, Ins.val, u_nil]) <;> rfl, by ((repeat (first | apply On.rowO | refine On.setO ?_ HL.out | apply On.alloc)); first | exact On.refl w | exact on_of HB.out)⟩
set_option maxRecDepth 100000 in
set_option maxHeartbeats 4000000 in
theorem amo_2_2n (x : BitVec 32) (w : World) (h3 : fi x 14 12 = 2) (h5 : fi x 31 27 = 2) (H2 : Hid (¬ fi x 24 20 = 0)) :
    Calls Tryd.prog 28 #[.int .u32 (q x)] w fun e w' => e = .returned (amoOf x).val ∧ On w w' := by
  have e4 : fi x 31 25 / 4 = 2 := (f7_parts x).2.1.trans h5
  have b0 : (fi x 24 20 == 0) = false := by simpa using H2.out
  have b1 : (fi x 24 20 != 0) = true := by simpa using H2.out
  have HB := hb0 w
  go_enter Tryd.func28, Tryd.ntmps28
  go_wp2
  go_step3
  go_wp2_with (first | (go_at_call 16; refine (rd_any _ _).mono ?_; rintro e wn ⟨rfl, h⟩; replace HB := tr HB h; clear h) | (go_at_call 17; refine (rs1_any _ _).mono ?_; rintro e wn ⟨rfl, h⟩; replace HB := tr HB h; clear h) | (go_at_call 18; refine (rs2_any _ _).mono ?_; rintro e wn ⟨rfl, h⟩; replace HB := tr HB h; clear h) | (refine own_store w rfl rfl rfl rfl rfl (by simp [Value.oneCell']) ?_ ?_; focus ((repeat (first | exact heap_on HB.out | refine heap_past _ ?_ | refine heap_far ?_ (Nat.ne_of_gt HL.out) _)); done)) | (go_at_call 19; refine (funct3_any _ _).mono ?_; rintro e wm ⟨rfl, h⟩; obtain ⟨k0, k1, k2, k3, k4, k5, k6, k7, k8, k9, k10, kf, hlt⟩ := own11 h; have HL := Lib.hid (on_size HB.out); replace HB := tr1 HB h; clear h) | (go_at_call 41; refine (funct7_any _ _).mono ?_; rintro e wx ⟨rfl, h⟩; have h11 := put6 h hlt k0 k1 k2 k3 k4 k5 k6 k7 k8 k9 k10 kf; replace HB := trs HB HL h; clear h hlt k0 k1 k2 k3 k4 k5 k6 k7 k8 k9 k10 kf; obtain ⟨k0, k1, k2, k3, k4, k5, k6, k7, k8, k9, k10, kf, hlt⟩ := h11))
  go_step3
  go_wp2_with (first | (go_at_call 16; refine (rd_any _ _).mono ?_; rintro e wn ⟨rfl, h⟩; replace HB := tr HB h; clear h) | (go_at_call 17; refine (rs1_any _ _).mono ?_; rintro e wn ⟨rfl, h⟩; replace HB := tr HB h; clear h) | (go_at_call 18; refine (rs2_any _ _).mono ?_; rintro e wn ⟨rfl, h⟩; replace HB := tr HB h; clear h) | (refine own_store w rfl rfl rfl rfl rfl (by simp [Value.oneCell']) ?_ ?_; focus ((repeat (first | exact heap_on HB.out | refine heap_past _ ?_ | refine heap_far ?_ (Nat.ne_of_gt HL.out) _)); done)) | (go_at_call 19; refine (funct3_any _ _).mono ?_; rintro e wm ⟨rfl, h⟩; obtain ⟨k0, k1, k2, k3, k4, k5, k6, k7, k8, k9, k10, kf, hlt⟩ := own11 h; have HL := Lib.hid (on_size HB.out); replace HB := tr1 HB h; clear h) | (go_at_call 41; refine (funct7_any _ _).mono ?_; rintro e wx ⟨rfl, h⟩; have h11 := put6 h hlt k0 k1 k2 k3 k4 k5 k6 k7 k8 k9 k10 kf; replace HB := trs HB HL h; clear h hlt k0 k1 k2 k3 k4 k5 k6 k7 k8 k9 k10 kf; obtain ⟨k0, k1, k2, k3, k4, k5, k6, k7, k8, k9, k10, kf, hlt⟩ := h11))
  rw [Exit.noGoto_ret]
  refine own_back w rfl rfl rfl rfl ?_ ?_; (focus ((repeat (first | exact heap_on HB.out | refine heap_past _ ?_ | refine heap_far ?_ (Nat.ne_of_gt HL.out) _)); done))
  exact ⟨by unfold amoOf; (simp [h3, h5, H2.out, Ins.zero, Ins.val, u_nil]) <;> rfl, by ((repeat (first | apply On.rowO | refine On.setO ?_ HL.out | apply On.alloc)); first | exact On.refl w | exact on_of HB.out)⟩
set_option maxRecDepth 100000 in
set_option maxHeartbeats 4000000 in
theorem amo_2_n (x : BitVec 32) (w : World) (h3 : fi x 14 12 = 2) (N : Hid (¬ fi x 31 27 = 2 ∧ ¬ fi x 31 27 = 3 ∧ ¬ fi x 31 27 = 0 ∧ ¬ fi x 31 27 = 1 ∧ ¬ fi x 31 27 = 4 ∧ ¬ fi x 31 27 = 8 ∧ ¬ fi x 31 27 = 12 ∧ ¬ fi x 31 27 = 16 ∧ ¬ fi x 31 27 = 20 ∧ ¬ fi x 31 27 = 24 ∧ ¬ fi x 31 27 = 28)) :
    Calls Tryd.prog 28 #[.int .u32 (q x)] w fun e w' => e = .returned (amoOf x).val ∧ On w w' := by
  have e4 : fi x 31 25 / 4 = fi x 31 27 := (f7_parts x).2.1
  have b0 : (fi x 31 27 == 2) = false := by simpa using N.out.1
  have b1 : (fi x 31 27 == 3) = false := by simpa using N.out.2.1
  have b2 : (fi x 31 27 == 0) = false := by simpa using N.out.2.2.1
  have b3 : (fi x 31 27 == 1) = false := by simpa using N.out.2.2.2.1
  have b4 : (fi x 31 27 == 4) = false := by simpa using N.out.2.2.2.2.1
  have b5 : (fi x 31 27 == 8) = false := by simpa using N.out.2.2.2.2.2.1
  have b6 : (fi x 31 27 == 12) = false := by simpa using N.out.2.2.2.2.2.2.1
  have b7 : (fi x 31 27 == 16) = false := by simpa using N.out.2.2.2.2.2.2.2.1
  have b8 : (fi x 31 27 == 20) = false := by simpa using N.out.2.2.2.2.2.2.2.2.1
  have b9 : (fi x 31 27 == 24) = false := by simpa using N.out.2.2.2.2.2.2.2.2.2.1
  have b10 : (fi x 31 27 == 28) = false := by simpa using N.out.2.2.2.2.2.2.2.2.2.2
  have HB := hb0 w
  go_enter Tryd.func28, Tryd.ntmps28
  go_wp2
  go_step3
  go_wp2_with (first | (go_at_call 16; refine (rd_any _ _).mono ?_; rintro e wn ⟨rfl, h⟩; replace HB := tr HB h; clear h) | (go_at_call 17; refine (rs1_any _ _).mono ?_; rintro e wn ⟨rfl, h⟩; replace HB := tr HB h; clear h) | (go_at_call 18; refine (rs2_any _ _).mono ?_; rintro e wn ⟨rfl, h⟩; replace HB := tr HB h; clear h) | (refine own_store w rfl rfl rfl rfl rfl (by simp [Value.oneCell']) ?_ ?_; focus ((repeat (first | exact heap_on HB.out | refine heap_past _ ?_ | refine heap_far ?_ (Nat.ne_of_gt HL.out) _)); done)) | (go_at_call 19; refine (funct3_any _ _).mono ?_; rintro e wm ⟨rfl, h⟩; obtain ⟨k0, k1, k2, k3, k4, k5, k6, k7, k8, k9, k10, kf, hlt⟩ := own11 h; have HL := Lib.hid (on_size HB.out); replace HB := tr1 HB h; clear h) | (go_at_call 41; refine (funct7_any _ _).mono ?_; rintro e wx ⟨rfl, h⟩; have h11 := put6 h hlt k0 k1 k2 k3 k4 k5 k6 k7 k8 k9 k10 kf; replace HB := trs HB HL h; clear h hlt k0 k1 k2 k3 k4 k5 k6 k7 k8 k9 k10 kf; obtain ⟨k0, k1, k2, k3, k4, k5, k6, k7, k8, k9, k10, kf, hlt⟩ := h11))
  go_step3
  go_wp2_with (first | (go_at_call 16; refine (rd_any _ _).mono ?_; rintro e wn ⟨rfl, h⟩; replace HB := tr HB h; clear h) | (go_at_call 17; refine (rs1_any _ _).mono ?_; rintro e wn ⟨rfl, h⟩; replace HB := tr HB h; clear h) | (go_at_call 18; refine (rs2_any _ _).mono ?_; rintro e wn ⟨rfl, h⟩; replace HB := tr HB h; clear h) | (refine own_store w rfl rfl rfl rfl rfl (by simp [Value.oneCell']) ?_ ?_; focus ((repeat (first | exact heap_on HB.out | refine heap_past _ ?_ | refine heap_far ?_ (Nat.ne_of_gt HL.out) _)); done)) | (go_at_call 19; refine (funct3_any _ _).mono ?_; rintro e wm ⟨rfl, h⟩; obtain ⟨k0, k1, k2, k3, k4, k5, k6, k7, k8, k9, k10, kf, hlt⟩ := own11 h; have HL := Lib.hid (on_size HB.out); replace HB := tr1 HB h; clear h) | (go_at_call 41; refine (funct7_any _ _).mono ?_; rintro e wx ⟨rfl, h⟩; have h11 := put6 h hlt k0 k1 k2 k3 k4 k5 k6 k7 k8 k9 k10 kf; replace HB := trs HB HL h; clear h hlt k0 k1 k2 k3 k4 k5 k6 k7 k8 k9 k10 kf; obtain ⟨k0, k1, k2, k3, k4, k5, k6, k7, k8, k9, k10, kf, hlt⟩ := h11))
  rw [Exit.noGoto_ret]
  refine own_back w rfl rfl rfl rfl ?_ ?_; (focus ((repeat (first | exact heap_on HB.out | refine heap_past _ ?_ | refine heap_far ?_ (Nat.ne_of_gt HL.out) _)); done))
  exact ⟨by unfold amoOf; (simp [h3, N.out, Ins.zero, Ins.val, u_nil]) <;> rfl, by ((repeat (first | apply On.rowO | refine On.setO ?_ HL.out | apply On.alloc)); first | exact On.refl w | exact on_of HB.out)⟩
set_option maxRecDepth 100000 in
set_option maxHeartbeats 4000000 in
theorem amo_3_3 (x : BitVec 32) (w : World) (h3 : fi x 14 12 = 3) (h5 : fi x 31 27 = 3) :
    Calls Tryd.prog 28 #[.int .u32 (q x)] w fun e w' => e = .returned (amoOf x).val ∧ On w w' := by
  have e4 : fi x 31 25 / 4 = 3 := (f7_parts x).2.1.trans h5
  have HB := hb0 w
  go_enter Tryd.func28, Tryd.ntmps28
  go_wp2
  go_step3
  go_wp2_with (first | (go_at_call 16; refine (rd_any _ _).mono ?_; rintro e wn ⟨rfl, h⟩; replace HB := tr HB h; clear h) | (go_at_call 17; refine (rs1_any _ _).mono ?_; rintro e wn ⟨rfl, h⟩; replace HB := tr HB h; clear h) | (go_at_call 18; refine (rs2_any _ _).mono ?_; rintro e wn ⟨rfl, h⟩; replace HB := tr HB h; clear h) | (refine own_store w rfl rfl rfl rfl rfl (by simp [Value.oneCell']) ?_ ?_; focus ((repeat (first | exact heap_on HB.out | refine heap_past _ ?_ | refine heap_far ?_ (Nat.ne_of_gt HL.out) _)); done)) | (go_at_call 19; refine (funct3_any _ _).mono ?_; rintro e wm ⟨rfl, h⟩; obtain ⟨k0, k1, k2, k3, k4, k5, k6, k7, k8, k9, k10, kf, hlt⟩ := own11 h; have HL := Lib.hid (on_size HB.out); replace HB := tr1 HB h; clear h) | (go_at_call 41; refine (funct7_any _ _).mono ?_; rintro e wx ⟨rfl, h⟩; have h11 := put6 h hlt k0 k1 k2 k3 k4 k5 k6 k7 k8 k9 k10 kf; replace HB := trs HB HL h; clear h hlt k0 k1 k2 k3 k4 k5 k6 k7 k8 k9 k10 kf; obtain ⟨k0, k1, k2, k3, k4, k5, k6, k7, k8, k9, k10, kf, hlt⟩ := h11))
  go_step3
  go_wp2_with (first | (go_at_call 16; refine (rd_any _ _).mono ?_; rintro e wn ⟨rfl, h⟩; replace HB := tr HB h; clear h) | (go_at_call 17; refine (rs1_any _ _).mono ?_; rintro e wn ⟨rfl, h⟩; replace HB := tr HB h; clear h) | (go_at_call 18; refine (rs2_any _ _).mono ?_; rintro e wn ⟨rfl, h⟩; replace HB := tr HB h; clear h) | (refine own_store w rfl rfl rfl rfl rfl (by simp [Value.oneCell']) ?_ ?_; focus ((repeat (first | exact heap_on HB.out | refine heap_past _ ?_ | refine heap_far ?_ (Nat.ne_of_gt HL.out) _)); done)) | (go_at_call 19; refine (funct3_any _ _).mono ?_; rintro e wm ⟨rfl, h⟩; obtain ⟨k0, k1, k2, k3, k4, k5, k6, k7, k8, k9, k10, kf, hlt⟩ := own11 h; have HL := Lib.hid (on_size HB.out); replace HB := tr1 HB h; clear h) | (go_at_call 41; refine (funct7_any _ _).mono ?_; rintro e wx ⟨rfl, h⟩; have h11 := put6 h hlt k0 k1 k2 k3 k4 k5 k6 k7 k8 k9 k10 kf; replace HB := trs HB HL h; clear h hlt k0 k1 k2 k3 k4 k5 k6 k7 k8 k9 k10 kf; obtain ⟨k0, k1, k2, k3, k4, k5, k6, k7, k8, k9, k10, kf, hlt⟩ := h11))
  rw [Exit.noGoto_ret]
  refine own_back w rfl rfl rfl rfl ?_ ?_; (focus ((repeat (first | exact heap_on HB.out | refine heap_past _ ?_ | refine heap_far ?_ (Nat.ne_of_gt HL.out) _)); done))
  exact ⟨by unfold amoOf; (simp [h3, h5, Ins.zero, Ins.val, u_nil]) <;> rfl, by ((repeat (first | apply On.rowO | refine On.setO ?_ HL.out | apply On.alloc)); first | exact On.refl w | exact on_of HB.out)⟩
set_option maxRecDepth 100000 in
set_option maxHeartbeats 4000000 in
theorem amo_3_0 (x : BitVec 32) (w : World) (h3 : fi x 14 12 = 3) (h5 : fi x 31 27 = 0) :
    Calls Tryd.prog 28 #[.int .u32 (q x)] w fun e w' => e = .returned (amoOf x).val ∧ On w w' := by
  have e4 : fi x 31 25 / 4 = 0 := (f7_parts x).2.1.trans h5
  have HB := hb0 w
  go_enter Tryd.func28, Tryd.ntmps28
  go_wp2
  go_step3
  go_wp2_with (first | (go_at_call 16; refine (rd_any _ _).mono ?_; rintro e wn ⟨rfl, h⟩; replace HB := tr HB h; clear h) | (go_at_call 17; refine (rs1_any _ _).mono ?_; rintro e wn ⟨rfl, h⟩; replace HB := tr HB h; clear h) | (go_at_call 18; refine (rs2_any _ _).mono ?_; rintro e wn ⟨rfl, h⟩; replace HB := tr HB h; clear h) | (refine own_store w rfl rfl rfl rfl rfl (by simp [Value.oneCell']) ?_ ?_; focus ((repeat (first | exact heap_on HB.out | refine heap_past _ ?_ | refine heap_far ?_ (Nat.ne_of_gt HL.out) _)); done)) | (go_at_call 19; refine (funct3_any _ _).mono ?_; rintro e wm ⟨rfl, h⟩; obtain ⟨k0, k1, k2, k3, k4, k5, k6, k7, k8, k9, k10, kf, hlt⟩ := own11 h; have HL := Lib.hid (on_size HB.out); replace HB := tr1 HB h; clear h) | (go_at_call 41; refine (funct7_any _ _).mono ?_; rintro e wx ⟨rfl, h⟩; have h11 := put6 h hlt k0 k1 k2 k3 k4 k5 k6 k7 k8 k9 k10 kf; replace HB := trs HB HL h; clear h hlt k0 k1 k2 k3 k4 k5 k6 k7 k8 k9 k10 kf; obtain ⟨k0, k1, k2, k3, k4, k5, k6, k7, k8, k9, k10, kf, hlt⟩ := h11))
  go_step3
  go_wp2_with (first | (go_at_call 16; refine (rd_any _ _).mono ?_; rintro e wn ⟨rfl, h⟩; replace HB := tr HB h; clear h) | (go_at_call 17; refine (rs1_any _ _).mono ?_; rintro e wn ⟨rfl, h⟩; replace HB := tr HB h; clear h) | (go_at_call 18; refine (rs2_any _ _).mono ?_; rintro e wn ⟨rfl, h⟩; replace HB := tr HB h; clear h) | (refine own_store w rfl rfl rfl rfl rfl (by simp [Value.oneCell']) ?_ ?_; focus ((repeat (first | exact heap_on HB.out | refine heap_past _ ?_ | refine heap_far ?_ (Nat.ne_of_gt HL.out) _)); done)) | (go_at_call 19; refine (funct3_any _ _).mono ?_; rintro e wm ⟨rfl, h⟩; obtain ⟨k0, k1, k2, k3, k4, k5, k6, k7, k8, k9, k10, kf, hlt⟩ := own11 h; have HL := Lib.hid (on_size HB.out); replace HB := tr1 HB h; clear h) | (go_at_call 41; refine (funct7_any _ _).mono ?_; rintro e wx ⟨rfl, h⟩; have h11 := put6 h hlt k0 k1 k2 k3 k4 k5 k6 k7 k8 k9 k10 kf; replace HB := trs HB HL h; clear h hlt k0 k1 k2 k3 k4 k5 k6 k7 k8 k9 k10 kf; obtain ⟨k0, k1, k2, k3, k4, k5, k6, k7, k8, k9, k10, kf, hlt⟩ := h11))
  rw [Exit.noGoto_ret]
  refine own_back w rfl rfl rfl rfl ?_ ?_; (focus ((repeat (first | exact heap_on HB.out | refine heap_past _ ?_ | refine heap_far ?_ (Nat.ne_of_gt HL.out) _)); done))
  exact ⟨by unfold amoOf; (simp [h3, h5, Ins.zero, Ins.val, u_nil]) <;> rfl, by ((repeat (first | apply On.rowO | refine On.setO ?_ HL.out | apply On.alloc)); first | exact On.refl w | exact on_of HB.out)⟩
set_option maxRecDepth 100000 in
set_option maxHeartbeats 4000000 in
theorem amo_3_1 (x : BitVec 32) (w : World) (h3 : fi x 14 12 = 3) (h5 : fi x 31 27 = 1) :
    Calls Tryd.prog 28 #[.int .u32 (q x)] w fun e w' => e = .returned (amoOf x).val ∧ On w w' := by
  have e4 : fi x 31 25 / 4 = 1 := (f7_parts x).2.1.trans h5
  have HB := hb0 w
  go_enter Tryd.func28, Tryd.ntmps28
  go_wp2
  go_step3
  go_wp2_with (first | (go_at_call 16; refine (rd_any _ _).mono ?_; rintro e wn ⟨rfl, h⟩; replace HB := tr HB h; clear h) | (go_at_call 17; refine (rs1_any _ _).mono ?_; rintro e wn ⟨rfl, h⟩; replace HB := tr HB h; clear h) | (go_at_call 18; refine (rs2_any _ _).mono ?_; rintro e wn ⟨rfl, h⟩; replace HB := tr HB h; clear h) | (refine own_store w rfl rfl rfl rfl rfl (by simp [Value.oneCell']) ?_ ?_; focus ((repeat (first | exact heap_on HB.out | refine heap_past _ ?_ | refine heap_far ?_ (Nat.ne_of_gt HL.out) _)); done)) | (go_at_call 19; refine (funct3_any _ _).mono ?_; rintro e wm ⟨rfl, h⟩; obtain ⟨k0, k1, k2, k3, k4, k5, k6, k7, k8, k9, k10, kf, hlt⟩ := own11 h; have HL := Lib.hid (on_size HB.out); replace HB := tr1 HB h; clear h) | (go_at_call 41; refine (funct7_any _ _).mono ?_; rintro e wx ⟨rfl, h⟩; have h11 := put6 h hlt k0 k1 k2 k3 k4 k5 k6 k7 k8 k9 k10 kf; replace HB := trs HB HL h; clear h hlt k0 k1 k2 k3 k4 k5 k6 k7 k8 k9 k10 kf; obtain ⟨k0, k1, k2, k3, k4, k5, k6, k7, k8, k9, k10, kf, hlt⟩ := h11))
  go_step3
  go_wp2_with (first | (go_at_call 16; refine (rd_any _ _).mono ?_; rintro e wn ⟨rfl, h⟩; replace HB := tr HB h; clear h) | (go_at_call 17; refine (rs1_any _ _).mono ?_; rintro e wn ⟨rfl, h⟩; replace HB := tr HB h; clear h) | (go_at_call 18; refine (rs2_any _ _).mono ?_; rintro e wn ⟨rfl, h⟩; replace HB := tr HB h; clear h) | (refine own_store w rfl rfl rfl rfl rfl (by simp [Value.oneCell']) ?_ ?_; focus ((repeat (first | exact heap_on HB.out | refine heap_past _ ?_ | refine heap_far ?_ (Nat.ne_of_gt HL.out) _)); done)) | (go_at_call 19; refine (funct3_any _ _).mono ?_; rintro e wm ⟨rfl, h⟩; obtain ⟨k0, k1, k2, k3, k4, k5, k6, k7, k8, k9, k10, kf, hlt⟩ := own11 h; have HL := Lib.hid (on_size HB.out); replace HB := tr1 HB h; clear h) | (go_at_call 41; refine (funct7_any _ _).mono ?_; rintro e wx ⟨rfl, h⟩; have h11 := put6 h hlt k0 k1 k2 k3 k4 k5 k6 k7 k8 k9 k10 kf; replace HB := trs HB HL h; clear h hlt k0 k1 k2 k3 k4 k5 k6 k7 k8 k9 k10 kf; obtain ⟨k0, k1, k2, k3, k4, k5, k6, k7, k8, k9, k10, kf, hlt⟩ := h11))
  rw [Exit.noGoto_ret]
  refine own_back w rfl rfl rfl rfl ?_ ?_; (focus ((repeat (first | exact heap_on HB.out | refine heap_past _ ?_ | refine heap_far ?_ (Nat.ne_of_gt HL.out) _)); done))
  exact ⟨by unfold amoOf; (simp [h3, h5, Ins.zero, Ins.val, u_nil]) <;> rfl, by ((repeat (first | apply On.rowO | refine On.setO ?_ HL.out | apply On.alloc)); first | exact On.refl w | exact on_of HB.out)⟩
set_option maxRecDepth 100000 in
set_option maxHeartbeats 4000000 in
theorem amo_3_4 (x : BitVec 32) (w : World) (h3 : fi x 14 12 = 3) (h5 : fi x 31 27 = 4) :
    Calls Tryd.prog 28 #[.int .u32 (q x)] w fun e w' => e = .returned (amoOf x).val ∧ On w w' := by
  have e4 : fi x 31 25 / 4 = 4 := (f7_parts x).2.1.trans h5
  have HB := hb0 w
  go_enter Tryd.func28, Tryd.ntmps28
  go_wp2
  go_step3
  go_wp2_with (first | (go_at_call 16; refine (rd_any _ _).mono ?_; rintro e wn ⟨rfl, h⟩; replace HB := tr HB h; clear h) | (go_at_call 17; refine (rs1_any _ _).mono ?_; rintro e wn ⟨rfl, h⟩; replace HB := tr HB h; clear h) | (go_at_call 18; refine (rs2_any _ _).mono ?_; rintro e wn ⟨rfl, h⟩; replace HB := tr HB h; clear h) | (refine own_store w rfl rfl rfl rfl rfl (by simp [Value.oneCell']) ?_ ?_; focus ((repeat (first | exact heap_on HB.out | refine heap_past _ ?_ | refine heap_far ?_ (Nat.ne_of_gt HL.out) _)); done)) | (go_at_call 19; refine (funct3_any _ _).mono ?_; rintro e wm ⟨rfl, h⟩; obtain ⟨k0, k1, k2, k3, k4, k5, k6, k7, k8, k9, k10, kf, hlt⟩ := own11 h; have HL := Lib.hid (on_size HB.out); replace HB := tr1 HB h; clear h) | (go_at_call 41; refine (funct7_any _ _).mono ?_; rintro e wx ⟨rfl, h⟩; have h11 := put6 h hlt k0 k1 k2 k3 k4 k5 k6 k7 k8 k9 k10 kf; replace HB := trs HB HL h; clear h hlt k0 k1 k2 k3 k4 k5 k6 k7 k8 k9 k10 kf; obtain ⟨k0, k1, k2, k3, k4, k5, k6, k7, k8, k9, k10, kf, hlt⟩ := h11))
  go_step3
  go_wp2_with (first | (go_at_call 16; refine (rd_any _ _).mono ?_; rintro e wn ⟨rfl, h⟩; replace HB := tr HB h; clear h) | (go_at_call 17; refine (rs1_any _ _).mono ?_; rintro e wn ⟨rfl, h⟩; replace HB := tr HB h; clear h) | (go_at_call 18; refine (rs2_any _ _).mono ?_; rintro e wn ⟨rfl, h⟩; replace HB := tr HB h; clear h) | (refine own_store w rfl rfl rfl rfl rfl (by simp [Value.oneCell']) ?_ ?_; focus ((repeat (first | exact heap_on HB.out | refine heap_past _ ?_ | refine heap_far ?_ (Nat.ne_of_gt HL.out) _)); done)) | (go_at_call 19; refine (funct3_any _ _).mono ?_; rintro e wm ⟨rfl, h⟩; obtain ⟨k0, k1, k2, k3, k4, k5, k6, k7, k8, k9, k10, kf, hlt⟩ := own11 h; have HL := Lib.hid (on_size HB.out); replace HB := tr1 HB h; clear h) | (go_at_call 41; refine (funct7_any _ _).mono ?_; rintro e wx ⟨rfl, h⟩; have h11 := put6 h hlt k0 k1 k2 k3 k4 k5 k6 k7 k8 k9 k10 kf; replace HB := trs HB HL h; clear h hlt k0 k1 k2 k3 k4 k5 k6 k7 k8 k9 k10 kf; obtain ⟨k0, k1, k2, k3, k4, k5, k6, k7, k8, k9, k10, kf, hlt⟩ := h11))
  rw [Exit.noGoto_ret]
  refine own_back w rfl rfl rfl rfl ?_ ?_; (focus ((repeat (first | exact heap_on HB.out | refine heap_past _ ?_ | refine heap_far ?_ (Nat.ne_of_gt HL.out) _)); done))
  exact ⟨by unfold amoOf; (simp [h3, h5, Ins.zero, Ins.val, u_nil]) <;> rfl, by ((repeat (first | apply On.rowO | refine On.setO ?_ HL.out | apply On.alloc)); first | exact On.refl w | exact on_of HB.out)⟩
set_option maxRecDepth 100000 in
set_option maxHeartbeats 4000000 in
theorem amo_3_8 (x : BitVec 32) (w : World) (h3 : fi x 14 12 = 3) (h5 : fi x 31 27 = 8) :
    Calls Tryd.prog 28 #[.int .u32 (q x)] w fun e w' => e = .returned (amoOf x).val ∧ On w w' := by
  have e4 : fi x 31 25 / 4 = 8 := (f7_parts x).2.1.trans h5
  have HB := hb0 w
  go_enter Tryd.func28, Tryd.ntmps28
  go_wp2
  go_step3
  go_wp2_with (first | (go_at_call 16; refine (rd_any _ _).mono ?_; rintro e wn ⟨rfl, h⟩; replace HB := tr HB h; clear h) | (go_at_call 17; refine (rs1_any _ _).mono ?_; rintro e wn ⟨rfl, h⟩; replace HB := tr HB h; clear h) | (go_at_call 18; refine (rs2_any _ _).mono ?_; rintro e wn ⟨rfl, h⟩; replace HB := tr HB h; clear h) | (refine own_store w rfl rfl rfl rfl rfl (by simp [Value.oneCell']) ?_ ?_; focus ((repeat (first | exact heap_on HB.out | refine heap_past _ ?_ | refine heap_far ?_ (Nat.ne_of_gt HL.out) _)); done)) | (go_at_call 19; refine (funct3_any _ _).mono ?_; rintro e wm ⟨rfl, h⟩; obtain ⟨k0, k1, k2, k3, k4, k5, k6, k7, k8, k9, k10, kf, hlt⟩ := own11 h; have HL := Lib.hid (on_size HB.out); replace HB := tr1 HB h; clear h) | (go_at_call 41; refine (funct7_any _ _).mono ?_; rintro e wx ⟨rfl, h⟩; have h11 := put6 h hlt k0 k1 k2 k3 k4 k5 k6 k7 k8 k9 k10 kf; replace HB := trs HB HL h; clear h hlt k0 k1 k2 k3 k4 k5 k6 k7 k8 k9 k10 kf; obtain ⟨k0, k1, k2, k3, k4, k5, k6, k7, k8, k9, k10, kf, hlt⟩ := h11))
  go_step3
  go_wp2_with (first | (go_at_call 16; refine (rd_any _ _).mono ?_; rintro e wn ⟨rfl, h⟩; replace HB := tr HB h; clear h) | (go_at_call 17; refine (rs1_any _ _).mono ?_; rintro e wn ⟨rfl, h⟩; replace HB := tr HB h; clear h) | (go_at_call 18; refine (rs2_any _ _).mono ?_; rintro e wn ⟨rfl, h⟩; replace HB := tr HB h; clear h) | (refine own_store w rfl rfl rfl rfl rfl (by simp [Value.oneCell']) ?_ ?_; focus ((repeat (first | exact heap_on HB.out | refine heap_past _ ?_ | refine heap_far ?_ (Nat.ne_of_gt HL.out) _)); done)) | (go_at_call 19; refine (funct3_any _ _).mono ?_; rintro e wm ⟨rfl, h⟩; obtain ⟨k0, k1, k2, k3, k4, k5, k6, k7, k8, k9, k10, kf, hlt⟩ := own11 h; have HL := Lib.hid (on_size HB.out); replace HB := tr1 HB h; clear h) | (go_at_call 41; refine (funct7_any _ _).mono ?_; rintro e wx ⟨rfl, h⟩; have h11 := put6 h hlt k0 k1 k2 k3 k4 k5 k6 k7 k8 k9 k10 kf; replace HB := trs HB HL h; clear h hlt k0 k1 k2 k3 k4 k5 k6 k7 k8 k9 k10 kf; obtain ⟨k0, k1, k2, k3, k4, k5, k6, k7, k8, k9, k10, kf, hlt⟩ := h11))
  rw [Exit.noGoto_ret]
  refine own_back w rfl rfl rfl rfl ?_ ?_; (focus ((repeat (first | exact heap_on HB.out | refine heap_past _ ?_ | refine heap_far ?_ (Nat.ne_of_gt HL.out) _)); done))
  exact ⟨by unfold amoOf; (simp [h3, h5, Ins.zero, Ins.val, u_nil]) <;> rfl, by ((repeat (first | apply On.rowO | refine On.setO ?_ HL.out | apply On.alloc)); first | exact On.refl w | exact on_of HB.out)⟩
set_option maxRecDepth 100000 in
set_option maxHeartbeats 4000000 in
theorem amo_3_12 (x : BitVec 32) (w : World) (h3 : fi x 14 12 = 3) (h5 : fi x 31 27 = 12) :
    Calls Tryd.prog 28 #[.int .u32 (q x)] w fun e w' => e = .returned (amoOf x).val ∧ On w w' := by
  have e4 : fi x 31 25 / 4 = 12 := (f7_parts x).2.1.trans h5
  have HB := hb0 w
  go_enter Tryd.func28, Tryd.ntmps28
  go_wp2
  go_step3
  go_wp2_with (first | (go_at_call 16; refine (rd_any _ _).mono ?_; rintro e wn ⟨rfl, h⟩; replace HB := tr HB h; clear h) | (go_at_call 17; refine (rs1_any _ _).mono ?_; rintro e wn ⟨rfl, h⟩; replace HB := tr HB h; clear h) | (go_at_call 18; refine (rs2_any _ _).mono ?_; rintro e wn ⟨rfl, h⟩; replace HB := tr HB h; clear h) | (refine own_store w rfl rfl rfl rfl rfl (by simp [Value.oneCell']) ?_ ?_; focus ((repeat (first | exact heap_on HB.out | refine heap_past _ ?_ | refine heap_far ?_ (Nat.ne_of_gt HL.out) _)); done)) | (go_at_call 19; refine (funct3_any _ _).mono ?_; rintro e wm ⟨rfl, h⟩; obtain ⟨k0, k1, k2, k3, k4, k5, k6, k7, k8, k9, k10, kf, hlt⟩ := own11 h; have HL := Lib.hid (on_size HB.out); replace HB := tr1 HB h; clear h) | (go_at_call 41; refine (funct7_any _ _).mono ?_; rintro e wx ⟨rfl, h⟩; have h11 := put6 h hlt k0 k1 k2 k3 k4 k5 k6 k7 k8 k9 k10 kf; replace HB := trs HB HL h; clear h hlt k0 k1 k2 k3 k4 k5 k6 k7 k8 k9 k10 kf; obtain ⟨k0, k1, k2, k3, k4, k5, k6, k7, k8, k9, k10, kf, hlt⟩ := h11))
  go_step3
  go_wp2_with (first | (go_at_call 16; refine (rd_any _ _).mono ?_; rintro e wn ⟨rfl, h⟩; replace HB := tr HB h; clear h) | (go_at_call 17; refine (rs1_any _ _).mono ?_; rintro e wn ⟨rfl, h⟩; replace HB := tr HB h; clear h) | (go_at_call 18; refine (rs2_any _ _).mono ?_; rintro e wn ⟨rfl, h⟩; replace HB := tr HB h; clear h) | (refine own_store w rfl rfl rfl rfl rfl (by simp [Value.oneCell']) ?_ ?_; focus ((repeat (first | exact heap_on HB.out | refine heap_past _ ?_ | refine heap_far ?_ (Nat.ne_of_gt HL.out) _)); done)) | (go_at_call 19; refine (funct3_any _ _).mono ?_; rintro e wm ⟨rfl, h⟩; obtain ⟨k0, k1, k2, k3, k4, k5, k6, k7, k8, k9, k10, kf, hlt⟩ := own11 h; have HL := Lib.hid (on_size HB.out); replace HB := tr1 HB h; clear h) | (go_at_call 41; refine (funct7_any _ _).mono ?_; rintro e wx ⟨rfl, h⟩; have h11 := put6 h hlt k0 k1 k2 k3 k4 k5 k6 k7 k8 k9 k10 kf; replace HB := trs HB HL h; clear h hlt k0 k1 k2 k3 k4 k5 k6 k7 k8 k9 k10 kf; obtain ⟨k0, k1, k2, k3, k4, k5, k6, k7, k8, k9, k10, kf, hlt⟩ := h11))
  rw [Exit.noGoto_ret]
  refine own_back w rfl rfl rfl rfl ?_ ?_; (focus ((repeat (first | exact heap_on HB.out | refine heap_past _ ?_ | refine heap_far ?_ (Nat.ne_of_gt HL.out) _)); done))
  exact ⟨by unfold amoOf; (simp [h3, h5, Ins.zero, Ins.val, u_nil]) <;> rfl, by ((repeat (first | apply On.rowO | refine On.setO ?_ HL.out | apply On.alloc)); first | exact On.refl w | exact on_of HB.out)⟩
set_option maxRecDepth 100000 in
set_option maxHeartbeats 4000000 in
theorem amo_3_16 (x : BitVec 32) (w : World) (h3 : fi x 14 12 = 3) (h5 : fi x 31 27 = 16) :
    Calls Tryd.prog 28 #[.int .u32 (q x)] w fun e w' => e = .returned (amoOf x).val ∧ On w w' := by
  have e4 : fi x 31 25 / 4 = 16 := (f7_parts x).2.1.trans h5
  have HB := hb0 w
  go_enter Tryd.func28, Tryd.ntmps28
  go_wp2
  go_step3
  go_wp2_with (first | (go_at_call 16; refine (rd_any _ _).mono ?_; rintro e wn ⟨rfl, h⟩; replace HB := tr HB h; clear h) | (go_at_call 17; refine (rs1_any _ _).mono ?_; rintro e wn ⟨rfl, h⟩; replace HB := tr HB h; clear h) | (go_at_call 18; refine (rs2_any _ _).mono ?_; rintro e wn ⟨rfl, h⟩; replace HB := tr HB h; clear h) | (refine own_store w rfl rfl rfl rfl rfl (by simp [Value.oneCell']) ?_ ?_; focus ((repeat (first | exact heap_on HB.out | refine heap_past _ ?_ | refine heap_far ?_ (Nat.ne_of_gt HL.out) _)); done)) | (go_at_call 19; refine (funct3_any _ _).mono ?_; rintro e wm ⟨rfl, h⟩; obtain ⟨k0, k1, k2, k3, k4, k5, k6, k7, k8, k9, k10, kf, hlt⟩ := own11 h; have HL := Lib.hid (on_size HB.out); replace HB := tr1 HB h; clear h) | (go_at_call 41; refine (funct7_any _ _).mono ?_; rintro e wx ⟨rfl, h⟩; have h11 := put6 h hlt k0 k1 k2 k3 k4 k5 k6 k7 k8 k9 k10 kf; replace HB := trs HB HL h; clear h hlt k0 k1 k2 k3 k4 k5 k6 k7 k8 k9 k10 kf; obtain ⟨k0, k1, k2, k3, k4, k5, k6, k7, k8, k9, k10, kf, hlt⟩ := h11))
  go_step3
  go_wp2_with (first | (go_at_call 16; refine (rd_any _ _).mono ?_; rintro e wn ⟨rfl, h⟩; replace HB := tr HB h; clear h) | (go_at_call 17; refine (rs1_any _ _).mono ?_; rintro e wn ⟨rfl, h⟩; replace HB := tr HB h; clear h) | (go_at_call 18; refine (rs2_any _ _).mono ?_; rintro e wn ⟨rfl, h⟩; replace HB := tr HB h; clear h) | (refine own_store w rfl rfl rfl rfl rfl (by simp [Value.oneCell']) ?_ ?_; focus ((repeat (first | exact heap_on HB.out | refine heap_past _ ?_ | refine heap_far ?_ (Nat.ne_of_gt HL.out) _)); done)) | (go_at_call 19; refine (funct3_any _ _).mono ?_; rintro e wm ⟨rfl, h⟩; obtain ⟨k0, k1, k2, k3, k4, k5, k6, k7, k8, k9, k10, kf, hlt⟩ := own11 h; have HL := Lib.hid (on_size HB.out); replace HB := tr1 HB h; clear h) | (go_at_call 41; refine (funct7_any _ _).mono ?_; rintro e wx ⟨rfl, h⟩; have h11 := put6 h hlt k0 k1 k2 k3 k4 k5 k6 k7 k8 k9 k10 kf; replace HB := trs HB HL h; clear h hlt k0 k1 k2 k3 k4 k5 k6 k7 k8 k9 k10 kf; obtain ⟨k0, k1, k2, k3, k4, k5, k6, k7, k8, k9, k10, kf, hlt⟩ := h11))
  rw [Exit.noGoto_ret]
  refine own_back w rfl rfl rfl rfl ?_ ?_; (focus ((repeat (first | exact heap_on HB.out | refine heap_past _ ?_ | refine heap_far ?_ (Nat.ne_of_gt HL.out) _)); done))
  exact ⟨by unfold amoOf; (simp [h3, h5, Ins.zero, Ins.val, u_nil]) <;> rfl, by ((repeat (first | apply On.rowO | refine On.setO ?_ HL.out | apply On.alloc)); first | exact On.refl w | exact on_of HB.out)⟩
set_option maxRecDepth 100000 in
set_option maxHeartbeats 4000000 in
theorem amo_3_20 (x : BitVec 32) (w : World) (h3 : fi x 14 12 = 3) (h5 : fi x 31 27 = 20) :
    Calls Tryd.prog 28 #[.int .u32 (q x)] w fun e w' => e = .returned (amoOf x).val ∧ On w w' := by
  have e4 : fi x 31 25 / 4 = 20 := (f7_parts x).2.1.trans h5
  have HB := hb0 w
  go_enter Tryd.func28, Tryd.ntmps28
  go_wp2
  go_step3
  go_wp2_with (first | (go_at_call 16; refine (rd_any _ _).mono ?_; rintro e wn ⟨rfl, h⟩; replace HB := tr HB h; clear h) | (go_at_call 17; refine (rs1_any _ _).mono ?_; rintro e wn ⟨rfl, h⟩; replace HB := tr HB h; clear h) | (go_at_call 18; refine (rs2_any _ _).mono ?_; rintro e wn ⟨rfl, h⟩; replace HB := tr HB h; clear h) | (refine own_store w rfl rfl rfl rfl rfl (by simp [Value.oneCell']) ?_ ?_; focus ((repeat (first | exact heap_on HB.out | refine heap_past _ ?_ | refine heap_far ?_ (Nat.ne_of_gt HL.out) _)); done)) | (go_at_call 19; refine (funct3_any _ _).mono ?_; rintro e wm ⟨rfl, h⟩; obtain ⟨k0, k1, k2, k3, k4, k5, k6, k7, k8, k9, k10, kf, hlt⟩ := own11 h; have HL := Lib.hid (on_size HB.out); replace HB := tr1 HB h; clear h) | (go_at_call 41; refine (funct7_any _ _).mono ?_; rintro e wx ⟨rfl, h⟩; have h11 := put6 h hlt k0 k1 k2 k3 k4 k5 k6 k7 k8 k9 k10 kf; replace HB := trs HB HL h; clear h hlt k0 k1 k2 k3 k4 k5 k6 k7 k8 k9 k10 kf; obtain ⟨k0, k1, k2, k3, k4, k5, k6, k7, k8, k9, k10, kf, hlt⟩ := h11))
  go_step3
  go_wp2_with (first | (go_at_call 16; refine (rd_any _ _).mono ?_; rintro e wn ⟨rfl, h⟩; replace HB := tr HB h; clear h) | (go_at_call 17; refine (rs1_any _ _).mono ?_; rintro e wn ⟨rfl, h⟩; replace HB := tr HB h; clear h) | (go_at_call 18; refine (rs2_any _ _).mono ?_; rintro e wn ⟨rfl, h⟩; replace HB := tr HB h; clear h) | (refine own_store w rfl rfl rfl rfl rfl (by simp [Value.oneCell']) ?_ ?_; focus ((repeat (first | exact heap_on HB.out | refine heap_past _ ?_ | refine heap_far ?_ (Nat.ne_of_gt HL.out) _)); done)) | (go_at_call 19; refine (funct3_any _ _).mono ?_; rintro e wm ⟨rfl, h⟩; obtain ⟨k0, k1, k2, k3, k4, k5, k6, k7, k8, k9, k10, kf, hlt⟩ := own11 h; have HL := Lib.hid (on_size HB.out); replace HB := tr1 HB h; clear h) | (go_at_call 41; refine (funct7_any _ _).mono ?_; rintro e wx ⟨rfl, h⟩; have h11 := put6 h hlt k0 k1 k2 k3 k4 k5 k6 k7 k8 k9 k10 kf; replace HB := trs HB HL h; clear h hlt k0 k1 k2 k3 k4 k5 k6 k7 k8 k9 k10 kf; obtain ⟨k0, k1, k2, k3, k4, k5, k6, k7, k8, k9, k10, kf, hlt⟩ := h11))
  rw [Exit.noGoto_ret]
  refine own_back w rfl rfl rfl rfl ?_ ?_; (focus ((repeat (first | exact heap_on HB.out | refine heap_past _ ?_ | refine heap_far ?_ (Nat.ne_of_gt HL.out) _)); done))
  exact ⟨by unfold amoOf; (simp [h3, h5, Ins.zero, Ins.val, u_nil]) <;> rfl, by ((repeat (first | apply On.rowO | refine On.setO ?_ HL.out | apply On.alloc)); first | exact On.refl w | exact on_of HB.out)⟩
set_option maxRecDepth 100000 in
set_option maxHeartbeats 4000000 in
theorem amo_3_24 (x : BitVec 32) (w : World) (h3 : fi x 14 12 = 3) (h5 : fi x 31 27 = 24) :
    Calls Tryd.prog 28 #[.int .u32 (q x)] w fun e w' => e = .returned (amoOf x).val ∧ On w w' := by
  have e4 : fi x 31 25 / 4 = 24 := (f7_parts x).2.1.trans h5
  have HB := hb0 w
  go_enter Tryd.func28, Tryd.ntmps28
  go_wp2
  go_step3
  go_wp2_with (first | (go_at_call 16; refine (rd_any _ _).mono ?_; rintro e wn ⟨rfl, h⟩; replace HB := tr HB h; clear h) | (go_at_call 17; refine (rs1_any _ _).mono ?_; rintro e wn ⟨rfl, h⟩; replace HB := tr HB h; clear h) | (go_at_call 18; refine (rs2_any _ _).mono ?_; rintro e wn ⟨rfl, h⟩; replace HB := tr HB h; clear h) | (refine own_store w rfl rfl rfl rfl rfl (by simp [Value.oneCell']) ?_ ?_; focus ((repeat (first | exact heap_on HB.out | refine heap_past _ ?_ | refine heap_far ?_ (Nat.ne_of_gt HL.out) _)); done)) | (go_at_call 19; refine (funct3_any _ _).mono ?_; rintro e wm ⟨rfl, h⟩; obtain ⟨k0, k1, k2, k3, k4, k5, k6, k7, k8, k9, k10, kf, hlt⟩ := own11 h; have HL := Lib.hid (on_size HB.out); replace HB := tr1 HB h; clear h) | (go_at_call 41; refine (funct7_any _ _).mono ?_; rintro e wx ⟨rfl, h⟩; have h11 := put6 h hlt k0 k1 k2 k3 k4 k5 k6 k7 k8 k9 k10 kf; replace HB := trs HB HL h; clear h hlt k0 k1 k2 k3 k4 k5 k6 k7 k8 k9 k10 kf; obtain ⟨k0, k1, k2, k3, k4, k5, k6, k7, k8, k9, k10, kf, hlt⟩ := h11))
  go_step3
  go_wp2_with (first | (go_at_call 16; refine (rd_any _ _).mono ?_; rintro e wn ⟨rfl, h⟩; replace HB := tr HB h; clear h) | (go_at_call 17; refine (rs1_any _ _).mono ?_; rintro e wn ⟨rfl, h⟩; replace HB := tr HB h; clear h) | (go_at_call 18; refine (rs2_any _ _).mono ?_; rintro e wn ⟨rfl, h⟩; replace HB := tr HB h; clear h) | (refine own_store w rfl rfl rfl rfl rfl (by simp [Value.oneCell']) ?_ ?_; focus ((repeat (first | exact heap_on HB.out | refine heap_past _ ?_ | refine heap_far ?_ (Nat.ne_of_gt HL.out) _)); done)) | (go_at_call 19; refine (funct3_any _ _).mono ?_; rintro e wm ⟨rfl, h⟩; obtain ⟨k0, k1, k2, k3, k4, k5, k6, k7, k8, k9, k10, kf, hlt⟩ := own11 h; have HL := Lib.hid (on_size HB.out); replace HB := tr1 HB h; clear h) | (go_at_call 41; refine (funct7_any _ _).mono ?_; rintro e wx ⟨rfl, h⟩; have h11 := put6 h hlt k0 k1 k2 k3 k4 k5 k6 k7 k8 k9 k10 kf; replace HB := trs HB HL h; clear h hlt k0 k1 k2 k3 k4 k5 k6 k7 k8 k9 k10 kf; obtain ⟨k0, k1, k2, k3, k4, k5, k6, k7, k8, k9, k10, kf, hlt⟩ := h11))
  rw [Exit.noGoto_ret]
  refine own_back w rfl rfl rfl rfl ?_ ?_; (focus ((repeat (first | exact heap_on HB.out | refine heap_past _ ?_ | refine heap_far ?_ (Nat.ne_of_gt HL.out) _)); done))
  exact ⟨by unfold amoOf; (simp [h3, h5, Ins.zero, Ins.val, u_nil]) <;> rfl, by ((repeat (first | apply On.rowO | refine On.setO ?_ HL.out | apply On.alloc)); first | exact On.refl w | exact on_of HB.out)⟩
set_option maxRecDepth 100000 in
set_option maxHeartbeats 4000000 in
theorem amo_3_28 (x : BitVec 32) (w : World) (h3 : fi x 14 12 = 3) (h5 : fi x 31 27 = 28) :
    Calls Tryd.prog 28 #[.int .u32 (q x)] w fun e w' => e = .returned (amoOf x).val ∧ On w w' := by
  have e4 : fi x 31 25 / 4 = 28 := (f7_parts x).2.1.trans h5
  have HB := hb0 w
  go_enter Tryd.func28, Tryd.ntmps28
  go_wp2
  go_step3
  go_wp2_with (first | (go_at_call 16; refine (rd_any _ _).mono ?_; rintro e wn ⟨rfl, h⟩; replace HB := tr HB h; clear h) | (go_at_call 17; refine (rs1_any _ _).mono ?_; rintro e wn ⟨rfl, h⟩; replace HB := tr HB h; clear h) | (go_at_call 18; refine (rs2_any _ _).mono ?_; rintro e wn ⟨rfl, h⟩; replace HB := tr HB h; clear h) | (refine own_store w rfl rfl rfl rfl rfl (by simp [Value.oneCell']) ?_ ?_; focus ((repeat (first | exact heap_on HB.out | refine heap_past _ ?_ | refine heap_far ?_ (Nat.ne_of_gt HL.out) _)); done)) | (go_at_call 19; refine (funct3_any _ _).mono ?_; rintro e wm ⟨rfl, h⟩; obtain ⟨k0, k1, k2, k3, k4, k5, k6, k7, k8, k9, k10, kf, hlt⟩ := own11 h; have HL := Lib.hid (on_size HB.out); replace HB := tr1 HB h; clear h) | (go_at_call 41; refine (funct7_any _ _).mono ?_; rintro e wx ⟨rfl, h⟩; have h11 := put6 h hlt k0 k1 k2 k3 k4 k5 k6 k7 k8 k9 k10 kf; replace HB := trs HB HL h; clear h hlt k0 k1 k2 k3 k4 k5 k6 k7 k8 k9 k10 kf; obtain ⟨k0, k1, k2, k3, k4, k5, k6, k7, k8, k9, k10, kf, hlt⟩ := h11))
  go_step3
  go_wp2_with (first | (go_at_call 16; refine (rd_any _ _).mono ?_; rintro e wn ⟨rfl, h⟩; replace HB := tr HB h; clear h) | (go_at_call 17; refine (rs1_any _ _).mono ?_; rintro e wn ⟨rfl, h⟩; replace HB := tr HB h; clear h) | (go_at_call 18; refine (rs2_any _ _).mono ?_; rintro e wn ⟨rfl, h⟩; replace HB := tr HB h; clear h) | (refine own_store w rfl rfl rfl rfl rfl (by simp [Value.oneCell']) ?_ ?_; focus ((repeat (first | exact heap_on HB.out | refine heap_past _ ?_ | refine heap_far ?_ (Nat.ne_of_gt HL.out) _)); done)) | (go_at_call 19; refine (funct3_any _ _).mono ?_; rintro e wm ⟨rfl, h⟩; obtain ⟨k0, k1, k2, k3, k4, k5, k6, k7, k8, k9, k10, kf, hlt⟩ := own11 h; have HL := Lib.hid (on_size HB.out); replace HB := tr1 HB h; clear h) | (go_at_call 41; refine (funct7_any _ _).mono ?_; rintro e wx ⟨rfl, h⟩; have h11 := put6 h hlt k0 k1 k2 k3 k4 k5 k6 k7 k8 k9 k10 kf; replace HB := trs HB HL h; clear h hlt k0 k1 k2 k3 k4 k5 k6 k7 k8 k9 k10 kf; obtain ⟨k0, k1, k2, k3, k4, k5, k6, k7, k8, k9, k10, kf, hlt⟩ := h11))
  rw [Exit.noGoto_ret]
  refine own_back w rfl rfl rfl rfl ?_ ?_; (focus ((repeat (first | exact heap_on HB.out | refine heap_past _ ?_ | refine heap_far ?_ (Nat.ne_of_gt HL.out) _)); done))
  exact ⟨by unfold amoOf; (simp [h3, h5, Ins.zero, Ins.val, u_nil]) <;> rfl, by ((repeat (first | apply On.rowO | refine On.setO ?_ HL.out | apply On.alloc)); first | exact On.refl w | exact on_of HB.out)⟩
set_option maxRecDepth 100000 in
set_option maxHeartbeats 4000000 in
theorem amo_3_2z (x : BitVec 32) (w : World) (h3 : fi x 14 12 = 3) (h5 : fi x 31 27 = 2) (h2 : fi x 24 20 = 0) :
    Calls Tryd.prog 28 #[.int .u32 (q x)] w fun e w' => e = .returned (amoOf x).val ∧ On w w' := by
  have e4 : fi x 31 25 / 4 = 2 := (f7_parts x).2.1.trans h5
  have HB := hb0 w
  go_enter Tryd.func28, Tryd.ntmps28
  go_wp2
  go_step3
  go_wp2_with (first | (go_at_call 16; refine (rd_any _ _).mono ?_; rintro e wn ⟨rfl, h⟩; replace HB := tr HB h; clear h) | (go_at_call 17; refine (rs1_any _ _).mono ?_; rintro e wn ⟨rfl, h⟩; replace HB := tr HB h; clear h) | (go_at_call 18; refine (rs2_any _ _).mono ?_; rintro e wn ⟨rfl, h⟩; replace HB := tr HB h; clear h) | (refine own_store w rfl rfl rfl rfl rfl (by simp [Value.oneCell']) ?_ ?_; focus ((repeat (first | exact heap_on HB.out | refine heap_past _ ?_ | refine heap_far ?_ (Nat.ne_of_gt HL.out) _)); done)) | (go_at_call 19; refine (funct3_any _ _).mono ?_; rintro e wm ⟨rfl, h⟩; obtain ⟨k0, k1, k2, k3, k4, k5, k6, k7, k8, k9, k10, kf, hlt⟩ := own11 h; have HL := Lib.hid (on_size HB.out); replace HB := tr1 HB h; clear h) | (go_at_call 41; refine (funct7_any _ _).mono ?_; rintro e wx ⟨rfl, h⟩; have h11 := put6 h hlt k0 k1 k2 k3 k4 k5 k6 k7 k8 k9 k10 kf; replace HB := trs HB HL h; clear h hlt k0 k1 k2 k3 k4 k5 k6 k7 k8 k9 k10 kf; obtain ⟨k0, k1, k2, k3, k4, k5, k6, k7, k8, k9, k10, kf, hlt⟩ := h11))
  go_step3
  go_wp2_with (first | (go_at_call 16; refine (rd_any _ _).mono ?_; rintro e wn ⟨rfl, h⟩; replace HB := tr HB h; clear h) | (go_at_call 17; refine (rs1_any _ _).mono ?_; rintro e wn ⟨rfl, h⟩; replace HB := tr HB h; clear h) | (go_at_call 18; refine (rs2_any _ _).mono ?_; rintro e wn ⟨rfl, h⟩; replace HB := tr HB h; clear h) | (refine own_store w rfl rfl rfl rfl rfl (by simp [Value.oneCell']) ?_ ?_; focus ((repeat (first | exact heap_on HB.out | refine heap_past _ ?_ | refine heap_far ?_ (Nat.ne_of_gt HL.out) _)); done)) | (go_at_call 19; refine (funct3_any _ _).mono ?_; rintro e wm ⟨rfl, h⟩; obtain ⟨k0, k1, k2, k3, k4, k5, k6, k7, k8, k9, k10, kf, hlt⟩ := own11 h; have HL := Lib.hid (on_size HB.out); replace HB := tr1 HB h; clear h) | (go_at_call 41; refine (funct7_any _ _).mono ?_; rintro e wx ⟨rfl, h⟩; have h11 := put6 h hlt k0 k1 k2 k3 k4 k5 k6 k7 k8 k9 k10 kf; replace HB := trs HB HL h; clear h hlt k0 k1 k2 k3 k4 k5 k6 k7 k8 k9 k10 kf; obtain ⟨k0, k1, k2, k3, k4, k5, k6, k7, k8, k9, k10, kf, hlt⟩ := h11))
  rw [Exit.noGoto_ret]
  refine own_back w rfl rfl rfl rfl ?_ ?_; (focus ((repeat (first | exact heap_on HB.out | refine heap_past _ ?_ | refine heap_far ?_ (Nat.ne_of_gt HL.out) _)); done))
  exact ⟨by unfold amoOf; (simp [h3, h5, h2, Ins.zero, Ins.val, u_nil]) <;> rfl, by ((repeat (first | apply On.rowO | refine On.setO ?_ HL.out | apply On.alloc)); first | exact On.refl w | exact on_of HB.out)⟩
set_option maxRecDepth 100000 in
set_option maxHeartbeats 4000000 in
theorem amo_3_2n (x : BitVec 32) (w : World) (h3 : fi x 14 12 = 3) (h5 : fi x 31 27 = 2) (H2 : Hid (¬ fi x 24 20 = 0)) :
    Calls Tryd.prog 28 #[.int .u32 (q x)] w fun e w' => e = .returned (amoOf x).val ∧ On w w' := by
  have e4 : fi x 31 25 / 4 = 2 := (f7_parts x).2.1.trans h5
  have b0 : (fi x 24 20 == 0) = false := by simpa using H2.out
  have b1 : (fi x 24 20 != 0) = true := by simpa using H2.out
  have HB := hb0 w
  go_enter Tryd.func28, Tryd.ntmps28
  go_wp2
  go_step3
  go_wp2_with (first | (go_at_call 16; refine (rd_any _ _).mono ?_; rintro e wn ⟨rfl, h⟩; replace HB := tr HB h; clear h) | (go_at_call 17; refine (rs1_any _ _).mono ?_; rintro e wn ⟨rfl, h⟩; replace HB := tr HB h; clear h) | (go_at_call 18; refine (rs2_any _ _).mono ?_; rintro e wn ⟨rfl, h⟩; replace HB := tr HB h; clear h) | (refine own_store w rfl rfl rfl rfl rfl (by simp [Value.oneCell']) ?_ ?_; focus ((repeat (first | exact heap_on HB.out | refine heap_past _ ?_ | refine heap_far ?_ (Nat.ne_of_gt HL.out) _)); done)) | (go_at_call 19; refine (funct3_any _ _).mono ?_; rintro e wm ⟨rfl, h⟩; obtain ⟨k0, k1, k2, k3, k4, k5, k6, k7, k8, k9, k10, kf, hlt⟩ := own11 h; have HL := Lib.hid (on_size HB.out); replace HB := tr1 HB h; clear h) | (go_at_call 41; refine (funct7_any _ _).mono ?_; rintro e wx ⟨rfl, h⟩; have h11 := put6 h hlt k0 k1 k2 k3 k4 k5 k6 k7 k8 k9 k10 kf; replace HB := trs HB HL h; clear h hlt k0 k1 k2 k3 k4 k5 k6 k7 k8 k9 k10 kf; obtain ⟨k0, k1, k2, k3, k4, k5, k6, k7, k8, k9, k10, kf, hlt⟩ := h11))
  go_step3
  go_wp2_with (first | (go_at_call 16; refine (rd_any _ _).mono ?_; rintro e wn ⟨rfl, h⟩; replace HB := tr HB h; clear h) | (go_at_call 17; refine (rs1_any _ _).mono ?_; rintro e wn ⟨rfl, h⟩; replace HB := tr HB h; clear h) | (go_at_call 18; refine (rs2_any _ _).mono ?_; rintro e wn ⟨rfl, h⟩; replace HB := tr HB h; clear h) | (refine own_store w rfl rfl rfl rfl rfl (by simp [Value.oneCell']) ?_ ?_; focus ((repeat (first | exact heap_on HB.out | refine heap_past _ ?_ | refine heap_far ?_ (Nat.ne_of_gt HL.out) _)); done)) | (go_at_call 19; refine (funct3_any _ _).mono ?_; rintro e wm ⟨rfl, h⟩; obtain ⟨k0, k1, k2, k3, k4, k5, k6, k7, k8, k9, k10, kf, hlt⟩ := own11 h; have HL := Lib.hid (on_size HB.out); replace HB := tr1 HB h; clear h) | (go_at_call 41; refine (funct7_any _ _).mono ?_; rintro e wx ⟨rfl, h⟩; have h11 := put6 h hlt k0 k1 k2 k3 k4 k5 k6 k7 k8 k9 k10 kf; replace HB := trs HB HL h; clear h hlt k0 k1 k2 k3 k4 k5 k6 k7 k8 k9 k10 kf; obtain ⟨k0, k1, k2, k3, k4, k5, k6, k7, k8, k9, k10, kf, hlt⟩ := h11))
  rw [Exit.noGoto_ret]
  refine own_back w rfl rfl rfl rfl ?_ ?_; (focus ((repeat (first | exact heap_on HB.out | refine heap_past _ ?_ | refine heap_far ?_ (Nat.ne_of_gt HL.out) _)); done))
  exact ⟨by unfold amoOf; (simp [h3, h5, H2.out, Ins.zero, Ins.val, u_nil]) <;> rfl, by ((repeat (first | apply On.rowO | refine On.setO ?_ HL.out | apply On.alloc)); first | exact On.refl w | exact on_of HB.out)⟩
set_option maxRecDepth 100000 in
set_option maxHeartbeats 4000000 in
theorem amo_3_n (x : BitVec 32) (w : World) (h3 : fi x 14 12 = 3) (N : Hid (¬ fi x 31 27 = 2 ∧ ¬ fi x 31 27 = 3 ∧ ¬ fi x 31 27 = 0 ∧ ¬ fi x 31 27 = 1 ∧ ¬ fi x 31 27 = 4 ∧ ¬ fi x 31 27 = 8 ∧ ¬ fi x 31 27 = 12 ∧ ¬ fi x 31 27 = 16 ∧ ¬ fi x 31 27 = 20 ∧ ¬ fi x 31 27 = 24 ∧ ¬ fi x 31 27 = 28)) :
    Calls Tryd.prog 28 #[.int .u32 (q x)] w fun e w' => e = .returned (amoOf x).val ∧ On w w' := by
  have e4 : fi x 31 25 / 4 = fi x 31 27 := (f7_parts x).2.1
  have b0 : (fi x 31 27 == 2) = false := by simpa using N.out.1
  have b1 : (fi x 31 27 == 3) = false := by simpa using N.out.2.1
  have b2 : (fi x 31 27 == 0) = false := by simpa using N.out.2.2.1
  have b3 : (fi x 31 27 == 1) = false := by simpa using N.out.2.2.2.1
  have b4 : (fi x 31 27 == 4) = false := by simpa using N.out.2.2.2.2.1
  have b5 : (fi x 31 27 == 8) = false := by simpa using N.out.2.2.2.2.2.1
  have b6 : (fi x 31 27 == 12) = false := by simpa using N.out.2.2.2.2.2.2.1
  have b7 : (fi x 31 27 == 16) = false := by simpa using N.out.2.2.2.2.2.2.2.1
  have b8 : (fi x 31 27 == 20) = false := by simpa using N.out.2.2.2.2.2.2.2.2.1
  have b9 : (fi x 31 27 == 24) = false := by simpa using N.out.2.2.2.2.2.2.2.2.2.1
  have b10 : (fi x 31 27 == 28) = false := by simpa using N.out.2.2.2.2.2.2.2.2.2.2
  have HB := hb0 w
  go_enter Tryd.func28, Tryd.ntmps28
  go_wp2
  go_step3
  go_wp2_with (first | (go_at_call 16; refine (rd_any _ _).mono ?_; rintro e wn ⟨rfl, h⟩; replace HB := tr HB h; clear h) | (go_at_call 17; refine (rs1_any _ _).mono ?_; rintro e wn ⟨rfl, h⟩; replace HB := tr HB h; clear h) | (go_at_call 18; refine (rs2_any _ _).mono ?_; rintro e wn ⟨rfl, h⟩; replace HB := tr HB h; clear h) | (refine own_store w rfl rfl rfl rfl rfl (by simp [Value.oneCell']) ?_ ?_; focus ((repeat (first | exact heap_on HB.out | refine heap_past _ ?_ | refine heap_far ?_ (Nat.ne_of_gt HL.out) _)); done)) | (go_at_call 19; refine (funct3_any _ _).mono ?_; rintro e wm ⟨rfl, h⟩; obtain ⟨k0, k1, k2, k3, k4, k5, k6, k7, k8, k9, k10, kf, hlt⟩ := own11 h; have HL := Lib.hid (on_size HB.out); replace HB := tr1 HB h; clear h) | (go_at_call 41; refine (funct7_any _ _).mono ?_; rintro e wx ⟨rfl, h⟩; have h11 := put6 h hlt k0 k1 k2 k3 k4 k5 k6 k7 k8 k9 k10 kf; replace HB := trs HB HL h; clear h hlt k0 k1 k2 k3 k4 k5 k6 k7 k8 k9 k10 kf; obtain ⟨k0, k1, k2, k3, k4, k5, k6, k7, k8, k9, k10, kf, hlt⟩ := h11))
  go_step3
  go_wp2_with (first | (go_at_call 16; refine (rd_any _ _).mono ?_; rintro e wn ⟨rfl, h⟩; replace HB := tr HB h; clear h) | (go_at_call 17; refine (rs1_any _ _).mono ?_; rintro e wn ⟨rfl, h⟩; replace HB := tr HB h; clear h) | (go_at_call 18; refine (rs2_any _ _).mono ?_; rintro e wn ⟨rfl, h⟩; replace HB := tr HB h; clear h) | (refine own_store w rfl rfl rfl rfl rfl (by simp [Value.oneCell']) ?_ ?_; focus ((repeat (first | exact heap_on HB.out | refine heap_past _ ?_ | refine heap_far ?_ (Nat.ne_of_gt HL.out) _)); done)) | (go_at_call 19; refine (funct3_any _ _).mono ?_; rintro e wm ⟨rfl, h⟩; obtain ⟨k0, k1, k2, k3, k4, k5, k6, k7, k8, k9, k10, kf, hlt⟩ := own11 h; have HL := Lib.hid (on_size HB.out); replace HB := tr1 HB h; clear h) | (go_at_call 41; refine (funct7_any _ _).mono ?_; rintro e wx ⟨rfl, h⟩; have h11 := put6 h hlt k0 k1 k2 k3 k4 k5 k6 k7 k8 k9 k10 kf; replace HB := trs HB HL h; clear h hlt k0 k1 k2 k3 k4 k5 k6 k7 k8 k9 k10 kf; obtain ⟨k0, k1, k2, k3, k4, k5, k6, k7, k8, k9, k10, kf, hlt⟩ := h11))
  rw [Exit.noGoto_ret]
  refine own_back w rfl rfl rfl rfl ?_ ?_; (focus ((repeat (first | exact heap_on HB.out | refine heap_past _ ?_ | refine heap_far ?_ (Nat.ne_of_gt HL.out) _)); done))
  exact ⟨by unfold amoOf; (simp [h3, N.out, Ins.zero, Ins.val, u_nil]) <;> rfl, by ((repeat (first | apply On.rowO | refine On.setO ?_ HL.out | apply On.alloc)); first | exact On.refl w | exact on_of HB.out)⟩
set_option maxRecDepth 100000 in
set_option maxHeartbeats 4000000 in
theorem amo_4 (x : BitVec 32) (w : World) (h3 : fi x 14 12 = 4) :
    Calls Tryd.prog 28 #[.int .u32 (q x)] w fun e w' => e = .returned (amoOf x).val ∧ On w w' := by
  have HB := hb0 w
  go_enter Tryd.func28, Tryd.ntmps28
  go_wp2
  go_step3
  go_wp2_with (first | (go_at_call 16; refine (rd_any _ _).mono ?_; rintro e wn ⟨rfl, h⟩; replace HB := tr HB h; clear h) | (go_at_call 17; refine (rs1_any _ _).mono ?_; rintro e wn ⟨rfl, h⟩; replace HB := tr HB h; clear h) | (go_at_call 18; refine (rs2_any _ _).mono ?_; rintro e wn ⟨rfl, h⟩; replace HB := tr HB h; clear h) | (refine own_store w rfl rfl rfl rfl rfl (by simp [Value.oneCell']) ?_ ?_; focus ((repeat (first | exact heap_on HB.out | refine heap_past _ ?_ | refine heap_far ?_ (Nat.ne_of_gt HL.out) _)); done)) | (go_at_call 19; refine (funct3_any _ _).mono ?_; rintro e wm ⟨rfl, h⟩; obtain ⟨k0, k1, k2, k3, k4, k5, k6, k7, k8, k9, k10, kf, hlt⟩ := own11 h; have HL := Lib.hid (on_size HB.out); replace HB := tr1 HB h; clear h) | (go_at_call 41; refine (funct7_any _ _).mono ?_; rintro e wx ⟨rfl, h⟩; have h11 := put6 h hlt k0 k1 k2 k3 k4 k5 k6 k7 k8 k9 k10 kf; replace HB := trs HB HL h; clear h hlt k0 k1 k2 k3 k4 k5 k6 k7 k8 k9 k10 kf; obtain ⟨k0, k1, k2, k3, k4, k5, k6, k7, k8, k9, k10, kf, hlt⟩ := h11))
  go_step3
  go_wp2_with (first | (go_at_call 16; refine (rd_any _ _).mono ?_; rintro e wn ⟨rfl, h⟩; replace HB := tr HB h; clear h) | (go_at_call 17; refine (rs1_any _ _).mono ?_; rintro e wn ⟨rfl, h⟩; replace HB := tr HB h; clear h) | (go_at_call 18; refine (rs2_any _ _).mono ?_; rintro e wn ⟨rfl, h⟩; replace HB := tr HB h; clear h) | (refine own_store w rfl rfl rfl rfl rfl (by simp [Value.oneCell']) ?_ ?_; focus ((repeat (first | exact heap_on HB.out | refine heap_past _ ?_ | refine heap_far ?_ (Nat.ne_of_gt HL.out) _)); done)) | (go_at_call 19; refine (funct3_any _ _).mono ?_; rintro e wm ⟨rfl, h⟩; obtain ⟨k0, k1, k2, k3, k4, k5, k6, k7, k8, k9, k10, kf, hlt⟩ := own11 h; have HL := Lib.hid (on_size HB.out); replace HB := tr1 HB h; clear h) | (go_at_call 41; refine (funct7_any _ _).mono ?_; rintro e wx ⟨rfl, h⟩; have h11 := put6 h hlt k0 k1 k2 k3 k4 k5 k6 k7 k8 k9 k10 kf; replace HB := trs HB HL h; clear h hlt k0 k1 k2 k3 k4 k5 k6 k7 k8 k9 k10 kf; obtain ⟨k0, k1, k2, k3, k4, k5, k6, k7, k8, k9, k10, kf, hlt⟩ := h11))
  rw [Exit.noGoto_ret]
  refine own_back w rfl rfl rfl rfl ?_ ?_; (focus ((repeat (first | exact heap_on HB.out | refine heap_past _ ?_ | refine heap_far ?_ (Nat.ne_of_gt HL.out) _)); done))
  exact ⟨by unfold amoOf; (simp [h3, Ins.zero, Ins.val, u_nil]) <;> rfl, by ((repeat (first | apply On.rowO | refine On.setO ?_ HL.out | apply On.alloc)); first | exact On.refl w | exact on_of HB.out)⟩
set_option maxRecDepth 100000 in
set_option maxHeartbeats 4000000 in
theorem amo_5 (x : BitVec 32) (w : World) (h3 : fi x 14 12 = 5) :
    Calls Tryd.prog 28 #[.int .u32 (q x)] w fun e w' => e = .returned (amoOf x).val ∧ On w w' := by
  have HB := hb0 w
  go_enter Tryd.func28, Tryd.ntmps28
  go_wp2
  go_step3
  go_wp2_with (first | (go_at_call 16; refine (rd_any _ _).mono ?_; rintro e wn ⟨rfl, h⟩; replace HB := tr HB h; clear h) | (go_at_call 17; refine (rs1_any _ _).mono ?_; rintro e wn ⟨rfl, h⟩; replace HB := tr HB h; clear h) | (go_at_call 18; refine (rs2_any _ _).mono ?_; rintro e wn ⟨rfl, h⟩; replace HB := tr HB h; clear h) | (refine own_store w rfl rfl rfl rfl rfl (by simp [Value.oneCell']) ?_ ?_; focus ((repeat (first | exact heap_on HB.out | refine heap_past _ ?_ | refine heap_far ?_ (Nat.ne_of_gt HL.out) _)); done)) | (go_at_call 19; refine (funct3_any _ _).mono ?_; rintro e wm ⟨rfl, h⟩; obtain ⟨k0, k1, k2, k3, k4, k5, k6, k7, k8, k9, k10, kf, hlt⟩ := own11 h; have HL := Lib.hid (on_size HB.out); replace HB := tr1 HB h; clear h) | (go_at_call 41; refine (funct7_any _ _).mono ?_; rintro e wx ⟨rfl, h⟩; have h11 := put6 h hlt k0 k1 k2 k3 k4 k5 k6 k7 k8 k9 k10 kf; replace HB := trs HB HL h; clear h hlt k0 k1 k2 k3 k4 k5 k6 k7 k8 k9 k10 kf; obtain ⟨k0, k1, k2, k3, k4, k5, k6, k7, k8, k9, k10, kf, hlt⟩ := h11))
  go_step3
  go_wp2_with (first | (go_at_call 16; refine (rd_any _ _).mono ?_; rintro e wn ⟨rfl, h⟩; replace HB := tr HB h; clear h) | (go_at_call 17; refine (rs1_any _ _).mono ?_; rintro e wn ⟨rfl, h⟩; replace HB := tr HB h; clear h) | (go_at_call 18; refine (rs2_any _ _).mono ?_; rintro e wn ⟨rfl, h⟩; replace HB := tr HB h; clear h) | (refine own_store w rfl rfl rfl rfl rfl (by simp [Value.oneCell']) ?_ ?_; focus ((repeat (first | exact heap_on HB.out | refine heap_past _ ?_ | refine heap_far ?_ (Nat.ne_of_gt HL.out) _)); done)) | (go_at_call 19; refine (funct3_any _ _).mono ?_; rintro e wm ⟨rfl, h⟩; obtain ⟨k0, k1, k2, k3, k4, k5, k6, k7, k8, k9, k10, kf, hlt⟩ := own11 h; have HL := Lib.hid (on_size HB.out); replace HB := tr1 HB h; clear h) | (go_at_call 41; refine (funct7_any _ _).mono ?_; rintro e wx ⟨rfl, h⟩; have h11 := put6 h hlt k0 k1 k2 k3 k4 k5 k6 k7 k8 k9 k10 kf; replace HB := trs HB HL h; clear h hlt k0 k1 k2 k3 k4 k5 k6 k7 k8 k9 k10 kf; obtain ⟨k0, k1, k2, k3, k4, k5, k6, k7, k8, k9, k10, kf, hlt⟩ := h11))
  rw [Exit.noGoto_ret]
  refine own_back w rfl rfl rfl rfl ?_ ?_; (focus ((repeat (first | exact heap_on HB.out | refine heap_past _ ?_ | refine heap_far ?_ (Nat.ne_of_gt HL.out) _)); done))
  exact ⟨by unfold amoOf; (simp [h3, Ins.zero, Ins.val, u_nil]) <;> rfl, by ((repeat (first | apply On.rowO | refine On.setO ?_ HL.out | apply On.alloc)); first | exact On.refl w | exact on_of HB.out)⟩
set_option maxRecDepth 100000 in
set_option maxHeartbeats 4000000 in
theorem amo_6 (x : BitVec 32) (w : World) (h3 : fi x 14 12 = 6) :
    Calls Tryd.prog 28 #[.int .u32 (q x)] w fun e w' => e = .returned (amoOf x).val ∧ On w w' := by
  have HB := hb0 w
  go_enter Tryd.func28, Tryd.ntmps28
  go_wp2
  go_step3
  go_wp2_with (first | (go_at_call 16; refine (rd_any _ _).mono ?_; rintro e wn ⟨rfl, h⟩; replace HB := tr HB h; clear h) | (go_at_call 17; refine (rs1_any _ _).mono ?_; rintro e wn ⟨rfl, h⟩; replace HB := tr HB h; clear h) | (go_at_call 18; refine (rs2_any _ _).mono ?_; rintro e wn ⟨rfl, h⟩; replace HB := tr HB h; clear h) | (refine own_store w rfl rfl rfl rfl rfl (by simp [Value.oneCell']) ?_ ?_; focus ((repeat (first | exact heap_on HB.out | refine heap_past _ ?_ | refine heap_far ?_ (Nat.ne_of_gt HL.out) _)); done)) | (go_at_call 19; refine (funct3_any _ _).mono ?_; rintro e wm ⟨rfl, h⟩; obtain ⟨k0, k1, k2, k3, k4, k5, k6, k7, k8, k9, k10, kf, hlt⟩ := own11 h; have HL := Lib.hid (on_size HB.out); replace HB := tr1 HB h; clear h) | (go_at_call 41; refine (funct7_any _ _).mono ?_; rintro e wx ⟨rfl, h⟩; have h11 := put6 h hlt k0 k1 k2 k3 k4 k5 k6 k7 k8 k9 k10 kf; replace HB := trs HB HL h; clear h hlt k0 k1 k2 k3 k4 k5 k6 k7 k8 k9 k10 kf; obtain ⟨k0, k1, k2, k3, k4, k5, k6, k7, k8, k9, k10, kf, hlt⟩ := h11))
  go_step3
  go_wp2_with (first | (go_at_call 16; refine (rd_any _ _).mono ?_; rintro e wn ⟨rfl, h⟩; replace HB := tr HB h; clear h) | (go_at_call 17; refine (rs1_any _ _).mono ?_; rintro e wn ⟨rfl, h⟩; replace HB := tr HB h; clear h) | (go_at_call 18; refine (rs2_any _ _).mono ?_; rintro e wn ⟨rfl, h⟩; replace HB := tr HB h; clear h) | (refine own_store w rfl rfl rfl rfl rfl (by simp [Value.oneCell']) ?_ ?_; focus ((repeat (first | exact heap_on HB.out | refine heap_past _ ?_ | refine heap_far ?_ (Nat.ne_of_gt HL.out) _)); done)) | (go_at_call 19; refine (funct3_any _ _).mono ?_; rintro e wm ⟨rfl, h⟩; obtain ⟨k0, k1, k2, k3, k4, k5, k6, k7, k8, k9, k10, kf, hlt⟩ := own11 h; have HL := Lib.hid (on_size HB.out); replace HB := tr1 HB h; clear h) | (go_at_call 41; refine (funct7_any _ _).mono ?_; rintro e wx ⟨rfl, h⟩; have h11 := put6 h hlt k0 k1 k2 k3 k4 k5 k6 k7 k8 k9 k10 kf; replace HB := trs HB HL h; clear h hlt k0 k1 k2 k3 k4 k5 k6 k7 k8 k9 k10 kf; obtain ⟨k0, k1, k2, k3, k4, k5, k6, k7, k8, k9, k10, kf, hlt⟩ := h11))
  rw [Exit.noGoto_ret]
  refine own_back w rfl rfl rfl rfl ?_ ?_; (focus ((repeat (first | exact heap_on HB.out | refine heap_past _ ?_ | refine heap_far ?_ (Nat.ne_of_gt HL.out) _)); done))
  exact ⟨by unfold amoOf; (simp [h3, Ins.zero, Ins.val, u_nil]) <;> rfl, by ((repeat (first | apply On.rowO | refine On.setO ?_ HL.out | apply On.alloc)); first | exact On.refl w | exact on_of HB.out)⟩
set_option maxRecDepth 100000 in
set_option maxHeartbeats 4000000 in
theorem amo_7 (x : BitVec 32) (w : World) (h3 : fi x 14 12 = 7) :
    Calls Tryd.prog 28 #[.int .u32 (q x)] w fun e w' => e = .returned (amoOf x).val ∧ On w w' := by
  have HB := hb0 w
  go_enter Tryd.func28, Tryd.ntmps28
  go_wp2
  go_step3
  go_wp2_with (first | (go_at_call 16; refine (rd_any _ _).mono ?_; rintro e wn ⟨rfl, h⟩; replace HB := tr HB h; clear h) | (go_at_call 17; refine (rs1_any _ _).mono ?_; rintro e wn ⟨rfl, h⟩; replace HB := tr HB h; clear h) | (go_at_call 18; refine (rs2_any _ _).mono ?_; rintro e wn ⟨rfl, h⟩; replace HB := tr HB h; clear h) | (refine own_store w rfl rfl rfl rfl rfl (by simp [Value.oneCell']) ?_ ?_; focus ((repeat (first | exact heap_on HB.out | refine heap_past _ ?_ | refine heap_far ?_ (Nat.ne_of_gt HL.out) _)); done)) | (go_at_call 19; refine (funct3_any _ _).mono ?_; rintro e wm ⟨rfl, h⟩; obtain ⟨k0, k1, k2, k3, k4, k5, k6, k7, k8, k9, k10, kf, hlt⟩ := own11 h; have HL := Lib.hid (on_size HB.out); replace HB := tr1 HB h; clear h) | (go_at_call 41; refine (funct7_any _ _).mono ?_; rintro e wx ⟨rfl, h⟩; have h11 := put6 h hlt k0 k1 k2 k3 k4 k5 k6 k7 k8 k9 k10 kf; replace HB := trs HB HL h; clear h hlt k0 k1 k2 k3 k4 k5 k6 k7 k8 k9 k10 kf; obtain ⟨k0, k1, k2, k3, k4, k5, k6, k7, k8, k9, k10, kf, hlt⟩ := h11))
  go_step3
  go_wp2_with (first | (go_at_call 16; refine (rd_any _ _).mono ?_; rintro e wn ⟨rfl, h⟩; replace HB := tr HB h; clear h) | (go_at_call 17; refine (rs1_any _ _).mono ?_; rintro e wn ⟨rfl, h⟩; replace HB := tr HB h; clear h) | (go_at_call 18; refine (rs2_any _ _).mono ?_; rintro e wn ⟨rfl, h⟩; replace HB := tr HB h; clear h) | (refine own_store w rfl rfl rfl rfl rfl (by simp [Value.oneCell']) ?_ ?_; focus ((repeat (first | exact heap_on HB.out | refine heap_past _ ?_ | refine heap_far ?_ (Nat.ne_of_gt HL.out) _)); done)) | (go_at_call 19; refine (funct3_any _ _).mono ?_; rintro e wm ⟨rfl, h⟩; obtain ⟨k0, k1, k2, k3, k4, k5, k6, k7, k8, k9, k10, kf, hlt⟩ := own11 h; have HL := Lib.hid (on_size HB.out); replace HB := tr1 HB h; clear h) | (go_at_call 41; refine (funct7_any _ _).mono ?_; rintro e wx ⟨rfl, h⟩; have h11 := put6 h hlt k0 k1 k2 k3 k4 k5 k6 k7 k8 k9 k10 kf; replace HB := trs HB HL h; clear h hlt k0 k1 k2 k3 k4 k5 k6 k7 k8 k9 k10 kf; obtain ⟨k0, k1, k2, k3, k4, k5, k6, k7, k8, k9, k10, kf, hlt⟩ := h11))
  rw [Exit.noGoto_ret]
  refine own_back w rfl rfl rfl rfl ?_ ?_; (focus ((repeat (first | exact heap_on HB.out | refine heap_past _ ?_ | refine heap_far ?_ (Nat.ne_of_gt HL.out) _)); done))
  exact ⟨by unfold amoOf; (simp [h3, Ins.zero, Ins.val, u_nil]) <;> rfl, by ((repeat (first | apply On.rowO | refine On.setO ?_ HL.out | apply On.alloc)); first | exact On.refl w | exact on_of HB.out)⟩
theorem amo_any (x : BitVec 32) (w : World) :
    Calls Tryd.prog 28 #[.int .u32 (q x)] w fun e w' => e = .returned (amoOf x).val ∧ On w w' := by
  rcases f3_cases x with h3 | h3 | h3 | h3 | h3 | h3 | h3 | h3
  · exact amo_0 x w h3
  · exact amo_1 x w h3
  · by_cases n2 : fi x 31 27 = 2
    · by_cases h2 : fi x 24 20 = 0
      · exact amo_2_2z x w h3 n2 h2
      · exact amo_2_2n x w h3 n2 (Lib.hid h2)
    by_cases n3 : fi x 31 27 = 3
    · exact amo_2_3 x w h3 n3
    by_cases n0 : fi x 31 27 = 0
    · exact amo_2_0 x w h3 n0
    by_cases n1 : fi x 31 27 = 1
    · exact amo_2_1 x w h3 n1
    by_cases n4 : fi x 31 27 = 4
    · exact amo_2_4 x w h3 n4
    by_cases n8 : fi x 31 27 = 8
    · exact amo_2_8 x w h3 n8
    by_cases n12 : fi x 31 27 = 12
    · exact amo_2_12 x w h3 n12
    by_cases n16 : fi x 31 27 = 16
    · exact amo_2_16 x w h3 n16
    by_cases n20 : fi x 31 27 = 20
    · exact amo_2_20 x w h3 n20
    by_cases n24 : fi x 31 27 = 24
    · exact amo_2_24 x w h3 n24
    by_cases n28 : fi x 31 27 = 28
    · exact amo_2_28 x w h3 n28
    exact amo_2_n x w h3 (Lib.hid ⟨n2, n3, n0, n1, n4, n8, n12, n16, n20, n24, n28⟩)
  · by_cases n2 : fi x 31 27 = 2
    · by_cases h2 : fi x 24 20 = 0
      · exact amo_3_2z x w h3 n2 h2
      · exact amo_3_2n x w h3 n2 (Lib.hid h2)
    by_cases n3 : fi x 31 27 = 3
    · exact amo_3_3 x w h3 n3
    by_cases n0 : fi x 31 27 = 0
    · exact amo_3_0 x w h3 n0
    by_cases n1 : fi x 31 27 = 1
    · exact amo_3_1 x w h3 n1
    by_cases n4 : fi x 31 27 = 4
    · exact amo_3_4 x w h3 n4
    by_cases n8 : fi x 31 27 = 8
    · exact amo_3_8 x w h3 n8
    by_cases n12 : fi x 31 27 = 12
    · exact amo_3_12 x w h3 n12
    by_cases n16 : fi x 31 27 = 16
    · exact amo_3_16 x w h3 n16
    by_cases n20 : fi x 31 27 = 20
    · exact amo_3_20 x w h3 n20
    by_cases n24 : fi x 31 27 = 24
    · exact amo_3_24 x w h3 n24
    by_cases n28 : fi x 31 27 = 28
    · exact amo_3_28 x w h3 n28
    exact amo_3_n x w h3 (Lib.hid ⟨n2, n3, n0, n1, n4, n8, n12, n16, n20, n24, n28⟩)
  · exact amo_4 x w h3
  · exact amo_5 x w h3
  · exact amo_6 x w h3
  · exact amo_7 x w h3
end Go.Proofs.YtjnalgilkdoalaaDoor
