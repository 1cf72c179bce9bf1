/- What the rows come to in the reference: the same instructions. Conditions: named at each. -/
import Derived.Test.YtjnalgilkdoalaaDoorDec0
import Derived.Test.YtjnalgilkdoalaaDoorWith
import Derived.WalkMore
namespace Go.Proofs.YtjnalgilkdoalaaDoor
open Go.RowKit
set_option linter.unusedSimpArgs false

set_option maxRecDepth 100000 in
set_option maxHeartbeats 4000000 in
theorem ref_bits (x : BitVec 32) (hi lo : Int) (w : World) :
    Calls Tryd.prog 98 #[.int .u32 (q x), .int .i64 hi, .int .i64 lo] w fun e w' => e = .returned (.int .i64 (fi x hi lo)) ∧ w = w' := by
  go_enter Tryd.func98, Tryd.ntmps98
  go_wp2_with (go_at_call 96; refine (ref_F _ _ _ _).mono ?_; rintro e w1 ⟨rfl, rfl⟩)
  go_ret
  exact ⟨rfl, rfl⟩
set_option maxRecDepth 100000 in
set_option maxHeartbeats 4000000 in
theorem rimm_false_0 (x : BitVec 32) (w : World) (h3 : fi x 14 12 = 0) :
    Calls Tryd.prog 84 #[.int .u32 (q x), .bool false, .int .i64 63] w fun e w' => PartOf e (numOf x false) ∧ On w w' := by
  have HB := hb0 w
  go_enter Tryd.func84, Tryd.ntmps84
  go_wp2_with (first | (go_at_call 80; refine (ref_funct3 _ _).mono ?_; rintro e wn ⟨rfl, rfl⟩) | (go_at_call 77; refine (ref_rd _ _).mono ?_; rintro e wn ⟨rfl, rfl⟩) | (go_at_call 78; refine (ref_rs1 _ _).mono ?_; rintro e wn ⟨rfl, rfl⟩) | (go_at_call 98; refine (ref_bits _ _ _ _).mono ?_; rintro e wn ⟨rfl, rfl⟩) | (go_at_call 83; refine (refImmI _ _).mono ?_; rintro e wn ⟨rfl, h⟩; replace HB := tr HB h; clear h) | (refine own_store w rfl rfl rfl rfl rfl (by simp [Value.oneCell']) ?_ ?_; focus ((repeat (first | exact heap_on HB.out | refine heap_past _ ?_ | refine heap_far ?_ (Nat.ne_of_gt HL.out) _)); done)))
  refine own_back2 w rfl rfl rfl rfl ?_ ?_; (focus ((repeat (first | exact heap_on HB.out | refine heap_past _ ?_ | refine heap_far ?_ (Nat.ne_of_gt HL.out) _)); done))
  exact ⟨⟨_, _, _, _, _, _, _, _, _, _, _, _, rfl, by unfold numOf; (simp [h3, Ins.zero, Ins.val, u_nil]) <;> rfl⟩, by ((repeat (first | apply On.rowO | refine On.setO ?_ HL.out | apply On.alloc)); first | exact On.refl w | exact on_of HB.out)⟩
set_option maxRecDepth 100000 in
set_option maxHeartbeats 4000000 in
theorem rimm_false_2 (x : BitVec 32) (w : World) (h3 : fi x 14 12 = 2) :
    Calls Tryd.prog 84 #[.int .u32 (q x), .bool false, .int .i64 63] w fun e w' => PartOf e (numOf x false) ∧ On w w' := by
  have HB := hb0 w
  go_enter Tryd.func84, Tryd.ntmps84
  go_wp2_with (first | (go_at_call 80; refine (ref_funct3 _ _).mono ?_; rintro e wn ⟨rfl, rfl⟩) | (go_at_call 77; refine (ref_rd _ _).mono ?_; rintro e wn ⟨rfl, rfl⟩) | (go_at_call 78; refine (ref_rs1 _ _).mono ?_; rintro e wn ⟨rfl, rfl⟩) | (go_at_call 98; refine (ref_bits _ _ _ _).mono ?_; rintro e wn ⟨rfl, rfl⟩) | (go_at_call 83; refine (refImmI _ _).mono ?_; rintro e wn ⟨rfl, h⟩; replace HB := tr HB h; clear h) | (refine own_store w rfl rfl rfl rfl rfl (by simp [Value.oneCell']) ?_ ?_; focus ((repeat (first | exact heap_on HB.out | refine heap_past _ ?_ | refine heap_far ?_ (Nat.ne_of_gt HL.out) _)); done)))
  refine own_back2 w rfl rfl rfl rfl ?_ ?_; (focus ((repeat (first | exact heap_on HB.out | refine heap_past _ ?_ | refine heap_far ?_ (Nat.ne_of_gt HL.out) _)); done))
  exact ⟨⟨_, _, _, _, _, _, _, _, _, _, _, _, rfl, by unfold numOf; (simp [h3, Ins.zero, Ins.val, u_nil]) <;> rfl⟩, by ((repeat (first | apply On.rowO | refine On.setO ?_ HL.out | apply On.alloc)); first | exact On.refl w | exact on_of HB.out)⟩
set_option maxRecDepth 100000 in
set_option maxHeartbeats 4000000 in
theorem rimm_false_3 (x : BitVec 32) (w : World) (h3 : fi x 14 12 = 3) :
    Calls Tryd.prog 84 #[.int .u32 (q x), .bool false, .int .i64 63] w fun e w' => PartOf e (numOf x false) ∧ On w w' := by
  have HB := hb0 w
  go_enter Tryd.func84, Tryd.ntmps84
  go_wp2_with (first | (go_at_call 80; refine (ref_funct3 _ _).mono ?_; rintro e wn ⟨rfl, rfl⟩) | (go_at_call 77; refine (ref_rd _ _).mono ?_; rintro e wn ⟨rfl, rfl⟩) | (go_at_call 78; refine (ref_rs1 _ _).mono ?_; rintro e wn ⟨rfl, rfl⟩) | (go_at_call 98; refine (ref_bits _ _ _ _).mono ?_; rintro e wn ⟨rfl, rfl⟩) | (go_at_call 83; refine (refImmI _ _).mono ?_; rintro e wn ⟨rfl, h⟩; replace HB := tr HB h; clear h) | (refine own_store w rfl rfl rfl rfl rfl (by simp [Value.oneCell']) ?_ ?_; focus ((repeat (first | exact heap_on HB.out | refine heap_past _ ?_ | refine heap_far ?_ (Nat.ne_of_gt HL.out) _)); done)))
  refine own_back2 w rfl rfl rfl rfl ?_ ?_; (focus ((repeat (first | exact heap_on HB.out | refine heap_past _ ?_ | refine heap_far ?_ (Nat.ne_of_gt HL.out) _)); done))
  exact ⟨⟨_, _, _, _, _, _, _, _, _, _, _, _, rfl, by unfold numOf; (simp [h3, Ins.zero, Ins.val, u_nil]) <;> rfl⟩, by ((repeat (first | apply On.rowO | refine On.setO ?_ HL.out | apply On.alloc)); first | exact On.refl w | exact on_of HB.out)⟩
set_option maxRecDepth 100000 in
set_option maxHeartbeats 4000000 in
theorem rimm_false_4 (x : BitVec 32) (w : World) (h3 : fi x 14 12 = 4) :
    Calls Tryd.prog 84 #[.int .u32 (q x), .bool false, .int .i64 63] w fun e w' => PartOf e (numOf x false) ∧ On w w' := by
  have HB := hb0 w
  go_enter Tryd.func84, Tryd.ntmps84
  go_wp2_with (first | (go_at_call 80; refine (ref_funct3 _ _).mono ?_; rintro e wn ⟨rfl, rfl⟩) | (go_at_call 77; refine (ref_rd _ _).mono ?_; rintro e wn ⟨rfl, rfl⟩) | (go_at_call 78; refine (ref_rs1 _ _).mono ?_; rintro e wn ⟨rfl, rfl⟩) | (go_at_call 98; refine (ref_bits _ _ _ _).mono ?_; rintro e wn ⟨rfl, rfl⟩) | (go_at_call 83; refine (refImmI _ _).mono ?_; rintro e wn ⟨rfl, h⟩; replace HB := tr HB h; clear h) | (refine own_store w rfl rfl rfl rfl rfl (by simp [Value.oneCell']) ?_ ?_; focus ((repeat (first | exact heap_on HB.out | refine heap_past _ ?_ | refine heap_far ?_ (Nat.ne_of_gt HL.out) _)); done)))
  refine own_back2 w rfl rfl rfl rfl ?_ ?_; (focus ((repeat (first | exact heap_on HB.out | refine heap_past _ ?_ | refine heap_far ?_ (Nat.ne_of_gt HL.out) _)); done))
  exact ⟨⟨_, _, _, _, _, _, _, _, _, _, _, _, rfl, by unfold numOf; (simp [h3, Ins.zero, Ins.val, u_nil]) <;> rfl⟩, by ((repeat (first | apply On.rowO | refine On.setO ?_ HL.out | apply On.alloc)); first | exact On.refl w | exact on_of HB.out)⟩
set_option maxRecDepth 100000 in
set_option maxHeartbeats 4000000 in
theorem rimm_false_6 (x : BitVec 32) (w : World) (h3 : fi x 14 12 = 6) :
    Calls Tryd.prog 84 #[.int .u32 (q x), .bool false, .int .i64 63] w fun e w' => PartOf e (numOf x false) ∧ On w w' := by
  have HB := hb0 w
  go_enter Tryd.func84, Tryd.ntmps84
  go_wp2_with (first | (go_at_call 80; refine (ref_funct3 _ _).mono ?_; rintro e wn ⟨rfl, rfl⟩) | (go_at_call 77; refine (ref_rd _ _).mono ?_; rintro e wn ⟨rfl, rfl⟩) | (go_at_call 78; refine (ref_rs1 _ _).mono ?_; rintro e wn ⟨rfl, rfl⟩) | (go_at_call 98; refine (ref_bits _ _ _ _).mono ?_; rintro e wn ⟨rfl, rfl⟩) | (go_at_call 83; refine (refImmI _ _).mono ?_; rintro e wn ⟨rfl, h⟩; replace HB := tr HB h; clear h) | (refine own_store w rfl rfl rfl rfl rfl (by simp [Value.oneCell']) ?_ ?_; focus ((repeat (first | exact heap_on HB.out | refine heap_past _ ?_ | refine heap_far ?_ (Nat.ne_of_gt HL.out) _)); done)))
  refine own_back2 w rfl rfl rfl rfl ?_ ?_; (focus ((repeat (first | exact heap_on HB.out | refine heap_past _ ?_ | refine heap_far ?_ (Nat.ne_of_gt HL.out) _)); done))
  exact ⟨⟨_, _, _, _, _, _, _, _, _, _, _, _, rfl, by unfold numOf; (simp [h3, Ins.zero, Ins.val, u_nil]) <;> rfl⟩, by ((repeat (first | apply On.rowO | refine On.setO ?_ HL.out | apply On.alloc)); first | exact On.refl w | exact on_of HB.out)⟩
set_option maxRecDepth 100000 in
set_option maxHeartbeats 4000000 in
theorem rimm_false_7 (x : BitVec 32) (w : World) (h3 : fi x 14 12 = 7) :
    Calls Tryd.prog 84 #[.int .u32 (q x), .bool false, .int .i64 63] w fun e w' => PartOf e (numOf x false) ∧ On w w' := by
  have HB := hb0 w
  go_enter Tryd.func84, Tryd.ntmps84
  go_wp2_with (first | (go_at_call 80; refine (ref_funct3 _ _).mono ?_; rintro e wn ⟨rfl, rfl⟩) | (go_at_call 77; refine (ref_rd _ _).mono ?_; rintro e wn ⟨rfl, rfl⟩) | (go_at_call 78; refine (ref_rs1 _ _).mono ?_; rintro e wn ⟨rfl, rfl⟩) | (go_at_call 98; refine (ref_bits _ _ _ _).mono ?_; rintro e wn ⟨rfl, rfl⟩) | (go_at_call 83; refine (refImmI _ _).mono ?_; rintro e wn ⟨rfl, h⟩; replace HB := tr HB h; clear h) | (refine own_store w rfl rfl rfl rfl rfl (by simp [Value.oneCell']) ?_ ?_; focus ((repeat (first | exact heap_on HB.out | refine heap_past _ ?_ | refine heap_far ?_ (Nat.ne_of_gt HL.out) _)); done)))
  refine own_back2 w rfl rfl rfl rfl ?_ ?_; (focus ((repeat (first | exact heap_on HB.out | refine heap_past _ ?_ | refine heap_far ?_ (Nat.ne_of_gt HL.out) _)); done))
  exact ⟨⟨_, _, _, _, _, _, _, _, _, _, _, _, rfl, by unfold numOf; (simp [h3, Ins.zero, Ins.val, u_nil]) <;> rfl⟩, by ((repeat (first | apply On.rowO | refine On.setO ?_ HL.out | apply On.alloc)); first | exact On.refl w | exact on_of HB.out)⟩
set_option maxRecDepth 100000 in
set_option maxHeartbeats 4000000 in
theorem rimm_false_1z (x : BitVec 32) (w : World) (h3 : fi x 14 12 = 1) (HK : Hid (kindOf x false = 0)) :
    Calls Tryd.prog 84 #[.int .u32 (q x), .bool false, .int .i64 63] w fun e w' => PartOf e (numOf x false) ∧ On w w' := by
  have w0 := fi_wrap x 31 20
  have p := f7_parts x
  have pk : kindOf x false = fi x 31 25 / 2 * 2 := rfl
  have hk := HK.out
  have d0 : decide (fi x 31 20 ≤ 63) = true := decide_eq_true (by omega)
  have e0 : IntKind.u64.wrap (bits .and .i64 (fi x 31 20) 63) = u (shOf x) := sh_63 x trivial
  clear p pk hk
  have HB := hb0 w
  go_enter Tryd.func84, Tryd.ntmps84
  go_wp2_with (first | (go_at_call 80; refine (ref_funct3 _ _).mono ?_; rintro e wn ⟨rfl, rfl⟩) | (go_at_call 77; refine (ref_rd _ _).mono ?_; rintro e wn ⟨rfl, rfl⟩) | (go_at_call 78; refine (ref_rs1 _ _).mono ?_; rintro e wn ⟨rfl, rfl⟩) | (go_at_call 98; refine (ref_bits _ _ _ _).mono ?_; rintro e wn ⟨rfl, rfl⟩) | (go_at_call 83; refine (refImmI _ _).mono ?_; rintro e wn ⟨rfl, h⟩; replace HB := tr HB h; clear h) | (refine own_store w rfl rfl rfl rfl rfl (by simp [Value.oneCell']) ?_ ?_; focus ((repeat (first | exact heap_on HB.out | refine heap_past _ ?_ | refine heap_far ?_ (Nat.ne_of_gt HL.out) _)); done)))
  refine own_back2 w rfl rfl rfl rfl ?_ ?_; (focus ((repeat (first | exact heap_on HB.out | refine heap_past _ ?_ | refine heap_far ?_ (Nat.ne_of_gt HL.out) _)); done))
  exact ⟨⟨_, _, _, _, _, _, _, _, _, _, _, _, rfl, by unfold numOf; (simp [h3, HK.out, Ins.zero, Ins.val, u_nil]) <;> rfl⟩, by ((repeat (first | apply On.rowO | refine On.setO ?_ HL.out | apply On.alloc)); first | exact On.refl w | exact on_of HB.out)⟩
set_option maxRecDepth 100000 in
set_option maxHeartbeats 4000000 in
theorem rimm_false_1s (x : BitVec 32) (w : World) (h3 : fi x 14 12 = 1) (HK : Hid (kindOf x false = 32)) :
    Calls Tryd.prog 84 #[.int .u32 (q x), .bool false, .int .i64 63] w fun e w' => PartOf e (numOf x false) ∧ On w w' := by
  have w0 := fi_wrap x 31 20
  have p := f7_parts x
  have pk : kindOf x false = fi x 31 25 / 2 * 2 := rfl
  have hk := HK.out
  have d0 : decide (fi x 31 20 ≤ 63) = false := decide_eq_false (by omega)
  have d2 : decide (fi x 31 20 - 1024 ≤ 63) = true := decide_eq_true (by omega)
  have d4 : decide (fi x 31 20 ≤ 1087) = true := decide_eq_true (by omega)
  have w1 : wrap64 (fi x 31 20 - 1024) = fi x 31 20 - 1024 := IntWalk.wrap64_in _ (by omega)
  have e0 : IntKind.u64.wrap (bits .and .i64 (fi x 31 20) 63) = u (shOf x) := sh_63 x trivial
  clear p pk hk
  have HB := hb0 w
  go_enter Tryd.func84, Tryd.ntmps84
  go_wp2_with (first | (go_at_call 80; refine (ref_funct3 _ _).mono ?_; rintro e wn ⟨rfl, rfl⟩) | (go_at_call 77; refine (ref_rd _ _).mono ?_; rintro e wn ⟨rfl, rfl⟩) | (go_at_call 78; refine (ref_rs1 _ _).mono ?_; rintro e wn ⟨rfl, rfl⟩) | (go_at_call 98; refine (ref_bits _ _ _ _).mono ?_; rintro e wn ⟨rfl, rfl⟩) | (go_at_call 83; refine (refImmI _ _).mono ?_; rintro e wn ⟨rfl, h⟩; replace HB := tr HB h; clear h) | (refine own_store w rfl rfl rfl rfl rfl (by simp [Value.oneCell']) ?_ ?_; focus ((repeat (first | exact heap_on HB.out | refine heap_past _ ?_ | refine heap_far ?_ (Nat.ne_of_gt HL.out) _)); done)))
  refine own_back2 w rfl rfl rfl rfl ?_ ?_; (focus ((repeat (first | exact heap_on HB.out | refine heap_past _ ?_ | refine heap_far ?_ (Nat.ne_of_gt HL.out) _)); done))
  exact ⟨⟨_, _, _, _, _, _, _, _, _, _, _, _, rfl, by unfold numOf; (simp [h3, HK.out, Ins.zero, Ins.val, u_nil]) <;> rfl⟩, by ((repeat (first | apply On.rowO | refine On.setO ?_ HL.out | apply On.alloc)); first | exact On.refl w | exact on_of HB.out)⟩
set_option maxRecDepth 100000 in
set_option maxHeartbeats 4000000 in
theorem rimm_false_1n (x : BitVec 32) (w : World) (h3 : fi x 14 12 = 1) (HK : Hid (¬ kindOf x false = 0 ∧ ¬ kindOf x false = 32 ∧ fi x 31 20 < 1024)) :
    Calls Tryd.prog 84 #[.int .u32 (q x), .bool false, .int .i64 63] w fun e w' => PartOf e (numOf x false) ∧ On w w' := by
  have w0 := fi_wrap x 31 20
  have p := f7_parts x
  have pk : kindOf x false = fi x 31 25 / 2 * 2 := rfl
  have hk := HK.out
  have d0 : decide (fi x 31 20 ≤ 63) = false := decide_eq_false (by omega)
  have d1 : decide (0 ≤ fi x 31 20 - 1024) = false := decide_eq_false (by omega)
  have d3 : decide (1024 ≤ fi x 31 20) = false := decide_eq_false (by omega)
  have w1 : wrap64 (fi x 31 20 - 1024) = fi x 31 20 - 1024 := IntWalk.wrap64_in _ (by omega)
  clear p pk hk
  have HB := hb0 w
  go_enter Tryd.func84, Tryd.ntmps84
  go_wp2_with (first | (go_at_call 80; refine (ref_funct3 _ _).mono ?_; rintro e wn ⟨rfl, rfl⟩) | (go_at_call 77; refine (ref_rd _ _).mono ?_; rintro e wn ⟨rfl, rfl⟩) | (go_at_call 78; refine (ref_rs1 _ _).mono ?_; rintro e wn ⟨rfl, rfl⟩) | (go_at_call 98; refine (ref_bits _ _ _ _).mono ?_; rintro e wn ⟨rfl, rfl⟩) | (go_at_call 83; refine (refImmI _ _).mono ?_; rintro e wn ⟨rfl, h⟩; replace HB := tr HB h; clear h) | (refine own_store w rfl rfl rfl rfl rfl (by simp [Value.oneCell']) ?_ ?_; focus ((repeat (first | exact heap_on HB.out | refine heap_past _ ?_ | refine heap_far ?_ (Nat.ne_of_gt HL.out) _)); done)))
  refine own_back2 w rfl rfl rfl rfl ?_ ?_; (focus ((repeat (first | exact heap_on HB.out | refine heap_past _ ?_ | refine heap_far ?_ (Nat.ne_of_gt HL.out) _)); done))
  exact ⟨⟨_, _, _, _, _, _, _, _, _, _, _, _, rfl, by unfold numOf; (simp [h3, HK.out, Ins.zero, Ins.val, u_nil]) <;> rfl⟩, by ((repeat (first | apply On.rowO | refine On.setO ?_ HL.out | apply On.alloc)); first | exact On.refl w | exact on_of HB.out)⟩
set_option maxRecDepth 100000 in
set_option maxHeartbeats 4000000 in
theorem rimm_false_1m (x : BitVec 32) (w : World) (h3 : fi x 14 12 = 1) (HK : Hid (¬ kindOf x false = 0 ∧ ¬ kindOf x false = 32 ∧ ¬ fi x 31 20 < 1024)) :
    Calls Tryd.prog 84 #[.int .u32 (q x), .bool false, .int .i64 63] w fun e w' => PartOf e (numOf x false) ∧ On w w' := by
  have w0 := fi_wrap x 31 20
  have p := f7_parts x
  have pk : kindOf x false = fi x 31 25 / 2 * 2 := rfl
  have hk := HK.out
  have d0 : decide (fi x 31 20 ≤ 63) = false := decide_eq_false (by omega)
  have d1 : decide (0 ≤ fi x 31 20 - 1024) = true := decide_eq_true (by omega)
  have d2 : decide (fi x 31 20 - 1024 ≤ 63) = false := decide_eq_false (by omega)
  have d3 : decide (1024 ≤ fi x 31 20) = true := decide_eq_true (by omega)
  have d4 : decide (fi x 31 20 ≤ 1087) = false := decide_eq_false (by omega)
  have w1 : wrap64 (fi x 31 20 - 1024) = fi x 31 20 - 1024 := IntWalk.wrap64_in _ (by omega)
  clear p pk hk
  have HB := hb0 w
  go_enter Tryd.func84, Tryd.ntmps84
  go_wp2_with (first | (go_at_call 80; refine (ref_funct3 _ _).mono ?_; rintro e wn ⟨rfl, rfl⟩) | (go_at_call 77; refine (ref_rd _ _).mono ?_; rintro e wn ⟨rfl, rfl⟩) | (go_at_call 78; refine (ref_rs1 _ _).mono ?_; rintro e wn ⟨rfl, rfl⟩) | (go_at_call 98; refine (ref_bits _ _ _ _).mono ?_; rintro e wn ⟨rfl, rfl⟩) | (go_at_call 83; refine (refImmI _ _).mono ?_; rintro e wn ⟨rfl, h⟩; replace HB := tr HB h; clear h) | (refine own_store w rfl rfl rfl rfl rfl (by simp [Value.oneCell']) ?_ ?_; focus ((repeat (first | exact heap_on HB.out | refine heap_past _ ?_ | refine heap_far ?_ (Nat.ne_of_gt HL.out) _)); done)))
  refine own_back2 w rfl rfl rfl rfl ?_ ?_; (focus ((repeat (first | exact heap_on HB.out | refine heap_past _ ?_ | refine heap_far ?_ (Nat.ne_of_gt HL.out) _)); done))
  exact ⟨⟨_, _, _, _, _, _, _, _, _, _, _, _, rfl, by unfold numOf; (simp [h3, HK.out, Ins.zero, Ins.val, u_nil]) <;> rfl⟩, by ((repeat (first | apply On.rowO | refine On.setO ?_ HL.out | apply On.alloc)); first | exact On.refl w | exact on_of HB.out)⟩
set_option maxRecDepth 100000 in
set_option maxHeartbeats 4000000 in
theorem rimm_false_5z (x : BitVec 32) (w : World) (h3 : fi x 14 12 = 5) (HK : Hid (kindOf x false = 0)) :
    Calls Tryd.prog 84 #[.int .u32 (q x), .bool false, .int .i64 63] w fun e w' => PartOf e (numOf x false) ∧ On w w' := by
  have w0 := fi_wrap x 31 20
  have p := f7_parts x
  have pk : kindOf x false = fi x 31 25 / 2 * 2 := rfl
  have hk := HK.out
  have d0 : decide (fi x 31 20 ≤ 63) = true := decide_eq_true (by omega)
  have e0 : IntKind.u64.wrap (bits .and .i64 (fi x 31 20) 63) = u (shOf x) := sh_63 x trivial
  clear p pk hk
  have HB := hb0 w
  go_enter Tryd.func84, Tryd.ntmps84
  go_wp2_with (first | (go_at_call 80; refine (ref_funct3 _ _).mono ?_; rintro e wn ⟨rfl, rfl⟩) | (go_at_call 77; refine (ref_rd _ _).mono ?_; rintro e wn ⟨rfl, rfl⟩) | (go_at_call 78; refine (ref_rs1 _ _).mono ?_; rintro e wn ⟨rfl, rfl⟩) | (go_at_call 98; refine (ref_bits _ _ _ _).mono ?_; rintro e wn ⟨rfl, rfl⟩) | (go_at_call 83; refine (refImmI _ _).mono ?_; rintro e wn ⟨rfl, h⟩; replace HB := tr HB h; clear h) | (refine own_store w rfl rfl rfl rfl rfl (by simp [Value.oneCell']) ?_ ?_; focus ((repeat (first | exact heap_on HB.out | refine heap_past _ ?_ | refine heap_far ?_ (Nat.ne_of_gt HL.out) _)); done)))
  refine own_back2 w rfl rfl rfl rfl ?_ ?_; (focus ((repeat (first | exact heap_on HB.out | refine heap_past _ ?_ | refine heap_far ?_ (Nat.ne_of_gt HL.out) _)); done))
  exact ⟨⟨_, _, _, _, _, _, _, _, _, _, _, _, rfl, by unfold numOf; (simp [h3, HK.out, Ins.zero, Ins.val, u_nil]) <;> rfl⟩, by ((repeat (first | apply On.rowO | refine On.setO ?_ HL.out | apply On.alloc)); first | exact On.refl w | exact on_of HB.out)⟩
set_option maxRecDepth 100000 in
set_option maxHeartbeats 4000000 in
theorem rimm_false_5s (x : BitVec 32) (w : World) (h3 : fi x 14 12 = 5) (HK : Hid (kindOf x false = 32)) :
    Calls Tryd.prog 84 #[.int .u32 (q x), .bool false, .int .i64 63] w fun e w' => PartOf e (numOf x false) ∧ On w w' := by
  have w0 := fi_wrap x 31 20
  have p := f7_parts x
  have pk : kindOf x false = fi x 31 25 / 2 * 2 := rfl
  have hk := HK.out
  have d0 : decide (fi x 31 20 ≤ 63) = false := decide_eq_false (by omega)
  have d1 : decide (0 ≤ fi x 31 20 - 1024) = true := decide_eq_true (by omega)
  have d2 : decide (fi x 31 20 - 1024 ≤ 63) = true := decide_eq_true (by omega)
  have d3 : decide (1024 ≤ fi x 31 20) = true := decide_eq_true (by omega)
  have d4 : decide (fi x 31 20 ≤ 1087) = true := decide_eq_true (by omega)
  have w1 : wrap64 (fi x 31 20 - 1024) = fi x 31 20 - 1024 := IntWalk.wrap64_in _ (by omega)
  have e0 : IntKind.u64.wrap (bits .and .i64 (fi x 31 20) 63) = u (shOf x) := sh_63 x trivial
  clear p pk hk
  have HB := hb0 w
  go_enter Tryd.func84, Tryd.ntmps84
  go_wp2_with (first | (go_at_call 80; refine (ref_funct3 _ _).mono ?_; rintro e wn ⟨rfl, rfl⟩) | (go_at_call 77; refine (ref_rd _ _).mono ?_; rintro e wn ⟨rfl, rfl⟩) | (go_at_call 78; refine (ref_rs1 _ _).mono ?_; rintro e wn ⟨rfl, rfl⟩) | (go_at_call 98; refine (ref_bits _ _ _ _).mono ?_; rintro e wn ⟨rfl, rfl⟩) | (go_at_call 83; refine (refImmI _ _).mono ?_; rintro e wn ⟨rfl, h⟩; replace HB := tr HB h; clear h) | (refine own_store w rfl rfl rfl rfl rfl (by simp [Value.oneCell']) ?_ ?_; focus ((repeat (first | exact heap_on HB.out | refine heap_past _ ?_ | refine heap_far ?_ (Nat.ne_of_gt HL.out) _)); done)))
  refine own_back2 w rfl rfl rfl rfl ?_ ?_; (focus ((repeat (first | exact heap_on HB.out | refine heap_past _ ?_ | refine heap_far ?_ (Nat.ne_of_gt HL.out) _)); done))
  exact ⟨⟨_, _, _, _, _, _, _, _, _, _, _, _, rfl, by unfold numOf; (simp [h3, HK.out, Ins.zero, Ins.val, u_nil]) <;> rfl⟩, by ((repeat (first | apply On.rowO | refine On.setO ?_ HL.out | apply On.alloc)); first | exact On.refl w | exact on_of HB.out)⟩
set_option maxRecDepth 100000 in
set_option maxHeartbeats 4000000 in
theorem rimm_false_5n (x : BitVec 32) (w : World) (h3 : fi x 14 12 = 5) (HK : Hid (¬ kindOf x false = 0 ∧ ¬ kindOf x false = 32 ∧ fi x 31 20 < 1024)) :
    Calls Tryd.prog 84 #[.int .u32 (q x), .bool false, .int .i64 63] w fun e w' => PartOf e (numOf x false) ∧ On w w' := by
  have w0 := fi_wrap x 31 20
  have p := f7_parts x
  have pk : kindOf x false = fi x 31 25 / 2 * 2 := rfl
  have hk := HK.out
  have d0 : decide (fi x 31 20 ≤ 63) = false := decide_eq_false (by omega)
  have d1 : decide (0 ≤ fi x 31 20 - 1024) = false := decide_eq_false (by omega)
  have d3 : decide (1024 ≤ fi x 31 20) = false := decide_eq_false (by omega)
  have w1 : wrap64 (fi x 31 20 - 1024) = fi x 31 20 - 1024 := IntWalk.wrap64_in _ (by omega)
  clear p pk hk
  have HB := hb0 w
  go_enter Tryd.func84, Tryd.ntmps84
  go_wp2_with (first | (go_at_call 80; refine (ref_funct3 _ _).mono ?_; rintro e wn ⟨rfl, rfl⟩) | (go_at_call 77; refine (ref_rd _ _).mono ?_; rintro e wn ⟨rfl, rfl⟩) | (go_at_call 78; refine (ref_rs1 _ _).mono ?_; rintro e wn ⟨rfl, rfl⟩) | (go_at_call 98; refine (ref_bits _ _ _ _).mono ?_; rintro e wn ⟨rfl, rfl⟩) | (go_at_call 83; refine (refImmI _ _).mono ?_; rintro e wn ⟨rfl, h⟩; replace HB := tr HB h; clear h) | (refine own_store w rfl rfl rfl rfl rfl (by simp [Value.oneCell']) ?_ ?_; focus ((repeat (first | exact heap_on HB.out | refine heap_past _ ?_ | refine heap_far ?_ (Nat.ne_of_gt HL.out) _)); done)))
  refine own_back2 w rfl rfl rfl rfl ?_ ?_; (focus ((repeat (first | exact heap_on HB.out | refine heap_past _ ?_ | refine heap_far ?_ (Nat.ne_of_gt HL.out) _)); done))
  exact ⟨⟨_, _, _, _, _, _, _, _, _, _, _, _, rfl, by unfold numOf; (simp [h3, HK.out, Ins.zero, Ins.val, u_nil]) <;> rfl⟩, by ((repeat (first | apply On.rowO | refine On.setO ?_ HL.out | apply On.alloc)); first | exact On.refl w | exact on_of HB.out)⟩
set_option maxRecDepth 100000 in
set_option maxHeartbeats 4000000 in
theorem rimm_false_5m (x : BitVec 32) (w : World) (h3 : fi x 14 12 = 5) (HK : Hid (¬ kindOf x false = 0 ∧ ¬ kindOf x false = 32 ∧ ¬ fi x 31 20 < 1024)) :
    Calls Tryd.prog 84 #[.int .u32 (q x), .bool false, .int .i64 63] w fun e w' => PartOf e (numOf x false) ∧ On w w' := by
  have w0 := fi_wrap x 31 20
  have p := f7_parts x
  have pk : kindOf x false = fi x 31 25 / 2 * 2 := rfl
  have hk := HK.out
  have d0 : decide (fi x 31 20 ≤ 63) = false := decide_eq_false (by omega)
  have d1 : decide (0 ≤ fi x 31 20 - 1024) = true := decide_eq_true (by omega)
  have d2 : decide (fi x 31 20 - 1024 ≤ 63) = false := decide_eq_false (by omega)
  have d3 : decide (1024 ≤ fi x 31 20) = true := decide_eq_true (by omega)
  have d4 : decide (fi x 31 20 ≤ 1087) = false := decide_eq_false (by omega)
  have w1 : wrap64 (fi x 31 20 - 1024) = fi x 31 20 - 1024 := IntWalk.wrap64_in _ (by omega)
  clear p pk hk
  have HB := hb0 w
  go_enter Tryd.func84, Tryd.ntmps84
  go_wp2_with (first | (go_at_call 80; refine (ref_funct3 _ _).mono ?_; rintro e wn ⟨rfl, rfl⟩) | (go_at_call 77; refine (ref_rd _ _).mono ?_; rintro e wn ⟨rfl, rfl⟩) | (go_at_call 78; refine (ref_rs1 _ _).mono ?_; rintro e wn ⟨rfl, rfl⟩) | (go_at_call 98; refine (ref_bits _ _ _ _).mono ?_; rintro e wn ⟨rfl, rfl⟩) | (go_at_call 83; refine (refImmI _ _).mono ?_; rintro e wn ⟨rfl, h⟩; replace HB := tr HB h; clear h) | (refine own_store w rfl rfl rfl rfl rfl (by simp [Value.oneCell']) ?_ ?_; focus ((repeat (first | exact heap_on HB.out | refine heap_past _ ?_ | refine heap_far ?_ (Nat.ne_of_gt HL.out) _)); done)))
  refine own_back2 w rfl rfl rfl rfl ?_ ?_; (focus ((repeat (first | exact heap_on HB.out | refine heap_past _ ?_ | refine heap_far ?_ (Nat.ne_of_gt HL.out) _)); done))
  exact ⟨⟨_, _, _, _, _, _, _, _, _, _, _, _, rfl, by unfold numOf; (simp [h3, HK.out, Ins.zero, Ins.val, u_nil]) <;> rfl⟩, by ((repeat (first | apply On.rowO | refine On.setO ?_ HL.out | apply On.alloc)); first | exact On.refl w | exact on_of HB.out)⟩
theorem rimm_false_any (x : BitVec 32) (w : World) :
    Calls Tryd.prog 84 #[.int .u32 (q x), .bool false, .int .i64 63] w fun e w' => PartOf e (numOf x false) ∧ On w w' := by
  rcases f3_cases x with h3 | h3 | h3 | h3 | h3 | h3 | h3 | h3
  · exact rimm_false_0 x w h3
  · by_cases c : kindOf x false = 0
    · exact rimm_false_1z x w h3 (Lib.hid c)
    by_cases d : kindOf x false = 32
    · exact rimm_false_1s x w h3 (Lib.hid d)
    by_cases g : fi x 31 20 < 1024
    · exact rimm_false_1n x w h3 (Lib.hid ⟨c, d, g⟩)
    · exact rimm_false_1m x w h3 (Lib.hid ⟨c, d, g⟩)
  · exact rimm_false_2 x w h3
  · exact rimm_false_3 x w h3
  · exact rimm_false_4 x w h3
  · by_cases c : kindOf x false = 0
    · exact rimm_false_5z x w h3 (Lib.hid c)
    by_cases d : kindOf x false = 32
    · exact rimm_false_5s x w h3 (Lib.hid d)
    by_cases g : fi x 31 20 < 1024
    · exact rimm_false_5n x w h3 (Lib.hid ⟨c, d, g⟩)
    · exact rimm_false_5m x w h3 (Lib.hid ⟨c, d, g⟩)
  · exact rimm_false_6 x w h3
  · exact rimm_false_7 x w h3
set_option maxRecDepth 100000 in
set_option maxHeartbeats 4000000 in
theorem rimm_true_0 (x : BitVec 32) (w : World) (h3 : fi x 14 12 = 0) :
    Calls Tryd.prog 84 #[.int .u32 (q x), .bool true, .int .i64 31] w fun e w' => PartOf e (numOf x true) ∧ On w w' := by
  have HB := hb0 w
  go_enter Tryd.func84, Tryd.ntmps84
  go_wp2_with (first | (go_at_call 80; refine (ref_funct3 _ _).mono ?_; rintro e wn ⟨rfl, rfl⟩) | (go_at_call 77; refine (ref_rd _ _).mono ?_; rintro e wn ⟨rfl, rfl⟩) | (go_at_call 78; refine (ref_rs1 _ _).mono ?_; rintro e wn ⟨rfl, rfl⟩) | (go_at_call 98; refine (ref_bits _ _ _ _).mono ?_; rintro e wn ⟨rfl, rfl⟩) | (go_at_call 83; refine (refImmI _ _).mono ?_; rintro e wn ⟨rfl, h⟩; replace HB := tr HB h; clear h) | (refine own_store w rfl rfl rfl rfl rfl (by simp [Value.oneCell']) ?_ ?_; focus ((repeat (first | exact heap_on HB.out | refine heap_past _ ?_ | refine heap_far ?_ (Nat.ne_of_gt HL.out) _)); done)))
  refine own_back2 w rfl rfl rfl rfl ?_ ?_; (focus ((repeat (first | exact heap_on HB.out | refine heap_past _ ?_ | refine heap_far ?_ (Nat.ne_of_gt HL.out) _)); done))
  exact ⟨⟨_, _, _, _, _, _, _, _, _, _, _, _, rfl, by unfold numOf; (simp [h3, Ins.zero, Ins.val, u_nil]) <;> rfl⟩, by ((repeat (first | apply On.rowO | refine On.setO ?_ HL.out | apply On.alloc)); first | exact On.refl w | exact on_of HB.out)⟩
set_option maxRecDepth 100000 in
set_option maxHeartbeats 4000000 in
theorem rimm_true_2 (x : BitVec 32) (w : World) (h3 : fi x 14 12 = 2) :
    Calls Tryd.prog 84 #[.int .u32 (q x), .bool true, .int .i64 31] w fun e w' => PartOf e (numOf x true) ∧ On w w' := by
  have HB := hb0 w
  go_enter Tryd.func84, Tryd.ntmps84
  go_wp2_with (first | (go_at_call 80; refine (ref_funct3 _ _).mono ?_; rintro e wn ⟨rfl, rfl⟩) | (go_at_call 77; refine (ref_rd _ _).mono ?_; rintro e wn ⟨rfl, rfl⟩) | (go_at_call 78; refine (ref_rs1 _ _).mono ?_; rintro e wn ⟨rfl, rfl⟩) | (go_at_call 98; refine (ref_bits _ _ _ _).mono ?_; rintro e wn ⟨rfl, rfl⟩) | (go_at_call 83; refine (refImmI _ _).mono ?_; rintro e wn ⟨rfl, h⟩; replace HB := tr HB h; clear h) | (refine own_store w rfl rfl rfl rfl rfl (by simp [Value.oneCell']) ?_ ?_; focus ((repeat (first | exact heap_on HB.out | refine heap_past _ ?_ | refine heap_far ?_ (Nat.ne_of_gt HL.out) _)); done)))
  refine own_back2 w rfl rfl rfl rfl ?_ ?_; (focus ((repeat (first | exact heap_on HB.out | refine heap_past _ ?_ | refine heap_far ?_ (Nat.ne_of_gt HL.out) _)); done))
  exact ⟨⟨_, _, _, _, _, _, _, _, _, _, _, _, rfl, by unfold numOf; (simp [h3, Ins.zero, Ins.val, u_nil]) <;> rfl⟩, by ((repeat (first | apply On.rowO | refine On.setO ?_ HL.out | apply On.alloc)); first | exact On.refl w | exact on_of HB.out)⟩
set_option maxRecDepth 100000 in
set_option maxHeartbeats 4000000 in
theorem rimm_true_3 (x : BitVec 32) (w : World) (h3 : fi x 14 12 = 3) :
    Calls Tryd.prog 84 #[.int .u32 (q x), .bool true, .int .i64 31] w fun e w' => PartOf e (numOf x true) ∧ On w w' := by
  have HB := hb0 w
  go_enter Tryd.func84, Tryd.ntmps84
  go_wp2_with (first | (go_at_call 80; refine (ref_funct3 _ _).mono ?_; rintro e wn ⟨rfl, rfl⟩) | (go_at_call 77; refine (ref_rd _ _).mono ?_; rintro e wn ⟨rfl, rfl⟩) | (go_at_call 78; refine (ref_rs1 _ _).mono ?_; rintro e wn ⟨rfl, rfl⟩) | (go_at_call 98; refine (ref_bits _ _ _ _).mono ?_; rintro e wn ⟨rfl, rfl⟩) | (go_at_call 83; refine (refImmI _ _).mono ?_; rintro e wn ⟨rfl, h⟩; replace HB := tr HB h; clear h) | (refine own_store w rfl rfl rfl rfl rfl (by simp [Value.oneCell']) ?_ ?_; focus ((repeat (first | exact heap_on HB.out | refine heap_past _ ?_ | refine heap_far ?_ (Nat.ne_of_gt HL.out) _)); done)))
  refine own_back2 w rfl rfl rfl rfl ?_ ?_; (focus ((repeat (first | exact heap_on HB.out | refine heap_past _ ?_ | refine heap_far ?_ (Nat.ne_of_gt HL.out) _)); done))
  exact ⟨⟨_, _, _, _, _, _, _, _, _, _, _, _, rfl, by unfold numOf; (simp [h3, Ins.zero, Ins.val, u_nil]) <;> rfl⟩, by ((repeat (first | apply On.rowO | refine On.setO ?_ HL.out | apply On.alloc)); first | exact On.refl w | exact on_of HB.out)⟩
set_option maxRecDepth 100000 in
set_option maxHeartbeats 4000000 in
theorem rimm_true_4 (x : BitVec 32) (w : World) (h3 : fi x 14 12 = 4) :
    Calls Tryd.prog 84 #[.int .u32 (q x), .bool true, .int .i64 31] w fun e w' => PartOf e (numOf x true) ∧ On w w' := by
  have HB := hb0 w
  go_enter Tryd.func84, Tryd.ntmps84
  go_wp2_with (first | (go_at_call 80; refine (ref_funct3 _ _).mono ?_; rintro e wn ⟨rfl, rfl⟩) | (go_at_call 77; refine (ref_rd _ _).mono ?_; rintro e wn ⟨rfl, rfl⟩) | (go_at_call 78; refine (ref_rs1 _ _).mono ?_; rintro e wn ⟨rfl, rfl⟩) | (go_at_call 98; refine (ref_bits _ _ _ _).mono ?_; rintro e wn ⟨rfl, rfl⟩) | (go_at_call 83; refine (refImmI _ _).mono ?_; rintro e wn ⟨rfl, h⟩; replace HB := tr HB h; clear h) | (refine own_store w rfl rfl rfl rfl rfl (by simp [Value.oneCell']) ?_ ?_; focus ((repeat (first | exact heap_on HB.out | refine heap_past _ ?_ | refine heap_far ?_ (Nat.ne_of_gt HL.out) _)); done)))
  refine own_back2 w rfl rfl rfl rfl ?_ ?_; (focus ((repeat (first | exact heap_on HB.out | refine heap_past _ ?_ | refine heap_far ?_ (Nat.ne_of_gt HL.out) _)); done))
  exact ⟨⟨_, _, _, _, _, _, _, _, _, _, _, _, rfl, by unfold numOf; (simp [h3, Ins.zero, Ins.val, u_nil]) <;> rfl⟩, by ((repeat (first | apply On.rowO | refine On.setO ?_ HL.out | apply On.alloc)); first | exact On.refl w | exact on_of HB.out)⟩
set_option maxRecDepth 100000 in
set_option maxHeartbeats 4000000 in
theorem rimm_true_6 (x : BitVec 32) (w : World) (h3 : fi x 14 12 = 6) :
    Calls Tryd.prog 84 #[.int .u32 (q x), .bool true, .int .i64 31] w fun e w' => PartOf e (numOf x true) ∧ On w w' := by
  have HB := hb0 w
  go_enter Tryd.func84, Tryd.ntmps84
  go_wp2_with (first | (go_at_call 80; refine (ref_funct3 _ _).mono ?_; rintro e wn ⟨rfl, rfl⟩) | (go_at_call 77; refine (ref_rd _ _).mono ?_; rintro e wn ⟨rfl, rfl⟩) | (go_at_call 78; refine (ref_rs1 _ _).mono ?_; rintro e wn ⟨rfl, rfl⟩) | (go_at_call 98; refine (ref_bits _ _ _ _).mono ?_; rintro e wn ⟨rfl, rfl⟩) | (go_at_call 83; refine (refImmI _ _).mono ?_; rintro e wn ⟨rfl, h⟩; replace HB := tr HB h; clear h) | (refine own_store w rfl rfl rfl rfl rfl (by simp [Value.oneCell']) ?_ ?_; focus ((repeat (first | exact heap_on HB.out | refine heap_past _ ?_ | refine heap_far ?_ (Nat.ne_of_gt HL.out) _)); done)))
  refine own_back2 w rfl rfl rfl rfl ?_ ?_; (focus ((repeat (first | exact heap_on HB.out | refine heap_past _ ?_ | refine heap_far ?_ (Nat.ne_of_gt HL.out) _)); done))
  exact ⟨⟨_, _, _, _, _, _, _, _, _, _, _, _, rfl, by unfold numOf; (simp [h3, Ins.zero, Ins.val, u_nil]) <;> rfl⟩, by ((repeat (first | apply On.rowO | refine On.setO ?_ HL.out | apply On.alloc)); first | exact On.refl w | exact on_of HB.out)⟩
set_option maxRecDepth 100000 in
set_option maxHeartbeats 4000000 in
theorem rimm_true_7 (x : BitVec 32) (w : World) (h3 : fi x 14 12 = 7) :
    Calls Tryd.prog 84 #[.int .u32 (q x), .bool true, .int .i64 31] w fun e w' => PartOf e (numOf x true) ∧ On w w' := by
  have HB := hb0 w
  go_enter Tryd.func84, Tryd.ntmps84
  go_wp2_with (first | (go_at_call 80; refine (ref_funct3 _ _).mono ?_; rintro e wn ⟨rfl, rfl⟩) | (go_at_call 77; refine (ref_rd _ _).mono ?_; rintro e wn ⟨rfl, rfl⟩) | (go_at_call 78; refine (ref_rs1 _ _).mono ?_; rintro e wn ⟨rfl, rfl⟩) | (go_at_call 98; refine (ref_bits _ _ _ _).mono ?_; rintro e wn ⟨rfl, rfl⟩) | (go_at_call 83; refine (refImmI _ _).mono ?_; rintro e wn ⟨rfl, h⟩; replace HB := tr HB h; clear h) | (refine own_store w rfl rfl rfl rfl rfl (by simp [Value.oneCell']) ?_ ?_; focus ((repeat (first | exact heap_on HB.out | refine heap_past _ ?_ | refine heap_far ?_ (Nat.ne_of_gt HL.out) _)); done)))
  refine own_back2 w rfl rfl rfl rfl ?_ ?_; (focus ((repeat (first | exact heap_on HB.out | refine heap_past _ ?_ | refine heap_far ?_ (Nat.ne_of_gt HL.out) _)); done))
  exact ⟨⟨_, _, _, _, _, _, _, _, _, _, _, _, rfl, by unfold numOf; (simp [h3, Ins.zero, Ins.val, u_nil]) <;> rfl⟩, by ((repeat (first | apply On.rowO | refine On.setO ?_ HL.out | apply On.alloc)); first | exact On.refl w | exact on_of HB.out)⟩
set_option maxRecDepth 100000 in
set_option maxHeartbeats 4000000 in
theorem rimm_true_1z (x : BitVec 32) (w : World) (h3 : fi x 14 12 = 1) (HK : Hid (kindOf x true = 0)) :
    Calls Tryd.prog 84 #[.int .u32 (q x), .bool true, .int .i64 31] w fun e w' => PartOf e (numOf x true) ∧ On w w' := by
  have w0 := fi_wrap x 31 20
  have p := f7_parts x
  have pk : kindOf x true = fi x 31 25 := rfl
  have hk := HK.out
  have d0 : decide (fi x 31 20 ≤ 31) = true := decide_eq_true (by omega)
  have e0 : IntKind.u64.wrap (bits .and .i64 (fi x 31 20) 31) = u (shOf x) := sh_31 x (by omega)
  clear p pk hk
  have HB := hb0 w
  go_enter Tryd.func84, Tryd.ntmps84
  go_wp2_with (first | (go_at_call 80; refine (ref_funct3 _ _).mono ?_; rintro e wn ⟨rfl, rfl⟩) | (go_at_call 77; refine (ref_rd _ _).mono ?_; rintro e wn ⟨rfl, rfl⟩) | (go_at_call 78; refine (ref_rs1 _ _).mono ?_; rintro e wn ⟨rfl, rfl⟩) | (go_at_call 98; refine (ref_bits _ _ _ _).mono ?_; rintro e wn ⟨rfl, rfl⟩) | (go_at_call 83; refine (refImmI _ _).mono ?_; rintro e wn ⟨rfl, h⟩; replace HB := tr HB h; clear h) | (refine own_store w rfl rfl rfl rfl rfl (by simp [Value.oneCell']) ?_ ?_; focus ((repeat (first | exact heap_on HB.out | refine heap_past _ ?_ | refine heap_far ?_ (Nat.ne_of_gt HL.out) _)); done)))
  refine own_back2 w rfl rfl rfl rfl ?_ ?_; (focus ((repeat (first | exact heap_on HB.out | refine heap_past _ ?_ | refine heap_far ?_ (Nat.ne_of_gt HL.out) _)); done))
  exact ⟨⟨_, _, _, _, _, _, _, _, _, _, _, _, rfl, by unfold numOf; (simp [h3, HK.out, Ins.zero, Ins.val, u_nil]) <;> rfl⟩, by ((repeat (first | apply On.rowO | refine On.setO ?_ HL.out | apply On.alloc)); first | exact On.refl w | exact on_of HB.out)⟩
set_option maxRecDepth 100000 in
set_option maxHeartbeats 4000000 in
theorem rimm_true_1s (x : BitVec 32) (w : World) (h3 : fi x 14 12 = 1) (HK : Hid (kindOf x true = 32)) :
    Calls Tryd.prog 84 #[.int .u32 (q x), .bool true, .int .i64 31] w fun e w' => PartOf e (numOf x true) ∧ On w w' := by
  have w0 := fi_wrap x 31 20
  have p := f7_parts x
  have pk : kindOf x true = fi x 31 25 := rfl
  have hk := HK.out
  have d0 : decide (fi x 31 20 ≤ 31) = false := decide_eq_false (by omega)
  have d2 : decide (fi x 31 20 - 1024 ≤ 31) = true := decide_eq_true (by omega)
  have d4 : decide (fi x 31 20 ≤ 1055) = true := decide_eq_true (by omega)
  have w1 : wrap64 (fi x 31 20 - 1024) = fi x 31 20 - 1024 := IntWalk.wrap64_in _ (by omega)
  have e0 : IntKind.u64.wrap (bits .and .i64 (fi x 31 20) 31) = u (shOf x) := sh_31 x (by omega)
  clear p pk hk
  have HB := hb0 w
  go_enter Tryd.func84, Tryd.ntmps84
  go_wp2_with (first | (go_at_call 80; refine (ref_funct3 _ _).mono ?_; rintro e wn ⟨rfl, rfl⟩) | (go_at_call 77; refine (ref_rd _ _).mono ?_; rintro e wn ⟨rfl, rfl⟩) | (go_at_call 78; refine (ref_rs1 _ _).mono ?_; rintro e wn ⟨rfl, rfl⟩) | (go_at_call 98; refine (ref_bits _ _ _ _).mono ?_; rintro e wn ⟨rfl, rfl⟩) | (go_at_call 83; refine (refImmI _ _).mono ?_; rintro e wn ⟨rfl, h⟩; replace HB := tr HB h; clear h) | (refine own_store w rfl rfl rfl rfl rfl (by simp [Value.oneCell']) ?_ ?_; focus ((repeat (first | exact heap_on HB.out | refine heap_past _ ?_ | refine heap_far ?_ (Nat.ne_of_gt HL.out) _)); done)))
  refine own_back2 w rfl rfl rfl rfl ?_ ?_; (focus ((repeat (first | exact heap_on HB.out | refine heap_past _ ?_ | refine heap_far ?_ (Nat.ne_of_gt HL.out) _)); done))
  exact ⟨⟨_, _, _, _, _, _, _, _, _, _, _, _, rfl, by unfold numOf; (simp [h3, HK.out, Ins.zero, Ins.val, u_nil]) <;> rfl⟩, by ((repeat (first | apply On.rowO | refine On.setO ?_ HL.out | apply On.alloc)); first | exact On.refl w | exact on_of HB.out)⟩
set_option maxRecDepth 100000 in
set_option maxHeartbeats 4000000 in
theorem rimm_true_1n (x : BitVec 32) (w : World) (h3 : fi x 14 12 = 1) (HK : Hid (¬ kindOf x true = 0 ∧ ¬ kindOf x true = 32 ∧ fi x 31 20 < 1024)) :
    Calls Tryd.prog 84 #[.int .u32 (q x), .bool true, .int .i64 31] w fun e w' => PartOf e (numOf x true) ∧ On w w' := by
  have w0 := fi_wrap x 31 20
  have p := f7_parts x
  have pk : kindOf x true = fi x 31 25 := rfl
  have hk := HK.out
  have d0 : decide (fi x 31 20 ≤ 31) = false := decide_eq_false (by omega)
  have d1 : decide (0 ≤ fi x 31 20 - 1024) = false := decide_eq_false (by omega)
  have d3 : decide (1024 ≤ fi x 31 20) = false := decide_eq_false (by omega)
  have w1 : wrap64 (fi x 31 20 - 1024) = fi x 31 20 - 1024 := IntWalk.wrap64_in _ (by omega)
  clear p pk hk
  have HB := hb0 w
  go_enter Tryd.func84, Tryd.ntmps84
  go_wp2_with (first | (go_at_call 80; refine (ref_funct3 _ _).mono ?_; rintro e wn ⟨rfl, rfl⟩) | (go_at_call 77; refine (ref_rd _ _).mono ?_; rintro e wn ⟨rfl, rfl⟩) | (go_at_call 78; refine (ref_rs1 _ _).mono ?_; rintro e wn ⟨rfl, rfl⟩) | (go_at_call 98; refine (ref_bits _ _ _ _).mono ?_; rintro e wn ⟨rfl, rfl⟩) | (go_at_call 83; refine (refImmI _ _).mono ?_; rintro e wn ⟨rfl, h⟩; replace HB := tr HB h; clear h) | (refine own_store w rfl rfl rfl rfl rfl (by simp [Value.oneCell']) ?_ ?_; focus ((repeat (first | exact heap_on HB.out | refine heap_past _ ?_ | refine heap_far ?_ (Nat.ne_of_gt HL.out) _)); done)))
  refine own_back2 w rfl rfl rfl rfl ?_ ?_; (focus ((repeat (first | exact heap_on HB.out | refine heap_past _ ?_ | refine heap_far ?_ (Nat.ne_of_gt HL.out) _)); done))
  exact ⟨⟨_, _, _, _, _, _, _, _, _, _, _, _, rfl, by unfold numOf; (simp [h3, HK.out, Ins.zero, Ins.val, u_nil]) <;> rfl⟩, by ((repeat (first | apply On.rowO | refine On.setO ?_ HL.out | apply On.alloc)); first | exact On.refl w | exact on_of HB.out)⟩
set_option maxRecDepth 100000 in
set_option maxHeartbeats 4000000 in
theorem rimm_true_1m (x : BitVec 32) (w : World) (h3 : fi x 14 12 = 1) (HK : Hid (¬ kindOf x true = 0 ∧ ¬ kindOf x true = 32 ∧ ¬ fi x 31 20 < 1024)) :
    Calls Tryd.prog 84 #[.int .u32 (q x), .bool true, .int .i64 31] w fun e w' => PartOf e (numOf x true) ∧ On w w' := by
  have w0 := fi_wrap x 31 20
  have p := f7_parts x
  have pk : kindOf x true = fi x 31 25 := rfl
  have hk := HK.out
  have d0 : decide (fi x 31 20 ≤ 31) = false := decide_eq_false (by omega)
  have d1 : decide (0 ≤ fi x 31 20 - 1024) = true := decide_eq_true (by omega)
  have d2 : decide (fi x 31 20 - 1024 ≤ 31) = false := decide_eq_false (by omega)
  have d3 : decide (1024 ≤ fi x 31 20) = true := decide_eq_true (by omega)
  have d4 : decide (fi x 31 20 ≤ 1055) = false := decide_eq_false (by omega)
  have w1 : wrap64 (fi x 31 20 - 1024) = fi x 31 20 - 1024 := IntWalk.wrap64_in _ (by omega)
  clear p pk hk
  have HB := hb0 w
  go_enter Tryd.func84, Tryd.ntmps84
  go_wp2_with (first | (go_at_call 80; refine (ref_funct3 _ _).mono ?_; rintro e wn ⟨rfl, rfl⟩) | (go_at_call 77; refine (ref_rd _ _).mono ?_; rintro e wn ⟨rfl, rfl⟩) | (go_at_call 78; refine (ref_rs1 _ _).mono ?_; rintro e wn ⟨rfl, rfl⟩) | (go_at_call 98; refine (ref_bits _ _ _ _).mono ?_; rintro e wn ⟨rfl, rfl⟩) | (go_at_call 83; refine (refImmI _ _).mono ?_; rintro e wn ⟨rfl, h⟩; replace HB := tr HB h; clear h) | (refine own_store w rfl rfl rfl rfl rfl (by simp [Value.oneCell']) ?_ ?_; focus ((repeat (first | exact heap_on HB.out | refine heap_past _ ?_ | refine heap_far ?_ (Nat.ne_of_gt HL.out) _)); done)))
  refine own_back2 w rfl rfl rfl rfl ?_ ?_; (focus ((repeat (first | exact heap_on HB.out | refine heap_past _ ?_ | refine heap_far ?_ (Nat.ne_of_gt HL.out) _)); done))
  exact ⟨⟨_, _, _, _, _, _, _, _, _, _, _, _, rfl, by unfold numOf; (simp [h3, HK.out, Ins.zero, Ins.val, u_nil]) <;> rfl⟩, by ((repeat (first | apply On.rowO | refine On.setO ?_ HL.out | apply On.alloc)); first | exact On.refl w | exact on_of HB.out)⟩
set_option maxRecDepth 100000 in
set_option maxHeartbeats 4000000 in
theorem rimm_true_5z (x : BitVec 32) (w : World) (h3 : fi x 14 12 = 5) (HK : Hid (kindOf x true = 0)) :
    Calls Tryd.prog 84 #[.int .u32 (q x), .bool true, .int .i64 31] w fun e w' => PartOf e (numOf x true) ∧ On w w' := by
  have w0 := fi_wrap x 31 20
  have p := f7_parts x
  have pk : kindOf x true = fi x 31 25 := rfl
  have hk := HK.out
  have d0 : decide (fi x 31 20 ≤ 31) = true := decide_eq_true (by omega)
  have e0 : IntKind.u64.wrap (bits .and .i64 (fi x 31 20) 31) = u (shOf x) := sh_31 x (by omega)
  clear p pk hk
  have HB := hb0 w
  go_enter Tryd.func84, Tryd.ntmps84
  go_wp2_with (first | (go_at_call 80; refine (ref_funct3 _ _).mono ?_; rintro e wn ⟨rfl, rfl⟩) | (go_at_call 77; refine (ref_rd _ _).mono ?_; rintro e wn ⟨rfl, rfl⟩) | (go_at_call 78; refine (ref_rs1 _ _).mono ?_; rintro e wn ⟨rfl, rfl⟩) | (go_at_call 98; refine (ref_bits _ _ _ _).mono ?_; rintro e wn ⟨rfl, rfl⟩) | (go_at_call 83; refine (refImmI _ _).mono ?_; rintro e wn ⟨rfl, h⟩; replace HB := tr HB h; clear h) | (refine own_store w rfl rfl rfl rfl rfl (by simp [Value.oneCell']) ?_ ?_; focus ((repeat (first | exact heap_on HB.out | refine heap_past _ ?_ | refine heap_far ?_ (Nat.ne_of_gt HL.out) _)); done)))
  refine own_back2 w rfl rfl rfl rfl ?_ ?_; (focus ((repeat (first | exact heap_on HB.out | refine heap_past _ ?_ | refine heap_far ?_ (Nat.ne_of_gt HL.out) _)); done))
  exact ⟨⟨_, _, _, _, _, _, _, _, _, _, _, _, rfl, by unfold numOf; (simp [h3, HK.out, Ins.zero, Ins.val, u_nil]) <;> rfl⟩, by ((repeat (first | apply On.rowO | refine On.setO ?_ HL.out | apply On.alloc)); first | exact On.refl w | exact on_of HB.out)⟩
set_option maxRecDepth 100000 in
set_option maxHeartbeats 4000000 in
theorem rimm_true_5s (x : BitVec 32) (w : World) (h3 : fi x 14 12 = 5) (HK : Hid (kindOf x true = 32)) :
    Calls Tryd.prog 84 #[.int .u32 (q x), .bool true, .int .i64 31] w fun e w' => PartOf e (numOf x true) ∧ On w w' := by
  have w0 := fi_wrap x 31 20
  have p := f7_parts x
  have pk : kindOf x true = fi x 31 25 := rfl
  have hk := HK.out
  have d0 : decide (fi x 31 20 ≤ 31) = false := decide_eq_false (by omega)
  have d1 : decide (0 ≤ fi x 31 20 - 1024) = true := decide_eq_true (by omega)
  have d2 : decide (fi x 31 20 - 1024 ≤ 31) = true := decide_eq_true (by omega)
  have d3 : decide (1024 ≤ fi x 31 20) = true := decide_eq_true (by omega)
  have d4 : decide (fi x 31 20 ≤ 1055) = true := decide_eq_true (by omega)
  have w1 : wrap64 (fi x 31 20 - 1024) = fi x 31 20 - 1024 := IntWalk.wrap64_in _ (by omega)
  have e0 : IntKind.u64.wrap (bits .and .i64 (fi x 31 20) 31) = u (shOf x) := sh_31 x (by omega)
  clear p pk hk
  have HB := hb0 w
  go_enter Tryd.func84, Tryd.ntmps84
  go_wp2_with (first | (go_at_call 80; refine (ref_funct3 _ _).mono ?_; rintro e wn ⟨rfl, rfl⟩) | (go_at_call 77; refine (ref_rd _ _).mono ?_; rintro e wn ⟨rfl, rfl⟩) | (go_at_call 78; refine (ref_rs1 _ _).mono ?_; rintro e wn ⟨rfl, rfl⟩) | (go_at_call 98; refine (ref_bits _ _ _ _).mono ?_; rintro e wn ⟨rfl, rfl⟩) | (go_at_call 83; refine (refImmI _ _).mono ?_; rintro e wn ⟨rfl, h⟩; replace HB := tr HB h; clear h) | (refine own_store w rfl rfl rfl rfl rfl (by simp [Value.oneCell']) ?_ ?_; focus ((repeat (first | exact heap_on HB.out | refine heap_past _ ?_ | refine heap_far ?_ (Nat.ne_of_gt HL.out) _)); done)))
  refine own_back2 w rfl rfl rfl rfl ?_ ?_; (focus ((repeat (first | exact heap_on HB.out | refine heap_past _ ?_ | refine heap_far ?_ (Nat.ne_of_gt HL.out) _)); done))
  exact ⟨⟨_, _, _, _, _, _, _, _, _, _, _, _, rfl, by unfold numOf; (simp [h3, HK.out, Ins.zero, Ins.val, u_nil]) <;> rfl⟩, by ((repeat (first | apply On.rowO | refine On.setO ?_ HL.out | apply On.alloc)); first | exact On.refl w | exact on_of HB.out)⟩
set_option maxRecDepth 100000 in
set_option maxHeartbeats 4000000 in
theorem rimm_true_5n (x : BitVec 32) (w : World) (h3 : fi x 14 12 = 5) (HK : Hid (¬ kindOf x true = 0 ∧ ¬ kindOf x true = 32 ∧ fi x 31 20 < 1024)) :
    Calls Tryd.prog 84 #[.int .u32 (q x), .bool true, .int .i64 31] w fun e w' => PartOf e (numOf x true) ∧ On w w' := by
  have w0 := fi_wrap x 31 20
  have p := f7_parts x
  have pk : kindOf x true = fi x 31 25 := rfl
  have hk := HK.out
  have d0 : decide (fi x 31 20 ≤ 31) = false := decide_eq_false (by omega)
  have d1 : decide (0 ≤ fi x 31 20 - 1024) = false := decide_eq_false (by omega)
  have d3 : decide (1024 ≤ fi x 31 20) = false := decide_eq_false (by omega)
  have w1 : wrap64 (fi x 31 20 - 1024) = fi x 31 20 - 1024 := IntWalk.wrap64_in _ (by omega)
  clear p pk hk
  have HB := hb0 w
  go_enter Tryd.func84, Tryd.ntmps84
  go_wp2_with (first | (go_at_call 80; refine (ref_funct3 _ _).mono ?_; rintro e wn ⟨rfl, rfl⟩) | (go_at_call 77; refine (ref_rd _ _).mono ?_; rintro e wn ⟨rfl, rfl⟩) | (go_at_call 78; refine (ref_rs1 _ _).mono ?_; rintro e wn ⟨rfl, rfl⟩) | (go_at_call 98; refine (ref_bits _ _ _ _).mono ?_; rintro e wn ⟨rfl, rfl⟩) | (go_at_call 83; refine (refImmI _ _).mono ?_; rintro e wn ⟨rfl, h⟩; replace HB := tr HB h; clear h) | (refine own_store w rfl rfl rfl rfl rfl (by simp [Value.oneCell']) ?_ ?_; focus ((repeat (first | exact heap_on HB.out | refine heap_past _ ?_ | refine heap_far ?_ (Nat.ne_of_gt HL.out) _)); done)))
  refine own_back2 w rfl rfl rfl rfl ?_ ?_; (focus ((repeat (first | exact heap_on HB.out | refine heap_past _ ?_ | refine heap_far ?_ (Nat.ne_of_gt HL.out) _)); done))
  exact ⟨⟨_, _, _, _, _, _, _, _, _, _, _, _, rfl, by unfold numOf; (simp [h3, HK.out, Ins.zero, Ins.val, u_nil]) <;> rfl⟩, by ((repeat (first | apply On.rowO | refine On.setO ?_ HL.out | apply On.alloc)); first | exact On.refl w | exact on_of HB.out)⟩
set_option maxRecDepth 100000 in
set_option maxHeartbeats 4000000 in
theorem rimm_true_5m (x : BitVec 32) (w : World) (h3 : fi x 14 12 = 5) (HK : Hid (¬ kindOf x true = 0 ∧ ¬ kindOf x true = 32 ∧ ¬ fi x 31 20 < 1024)) :
    Calls Tryd.prog 84 #[.int .u32 (q x), .bool true, .int .i64 31] w fun e w' => PartOf e (numOf x true) ∧ On w w' := by
  have w0 := fi_wrap x 31 20
  have p := f7_parts x
  have pk : kindOf x true = fi x 31 25 := rfl
  have hk := HK.out
  have d0 : decide (fi x 31 20 ≤ 31) = false := decide_eq_false (by omega)
  have d1 : decide (0 ≤ fi x 31 20 - 1024) = true := decide_eq_true (by omega)
  have d2 : decide (fi x 31 20 - 1024 ≤ 31) = false := decide_eq_false (by omega)
  have d3 : decide (1024 ≤ fi x 31 20) = true := decide_eq_true (by omega)
  have d4 : decide (fi x 31 20 ≤ 1055) = false := decide_eq_false (by omega)
  have w1 : wrap64 (fi x 31 20 - 1024) = fi x 31 20 - 1024 := IntWalk.wrap64_in _ (by omega)
  clear p pk hk
  have HB := hb0 w
  go_enter Tryd.func84, Tryd.ntmps84
  go_wp2_with (first | (go_at_call 80; refine (ref_funct3 _ _).mono ?_; rintro e wn ⟨rfl, rfl⟩) | (go_at_call 77; refine (ref_rd _ _).mono ?_; rintro e wn ⟨rfl, rfl⟩) | (go_at_call 78; refine (ref_rs1 _ _).mono ?_; rintro e wn ⟨rfl, rfl⟩) | (go_at_call 98; refine (ref_bits _ _ _ _).mono ?_; rintro e wn ⟨rfl, rfl⟩) | (go_at_call 83; refine (refImmI _ _).mono ?_; rintro e wn ⟨rfl, h⟩; replace HB := tr HB h; clear h) | (refine own_store w rfl rfl rfl rfl rfl (by simp [Value.oneCell']) ?_ ?_; focus ((repeat (first | exact heap_on HB.out | refine heap_past _ ?_ | refine heap_far ?_ (Nat.ne_of_gt HL.out) _)); done)))
  refine own_back2 w rfl rfl rfl rfl ?_ ?_; (focus ((repeat (first | exact heap_on HB.out | refine heap_past _ ?_ | refine heap_far ?_ (Nat.ne_of_gt HL.out) _)); done))
  exact ⟨⟨_, _, _, _, _, _, _, _, _, _, _, _, rfl, by unfold numOf; (simp [h3, HK.out, Ins.zero, Ins.val, u_nil]) <;> rfl⟩, by ((repeat (first | apply On.rowO | refine On.setO ?_ HL.out | apply On.alloc)); first | exact On.refl w | exact on_of HB.out)⟩
theorem rimm_true_any (x : BitVec 32) (w : World) :
    Calls Tryd.prog 84 #[.int .u32 (q x), .bool true, .int .i64 31] w fun e w' => PartOf e (numOf x true) ∧ On w w' := by
  rcases f3_cases x with h3 | h3 | h3 | h3 | h3 | h3 | h3 | h3
  · exact rimm_true_0 x w h3
  · by_cases c : kindOf x true = 0
    · exact rimm_true_1z x w h3 (Lib.hid c)
    by_cases d : kindOf x true = 32
    · exact rimm_true_1s x w h3 (Lib.hid d)
    by_cases g : fi x 31 20 < 1024
    · exact rimm_true_1n x w h3 (Lib.hid ⟨c, d, g⟩)
    · exact rimm_true_1m x w h3 (Lib.hid ⟨c, d, g⟩)
  · exact rimm_true_2 x w h3
  · exact rimm_true_3 x w h3
  · exact rimm_true_4 x w h3
  · by_cases c : kindOf x true = 0
    · exact rimm_true_5z x w h3 (Lib.hid c)
    by_cases d : kindOf x true = 32
    · exact rimm_true_5s x w h3 (Lib.hid d)
    by_cases g : fi x 31 20 < 1024
    · exact rimm_true_5n x w h3 (Lib.hid ⟨c, d, g⟩)
    · exact rimm_true_5m x w h3 (Lib.hid ⟨c, d, g⟩)
  · exact rimm_true_6 x w h3
  · exact rimm_true_7 x w h3
end Go.Proofs.YtjnalgilkdoalaaDoor
