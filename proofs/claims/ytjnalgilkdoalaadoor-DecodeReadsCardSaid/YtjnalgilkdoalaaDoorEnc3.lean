/- What assembling a word comes to in the reference: the word and the error that the instruction asks for. Conditions: none. -/
import Derived.Test.YtjnalgilkdoalaaDoorEnc2
import Derived.Test.YtjnalgilkdoalaaDoorRefB
import Derived.Lib.QuietBelow
namespace Go.Proofs.YtjnalgilkdoalaaDoor
open Go.RowKit
set_option linter.unusedSimpArgs false
set_option linter.unusedVariables false

theorem sg_in (v : BitVec 64) : I64 (sg v) := by have h1 := BitVec.le_toInt v; have h2 := BitVec.toInt_lt (x := v); unfold sg I64; omega
set_option maxRecDepth 100000 in
set_option maxHeartbeats 4000000 in
theorem rsize_1 (w : World) :
    Calls Tryd.prog 60 #[.int .i64 1] w fun e w' => e = .returned (.int .i64 (0)) ∧ w = w' := by
  go_enter Tryd.func60, Tryd.ntmps60
  go_wp2
  go_ret
  exact ⟨rfl, rfl⟩
set_option maxRecDepth 100000 in
set_option maxHeartbeats 4000000 in
theorem rsize_2 (w : World) :
    Calls Tryd.prog 60 #[.int .i64 2] w fun e w' => e = .returned (.int .i64 (1)) ∧ w = w' := by
  go_enter Tryd.func60, Tryd.ntmps60
  go_wp2
  go_ret
  exact ⟨rfl, rfl⟩
set_option maxRecDepth 100000 in
set_option maxHeartbeats 4000000 in
theorem rsize_4 (w : World) :
    Calls Tryd.prog 60 #[.int .i64 4] w fun e w' => e = .returned (.int .i64 (2)) ∧ w = w' := by
  go_enter Tryd.func60, Tryd.ntmps60
  go_wp2
  go_ret
  exact ⟨rfl, rfl⟩
set_option maxRecDepth 100000 in
set_option maxHeartbeats 4000000 in
theorem rsize_8 (w : World) :
    Calls Tryd.prog 60 #[.int .i64 8] w fun e w' => e = .returned (.int .i64 (3)) ∧ w = w' := by
  go_enter Tryd.func60, Tryd.ntmps60
  go_wp2
  go_ret
  exact ⟨rfl, rfl⟩
set_option maxRecDepth 100000 in
set_option maxHeartbeats 4000000 in
theorem rsize_any (z : Int) (w : World) :
    Calls Tryd.prog 60 #[.int .i64 z] w fun e w' => e = .returned (.int .i64 (rszOf z)) ∧ w = w' := by
  by_cases n1 : z = 1
  · subst n1; exact rsize_1 w
  by_cases n2 : z = 2
  · subst n2; exact rsize_2 w
  by_cases n4 : z = 4
  · subst n4; exact rsize_4 w
  by_cases n8 : z = 8
  · subst n8; exact rsize_8 w
  have e : rszOf z = -1 := by unfold rszOf; rw [if_neg n1, if_neg n2, if_neg n4, if_neg n8]
  have b1 : (z == 1) = false := by simpa using n1
  have b2 : (z == 2) = false := by simpa using n2
  have b4 : (z == 4) = false := by simpa using n4
  have b8 : (z == 8) = false := by simpa using n8
  rw [e]
  clear n1 n2 n4 n8 e
  go_enter Tryd.func60, Tryd.ntmps60
  go_wp2
  go_ret
  exact ⟨rfl, rfl⟩
theorem rsize_on (z : Int) (w : World) : Calls Tryd.prog 60 #[.int .i64 z] w fun e w' => e = .returned (.int .i64 (rszOf z)) ∧ On w w' := (rsize_any z w).mono fun _ _ h => ⟨h.1, h.2 ▸ On.refl w⟩
theorem rsz_cases (z : Int) : rszOf z = 0 ∨ rszOf z = 1 ∨ rszOf z = 2 ∨ rszOf z = 3 ∨ rszOf z = -1 := by unfold rszOf; (repeat' split) <;> simp
set_option maxRecDepth 100000 in
set_option maxHeartbeats 4000000 in
theorem rload_false_0 (o f d s t z k : Int) (m : BitVec 64) (b c : Bool) (w : World) (hk : rszOf z = 0) :
    Calls Tryd.prog 58 #[.agg #[.int .i64 o, .int .i64 f, .int .i64 d, .int .i64 s, .int .i64 t, .int .u64 (u m), .int .i64 z, .bool false, .bool b, .bool c, .int .i64 k]] w fun e w' => e = .returned (.int .i64 (4)) ∧ On w w' := by
  have HB : Hid (On w (w.alloc (.cells #[.int .i64 o, .int .i64 f, .int .i64 d, .int .i64 s, .int .i64 t, .int .u64 (u m), .int .i64 z, .bool false, .bool b, .bool c, .int .i64 k] 24))) := Lib.hid ((On.refl w).alloc _)
  have hs : ∀ w, Calls Tryd.prog 60 #[.int .i64 z] w fun e w' => e = .returned (.int .i64 (0)) ∧ w = w' := fun w => hk ▸ rsize_any z w
  have HS := Lib.hid hs
  clear hs hk
  go_enter Tryd.func58, Tryd.ntmps58
  go_wp2_with (go_at_call 60; refine (HS.out _).mono ?_; rintro e wn ⟨rfl, rfl⟩)
  go_ret
  exact ⟨rfl, HB.out⟩
set_option maxRecDepth 100000 in
set_option maxHeartbeats 4000000 in
theorem rload_false_1 (o f d s t z k : Int) (m : BitVec 64) (b c : Bool) (w : World) (hk : rszOf z = 1) :
    Calls Tryd.prog 58 #[.agg #[.int .i64 o, .int .i64 f, .int .i64 d, .int .i64 s, .int .i64 t, .int .u64 (u m), .int .i64 z, .bool false, .bool b, .bool c, .int .i64 k]] w fun e w' => e = .returned (.int .i64 (5)) ∧ On w w' := by
  have HB : Hid (On w (w.alloc (.cells #[.int .i64 o, .int .i64 f, .int .i64 d, .int .i64 s, .int .i64 t, .int .u64 (u m), .int .i64 z, .bool false, .bool b, .bool c, .int .i64 k] 24))) := Lib.hid ((On.refl w).alloc _)
  have hs : ∀ w, Calls Tryd.prog 60 #[.int .i64 z] w fun e w' => e = .returned (.int .i64 (1)) ∧ w = w' := fun w => hk ▸ rsize_any z w
  have HS := Lib.hid hs
  clear hs hk
  go_enter Tryd.func58, Tryd.ntmps58
  go_wp2_with (go_at_call 60; refine (HS.out _).mono ?_; rintro e wn ⟨rfl, rfl⟩)
  go_ret
  exact ⟨rfl, HB.out⟩
set_option maxRecDepth 100000 in
set_option maxHeartbeats 4000000 in
theorem rload_false_2 (o f d s t z k : Int) (m : BitVec 64) (b c : Bool) (w : World) (hk : rszOf z = 2) :
    Calls Tryd.prog 58 #[.agg #[.int .i64 o, .int .i64 f, .int .i64 d, .int .i64 s, .int .i64 t, .int .u64 (u m), .int .i64 z, .bool false, .bool b, .bool c, .int .i64 k]] w fun e w' => e = .returned (.int .i64 (6)) ∧ On w w' := by
  have HB : Hid (On w (w.alloc (.cells #[.int .i64 o, .int .i64 f, .int .i64 d, .int .i64 s, .int .i64 t, .int .u64 (u m), .int .i64 z, .bool false, .bool b, .bool c, .int .i64 k] 24))) := Lib.hid ((On.refl w).alloc _)
  have hs : ∀ w, Calls Tryd.prog 60 #[.int .i64 z] w fun e w' => e = .returned (.int .i64 (2)) ∧ w = w' := fun w => hk ▸ rsize_any z w
  have HS := Lib.hid hs
  clear hs hk
  go_enter Tryd.func58, Tryd.ntmps58
  go_wp2_with (go_at_call 60; refine (HS.out _).mono ?_; rintro e wn ⟨rfl, rfl⟩)
  go_ret
  exact ⟨rfl, HB.out⟩
set_option maxRecDepth 100000 in
set_option maxHeartbeats 4000000 in
theorem rload_false_3 (o f d s t z k : Int) (m : BitVec 64) (b c : Bool) (w : World) (hk : rszOf z = 3) :
    Calls Tryd.prog 58 #[.agg #[.int .i64 o, .int .i64 f, .int .i64 d, .int .i64 s, .int .i64 t, .int .u64 (u m), .int .i64 z, .bool false, .bool b, .bool c, .int .i64 k]] w fun e w' => e = .returned (.int .i64 (7)) ∧ On w w' := by
  have HB : Hid (On w (w.alloc (.cells #[.int .i64 o, .int .i64 f, .int .i64 d, .int .i64 s, .int .i64 t, .int .u64 (u m), .int .i64 z, .bool false, .bool b, .bool c, .int .i64 k] 24))) := Lib.hid ((On.refl w).alloc _)
  have hs : ∀ w, Calls Tryd.prog 60 #[.int .i64 z] w fun e w' => e = .returned (.int .i64 (3)) ∧ w = w' := fun w => hk ▸ rsize_any z w
  have HS := Lib.hid hs
  clear hs hk
  go_enter Tryd.func58, Tryd.ntmps58
  go_wp2_with (go_at_call 60; refine (HS.out _).mono ?_; rintro e wn ⟨rfl, rfl⟩)
  go_ret
  exact ⟨rfl, HB.out⟩
set_option maxRecDepth 100000 in
set_option maxHeartbeats 4000000 in
theorem rload_false_m (o f d s t z k : Int) (m : BitVec 64) (b c : Bool) (w : World) (hk : rszOf z = -1) :
    Calls Tryd.prog 58 #[.agg #[.int .i64 o, .int .i64 f, .int .i64 d, .int .i64 s, .int .i64 t, .int .u64 (u m), .int .i64 z, .bool false, .bool b, .bool c, .int .i64 k]] w fun e w' => e = .returned (.int .i64 (-1)) ∧ On w w' := by
  have HB : Hid (On w (w.alloc (.cells #[.int .i64 o, .int .i64 f, .int .i64 d, .int .i64 s, .int .i64 t, .int .u64 (u m), .int .i64 z, .bool false, .bool b, .bool c, .int .i64 k] 24))) := Lib.hid ((On.refl w).alloc _)
  have hs : ∀ w, Calls Tryd.prog 60 #[.int .i64 z] w fun e w' => e = .returned (.int .i64 (-1)) ∧ w = w' := fun w => hk ▸ rsize_any z w
  have HS := Lib.hid hs
  clear hs hk
  go_enter Tryd.func58, Tryd.ntmps58
  go_wp2_with (go_at_call 60; refine (HS.out _).mono ?_; rintro e wn ⟨rfl, rfl⟩)
  go_ret
  exact ⟨rfl, HB.out⟩
set_option maxRecDepth 100000 in
set_option maxHeartbeats 4000000 in
theorem rload_true_0 (o f d s t z k : Int) (m : BitVec 64) (b c : Bool) (w : World) (hk : rszOf z = 0) :
    Calls Tryd.prog 58 #[.agg #[.int .i64 o, .int .i64 f, .int .i64 d, .int .i64 s, .int .i64 t, .int .u64 (u m), .int .i64 z, .bool true, .bool b, .bool c, .int .i64 k]] w fun e w' => e = .returned (.int .i64 (0)) ∧ On w w' := by
  have HB : Hid (On w (w.alloc (.cells #[.int .i64 o, .int .i64 f, .int .i64 d, .int .i64 s, .int .i64 t, .int .u64 (u m), .int .i64 z, .bool true, .bool b, .bool c, .int .i64 k] 24))) := Lib.hid ((On.refl w).alloc _)
  have hs : ∀ w, Calls Tryd.prog 60 #[.int .i64 z] w fun e w' => e = .returned (.int .i64 (0)) ∧ w = w' := fun w => hk ▸ rsize_any z w
  have HS := Lib.hid hs
  clear hs hk
  go_enter Tryd.func58, Tryd.ntmps58
  go_wp2_with (go_at_call 60; refine (HS.out _).mono ?_; rintro e wn ⟨rfl, rfl⟩)
  go_ret
  exact ⟨rfl, HB.out⟩
set_option maxRecDepth 100000 in
set_option maxHeartbeats 4000000 in
theorem rload_true_1 (o f d s t z k : Int) (m : BitVec 64) (b c : Bool) (w : World) (hk : rszOf z = 1) :
    Calls Tryd.prog 58 #[.agg #[.int .i64 o, .int .i64 f, .int .i64 d, .int .i64 s, .int .i64 t, .int .u64 (u m), .int .i64 z, .bool true, .bool b, .bool c, .int .i64 k]] w fun e w' => e = .returned (.int .i64 (1)) ∧ On w w' := by
  have HB : Hid (On w (w.alloc (.cells #[.int .i64 o, .int .i64 f, .int .i64 d, .int .i64 s, .int .i64 t, .int .u64 (u m), .int .i64 z, .bool true, .bool b, .bool c, .int .i64 k] 24))) := Lib.hid ((On.refl w).alloc _)
  have hs : ∀ w, Calls Tryd.prog 60 #[.int .i64 z] w fun e w' => e = .returned (.int .i64 (1)) ∧ w = w' := fun w => hk ▸ rsize_any z w
  have HS := Lib.hid hs
  clear hs hk
  go_enter Tryd.func58, Tryd.ntmps58
  go_wp2_with (go_at_call 60; refine (HS.out _).mono ?_; rintro e wn ⟨rfl, rfl⟩)
  go_ret
  exact ⟨rfl, HB.out⟩
set_option maxRecDepth 100000 in
set_option maxHeartbeats 4000000 in
theorem rload_true_2 (o f d s t z k : Int) (m : BitVec 64) (b c : Bool) (w : World) (hk : rszOf z = 2) :
    Calls Tryd.prog 58 #[.agg #[.int .i64 o, .int .i64 f, .int .i64 d, .int .i64 s, .int .i64 t, .int .u64 (u m), .int .i64 z, .bool true, .bool b, .bool c, .int .i64 k]] w fun e w' => e = .returned (.int .i64 (2)) ∧ On w w' := by
  have HB : Hid (On w (w.alloc (.cells #[.int .i64 o, .int .i64 f, .int .i64 d, .int .i64 s, .int .i64 t, .int .u64 (u m), .int .i64 z, .bool true, .bool b, .bool c, .int .i64 k] 24))) := Lib.hid ((On.refl w).alloc _)
  have hs : ∀ w, Calls Tryd.prog 60 #[.int .i64 z] w fun e w' => e = .returned (.int .i64 (2)) ∧ w = w' := fun w => hk ▸ rsize_any z w
  have HS := Lib.hid hs
  clear hs hk
  go_enter Tryd.func58, Tryd.ntmps58
  go_wp2_with (go_at_call 60; refine (HS.out _).mono ?_; rintro e wn ⟨rfl, rfl⟩)
  go_ret
  exact ⟨rfl, HB.out⟩
set_option maxRecDepth 100000 in
set_option maxHeartbeats 4000000 in
theorem rload_true_3 (o f d s t z k : Int) (m : BitVec 64) (b c : Bool) (w : World) (hk : rszOf z = 3) :
    Calls Tryd.prog 58 #[.agg #[.int .i64 o, .int .i64 f, .int .i64 d, .int .i64 s, .int .i64 t, .int .u64 (u m), .int .i64 z, .bool true, .bool b, .bool c, .int .i64 k]] w fun e w' => e = .returned (.int .i64 (3)) ∧ On w w' := by
  have HB : Hid (On w (w.alloc (.cells #[.int .i64 o, .int .i64 f, .int .i64 d, .int .i64 s, .int .i64 t, .int .u64 (u m), .int .i64 z, .bool true, .bool b, .bool c, .int .i64 k] 24))) := Lib.hid ((On.refl w).alloc _)
  have hs : ∀ w, Calls Tryd.prog 60 #[.int .i64 z] w fun e w' => e = .returned (.int .i64 (3)) ∧ w = w' := fun w => hk ▸ rsize_any z w
  have HS := Lib.hid hs
  clear hs hk
  go_enter Tryd.func58, Tryd.ntmps58
  go_wp2_with (go_at_call 60; refine (HS.out _).mono ?_; rintro e wn ⟨rfl, rfl⟩)
  go_ret
  exact ⟨rfl, HB.out⟩
set_option maxRecDepth 100000 in
set_option maxHeartbeats 4000000 in
theorem rload_true_m (o f d s t z k : Int) (m : BitVec 64) (b c : Bool) (w : World) (hk : rszOf z = -1) :
    Calls Tryd.prog 58 #[.agg #[.int .i64 o, .int .i64 f, .int .i64 d, .int .i64 s, .int .i64 t, .int .u64 (u m), .int .i64 z, .bool true, .bool b, .bool c, .int .i64 k]] w fun e w' => e = .returned (.int .i64 (-1)) ∧ On w w' := by
  have HB : Hid (On w (w.alloc (.cells #[.int .i64 o, .int .i64 f, .int .i64 d, .int .i64 s, .int .i64 t, .int .u64 (u m), .int .i64 z, .bool true, .bool b, .bool c, .int .i64 k] 24))) := Lib.hid ((On.refl w).alloc _)
  have hs : ∀ w, Calls Tryd.prog 60 #[.int .i64 z] w fun e w' => e = .returned (.int .i64 (-1)) ∧ w = w' := fun w => hk ▸ rsize_any z w
  have HS := Lib.hid hs
  clear hs hk
  go_enter Tryd.func58, Tryd.ntmps58
  go_wp2_with (go_at_call 60; refine (HS.out _).mono ?_; rintro e wn ⟨rfl, rfl⟩)
  go_ret
  exact ⟨rfl, HB.out⟩
theorem rload_any (o f d s t z k : Int) (m : BitVec 64) (a b c : Bool) (w : World) : Calls Tryd.prog 58 #[.agg #[.int .i64 o, .int .i64 f, .int .i64 d, .int .i64 s, .int .i64 t, .int .u64 (u m), .int .i64 z, .bool a, .bool b, .bool c, .int .i64 k]] w fun e w' => e = .returned (.int .i64 (rlfOf a z)) ∧ On w w' := by
  rcases rsz_cases z with hk | hk | hk | hk | hk <;> cases a
  · rw [show rlfOf false z = (4) by unfold rlfOf; rw [hk]; rfl]; exact rload_false_0 o f d s t z k m b c w hk
  · rw [show rlfOf true z = (0) by unfold rlfOf; rw [hk]; rfl]; exact rload_true_0 o f d s t z k m b c w hk
  · rw [show rlfOf false z = (5) by unfold rlfOf; rw [hk]; rfl]; exact rload_false_1 o f d s t z k m b c w hk
  · rw [show rlfOf true z = (1) by unfold rlfOf; rw [hk]; rfl]; exact rload_true_1 o f d s t z k m b c w hk
  · rw [show rlfOf false z = (6) by unfold rlfOf; rw [hk]; rfl]; exact rload_false_2 o f d s t z k m b c w hk
  · rw [show rlfOf true z = (2) by unfold rlfOf; rw [hk]; rfl]; exact rload_true_2 o f d s t z k m b c w hk
  · rw [show rlfOf false z = (7) by unfold rlfOf; rw [hk]; rfl]; exact rload_false_3 o f d s t z k m b c w hk
  · rw [show rlfOf true z = (3) by unfold rlfOf; rw [hk]; rfl]; exact rload_true_3 o f d s t z k m b c w hk
  · rw [show rlfOf false z = (-1) by unfold rlfOf; rw [hk]; rfl]; exact rload_false_m o f d s t z k m b c w hk
  · rw [show rlfOf true z = (-1) by unfold rlfOf; rw [hk]; rfl]; exact rload_true_m o f d s t z k m b c w hk
set_option maxRecDepth 100000 in
set_option maxHeartbeats 4000000 in
theorem rop_any (b : Bool) (n : Int) (h : n = 19 ∨ n = 51) (w : World) :
    Calls Tryd.prog 63 #[.bool b, .int .i64 n] w fun e w' => e = .returned (.int .i64 (if b = true then n + 8 else n)) ∧ On w w' := by
  rcases h with rfl | rfl <;> cases b
  all_goals (
    go_enter Tryd.func63, Tryd.ntmps63
    go_wp2
    go_ret
    exact ⟨rfl, On.refl _⟩)
theorem big_none {x : BitVec 32} {f d s t z k : Int} {m : BitVec 64} {a b c : Bool} (hx : decOf x = ⟨8, f, d, s, t, m, z, a, b, c, k⟩) (hf : f = 1 ∨ f = 5 ∨ f = 13) (h : 63 < u m) : False := by
  have h8 : (decOf x).op = 8 := by rw [hx]
  have h1 := rnum_max x h8
  rw [hx] at h1
  have := h1 hf
  dsimp only at this
  omega
theorem csr_none {x : BitVec 32} {f d s t z k : Int} {m : BitVec 64} {a b c : Bool} (hx : decOf x = ⟨19, f, d, s, t, m, z, a, b, c, k⟩) (h : ¬ (0 ≤ k ∧ k ≤ 4095 ∧ 1 ≤ f ∧ f ≤ 3)) : False := by
  have h8 : (decOf x).op = 19 := by rw [hx]
  have h1 := csr_in x h8
  rw [hx] at h1
  exact h h1
theorem amo_none {x : BitVec 32} {f d s t z k : Int} {m : BitVec 64} {a b c : Bool} (hx : decOf x = ⟨22, f, d, s, t, m, z, a, b, c, k⟩) (h : ¬ (0 ≤ f ∧ f ≤ 31)) : False := by
  have h8 : (decOf x).op = 22 := by rw [hx]
  have h1 := amo_in x h8
  rw [hx] at h1
  exact h h1
set_option maxRecDepth 100000 in
set_option maxHeartbeats 4000000 in
theorem rimm_1_big (d s t z k : Int) (m : BitVec 64) (a b c : Bool) (w : World) (H : Hid (63 < u m)) :
    Calls Tryd.prog 61 #[.agg #[.int .i64 8, .int .i64 1, .int .i64 d, .int .i64 s, .int .i64 t, .int .u64 (u m), .int .i64 z, .bool a, .bool b, .bool c, .int .i64 k], .int .i64 (sg m)] w fun e w' => Ans ⟨8, 1, d, s, t, m, z, a, b, c, k⟩ e ∧ On w w' := by
  have b0 : decide (63 < u m) = true := decide_eq_true H.out
  go_enter Tryd.func61, Tryd.ntmps61
  go_wp2
  go_ret2
  exact ⟨⟨0#32, 7, rfl, right_none (by decide) (fun x hx h0 => big_none hx (by simp) H.out)⟩, (On.refl w).alloc _⟩
set_option maxRecDepth 100000 in
set_option maxHeartbeats 4000000 in
theorem rimm_1_asm (d s t z k : Int) (m : BitVec 64) (a b c : Bool) (w : World) (H : Hid (¬ 63 < u m)) :
    Calls Tryd.prog 61 #[.agg #[.int .i64 8, .int .i64 1, .int .i64 d, .int .i64 s, .int .i64 t, .int .u64 (u m), .int .i64 z, .bool a, .bool b, .bool c, .int .i64 k], .int .i64 (sg m)] w fun e w' => Ans ⟨8, 1, d, s, t, m, z, a, b, c, k⟩ e ∧ On w w' := by
  have b0 : decide (63 < u m) = false := decide_eq_false H.out
  have hu := u_nonneg m
  have hs : sg m = u m := sg_small m (by have := H.out; omega)
  have hv : wrap64 (sg m + 1024) = sg m + 1024 := IntWalk.wrap64_in _ (by have := H.out; omega)
  have HV : Hid (I64 (sg m)) := Lib.hid (by have := H.out; unfold I64; omega)
  have ha : bits .and .i64 1 7 = 1 := by decide +kernel
  clear hu hs
  cases b
  · have c0 : ∀ d' os', (Sort.grow (redrawn (w.alloc (.cells #[.int .i64 8, .int .i64 1, .int .i64 d, .int .i64 s, .int .i64 t, .int .u64 (u m), .int .i64 z, .bool a, .bool false, .bool c, .int .i64 k] 24)) d') os').cell? ⟨w.heap.size, 0, none⟩ = some (.int .i64 8) := fun d' os' => new_cell _ _ _ _ rfl d' os'
    have c1 : ∀ d' os', (Sort.grow (redrawn (w.alloc (.cells #[.int .i64 8, .int .i64 1, .int .i64 d, .int .i64 s, .int .i64 t, .int .u64 (u m), .int .i64 z, .bool a, .bool false, .bool c, .int .i64 k] 24)) d') os').cell? ⟨w.heap.size, 1, none⟩ = some (.int .i64 1) := fun d' os' => new_cell _ _ _ _ rfl d' os'
    have c2 : ∀ d' os', (Sort.grow (redrawn (w.alloc (.cells #[.int .i64 8, .int .i64 1, .int .i64 d, .int .i64 s, .int .i64 t, .int .u64 (u m), .int .i64 z, .bool a, .bool false, .bool c, .int .i64 k] 24)) d') os').cell? ⟨w.heap.size, 2, none⟩ = some (.int .i64 d) := fun d' os' => new_cell _ _ _ _ rfl d' os'
    have c3 : ∀ d' os', (Sort.grow (redrawn (w.alloc (.cells #[.int .i64 8, .int .i64 1, .int .i64 d, .int .i64 s, .int .i64 t, .int .u64 (u m), .int .i64 z, .bool a, .bool false, .bool c, .int .i64 k] 24)) d') os').cell? ⟨w.heap.size, 3, none⟩ = some (.int .i64 s) := fun d' os' => new_cell _ _ _ _ rfl d' os'
    have c4 : ∀ d' os', (Sort.grow (redrawn (w.alloc (.cells #[.int .i64 8, .int .i64 1, .int .i64 d, .int .i64 s, .int .i64 t, .int .u64 (u m), .int .i64 z, .bool a, .bool false, .bool c, .int .i64 k] 24)) d') os').cell? ⟨w.heap.size, 4, none⟩ = some (.int .i64 t) := fun d' os' => new_cell _ _ _ _ rfl d' os'
    have c5 : ∀ d' os', (Sort.grow (redrawn (w.alloc (.cells #[.int .i64 8, .int .i64 1, .int .i64 d, .int .i64 s, .int .i64 t, .int .u64 (u m), .int .i64 z, .bool a, .bool false, .bool c, .int .i64 k] 24)) d') os').cell? ⟨w.heap.size, 5, none⟩ = some (.int .u64 (u m)) := fun d' os' => new_cell _ _ _ _ rfl d' os'
    have c6 : ∀ d' os', (Sort.grow (redrawn (w.alloc (.cells #[.int .i64 8, .int .i64 1, .int .i64 d, .int .i64 s, .int .i64 t, .int .u64 (u m), .int .i64 z, .bool a, .bool false, .bool c, .int .i64 k] 24)) d') os').cell? ⟨w.heap.size, 6, none⟩ = some (.int .i64 z) := fun d' os' => new_cell _ _ _ _ rfl d' os'
    have c7 : ∀ d' os', (Sort.grow (redrawn (w.alloc (.cells #[.int .i64 8, .int .i64 1, .int .i64 d, .int .i64 s, .int .i64 t, .int .u64 (u m), .int .i64 z, .bool a, .bool false, .bool c, .int .i64 k] 24)) d') os').cell? ⟨w.heap.size, 7, none⟩ = some (.bool a) := fun d' os' => new_cell _ _ _ _ rfl d' os'
    have c8 : ∀ d' os', (Sort.grow (redrawn (w.alloc (.cells #[.int .i64 8, .int .i64 1, .int .i64 d, .int .i64 s, .int .i64 t, .int .u64 (u m), .int .i64 z, .bool a, .bool false, .bool c, .int .i64 k] 24)) d') os').cell? ⟨w.heap.size, 8, none⟩ = some (.bool false) := fun d' os' => new_cell _ _ _ _ rfl d' os'
    have c9 : ∀ d' os', (Sort.grow (redrawn (w.alloc (.cells #[.int .i64 8, .int .i64 1, .int .i64 d, .int .i64 s, .int .i64 t, .int .u64 (u m), .int .i64 z, .bool a, .bool false, .bool c, .int .i64 k] 24)) d') os').cell? ⟨w.heap.size, 9, none⟩ = some (.bool c) := fun d' os' => new_cell _ _ _ _ rfl d' os'
    have c10 : ∀ d' os', (Sort.grow (redrawn (w.alloc (.cells #[.int .i64 8, .int .i64 1, .int .i64 d, .int .i64 s, .int .i64 t, .int .u64 (u m), .int .i64 z, .bool a, .bool false, .bool c, .int .i64 k] 24)) d') os').cell? ⟨w.heap.size, 10, none⟩ = some (.int .i64 k) := fun d' os' => new_cell _ _ _ _ rfl d' os'
    go_enter Tryd.func61, Tryd.ntmps61
    go_wp2_with fail
    refine wp_region_quiet_below (by kernel_rfl) (by kernel_rfl) ?_
    repeat (go_big_quiet_step (first | (go_at_call 63; exact Calls.on_of (rop_any _ _ (by simp) _)) | (go_at_call 56; exact Calls.on_of (refI_any _ _ _ _ _ HV.out _))))
    refine wpQuiet_nil ?_
    intro _ hw'
    obtain ⟨⟨dq, osq⟩, hw''⟩ := hw'
    subst hw''
    go_wp2
    go_ret2
    have hr := rright_8 ⟨8, 1, d, s, t, m, z, a, false, c, k⟩ rfl
    exact ⟨⟨_, _, rfl, hr⟩, ((On.refl w).alloc _).grow _ _⟩
  · have c0 : ∀ d' os', (Sort.grow (redrawn (w.alloc (.cells #[.int .i64 8, .int .i64 1, .int .i64 d, .int .i64 s, .int .i64 t, .int .u64 (u m), .int .i64 z, .bool a, .bool true, .bool c, .int .i64 k] 24)) d') os').cell? ⟨w.heap.size, 0, none⟩ = some (.int .i64 8) := fun d' os' => new_cell _ _ _ _ rfl d' os'
    have c1 : ∀ d' os', (Sort.grow (redrawn (w.alloc (.cells #[.int .i64 8, .int .i64 1, .int .i64 d, .int .i64 s, .int .i64 t, .int .u64 (u m), .int .i64 z, .bool a, .bool true, .bool c, .int .i64 k] 24)) d') os').cell? ⟨w.heap.size, 1, none⟩ = some (.int .i64 1) := fun d' os' => new_cell _ _ _ _ rfl d' os'
    have c2 : ∀ d' os', (Sort.grow (redrawn (w.alloc (.cells #[.int .i64 8, .int .i64 1, .int .i64 d, .int .i64 s, .int .i64 t, .int .u64 (u m), .int .i64 z, .bool a, .bool true, .bool c, .int .i64 k] 24)) d') os').cell? ⟨w.heap.size, 2, none⟩ = some (.int .i64 d) := fun d' os' => new_cell _ _ _ _ rfl d' os'
    have c3 : ∀ d' os', (Sort.grow (redrawn (w.alloc (.cells #[.int .i64 8, .int .i64 1, .int .i64 d, .int .i64 s, .int .i64 t, .int .u64 (u m), .int .i64 z, .bool a, .bool true, .bool c, .int .i64 k] 24)) d') os').cell? ⟨w.heap.size, 3, none⟩ = some (.int .i64 s) := fun d' os' => new_cell _ _ _ _ rfl d' os'
    have c4 : ∀ d' os', (Sort.grow (redrawn (w.alloc (.cells #[.int .i64 8, .int .i64 1, .int .i64 d, .int .i64 s, .int .i64 t, .int .u64 (u m), .int .i64 z, .bool a, .bool true, .bool c, .int .i64 k] 24)) d') os').cell? ⟨w.heap.size, 4, none⟩ = some (.int .i64 t) := fun d' os' => new_cell _ _ _ _ rfl d' os'
    have c5 : ∀ d' os', (Sort.grow (redrawn (w.alloc (.cells #[.int .i64 8, .int .i64 1, .int .i64 d, .int .i64 s, .int .i64 t, .int .u64 (u m), .int .i64 z, .bool a, .bool true, .bool c, .int .i64 k] 24)) d') os').cell? ⟨w.heap.size, 5, none⟩ = some (.int .u64 (u m)) := fun d' os' => new_cell _ _ _ _ rfl d' os'
    have c6 : ∀ d' os', (Sort.grow (redrawn (w.alloc (.cells #[.int .i64 8, .int .i64 1, .int .i64 d, .int .i64 s, .int .i64 t, .int .u64 (u m), .int .i64 z, .bool a, .bool true, .bool c, .int .i64 k] 24)) d') os').cell? ⟨w.heap.size, 6, none⟩ = some (.int .i64 z) := fun d' os' => new_cell _ _ _ _ rfl d' os'
    have c7 : ∀ d' os', (Sort.grow (redrawn (w.alloc (.cells #[.int .i64 8, .int .i64 1, .int .i64 d, .int .i64 s, .int .i64 t, .int .u64 (u m), .int .i64 z, .bool a, .bool true, .bool c, .int .i64 k] 24)) d') os').cell? ⟨w.heap.size, 7, none⟩ = some (.bool a) := fun d' os' => new_cell _ _ _ _ rfl d' os'
    have c8 : ∀ d' os', (Sort.grow (redrawn (w.alloc (.cells #[.int .i64 8, .int .i64 1, .int .i64 d, .int .i64 s, .int .i64 t, .int .u64 (u m), .int .i64 z, .bool a, .bool true, .bool c, .int .i64 k] 24)) d') os').cell? ⟨w.heap.size, 8, none⟩ = some (.bool true) := fun d' os' => new_cell _ _ _ _ rfl d' os'
    have c9 : ∀ d' os', (Sort.grow (redrawn (w.alloc (.cells #[.int .i64 8, .int .i64 1, .int .i64 d, .int .i64 s, .int .i64 t, .int .u64 (u m), .int .i64 z, .bool a, .bool true, .bool c, .int .i64 k] 24)) d') os').cell? ⟨w.heap.size, 9, none⟩ = some (.bool c) := fun d' os' => new_cell _ _ _ _ rfl d' os'
    have c10 : ∀ d' os', (Sort.grow (redrawn (w.alloc (.cells #[.int .i64 8, .int .i64 1, .int .i64 d, .int .i64 s, .int .i64 t, .int .u64 (u m), .int .i64 z, .bool a, .bool true, .bool c, .int .i64 k] 24)) d') os').cell? ⟨w.heap.size, 10, none⟩ = some (.int .i64 k) := fun d' os' => new_cell _ _ _ _ rfl d' os'
    go_enter Tryd.func61, Tryd.ntmps61
    go_wp2_with fail
    refine wp_region_quiet_below (by kernel_rfl) (by kernel_rfl) ?_
    repeat (go_big_quiet_step (first | (go_at_call 63; exact Calls.on_of (rop_any _ _ (by simp) _)) | (go_at_call 56; exact Calls.on_of (refI_any _ _ _ _ _ HV.out _))))
    refine wpQuiet_nil ?_
    intro _ hw'
    obtain ⟨⟨dq, osq⟩, hw''⟩ := hw'
    subst hw''
    go_wp2
    go_ret2
    have hr := rright_8 ⟨8, 1, d, s, t, m, z, a, true, c, k⟩ rfl
    exact ⟨⟨_, _, rfl, hr⟩, ((On.refl w).alloc _).grow _ _⟩

set_option maxRecDepth 100000 in
set_option maxHeartbeats 4000000 in
theorem rimm_5_big (d s t z k : Int) (m : BitVec 64) (a b c : Bool) (w : World) (H : Hid (63 < u m)) :
    Calls Tryd.prog 61 #[.agg #[.int .i64 8, .int .i64 5, .int .i64 d, .int .i64 s, .int .i64 t, .int .u64 (u m), .int .i64 z, .bool a, .bool b, .bool c, .int .i64 k], .int .i64 (sg m)] w fun e w' => Ans ⟨8, 5, d, s, t, m, z, a, b, c, k⟩ e ∧ On w w' := by
  have b0 : decide (63 < u m) = true := decide_eq_true H.out
  go_enter Tryd.func61, Tryd.ntmps61
  go_wp2
  go_ret2
  exact ⟨⟨0#32, 7, rfl, right_none (by decide) (fun x hx h0 => big_none hx (by simp) H.out)⟩, (On.refl w).alloc _⟩
set_option maxRecDepth 100000 in
set_option maxHeartbeats 4000000 in
theorem rimm_5_asm (d s t z k : Int) (m : BitVec 64) (a b c : Bool) (w : World) (H : Hid (¬ 63 < u m)) :
    Calls Tryd.prog 61 #[.agg #[.int .i64 8, .int .i64 5, .int .i64 d, .int .i64 s, .int .i64 t, .int .u64 (u m), .int .i64 z, .bool a, .bool b, .bool c, .int .i64 k], .int .i64 (sg m)] w fun e w' => Ans ⟨8, 5, d, s, t, m, z, a, b, c, k⟩ e ∧ On w w' := by
  have b0 : decide (63 < u m) = false := decide_eq_false H.out
  have hu := u_nonneg m
  have hs : sg m = u m := sg_small m (by have := H.out; omega)
  have hv : wrap64 (sg m + 1024) = sg m + 1024 := IntWalk.wrap64_in _ (by have := H.out; omega)
  have HV : Hid (I64 (sg m)) := Lib.hid (by have := H.out; unfold I64; omega)
  have ha : bits .and .i64 5 7 = 5 := by decide +kernel
  clear hu hs
  cases b
  · have c0 : ∀ d' os', (Sort.grow (redrawn (w.alloc (.cells #[.int .i64 8, .int .i64 5, .int .i64 d, .int .i64 s, .int .i64 t, .int .u64 (u m), .int .i64 z, .bool a, .bool false, .bool c, .int .i64 k] 24)) d') os').cell? ⟨w.heap.size, 0, none⟩ = some (.int .i64 8) := fun d' os' => new_cell _ _ _ _ rfl d' os'
    have c1 : ∀ d' os', (Sort.grow (redrawn (w.alloc (.cells #[.int .i64 8, .int .i64 5, .int .i64 d, .int .i64 s, .int .i64 t, .int .u64 (u m), .int .i64 z, .bool a, .bool false, .bool c, .int .i64 k] 24)) d') os').cell? ⟨w.heap.size, 1, none⟩ = some (.int .i64 5) := fun d' os' => new_cell _ _ _ _ rfl d' os'
    have c2 : ∀ d' os', (Sort.grow (redrawn (w.alloc (.cells #[.int .i64 8, .int .i64 5, .int .i64 d, .int .i64 s, .int .i64 t, .int .u64 (u m), .int .i64 z, .bool a, .bool false, .bool c, .int .i64 k] 24)) d') os').cell? ⟨w.heap.size, 2, none⟩ = some (.int .i64 d) := fun d' os' => new_cell _ _ _ _ rfl d' os'
    have c3 : ∀ d' os', (Sort.grow (redrawn (w.alloc (.cells #[.int .i64 8, .int .i64 5, .int .i64 d, .int .i64 s, .int .i64 t, .int .u64 (u m), .int .i64 z, .bool a, .bool false, .bool c, .int .i64 k] 24)) d') os').cell? ⟨w.heap.size, 3, none⟩ = some (.int .i64 s) := fun d' os' => new_cell _ _ _ _ rfl d' os'
    have c4 : ∀ d' os', (Sort.grow (redrawn (w.alloc (.cells #[.int .i64 8, .int .i64 5, .int .i64 d, .int .i64 s, .int .i64 t, .int .u64 (u m), .int .i64 z, .bool a, .bool false, .bool c, .int .i64 k] 24)) d') os').cell? ⟨w.heap.size, 4, none⟩ = some (.int .i64 t) := fun d' os' => new_cell _ _ _ _ rfl d' os'
    have c5 : ∀ d' os', (Sort.grow (redrawn (w.alloc (.cells #[.int .i64 8, .int .i64 5, .int .i64 d, .int .i64 s, .int .i64 t, .int .u64 (u m), .int .i64 z, .bool a, .bool false, .bool c, .int .i64 k] 24)) d') os').cell? ⟨w.heap.size, 5, none⟩ = some (.int .u64 (u m)) := fun d' os' => new_cell _ _ _ _ rfl d' os'
    have c6 : ∀ d' os', (Sort.grow (redrawn (w.alloc (.cells #[.int .i64 8, .int .i64 5, .int .i64 d, .int .i64 s, .int .i64 t, .int .u64 (u m), .int .i64 z, .bool a, .bool false, .bool c, .int .i64 k] 24)) d') os').cell? ⟨w.heap.size, 6, none⟩ = some (.int .i64 z) := fun d' os' => new_cell _ _ _ _ rfl d' os'
    have c7 : ∀ d' os', (Sort.grow (redrawn (w.alloc (.cells #[.int .i64 8, .int .i64 5, .int .i64 d, .int .i64 s, .int .i64 t, .int .u64 (u m), .int .i64 z, .bool a, .bool false, .bool c, .int .i64 k] 24)) d') os').cell? ⟨w.heap.size, 7, none⟩ = some (.bool a) := fun d' os' => new_cell _ _ _ _ rfl d' os'
    have c8 : ∀ d' os', (Sort.grow (redrawn (w.alloc (.cells #[.int .i64 8, .int .i64 5, .int .i64 d, .int .i64 s, .int .i64 t, .int .u64 (u m), .int .i64 z, .bool a, .bool false, .bool c, .int .i64 k] 24)) d') os').cell? ⟨w.heap.size, 8, none⟩ = some (.bool false) := fun d' os' => new_cell _ _ _ _ rfl d' os'
    have c9 : ∀ d' os', (Sort.grow (redrawn (w.alloc (.cells #[.int .i64 8, .int .i64 5, .int .i64 d, .int .i64 s, .int .i64 t, .int .u64 (u m), .int .i64 z, .bool a, .bool false, .bool c, .int .i64 k] 24)) d') os').cell? ⟨w.heap.size, 9, none⟩ = some (.bool c) := fun d' os' => new_cell _ _ _ _ rfl d' os'
    have c10 : ∀ d' os', (Sort.grow (redrawn (w.alloc (.cells #[.int .i64 8, .int .i64 5, .int .i64 d, .int .i64 s, .int .i64 t, .int .u64 (u m), .int .i64 z, .bool a, .bool false, .bool c, .int .i64 k] 24)) d') os').cell? ⟨w.heap.size, 10, none⟩ = some (.int .i64 k) := fun d' os' => new_cell _ _ _ _ rfl d' os'
    go_enter Tryd.func61, Tryd.ntmps61
    go_wp2_with fail
    refine wp_region_quiet_below (by kernel_rfl) (by kernel_rfl) ?_
    repeat (go_big_quiet_step (first | (go_at_call 63; exact Calls.on_of (rop_any _ _ (by simp) _)) | (go_at_call 56; exact Calls.on_of (refI_any _ _ _ _ _ HV.out _))))
    refine wpQuiet_nil ?_
    intro _ hw'
    obtain ⟨⟨dq, osq⟩, hw''⟩ := hw'
    subst hw''
    go_wp2
    go_ret2
    have hr := rright_8 ⟨8, 5, d, s, t, m, z, a, false, c, k⟩ rfl
    exact ⟨⟨_, _, rfl, hr⟩, ((On.refl w).alloc _).grow _ _⟩
  · have c0 : ∀ d' os', (Sort.grow (redrawn (w.alloc (.cells #[.int .i64 8, .int .i64 5, .int .i64 d, .int .i64 s, .int .i64 t, .int .u64 (u m), .int .i64 z, .bool a, .bool true, .bool c, .int .i64 k] 24)) d') os').cell? ⟨w.heap.size, 0, none⟩ = some (.int .i64 8) := fun d' os' => new_cell _ _ _ _ rfl d' os'
    have c1 : ∀ d' os', (Sort.grow (redrawn (w.alloc (.cells #[.int .i64 8, .int .i64 5, .int .i64 d, .int .i64 s, .int .i64 t, .int .u64 (u m), .int .i64 z, .bool a, .bool true, .bool c, .int .i64 k] 24)) d') os').cell? ⟨w.heap.size, 1, none⟩ = some (.int .i64 5) := fun d' os' => new_cell _ _ _ _ rfl d' os'
    have c2 : ∀ d' os', (Sort.grow (redrawn (w.alloc (.cells #[.int .i64 8, .int .i64 5, .int .i64 d, .int .i64 s, .int .i64 t, .int .u64 (u m), .int .i64 z, .bool a, .bool true, .bool c, .int .i64 k] 24)) d') os').cell? ⟨w.heap.size, 2, none⟩ = some (.int .i64 d) := fun d' os' => new_cell _ _ _ _ rfl d' os'
    have c3 : ∀ d' os', (Sort.grow (redrawn (w.alloc (.cells #[.int .i64 8, .int .i64 5, .int .i64 d, .int .i64 s, .int .i64 t, .int .u64 (u m), .int .i64 z, .bool a, .bool true, .bool c, .int .i64 k] 24)) d') os').cell? ⟨w.heap.size, 3, none⟩ = some (.int .i64 s) := fun d' os' => new_cell _ _ _ _ rfl d' os'
    have c4 : ∀ d' os', (Sort.grow (redrawn (w.alloc (.cells #[.int .i64 8, .int .i64 5, .int .i64 d, .int .i64 s, .int .i64 t, .int .u64 (u m), .int .i64 z, .bool a, .bool true, .bool c, .int .i64 k] 24)) d') os').cell? ⟨w.heap.size, 4, none⟩ = some (.int .i64 t) := fun d' os' => new_cell _ _ _ _ rfl d' os'
    have c5 : ∀ d' os', (Sort.grow (redrawn (w.alloc (.cells #[.int .i64 8, .int .i64 5, .int .i64 d, .int .i64 s, .int .i64 t, .int .u64 (u m), .int .i64 z, .bool a, .bool true, .bool c, .int .i64 k] 24)) d') os').cell? ⟨w.heap.size, 5, none⟩ = some (.int .u64 (u m)) := fun d' os' => new_cell _ _ _ _ rfl d' os'
    have c6 : ∀ d' os', (Sort.grow (redrawn (w.alloc (.cells #[.int .i64 8, .int .i64 5, .int .i64 d, .int .i64 s, .int .i64 t, .int .u64 (u m), .int .i64 z, .bool a, .bool true, .bool c, .int .i64 k] 24)) d') os').cell? ⟨w.heap.size, 6, none⟩ = some (.int .i64 z) := fun d' os' => new_cell _ _ _ _ rfl d' os'
    have c7 : ∀ d' os', (Sort.grow (redrawn (w.alloc (.cells #[.int .i64 8, .int .i64 5, .int .i64 d, .int .i64 s, .int .i64 t, .int .u64 (u m), .int .i64 z, .bool a, .bool true, .bool c, .int .i64 k] 24)) d') os').cell? ⟨w.heap.size, 7, none⟩ = some (.bool a) := fun d' os' => new_cell _ _ _ _ rfl d' os'
    have c8 : ∀ d' os', (Sort.grow (redrawn (w.alloc (.cells #[.int .i64 8, .int .i64 5, .int .i64 d, .int .i64 s, .int .i64 t, .int .u64 (u m), .int .i64 z, .bool a, .bool true, .bool c, .int .i64 k] 24)) d') os').cell? ⟨w.heap.size, 8, none⟩ = some (.bool true) := fun d' os' => new_cell _ _ _ _ rfl d' os'
    have c9 : ∀ d' os', (Sort.grow (redrawn (w.alloc (.cells #[.int .i64 8, .int .i64 5, .int .i64 d, .int .i64 s, .int .i64 t, .int .u64 (u m), .int .i64 z, .bool a, .bool true, .bool c, .int .i64 k] 24)) d') os').cell? ⟨w.heap.size, 9, none⟩ = some (.bool c) := fun d' os' => new_cell _ _ _ _ rfl d' os'
    have c10 : ∀ d' os', (Sort.grow (redrawn (w.alloc (.cells #[.int .i64 8, .int .i64 5, .int .i64 d, .int .i64 s, .int .i64 t, .int .u64 (u m), .int .i64 z, .bool a, .bool true, .bool c, .int .i64 k] 24)) d') os').cell? ⟨w.heap.size, 10, none⟩ = some (.int .i64 k) := fun d' os' => new_cell _ _ _ _ rfl d' os'
    go_enter Tryd.func61, Tryd.ntmps61
    go_wp2_with fail
    refine wp_region_quiet_below (by kernel_rfl) (by kernel_rfl) ?_
    repeat (go_big_quiet_step (first | (go_at_call 63; exact Calls.on_of (rop_any _ _ (by simp) _)) | (go_at_call 56; exact Calls.on_of (refI_any _ _ _ _ _ HV.out _))))
    refine wpQuiet_nil ?_
    intro _ hw'
    obtain ⟨⟨dq, osq⟩, hw''⟩ := hw'
    subst hw''
    go_wp2
    go_ret2
    have hr := rright_8 ⟨8, 5, d, s, t, m, z, a, true, c, k⟩ rfl
    exact ⟨⟨_, _, rfl, hr⟩, ((On.refl w).alloc _).grow _ _⟩

set_option maxRecDepth 100000 in
set_option maxHeartbeats 4000000 in
theorem rimm_13_big (d s t z k : Int) (m : BitVec 64) (a b c : Bool) (w : World) (H : Hid (63 < u m)) :
    Calls Tryd.prog 61 #[.agg #[.int .i64 8, .int .i64 13, .int .i64 d, .int .i64 s, .int .i64 t, .int .u64 (u m), .int .i64 z, .bool a, .bool b, .bool c, .int .i64 k], .int .i64 (sg m)] w fun e w' => Ans ⟨8, 13, d, s, t, m, z, a, b, c, k⟩ e ∧ On w w' := by
  have b0 : decide (63 < u m) = true := decide_eq_true H.out
  go_enter Tryd.func61, Tryd.ntmps61
  go_wp2
  go_ret2
  exact ⟨⟨0#32, 7, rfl, right_none (by decide) (fun x hx h0 => big_none hx (by simp) H.out)⟩, (On.refl w).alloc _⟩
set_option maxRecDepth 100000 in
set_option maxHeartbeats 4000000 in
theorem rimm_13_asm (d s t z k : Int) (m : BitVec 64) (a b c : Bool) (w : World) (H : Hid (¬ 63 < u m)) :
    Calls Tryd.prog 61 #[.agg #[.int .i64 8, .int .i64 13, .int .i64 d, .int .i64 s, .int .i64 t, .int .u64 (u m), .int .i64 z, .bool a, .bool b, .bool c, .int .i64 k], .int .i64 (sg m)] w fun e w' => Ans ⟨8, 13, d, s, t, m, z, a, b, c, k⟩ e ∧ On w w' := by
  have b0 : decide (63 < u m) = false := decide_eq_false H.out
  have hu := u_nonneg m
  have hs : sg m = u m := sg_small m (by have := H.out; omega)
  have hv : wrap64 (sg m + 1024) = sg m + 1024 := IntWalk.wrap64_in _ (by have := H.out; omega)
  have HV : Hid (I64 (sg m + 1024)) := Lib.hid (by have := H.out; unfold I64; omega)
  have ha : bits .and .i64 13 7 = 5 := by decide +kernel
  clear hu hs
  cases b
  · have c0 : ∀ d' os', (Sort.grow (redrawn (w.alloc (.cells #[.int .i64 8, .int .i64 13, .int .i64 d, .int .i64 s, .int .i64 t, .int .u64 (u m), .int .i64 z, .bool a, .bool false, .bool c, .int .i64 k] 24)) d') os').cell? ⟨w.heap.size, 0, none⟩ = some (.int .i64 8) := fun d' os' => new_cell _ _ _ _ rfl d' os'
    have c1 : ∀ d' os', (Sort.grow (redrawn (w.alloc (.cells #[.int .i64 8, .int .i64 13, .int .i64 d, .int .i64 s, .int .i64 t, .int .u64 (u m), .int .i64 z, .bool a, .bool false, .bool c, .int .i64 k] 24)) d') os').cell? ⟨w.heap.size, 1, none⟩ = some (.int .i64 13) := fun d' os' => new_cell _ _ _ _ rfl d' os'
    have c2 : ∀ d' os', (Sort.grow (redrawn (w.alloc (.cells #[.int .i64 8, .int .i64 13, .int .i64 d, .int .i64 s, .int .i64 t, .int .u64 (u m), .int .i64 z, .bool a, .bool false, .bool c, .int .i64 k] 24)) d') os').cell? ⟨w.heap.size, 2, none⟩ = some (.int .i64 d) := fun d' os' => new_cell _ _ _ _ rfl d' os'
    have c3 : ∀ d' os', (Sort.grow (redrawn (w.alloc (.cells #[.int .i64 8, .int .i64 13, .int .i64 d, .int .i64 s, .int .i64 t, .int .u64 (u m), .int .i64 z, .bool a, .bool false, .bool c, .int .i64 k] 24)) d') os').cell? ⟨w.heap.size, 3, none⟩ = some (.int .i64 s) := fun d' os' => new_cell _ _ _ _ rfl d' os'
    have c4 : ∀ d' os', (Sort.grow (redrawn (w.alloc (.cells #[.int .i64 8, .int .i64 13, .int .i64 d, .int .i64 s, .int .i64 t, .int .u64 (u m), .int .i64 z, .bool a, .bool false, .bool c, .int .i64 k] 24)) d') os').cell? ⟨w.heap.size, 4, none⟩ = some (.int .i64 t) := fun d' os' => new_cell _ _ _ _ rfl d' os'
    have c5 : ∀ d' os', (Sort.grow (redrawn (w.alloc (.cells #[.int .i64 8, .int .i64 13, .int .i64 d, .int .i64 s, .int .i64 t, .int .u64 (u m), .int .i64 z, .bool a, .bool false, .bool c, .int .i64 k] 24)) d') os').cell? ⟨w.heap.size, 5, none⟩ = some (.int .u64 (u m)) := fun d' os' => new_cell _ _ _ _ rfl d' os'
    have c6 : ∀ d' os', (Sort.grow (redrawn (w.alloc (.cells #[.int .i64 8, .int .i64 13, .int .i64 d, .int .i64 s, .int .i64 t, .int .u64 (u m), .int .i64 z, .bool a, .bool false, .bool c, .int .i64 k] 24)) d') os').cell? ⟨w.heap.size, 6, none⟩ = some (.int .i64 z) := fun d' os' => new_cell _ _ _ _ rfl d' os'
    have c7 : ∀ d' os', (Sort.grow (redrawn (w.alloc (.cells #[.int .i64 8, .int .i64 13, .int .i64 d, .int .i64 s, .int .i64 t, .int .u64 (u m), .int .i64 z, .bool a, .bool false, .bool c, .int .i64 k] 24)) d') os').cell? ⟨w.heap.size, 7, none⟩ = some (.bool a) := fun d' os' => new_cell _ _ _ _ rfl d' os'
    have c8 : ∀ d' os', (Sort.grow (redrawn (w.alloc (.cells #[.int .i64 8, .int .i64 13, .int .i64 d, .int .i64 s, .int .i64 t, .int .u64 (u m), .int .i64 z, .bool a, .bool false, .bool c, .int .i64 k] 24)) d') os').cell? ⟨w.heap.size, 8, none⟩ = some (.bool false) := fun d' os' => new_cell _ _ _ _ rfl d' os'
    have c9 : ∀ d' os', (Sort.grow (redrawn (w.alloc (.cells #[.int .i64 8, .int .i64 13, .int .i64 d, .int .i64 s, .int .i64 t, .int .u64 (u m), .int .i64 z, .bool a, .bool false, .bool c, .int .i64 k] 24)) d') os').cell? ⟨w.heap.size, 9, none⟩ = some (.bool c) := fun d' os' => new_cell _ _ _ _ rfl d' os'
    have c10 : ∀ d' os', (Sort.grow (redrawn (w.alloc (.cells #[.int .i64 8, .int .i64 13, .int .i64 d, .int .i64 s, .int .i64 t, .int .u64 (u m), .int .i64 z, .bool a, .bool false, .bool c, .int .i64 k] 24)) d') os').cell? ⟨w.heap.size, 10, none⟩ = some (.int .i64 k) := fun d' os' => new_cell _ _ _ _ rfl d' os'
    go_enter Tryd.func61, Tryd.ntmps61
    go_wp2_with fail
    refine wp_region_quiet_below (by kernel_rfl) (by kernel_rfl) ?_
    repeat (go_big_quiet_step (first | (go_at_call 63; exact Calls.on_of (rop_any _ _ (by simp) _)) | (go_at_call 56; exact Calls.on_of (refI_any _ _ _ _ _ HV.out _))))
    refine wpQuiet_nil ?_
    intro _ hw'
    obtain ⟨⟨dq, osq⟩, hw''⟩ := hw'
    subst hw''
    go_wp2
    go_ret2
    have hr := rright_8 ⟨8, 13, d, s, t, m, z, a, false, c, k⟩ rfl
    exact ⟨⟨_, _, rfl, hr⟩, ((On.refl w).alloc _).grow _ _⟩
  · have c0 : ∀ d' os', (Sort.grow (redrawn (w.alloc (.cells #[.int .i64 8, .int .i64 13, .int .i64 d, .int .i64 s, .int .i64 t, .int .u64 (u m), .int .i64 z, .bool a, .bool true, .bool c, .int .i64 k] 24)) d') os').cell? ⟨w.heap.size, 0, none⟩ = some (.int .i64 8) := fun d' os' => new_cell _ _ _ _ rfl d' os'
    have c1 : ∀ d' os', (Sort.grow (redrawn (w.alloc (.cells #[.int .i64 8, .int .i64 13, .int .i64 d, .int .i64 s, .int .i64 t, .int .u64 (u m), .int .i64 z, .bool a, .bool true, .bool c, .int .i64 k] 24)) d') os').cell? ⟨w.heap.size, 1, none⟩ = some (.int .i64 13) := fun d' os' => new_cell _ _ _ _ rfl d' os'
    have c2 : ∀ d' os', (Sort.grow (redrawn (w.alloc (.cells #[.int .i64 8, .int .i64 13, .int .i64 d, .int .i64 s, .int .i64 t, .int .u64 (u m), .int .i64 z, .bool a, .bool true, .bool c, .int .i64 k] 24)) d') os').cell? ⟨w.heap.size, 2, none⟩ = some (.int .i64 d) := fun d' os' => new_cell _ _ _ _ rfl d' os'
    have c3 : ∀ d' os', (Sort.grow (redrawn (w.alloc (.cells #[.int .i64 8, .int .i64 13, .int .i64 d, .int .i64 s, .int .i64 t, .int .u64 (u m), .int .i64 z, .bool a, .bool true, .bool c, .int .i64 k] 24)) d') os').cell? ⟨w.heap.size, 3, none⟩ = some (.int .i64 s) := fun d' os' => new_cell _ _ _ _ rfl d' os'
    have c4 : ∀ d' os', (Sort.grow (redrawn (w.alloc (.cells #[.int .i64 8, .int .i64 13, .int .i64 d, .int .i64 s, .int .i64 t, .int .u64 (u m), .int .i64 z, .bool a, .bool true, .bool c, .int .i64 k] 24)) d') os').cell? ⟨w.heap.size, 4, none⟩ = some (.int .i64 t) := fun d' os' => new_cell _ _ _ _ rfl d' os'
    have c5 : ∀ d' os', (Sort.grow (redrawn (w.alloc (.cells #[.int .i64 8, .int .i64 13, .int .i64 d, .int .i64 s, .int .i64 t, .int .u64 (u m), .int .i64 z, .bool a, .bool true, .bool c, .int .i64 k] 24)) d') os').cell? ⟨w.heap.size, 5, none⟩ = some (.int .u64 (u m)) := fun d' os' => new_cell _ _ _ _ rfl d' os'
    have c6 : ∀ d' os', (Sort.grow (redrawn (w.alloc (.cells #[.int .i64 8, .int .i64 13, .int .i64 d, .int .i64 s, .int .i64 t, .int .u64 (u m), .int .i64 z, .bool a, .bool true, .bool c, .int .i64 k] 24)) d') os').cell? ⟨w.heap.size, 6, none⟩ = some (.int .i64 z) := fun d' os' => new_cell _ _ _ _ rfl d' os'
    have c7 : ∀ d' os', (Sort.grow (redrawn (w.alloc (.cells #[.int .i64 8, .int .i64 13, .int .i64 d, .int .i64 s, .int .i64 t, .int .u64 (u m), .int .i64 z, .bool a, .bool true, .bool c, .int .i64 k] 24)) d') os').cell? ⟨w.heap.size, 7, none⟩ = some (.bool a) := fun d' os' => new_cell _ _ _ _ rfl d' os'
    have c8 : ∀ d' os', (Sort.grow (redrawn (w.alloc (.cells #[.int .i64 8, .int .i64 13, .int .i64 d, .int .i64 s, .int .i64 t, .int .u64 (u m), .int .i64 z, .bool a, .bool true, .bool c, .int .i64 k] 24)) d') os').cell? ⟨w.heap.size, 8, none⟩ = some (.bool true) := fun d' os' => new_cell _ _ _ _ rfl d' os'
    have c9 : ∀ d' os', (Sort.grow (redrawn (w.alloc (.cells #[.int .i64 8, .int .i64 13, .int .i64 d, .int .i64 s, .int .i64 t, .int .u64 (u m), .int .i64 z, .bool a, .bool true, .bool c, .int .i64 k] 24)) d') os').cell? ⟨w.heap.size, 9, none⟩ = some (.bool c) := fun d' os' => new_cell _ _ _ _ rfl d' os'
    have c10 : ∀ d' os', (Sort.grow (redrawn (w.alloc (.cells #[.int .i64 8, .int .i64 13, .int .i64 d, .int .i64 s, .int .i64 t, .int .u64 (u m), .int .i64 z, .bool a, .bool true, .bool c, .int .i64 k] 24)) d') os').cell? ⟨w.heap.size, 10, none⟩ = some (.int .i64 k) := fun d' os' => new_cell _ _ _ _ rfl d' os'
    go_enter Tryd.func61, Tryd.ntmps61
    go_wp2_with fail
    refine wp_region_quiet_below (by kernel_rfl) (by kernel_rfl) ?_
    repeat (go_big_quiet_step (first | (go_at_call 63; exact Calls.on_of (rop_any _ _ (by simp) _)) | (go_at_call 56; exact Calls.on_of (refI_any _ _ _ _ _ HV.out _))))
    refine wpQuiet_nil ?_
    intro _ hw'
    obtain ⟨⟨dq, osq⟩, hw''⟩ := hw'
    subst hw''
    go_wp2
    go_ret2
    have hr := rright_8 ⟨8, 13, d, s, t, m, z, a, true, c, k⟩ rfl
    exact ⟨⟨_, _, rfl, hr⟩, ((On.refl w).alloc _).grow _ _⟩

set_option maxRecDepth 100000 in
set_option maxHeartbeats 4000000 in
theorem rimm_n_asm (f : Int) (d s t z k : Int) (m : BitVec 64) (a b c : Bool) (w : World) (N : Hid (¬ f = 1 ∧ ¬ f = 5 ∧ ¬ f = 13)) :
    Calls Tryd.prog 61 #[.agg #[.int .i64 8, .int .i64 f, .int .i64 d, .int .i64 s, .int .i64 t, .int .u64 (u m), .int .i64 z, .bool a, .bool b, .bool c, .int .i64 k], .int .i64 (sg m)] w fun e w' => Ans ⟨8, f, d, s, t, m, z, a, b, c, k⟩ e ∧ On w w' := by
  have b1 : (f == 1) = false := by have := N.out; simp; omega
  have b5 : (f == 5) = false := by have := N.out; simp; omega
  have b13 : (f == 13) = false := by have := N.out; simp; omega
  have HV := Lib.hid (sg_in m)
  cases b
  · have c0 : ∀ d' os', (Sort.grow (redrawn (w.alloc (.cells #[.int .i64 8, .int .i64 f, .int .i64 d, .int .i64 s, .int .i64 t, .int .u64 (u m), .int .i64 z, .bool a, .bool false, .bool c, .int .i64 k] 24)) d') os').cell? ⟨w.heap.size, 0, none⟩ = some (.int .i64 8) := fun d' os' => new_cell _ _ _ _ rfl d' os'
    have c1 : ∀ d' os', (Sort.grow (redrawn (w.alloc (.cells #[.int .i64 8, .int .i64 f, .int .i64 d, .int .i64 s, .int .i64 t, .int .u64 (u m), .int .i64 z, .bool a, .bool false, .bool c, .int .i64 k] 24)) d') os').cell? ⟨w.heap.size, 1, none⟩ = some (.int .i64 f) := fun d' os' => new_cell _ _ _ _ rfl d' os'
    have c2 : ∀ d' os', (Sort.grow (redrawn (w.alloc (.cells #[.int .i64 8, .int .i64 f, .int .i64 d, .int .i64 s, .int .i64 t, .int .u64 (u m), .int .i64 z, .bool a, .bool false, .bool c, .int .i64 k] 24)) d') os').cell? ⟨w.heap.size, 2, none⟩ = some (.int .i64 d) := fun d' os' => new_cell _ _ _ _ rfl d' os'
    have c3 : ∀ d' os', (Sort.grow (redrawn (w.alloc (.cells #[.int .i64 8, .int .i64 f, .int .i64 d, .int .i64 s, .int .i64 t, .int .u64 (u m), .int .i64 z, .bool a, .bool false, .bool c, .int .i64 k] 24)) d') os').cell? ⟨w.heap.size, 3, none⟩ = some (.int .i64 s) := fun d' os' => new_cell _ _ _ _ rfl d' os'
    have c4 : ∀ d' os', (Sort.grow (redrawn (w.alloc (.cells #[.int .i64 8, .int .i64 f, .int .i64 d, .int .i64 s, .int .i64 t, .int .u64 (u m), .int .i64 z, .bool a, .bool false, .bool c, .int .i64 k] 24)) d') os').cell? ⟨w.heap.size, 4, none⟩ = some (.int .i64 t) := fun d' os' => new_cell _ _ _ _ rfl d' os'
    have c5 : ∀ d' os', (Sort.grow (redrawn (w.alloc (.cells #[.int .i64 8, .int .i64 f, .int .i64 d, .int .i64 s, .int .i64 t, .int .u64 (u m), .int .i64 z, .bool a, .bool false, .bool c, .int .i64 k] 24)) d') os').cell? ⟨w.heap.size, 5, none⟩ = some (.int .u64 (u m)) := fun d' os' => new_cell _ _ _ _ rfl d' os'
    have c6 : ∀ d' os', (Sort.grow (redrawn (w.alloc (.cells #[.int .i64 8, .int .i64 f, .int .i64 d, .int .i64 s, .int .i64 t, .int .u64 (u m), .int .i64 z, .bool a, .bool false, .bool c, .int .i64 k] 24)) d') os').cell? ⟨w.heap.size, 6, none⟩ = some (.int .i64 z) := fun d' os' => new_cell _ _ _ _ rfl d' os'
    have c7 : ∀ d' os', (Sort.grow (redrawn (w.alloc (.cells #[.int .i64 8, .int .i64 f, .int .i64 d, .int .i64 s, .int .i64 t, .int .u64 (u m), .int .i64 z, .bool a, .bool false, .bool c, .int .i64 k] 24)) d') os').cell? ⟨w.heap.size, 7, none⟩ = some (.bool a) := fun d' os' => new_cell _ _ _ _ rfl d' os'
    have c8 : ∀ d' os', (Sort.grow (redrawn (w.alloc (.cells #[.int .i64 8, .int .i64 f, .int .i64 d, .int .i64 s, .int .i64 t, .int .u64 (u m), .int .i64 z, .bool a, .bool false, .bool c, .int .i64 k] 24)) d') os').cell? ⟨w.heap.size, 8, none⟩ = some (.bool false) := fun d' os' => new_cell _ _ _ _ rfl d' os'
    have c9 : ∀ d' os', (Sort.grow (redrawn (w.alloc (.cells #[.int .i64 8, .int .i64 f, .int .i64 d, .int .i64 s, .int .i64 t, .int .u64 (u m), .int .i64 z, .bool a, .bool false, .bool c, .int .i64 k] 24)) d') os').cell? ⟨w.heap.size, 9, none⟩ = some (.bool c) := fun d' os' => new_cell _ _ _ _ rfl d' os'
    have c10 : ∀ d' os', (Sort.grow (redrawn (w.alloc (.cells #[.int .i64 8, .int .i64 f, .int .i64 d, .int .i64 s, .int .i64 t, .int .u64 (u m), .int .i64 z, .bool a, .bool false, .bool c, .int .i64 k] 24)) d') os').cell? ⟨w.heap.size, 10, none⟩ = some (.int .i64 k) := fun d' os' => new_cell _ _ _ _ rfl d' os'
    go_enter Tryd.func61, Tryd.ntmps61
    go_wp2_with fail
    refine wp_region_quiet_below (by kernel_rfl) (by kernel_rfl) ?_
    repeat (go_big_quiet_step (first | (go_at_call 63; exact Calls.on_of (rop_any _ _ (by simp) _)) | (go_at_call 56; exact Calls.on_of (refI_any _ _ _ _ _ HV.out _))))
    refine wpQuiet_nil ?_
    intro _ hw'
    obtain ⟨⟨dq, osq⟩, hw''⟩ := hw'
    subst hw''
    go_wp2
    go_ret2
    have hr := rright_8 ⟨8, f, d, s, t, m, z, a, false, c, k⟩ rfl
    dsimp only at hr
    rw [if_neg N.out.2.2, if_neg N.out.2.2] at hr
    exact ⟨⟨_, _, rfl, hr⟩, ((On.refl w).alloc _).grow _ _⟩
  · have c0 : ∀ d' os', (Sort.grow (redrawn (w.alloc (.cells #[.int .i64 8, .int .i64 f, .int .i64 d, .int .i64 s, .int .i64 t, .int .u64 (u m), .int .i64 z, .bool a, .bool true, .bool c, .int .i64 k] 24)) d') os').cell? ⟨w.heap.size, 0, none⟩ = some (.int .i64 8) := fun d' os' => new_cell _ _ _ _ rfl d' os'
    have c1 : ∀ d' os', (Sort.grow (redrawn (w.alloc (.cells #[.int .i64 8, .int .i64 f, .int .i64 d, .int .i64 s, .int .i64 t, .int .u64 (u m), .int .i64 z, .bool a, .bool true, .bool c, .int .i64 k] 24)) d') os').cell? ⟨w.heap.size, 1, none⟩ = some (.int .i64 f) := fun d' os' => new_cell _ _ _ _ rfl d' os'
    have c2 : ∀ d' os', (Sort.grow (redrawn (w.alloc (.cells #[.int .i64 8, .int .i64 f, .int .i64 d, .int .i64 s, .int .i64 t, .int .u64 (u m), .int .i64 z, .bool a, .bool true, .bool c, .int .i64 k] 24)) d') os').cell? ⟨w.heap.size, 2, none⟩ = some (.int .i64 d) := fun d' os' => new_cell _ _ _ _ rfl d' os'
    have c3 : ∀ d' os', (Sort.grow (redrawn (w.alloc (.cells #[.int .i64 8, .int .i64 f, .int .i64 d, .int .i64 s, .int .i64 t, .int .u64 (u m), .int .i64 z, .bool a, .bool true, .bool c, .int .i64 k] 24)) d') os').cell? ⟨w.heap.size, 3, none⟩ = some (.int .i64 s) := fun d' os' => new_cell _ _ _ _ rfl d' os'
    have c4 : ∀ d' os', (Sort.grow (redrawn (w.alloc (.cells #[.int .i64 8, .int .i64 f, .int .i64 d, .int .i64 s, .int .i64 t, .int .u64 (u m), .int .i64 z, .bool a, .bool true, .bool c, .int .i64 k] 24)) d') os').cell? ⟨w.heap.size, 4, none⟩ = some (.int .i64 t) := fun d' os' => new_cell _ _ _ _ rfl d' os'
    have c5 : ∀ d' os', (Sort.grow (redrawn (w.alloc (.cells #[.int .i64 8, .int .i64 f, .int .i64 d, .int .i64 s, .int .i64 t, .int .u64 (u m), .int .i64 z, .bool a, .bool true, .bool c, .int .i64 k] 24)) d') os').cell? ⟨w.heap.size, 5, none⟩ = some (.int .u64 (u m)) := fun d' os' => new_cell _ _ _ _ rfl d' os'
    have c6 : ∀ d' os', (Sort.grow (redrawn (w.alloc (.cells #[.int .i64 8, .int .i64 f, .int .i64 d, .int .i64 s, .int .i64 t, .int .u64 (u m), .int .i64 z, .bool a, .bool true, .bool c, .int .i64 k] 24)) d') os').cell? ⟨w.heap.size, 6, none⟩ = some (.int .i64 z) := fun d' os' => new_cell _ _ _ _ rfl d' os'
    have c7 : ∀ d' os', (Sort.grow (redrawn (w.alloc (.cells #[.int .i64 8, .int .i64 f, .int .i64 d, .int .i64 s, .int .i64 t, .int .u64 (u m), .int .i64 z, .bool a, .bool true, .bool c, .int .i64 k] 24)) d') os').cell? ⟨w.heap.size, 7, none⟩ = some (.bool a) := fun d' os' => new_cell _ _ _ _ rfl d' os'
    have c8 : ∀ d' os', (Sort.grow (redrawn (w.alloc (.cells #[.int .i64 8, .int .i64 f, .int .i64 d, .int .i64 s, .int .i64 t, .int .u64 (u m), .int .i64 z, .bool a, .bool true, .bool c, .int .i64 k] 24)) d') os').cell? ⟨w.heap.size, 8, none⟩ = some (.bool true) := fun d' os' => new_cell _ _ _ _ rfl d' os'
    have c9 : ∀ d' os', (Sort.grow (redrawn (w.alloc (.cells #[.int .i64 8, .int .i64 f, .int .i64 d, .int .i64 s, .int .i64 t, .int .u64 (u m), .int .i64 z, .bool a, .bool true, .bool c, .int .i64 k] 24)) d') os').cell? ⟨w.heap.size, 9, none⟩ = some (.bool c) := fun d' os' => new_cell _ _ _ _ rfl d' os'
    have c10 : ∀ d' os', (Sort.grow (redrawn (w.alloc (.cells #[.int .i64 8, .int .i64 f, .int .i64 d, .int .i64 s, .int .i64 t, .int .u64 (u m), .int .i64 z, .bool a, .bool true, .bool c, .int .i64 k] 24)) d') os').cell? ⟨w.heap.size, 10, none⟩ = some (.int .i64 k) := fun d' os' => new_cell _ _ _ _ rfl d' os'
    go_enter Tryd.func61, Tryd.ntmps61
    go_wp2_with fail
    refine wp_region_quiet_below (by kernel_rfl) (by kernel_rfl) ?_
    repeat (go_big_quiet_step (first | (go_at_call 63; exact Calls.on_of (rop_any _ _ (by simp) _)) | (go_at_call 56; exact Calls.on_of (refI_any _ _ _ _ _ HV.out _))))
    refine wpQuiet_nil ?_
    intro _ hw'
    obtain ⟨⟨dq, osq⟩, hw''⟩ := hw'
    subst hw''
    go_wp2
    go_ret2
    have hr := rright_8 ⟨8, f, d, s, t, m, z, a, true, c, k⟩ rfl
    dsimp only at hr
    rw [if_neg N.out.2.2, if_neg N.out.2.2] at hr
    exact ⟨⟨_, _, rfl, hr⟩, ((On.refl w).alloc _).grow _ _⟩

theorem rimm_asm (f : Int) (d s t z k : Int) (m : BitVec 64) (a b c : Bool) (w : World) : Calls Tryd.prog 61 #[.agg #[.int .i64 8, .int .i64 f, .int .i64 d, .int .i64 s, .int .i64 t, .int .u64 (u m), .int .i64 z, .bool a, .bool b, .bool c, .int .i64 k], .int .i64 (sg m)] w fun e w' => Ans ⟨8, f, d, s, t, m, z, a, b, c, k⟩ e ∧ On w w' := by
  by_cases n1 : f = 1
  · subst n1; by_cases h : 63 < u m
    · exact rimm_1_big d s t z k m a b c w (Lib.hid h)
    · exact rimm_1_asm d s t z k m a b c w (Lib.hid h)
  by_cases n5 : f = 5
  · subst n5; by_cases h : 63 < u m
    · exact rimm_5_big d s t z k m a b c w (Lib.hid h)
    · exact rimm_5_asm d s t z k m a b c w (Lib.hid h)
  by_cases n13 : f = 13
  · subst n13; by_cases h : 63 < u m
    · exact rimm_13_big d s t z k m a b c w (Lib.hid h)
    · exact rimm_13_asm d s t z k m a b c w (Lib.hid h)
  exact rimm_n_asm f d s t z k m a b c w (Lib.hid ⟨n1, n5, n13⟩)
set_option maxRecDepth 100000 in
set_option maxHeartbeats 4000000 in
theorem rcsr_k0 (f d s t z k : Int) (m : BitVec 64) (a b c : Bool) (w : World) (H : Hid (k < 0)) :
    Calls Tryd.prog 64 #[.agg #[.int .i64 19, .int .i64 f, .int .i64 d, .int .i64 s, .int .i64 t, .int .u64 (u m), .int .i64 z, .bool a, .bool b, .bool c, .int .i64 k]] w fun e w' => Ans ⟨19, f, d, s, t, m, z, a, b, c, k⟩ e ∧ On w w' := by
  have b0 : decide (k < 0) = true := by have := H.out; simp; omega
  go_enter Tryd.func64, Tryd.ntmps64
  go_wp2
  go_ret2
  exact ⟨⟨0#32, 7, rfl, right_none (by decide) (fun x hx h0 => csr_none hx (by have := H.out; omega))⟩, (On.refl w).alloc _⟩
set_option maxRecDepth 100000 in
set_option maxHeartbeats 4000000 in
theorem rcsr_k1 (f d s t z k : Int) (m : BitVec 64) (a b c : Bool) (w : World) (H : Hid (¬ k < 0 ∧ 4095 < k)) :
    Calls Tryd.prog 64 #[.agg #[.int .i64 19, .int .i64 f, .int .i64 d, .int .i64 s, .int .i64 t, .int .u64 (u m), .int .i64 z, .bool a, .bool b, .bool c, .int .i64 k]] w fun e w' => Ans ⟨19, f, d, s, t, m, z, a, b, c, k⟩ e ∧ On w w' := by
  have b0 : decide (k < 0) = false := by have := H.out; simp; omega
  have b1 : decide (4095 < k) = true := by have := H.out; simp; omega
  go_enter Tryd.func64, Tryd.ntmps64
  go_wp2
  go_ret2
  exact ⟨⟨0#32, 7, rfl, right_none (by decide) (fun x hx h0 => csr_none hx (by have := H.out; omega))⟩, (On.refl w).alloc _⟩
set_option maxRecDepth 100000 in
set_option maxHeartbeats 4000000 in
theorem rcsr_f0 (f d s t z k : Int) (m : BitVec 64) (a b c : Bool) (w : World) (H : Hid (¬ k < 0 ∧ ¬ 4095 < k ∧ f < 1)) :
    Calls Tryd.prog 64 #[.agg #[.int .i64 19, .int .i64 f, .int .i64 d, .int .i64 s, .int .i64 t, .int .u64 (u m), .int .i64 z, .bool a, .bool b, .bool c, .int .i64 k]] w fun e w' => Ans ⟨19, f, d, s, t, m, z, a, b, c, k⟩ e ∧ On w w' := by
  have b0 : decide (k < 0) = false := by have := H.out; simp; omega
  have b1 : decide (4095 < k) = false := by have := H.out; simp; omega
  have b2 : decide (f < 1) = true := by have := H.out; simp; omega
  go_enter Tryd.func64, Tryd.ntmps64
  go_wp2
  go_ret2
  exact ⟨⟨0#32, 7, rfl, right_none (by decide) (fun x hx h0 => csr_none hx (by have := H.out; omega))⟩, (On.refl w).alloc _⟩
set_option maxRecDepth 100000 in
set_option maxHeartbeats 4000000 in
theorem rcsr_f1 (f d s t z k : Int) (m : BitVec 64) (a b c : Bool) (w : World) (H : Hid (¬ k < 0 ∧ ¬ 4095 < k ∧ ¬ f < 1 ∧ 3 < f)) :
    Calls Tryd.prog 64 #[.agg #[.int .i64 19, .int .i64 f, .int .i64 d, .int .i64 s, .int .i64 t, .int .u64 (u m), .int .i64 z, .bool a, .bool b, .bool c, .int .i64 k]] w fun e w' => Ans ⟨19, f, d, s, t, m, z, a, b, c, k⟩ e ∧ On w w' := by
  have b0 : decide (k < 0) = false := by have := H.out; simp; omega
  have b1 : decide (4095 < k) = false := by have := H.out; simp; omega
  have b2 : decide (f < 1) = false := by have := H.out; simp; omega
  have b3 : decide (3 < f) = true := by have := H.out; simp; omega
  go_enter Tryd.func64, Tryd.ntmps64
  go_wp2
  go_ret2
  exact ⟨⟨0#32, 7, rfl, right_none (by decide) (fun x hx h0 => csr_none hx (by have := H.out; omega))⟩, (On.refl w).alloc _⟩
set_option maxRecDepth 100000 in
set_option maxHeartbeats 4000000 in
theorem rcsr_asm (f d s t z k : Int) (m : BitVec 64) (a b c : Bool) (w : World) (H : Hid (¬ k < 0 ∧ ¬ 4095 < k ∧ ¬ f < 1 ∧ ¬ 3 < f)) :
    Calls Tryd.prog 64 #[.agg #[.int .i64 19, .int .i64 f, .int .i64 d, .int .i64 s, .int .i64 t, .int .u64 (u m), .int .i64 z, .bool a, .bool b, .bool c, .int .i64 k]] w fun e w' => Ans ⟨19, f, d, s, t, m, z, a, b, c, k⟩ e ∧ On w w' := by
  have b0 : decide (k < 0) = false := decide_eq_false H.out.1
  have b1 : decide (4095 < k) = false := decide_eq_false H.out.2.1
  have b2 : decide (f < 1) = false := decide_eq_false H.out.2.2.1
  have b3 : decide (3 < f) = false := decide_eq_false H.out.2.2.2
  have e4 : wrap64 (f + 4) = f + 4 := IntWalk.wrap64_in _ (by have := H.out; omega)
  have e5 : IntKind.u32.wrap k = q (BitVec.ofInt 32 k) := q_ofInt k
  have e6 : IntKind.u32.wrap (q (BitVec.ofInt 32 k) * 1048576) = q (BitVec.ofInt 32 k <<< 20) := q_shl _ 20
  have e7 : ∀ v : BitVec 32, bits .or .u32 (q v) (q (BitVec.ofInt 32 k <<< 20)) = q (v ||| BitVec.ofInt 32 k <<< 20) := fun v => q_or _ _
  have HB : Hid (On w (w.alloc (.cells #[.int .i64 19, .int .i64 f, .int .i64 d, .int .i64 s, .int .i64 t, .int .u64 (u m), .int .i64 z, .bool a, .bool b, .bool c, .int .i64 k] 24))) := Lib.hid ((On.refl w).alloc _)
  cases c
  · have hr := rright_19 ⟨19, f, d, s, t, m, z, a, b, false, k⟩ rfl
    have HR := Lib.hid hr
    clear hr
    go_enter Tryd.func64, Tryd.ntmps64
    go_wp2_with (go_at_call 56; refine (refI_any _ _ _ _ _ (by unfold I64; omega) _).mono ?_; rintro e wn ⟨rfl, h⟩; obtain ⟨k0, k1, k2, k3, k4, k5, k6, k7, k8, k9, k10, kf, hlt⟩ := own11 h; replace HB := tr HB h; clear h)
    go_ret2
    exact ⟨⟨_, _, rfl, HR.out⟩, HB.out⟩
  · have hr := rright_19 ⟨19, f, d, s, t, m, z, a, b, true, k⟩ rfl
    have HR := Lib.hid hr
    clear hr
    go_enter Tryd.func64, Tryd.ntmps64
    go_wp2_with (go_at_call 56; refine (refI_any _ _ _ _ _ (by unfold I64; omega) _).mono ?_; rintro e wn ⟨rfl, h⟩; obtain ⟨k0, k1, k2, k3, k4, k5, k6, k7, k8, k9, k10, kf, hlt⟩ := own11 h; replace HB := tr HB h; clear h)
    go_ret2
    exact ⟨⟨_, _, rfl, HR.out⟩, HB.out⟩

theorem rcsr_any (f d s t z k : Int) (m : BitVec 64) (a b c : Bool) (w : World) : Calls Tryd.prog 64 #[.agg #[.int .i64 19, .int .i64 f, .int .i64 d, .int .i64 s, .int .i64 t, .int .u64 (u m), .int .i64 z, .bool a, .bool b, .bool c, .int .i64 k]] w fun e w' => Ans ⟨19, f, d, s, t, m, z, a, b, c, k⟩ e ∧ On w w' := by
  by_cases h1 : k < 0
  · exact rcsr_k0 f d s t z k m a b c w (Lib.hid h1)
  by_cases h2 : 4095 < k
  · exact rcsr_k1 f d s t z k m a b c w (Lib.hid ⟨h1, h2⟩)
  by_cases h3 : f < 1
  · exact rcsr_f0 f d s t z k m a b c w (Lib.hid ⟨h1, h2, h3⟩)
  by_cases h4 : 3 < f
  · exact rcsr_f1 f d s t z k m a b c w (Lib.hid ⟨h1, h2, h3, h4⟩)
  · exact rcsr_asm f d s t z k m a b c w (Lib.hid ⟨h1, h2, h3, h4⟩)
set_option maxRecDepth 100000 in
set_option maxHeartbeats 4000000 in
theorem rword_1 (f d s t z k : Int) (m : BitVec 64) (a b c : Bool) (w : World) :
    Calls Tryd.prog 31 #[.agg #[.int .i64 1, .int .i64 f, .int .i64 d, .int .i64 s, .int .i64 t, .int .u64 (u m), .int .i64 z, .bool a, .bool b, .bool c, .int .i64 k]] w fun e w' => Ans ⟨1, f, d, s, t, m, z, a, b, c, k⟩ e ∧ On w w' := by
  have e2 : wrap64 (u m) = sg m := by rw [← IntWalk.i64_left, wrap_sg]
  have HB : Hid (On w (w.alloc (.cells #[.int .i64 1, .int .i64 f, .int .i64 d, .int .i64 s, .int .i64 t, .int .u64 (u m), .int .i64 z, .bool a, .bool b, .bool c, .int .i64 k] 24))) := Lib.hid ((On.refl w).alloc _)
  go_enter Tryd.func31, Tryd.ntmps31
  go_wp2_with (first | (go_at_call 54; refine (refU_any _ _ _ (sg_in _) _).mono ?_; rintro e wn ⟨rfl, h⟩; replace HB := tr HB h; clear h))
  go_ret2
  exact ⟨⟨_, _, rfl, right_1 _ rfl⟩, HB.out⟩
set_option maxRecDepth 100000 in
set_option maxHeartbeats 4000000 in
theorem rword_2 (f d s t z k : Int) (m : BitVec 64) (a b c : Bool) (w : World) :
    Calls Tryd.prog 31 #[.agg #[.int .i64 2, .int .i64 f, .int .i64 d, .int .i64 s, .int .i64 t, .int .u64 (u m), .int .i64 z, .bool a, .bool b, .bool c, .int .i64 k]] w fun e w' => Ans ⟨2, f, d, s, t, m, z, a, b, c, k⟩ e ∧ On w w' := by
  have e2 : wrap64 (u m) = sg m := by rw [← IntWalk.i64_left, wrap_sg]
  have HB : Hid (On w (w.alloc (.cells #[.int .i64 2, .int .i64 f, .int .i64 d, .int .i64 s, .int .i64 t, .int .u64 (u m), .int .i64 z, .bool a, .bool b, .bool c, .int .i64 k] 24))) := Lib.hid ((On.refl w).alloc _)
  go_enter Tryd.func31, Tryd.ntmps31
  go_wp2_with (first | (go_at_call 54; refine (refU_any _ _ _ (sg_in _) _).mono ?_; rintro e wn ⟨rfl, h⟩; replace HB := tr HB h; clear h))
  go_ret2
  exact ⟨⟨_, _, rfl, right_2 _ rfl⟩, HB.out⟩
set_option maxRecDepth 100000 in
set_option maxHeartbeats 4000000 in
theorem rword_3 (f d s t z k : Int) (m : BitVec 64) (a b c : Bool) (w : World) :
    Calls Tryd.prog 31 #[.agg #[.int .i64 3, .int .i64 f, .int .i64 d, .int .i64 s, .int .i64 t, .int .u64 (u m), .int .i64 z, .bool a, .bool b, .bool c, .int .i64 k]] w fun e w' => Ans ⟨3, f, d, s, t, m, z, a, b, c, k⟩ e ∧ On w w' := by
  have e2 : wrap64 (u m) = sg m := by rw [← IntWalk.i64_left, wrap_sg]
  have HB : Hid (On w (w.alloc (.cells #[.int .i64 3, .int .i64 f, .int .i64 d, .int .i64 s, .int .i64 t, .int .u64 (u m), .int .i64 z, .bool a, .bool b, .bool c, .int .i64 k] 24))) := Lib.hid ((On.refl w).alloc _)
  go_enter Tryd.func31, Tryd.ntmps31
  go_wp2_with (first | (go_at_call 55; refine (refJ_any _ _ _ (sg_in _) _).mono ?_; rintro e wn ⟨rfl, h⟩; replace HB := tr HB h; clear h))
  go_ret2
  exact ⟨⟨_, _, rfl, right_3 _ rfl⟩, HB.out⟩
set_option maxRecDepth 100000 in
set_option maxHeartbeats 4000000 in
theorem rword_4 (f d s t z k : Int) (m : BitVec 64) (a b c : Bool) (w : World) :
    Calls Tryd.prog 31 #[.agg #[.int .i64 4, .int .i64 f, .int .i64 d, .int .i64 s, .int .i64 t, .int .u64 (u m), .int .i64 z, .bool a, .bool b, .bool c, .int .i64 k]] w fun e w' => Ans ⟨4, f, d, s, t, m, z, a, b, c, k⟩ e ∧ On w w' := by
  have e2 : wrap64 (u m) = sg m := by rw [← IntWalk.i64_left, wrap_sg]
  have HB : Hid (On w (w.alloc (.cells #[.int .i64 4, .int .i64 f, .int .i64 d, .int .i64 s, .int .i64 t, .int .u64 (u m), .int .i64 z, .bool a, .bool b, .bool c, .int .i64 k] 24))) := Lib.hid ((On.refl w).alloc _)
  go_enter Tryd.func31, Tryd.ntmps31
  go_wp2_with (first | (go_at_call 56; refine (refI_any _ _ _ _ _ (sg_in _) _).mono ?_; rintro e wn ⟨rfl, h⟩; replace HB := tr HB h; clear h))
  go_ret2
  exact ⟨⟨_, _, rfl, right_4 _ rfl⟩, HB.out⟩
set_option maxRecDepth 100000 in
set_option maxHeartbeats 4000000 in
theorem rword_5 (f d s t z k : Int) (m : BitVec 64) (a b c : Bool) (w : World) :
    Calls Tryd.prog 31 #[.agg #[.int .i64 5, .int .i64 f, .int .i64 d, .int .i64 s, .int .i64 t, .int .u64 (u m), .int .i64 z, .bool a, .bool b, .bool c, .int .i64 k]] w fun e w' => Ans ⟨5, f, d, s, t, m, z, a, b, c, k⟩ e ∧ On w w' := by
  have e2 : wrap64 (u m) = sg m := by rw [← IntWalk.i64_left, wrap_sg]
  have HB : Hid (On w (w.alloc (.cells #[.int .i64 5, .int .i64 f, .int .i64 d, .int .i64 s, .int .i64 t, .int .u64 (u m), .int .i64 z, .bool a, .bool b, .bool c, .int .i64 k] 24))) := Lib.hid ((On.refl w).alloc _)
  go_enter Tryd.func31, Tryd.ntmps31
  go_wp2_with (first | (go_at_call 57; refine (refB_any _ _ _ _ _ (sg_in _) _).mono ?_; rintro e wn ⟨rfl, h⟩; replace HB := tr HB h; clear h))
  go_ret2
  exact ⟨⟨_, _, rfl, right_5 _ rfl⟩, HB.out⟩
set_option maxRecDepth 100000 in
set_option maxHeartbeats 4000000 in
theorem rword_6 (f d s t z k : Int) (m : BitVec 64) (a b c : Bool) (w : World) :
    Calls Tryd.prog 31 #[.agg #[.int .i64 6, .int .i64 f, .int .i64 d, .int .i64 s, .int .i64 t, .int .u64 (u m), .int .i64 z, .bool a, .bool b, .bool c, .int .i64 k]] w fun e w' => Ans ⟨6, f, d, s, t, m, z, a, b, c, k⟩ e ∧ On w w' := by
  have e2 : wrap64 (u m) = sg m := by rw [← IntWalk.i64_left, wrap_sg]
  have c0 : ∀ d' os', (Sort.grow (redrawn (w.alloc (.cells #[.int .i64 6, .int .i64 f, .int .i64 d, .int .i64 s, .int .i64 t, .int .u64 (u m), .int .i64 z, .bool a, .bool b, .bool c, .int .i64 k] 24)) d') os').cell? ⟨w.heap.size, 0, none⟩ = some (.int .i64 6) := fun d' os' => new_cell _ _ _ _ rfl d' os'
  have c1 : ∀ d' os', (Sort.grow (redrawn (w.alloc (.cells #[.int .i64 6, .int .i64 f, .int .i64 d, .int .i64 s, .int .i64 t, .int .u64 (u m), .int .i64 z, .bool a, .bool b, .bool c, .int .i64 k] 24)) d') os').cell? ⟨w.heap.size, 1, none⟩ = some (.int .i64 f) := fun d' os' => new_cell _ _ _ _ rfl d' os'
  have c2 : ∀ d' os', (Sort.grow (redrawn (w.alloc (.cells #[.int .i64 6, .int .i64 f, .int .i64 d, .int .i64 s, .int .i64 t, .int .u64 (u m), .int .i64 z, .bool a, .bool b, .bool c, .int .i64 k] 24)) d') os').cell? ⟨w.heap.size, 2, none⟩ = some (.int .i64 d) := fun d' os' => new_cell _ _ _ _ rfl d' os'
  have c3 : ∀ d' os', (Sort.grow (redrawn (w.alloc (.cells #[.int .i64 6, .int .i64 f, .int .i64 d, .int .i64 s, .int .i64 t, .int .u64 (u m), .int .i64 z, .bool a, .bool b, .bool c, .int .i64 k] 24)) d') os').cell? ⟨w.heap.size, 3, none⟩ = some (.int .i64 s) := fun d' os' => new_cell _ _ _ _ rfl d' os'
  have c4 : ∀ d' os', (Sort.grow (redrawn (w.alloc (.cells #[.int .i64 6, .int .i64 f, .int .i64 d, .int .i64 s, .int .i64 t, .int .u64 (u m), .int .i64 z, .bool a, .bool b, .bool c, .int .i64 k] 24)) d') os').cell? ⟨w.heap.size, 4, none⟩ = some (.int .i64 t) := fun d' os' => new_cell _ _ _ _ rfl d' os'
  have c5 : ∀ d' os', (Sort.grow (redrawn (w.alloc (.cells #[.int .i64 6, .int .i64 f, .int .i64 d, .int .i64 s, .int .i64 t, .int .u64 (u m), .int .i64 z, .bool a, .bool b, .bool c, .int .i64 k] 24)) d') os').cell? ⟨w.heap.size, 5, none⟩ = some (.int .u64 (u m)) := fun d' os' => new_cell _ _ _ _ rfl d' os'
  have c6 : ∀ d' os', (Sort.grow (redrawn (w.alloc (.cells #[.int .i64 6, .int .i64 f, .int .i64 d, .int .i64 s, .int .i64 t, .int .u64 (u m), .int .i64 z, .bool a, .bool b, .bool c, .int .i64 k] 24)) d') os').cell? ⟨w.heap.size, 6, none⟩ = some (.int .i64 z) := fun d' os' => new_cell _ _ _ _ rfl d' os'
  have c7 : ∀ d' os', (Sort.grow (redrawn (w.alloc (.cells #[.int .i64 6, .int .i64 f, .int .i64 d, .int .i64 s, .int .i64 t, .int .u64 (u m), .int .i64 z, .bool a, .bool b, .bool c, .int .i64 k] 24)) d') os').cell? ⟨w.heap.size, 7, none⟩ = some (.bool a) := fun d' os' => new_cell _ _ _ _ rfl d' os'
  have c8 : ∀ d' os', (Sort.grow (redrawn (w.alloc (.cells #[.int .i64 6, .int .i64 f, .int .i64 d, .int .i64 s, .int .i64 t, .int .u64 (u m), .int .i64 z, .bool a, .bool b, .bool c, .int .i64 k] 24)) d') os').cell? ⟨w.heap.size, 8, none⟩ = some (.bool b) := fun d' os' => new_cell _ _ _ _ rfl d' os'
  have c9 : ∀ d' os', (Sort.grow (redrawn (w.alloc (.cells #[.int .i64 6, .int .i64 f, .int .i64 d, .int .i64 s, .int .i64 t, .int .u64 (u m), .int .i64 z, .bool a, .bool b, .bool c, .int .i64 k] 24)) d') os').cell? ⟨w.heap.size, 9, none⟩ = some (.bool c) := fun d' os' => new_cell _ _ _ _ rfl d' os'
  have c10 : ∀ d' os', (Sort.grow (redrawn (w.alloc (.cells #[.int .i64 6, .int .i64 f, .int .i64 d, .int .i64 s, .int .i64 t, .int .u64 (u m), .int .i64 z, .bool a, .bool b, .bool c, .int .i64 k] 24)) d') os').cell? ⟨w.heap.size, 10, none⟩ = some (.int .i64 k) := fun d' os' => new_cell _ _ _ _ rfl d' os'
  go_enter Tryd.func31, Tryd.ntmps31
  go_wp2_with fail
  refine wp_region_quiet_below (by kernel_rfl) (by kernel_rfl) ?_
  repeat (go_big_quiet_step (first | (go_at_call 58; exact Calls.on_of (rload_any _ _ _ _ _ _ _ _ _ _ _ _)) | (go_at_call 56; exact Calls.on_of (refI_any _ _ _ _ _ (sg_in _) _))))
  refine wpQuiet_nil ?_
  intro _ hw'
  obtain ⟨⟨dq, osq⟩, hw''⟩ := hw'
  subst hw''
  go_wp2
  go_ret2
  exact ⟨⟨_, _, rfl, rright_6 _ rfl⟩, ((On.refl w).alloc _).grow _ _⟩
set_option maxRecDepth 100000 in
set_option maxHeartbeats 4000000 in
theorem rword_7 (f d s t z k : Int) (m : BitVec 64) (a b c : Bool) (w : World) :
    Calls Tryd.prog 31 #[.agg #[.int .i64 7, .int .i64 f, .int .i64 d, .int .i64 s, .int .i64 t, .int .u64 (u m), .int .i64 z, .bool a, .bool b, .bool c, .int .i64 k]] w fun e w' => Ans ⟨7, f, d, s, t, m, z, a, b, c, k⟩ e ∧ On w w' := by
  have e2 : wrap64 (u m) = sg m := by rw [← IntWalk.i64_left, wrap_sg]
  have c0 : ∀ d' os', (Sort.grow (redrawn (w.alloc (.cells #[.int .i64 7, .int .i64 f, .int .i64 d, .int .i64 s, .int .i64 t, .int .u64 (u m), .int .i64 z, .bool a, .bool b, .bool c, .int .i64 k] 24)) d') os').cell? ⟨w.heap.size, 0, none⟩ = some (.int .i64 7) := fun d' os' => new_cell _ _ _ _ rfl d' os'
  have c1 : ∀ d' os', (Sort.grow (redrawn (w.alloc (.cells #[.int .i64 7, .int .i64 f, .int .i64 d, .int .i64 s, .int .i64 t, .int .u64 (u m), .int .i64 z, .bool a, .bool b, .bool c, .int .i64 k] 24)) d') os').cell? ⟨w.heap.size, 1, none⟩ = some (.int .i64 f) := fun d' os' => new_cell _ _ _ _ rfl d' os'
  have c2 : ∀ d' os', (Sort.grow (redrawn (w.alloc (.cells #[.int .i64 7, .int .i64 f, .int .i64 d, .int .i64 s, .int .i64 t, .int .u64 (u m), .int .i64 z, .bool a, .bool b, .bool c, .int .i64 k] 24)) d') os').cell? ⟨w.heap.size, 2, none⟩ = some (.int .i64 d) := fun d' os' => new_cell _ _ _ _ rfl d' os'
  have c3 : ∀ d' os', (Sort.grow (redrawn (w.alloc (.cells #[.int .i64 7, .int .i64 f, .int .i64 d, .int .i64 s, .int .i64 t, .int .u64 (u m), .int .i64 z, .bool a, .bool b, .bool c, .int .i64 k] 24)) d') os').cell? ⟨w.heap.size, 3, none⟩ = some (.int .i64 s) := fun d' os' => new_cell _ _ _ _ rfl d' os'
  have c4 : ∀ d' os', (Sort.grow (redrawn (w.alloc (.cells #[.int .i64 7, .int .i64 f, .int .i64 d, .int .i64 s, .int .i64 t, .int .u64 (u m), .int .i64 z, .bool a, .bool b, .bool c, .int .i64 k] 24)) d') os').cell? ⟨w.heap.size, 4, none⟩ = some (.int .i64 t) := fun d' os' => new_cell _ _ _ _ rfl d' os'
  have c5 : ∀ d' os', (Sort.grow (redrawn (w.alloc (.cells #[.int .i64 7, .int .i64 f, .int .i64 d, .int .i64 s, .int .i64 t, .int .u64 (u m), .int .i64 z, .bool a, .bool b, .bool c, .int .i64 k] 24)) d') os').cell? ⟨w.heap.size, 5, none⟩ = some (.int .u64 (u m)) := fun d' os' => new_cell _ _ _ _ rfl d' os'
  have c6 : ∀ d' os', (Sort.grow (redrawn (w.alloc (.cells #[.int .i64 7, .int .i64 f, .int .i64 d, .int .i64 s, .int .i64 t, .int .u64 (u m), .int .i64 z, .bool a, .bool b, .bool c, .int .i64 k] 24)) d') os').cell? ⟨w.heap.size, 6, none⟩ = some (.int .i64 z) := fun d' os' => new_cell _ _ _ _ rfl d' os'
  have c7 : ∀ d' os', (Sort.grow (redrawn (w.alloc (.cells #[.int .i64 7, .int .i64 f, .int .i64 d, .int .i64 s, .int .i64 t, .int .u64 (u m), .int .i64 z, .bool a, .bool b, .bool c, .int .i64 k] 24)) d') os').cell? ⟨w.heap.size, 7, none⟩ = some (.bool a) := fun d' os' => new_cell _ _ _ _ rfl d' os'
  have c8 : ∀ d' os', (Sort.grow (redrawn (w.alloc (.cells #[.int .i64 7, .int .i64 f, .int .i64 d, .int .i64 s, .int .i64 t, .int .u64 (u m), .int .i64 z, .bool a, .bool b, .bool c, .int .i64 k] 24)) d') os').cell? ⟨w.heap.size, 8, none⟩ = some (.bool b) := fun d' os' => new_cell _ _ _ _ rfl d' os'
  have c9 : ∀ d' os', (Sort.grow (redrawn (w.alloc (.cells #[.int .i64 7, .int .i64 f, .int .i64 d, .int .i64 s, .int .i64 t, .int .u64 (u m), .int .i64 z, .bool a, .bool b, .bool c, .int .i64 k] 24)) d') os').cell? ⟨w.heap.size, 9, none⟩ = some (.bool c) := fun d' os' => new_cell _ _ _ _ rfl d' os'
  have c10 : ∀ d' os', (Sort.grow (redrawn (w.alloc (.cells #[.int .i64 7, .int .i64 f, .int .i64 d, .int .i64 s, .int .i64 t, .int .u64 (u m), .int .i64 z, .bool a, .bool b, .bool c, .int .i64 k] 24)) d') os').cell? ⟨w.heap.size, 10, none⟩ = some (.int .i64 k) := fun d' os' => new_cell _ _ _ _ rfl d' os'
  go_enter Tryd.func31, Tryd.ntmps31
  go_wp2_with fail
  refine wp_region_quiet_below (by kernel_rfl) (by kernel_rfl) ?_
  repeat (go_big_quiet_step (first | (go_at_call 60; exact Calls.on_of (rsize_on _ _)) | (go_at_call 59; exact Calls.on_of (refS_any _ _ _ _ _ (sg_in _) _))))
  refine wpQuiet_nil ?_
  intro _ hw'
  obtain ⟨⟨dq, osq⟩, hw''⟩ := hw'
  subst hw''
  go_wp2
  go_ret2
  exact ⟨⟨_, _, rfl, rright_7 _ rfl⟩, ((On.refl w).alloc _).grow _ _⟩
set_option maxRecDepth 100000 in
set_option maxHeartbeats 4000000 in
theorem rword_8 (f d s t z k : Int) (m : BitVec 64) (a b c : Bool) (w : World) :
    Calls Tryd.prog 31 #[.agg #[.int .i64 8, .int .i64 f, .int .i64 d, .int .i64 s, .int .i64 t, .int .u64 (u m), .int .i64 z, .bool a, .bool b, .bool c, .int .i64 k]] w fun e w' => Ans ⟨8, f, d, s, t, m, z, a, b, c, k⟩ e ∧ On w w' := by
  have e2 : wrap64 (u m) = sg m := by rw [← IntWalk.i64_left, wrap_sg]
  have HB : Hid (On w (w.alloc (.cells #[.int .i64 8, .int .i64 f, .int .i64 d, .int .i64 s, .int .i64 t, .int .u64 (u m), .int .i64 z, .bool a, .bool b, .bool c, .int .i64 k] 24))) := Lib.hid ((On.refl w).alloc _)
  go_enter Tryd.func31, Tryd.ntmps31
  go_wp2_with (first | (go_at_call 61; refine (rimm_asm _ _ _ _ _ _ _ _ _ _ _).mono ?_; rintro e wn ⟨⟨v, n, rfl, hr⟩, h⟩; have HR := Lib.hid hr; replace HB := tr HB h; clear h hr))
  go_ret2
  exact ⟨⟨_, _, rfl, HR.out⟩, HB.out⟩
set_option maxRecDepth 100000 in
set_option maxHeartbeats 4000000 in
theorem rword_10 (f d s t z k : Int) (m : BitVec 64) (a b c : Bool) (w : World) :
    Calls Tryd.prog 31 #[.agg #[.int .i64 10, .int .i64 f, .int .i64 d, .int .i64 s, .int .i64 t, .int .u64 (u m), .int .i64 z, .bool a, .bool b, .bool c, .int .i64 k]] w fun e w' => Ans ⟨10, f, d, s, t, m, z, a, b, c, k⟩ e ∧ On w w' := by
  have e2 : wrap64 (u m) = sg m := by rw [← IntWalk.i64_left, wrap_sg]
  cases b
  · have c0 : ∀ d' os', (Sort.grow (redrawn (w.alloc (.cells #[.int .i64 10, .int .i64 f, .int .i64 d, .int .i64 s, .int .i64 t, .int .u64 (u m), .int .i64 z, .bool a, .bool false, .bool c, .int .i64 k] 24)) d') os').cell? ⟨w.heap.size, 0, none⟩ = some (.int .i64 10) := fun d' os' => new_cell _ _ _ _ rfl d' os'
    have c1 : ∀ d' os', (Sort.grow (redrawn (w.alloc (.cells #[.int .i64 10, .int .i64 f, .int .i64 d, .int .i64 s, .int .i64 t, .int .u64 (u m), .int .i64 z, .bool a, .bool false, .bool c, .int .i64 k] 24)) d') os').cell? ⟨w.heap.size, 1, none⟩ = some (.int .i64 f) := fun d' os' => new_cell _ _ _ _ rfl d' os'
    have c2 : ∀ d' os', (Sort.grow (redrawn (w.alloc (.cells #[.int .i64 10, .int .i64 f, .int .i64 d, .int .i64 s, .int .i64 t, .int .u64 (u m), .int .i64 z, .bool a, .bool false, .bool c, .int .i64 k] 24)) d') os').cell? ⟨w.heap.size, 2, none⟩ = some (.int .i64 d) := fun d' os' => new_cell _ _ _ _ rfl d' os'
    have c3 : ∀ d' os', (Sort.grow (redrawn (w.alloc (.cells #[.int .i64 10, .int .i64 f, .int .i64 d, .int .i64 s, .int .i64 t, .int .u64 (u m), .int .i64 z, .bool a, .bool false, .bool c, .int .i64 k] 24)) d') os').cell? ⟨w.heap.size, 3, none⟩ = some (.int .i64 s) := fun d' os' => new_cell _ _ _ _ rfl d' os'
    have c4 : ∀ d' os', (Sort.grow (redrawn (w.alloc (.cells #[.int .i64 10, .int .i64 f, .int .i64 d, .int .i64 s, .int .i64 t, .int .u64 (u m), .int .i64 z, .bool a, .bool false, .bool c, .int .i64 k] 24)) d') os').cell? ⟨w.heap.size, 4, none⟩ = some (.int .i64 t) := fun d' os' => new_cell _ _ _ _ rfl d' os'
    have c5 : ∀ d' os', (Sort.grow (redrawn (w.alloc (.cells #[.int .i64 10, .int .i64 f, .int .i64 d, .int .i64 s, .int .i64 t, .int .u64 (u m), .int .i64 z, .bool a, .bool false, .bool c, .int .i64 k] 24)) d') os').cell? ⟨w.heap.size, 5, none⟩ = some (.int .u64 (u m)) := fun d' os' => new_cell _ _ _ _ rfl d' os'
    have c6 : ∀ d' os', (Sort.grow (redrawn (w.alloc (.cells #[.int .i64 10, .int .i64 f, .int .i64 d, .int .i64 s, .int .i64 t, .int .u64 (u m), .int .i64 z, .bool a, .bool false, .bool c, .int .i64 k] 24)) d') os').cell? ⟨w.heap.size, 6, none⟩ = some (.int .i64 z) := fun d' os' => new_cell _ _ _ _ rfl d' os'
    have c7 : ∀ d' os', (Sort.grow (redrawn (w.alloc (.cells #[.int .i64 10, .int .i64 f, .int .i64 d, .int .i64 s, .int .i64 t, .int .u64 (u m), .int .i64 z, .bool a, .bool false, .bool c, .int .i64 k] 24)) d') os').cell? ⟨w.heap.size, 7, none⟩ = some (.bool a) := fun d' os' => new_cell _ _ _ _ rfl d' os'
    have c8 : ∀ d' os', (Sort.grow (redrawn (w.alloc (.cells #[.int .i64 10, .int .i64 f, .int .i64 d, .int .i64 s, .int .i64 t, .int .u64 (u m), .int .i64 z, .bool a, .bool false, .bool c, .int .i64 k] 24)) d') os').cell? ⟨w.heap.size, 8, none⟩ = some (.bool false) := fun d' os' => new_cell _ _ _ _ rfl d' os'
    have c9 : ∀ d' os', (Sort.grow (redrawn (w.alloc (.cells #[.int .i64 10, .int .i64 f, .int .i64 d, .int .i64 s, .int .i64 t, .int .u64 (u m), .int .i64 z, .bool a, .bool false, .bool c, .int .i64 k] 24)) d') os').cell? ⟨w.heap.size, 9, none⟩ = some (.bool c) := fun d' os' => new_cell _ _ _ _ rfl d' os'
    have c10 : ∀ d' os', (Sort.grow (redrawn (w.alloc (.cells #[.int .i64 10, .int .i64 f, .int .i64 d, .int .i64 s, .int .i64 t, .int .u64 (u m), .int .i64 z, .bool a, .bool false, .bool c, .int .i64 k] 24)) d') os').cell? ⟨w.heap.size, 10, none⟩ = some (.int .i64 k) := fun d' os' => new_cell _ _ _ _ rfl d' os'
    go_enter Tryd.func31, Tryd.ntmps31
    go_wp2_with fail
    refine wp_region_quiet_below (by kernel_rfl) (by kernel_rfl) ?_
    repeat (go_big_quiet_step (first | (go_at_call 63; exact Calls.on_of (rop_any _ _ (by simp) _)) | (go_at_call 62; exact Calls.on_of (refR_any _ _ _ _ _ _ _))))
    refine wpQuiet_nil ?_
    intro _ hw'
    obtain ⟨⟨dq, osq⟩, hw''⟩ := hw'
    subst hw''
    go_wp2
    go_ret2
    exact ⟨⟨_, _, rfl, rright_10 ⟨10, f, d, s, t, m, z, a, false, c, k⟩ rfl⟩, ((On.refl w).alloc _).grow _ _⟩
  · have c0 : ∀ d' os', (Sort.grow (redrawn (w.alloc (.cells #[.int .i64 10, .int .i64 f, .int .i64 d, .int .i64 s, .int .i64 t, .int .u64 (u m), .int .i64 z, .bool a, .bool true, .bool c, .int .i64 k] 24)) d') os').cell? ⟨w.heap.size, 0, none⟩ = some (.int .i64 10) := fun d' os' => new_cell _ _ _ _ rfl d' os'
    have c1 : ∀ d' os', (Sort.grow (redrawn (w.alloc (.cells #[.int .i64 10, .int .i64 f, .int .i64 d, .int .i64 s, .int .i64 t, .int .u64 (u m), .int .i64 z, .bool a, .bool true, .bool c, .int .i64 k] 24)) d') os').cell? ⟨w.heap.size, 1, none⟩ = some (.int .i64 f) := fun d' os' => new_cell _ _ _ _ rfl d' os'
    have c2 : ∀ d' os', (Sort.grow (redrawn (w.alloc (.cells #[.int .i64 10, .int .i64 f, .int .i64 d, .int .i64 s, .int .i64 t, .int .u64 (u m), .int .i64 z, .bool a, .bool true, .bool c, .int .i64 k] 24)) d') os').cell? ⟨w.heap.size, 2, none⟩ = some (.int .i64 d) := fun d' os' => new_cell _ _ _ _ rfl d' os'
    have c3 : ∀ d' os', (Sort.grow (redrawn (w.alloc (.cells #[.int .i64 10, .int .i64 f, .int .i64 d, .int .i64 s, .int .i64 t, .int .u64 (u m), .int .i64 z, .bool a, .bool true, .bool c, .int .i64 k] 24)) d') os').cell? ⟨w.heap.size, 3, none⟩ = some (.int .i64 s) := fun d' os' => new_cell _ _ _ _ rfl d' os'
    have c4 : ∀ d' os', (Sort.grow (redrawn (w.alloc (.cells #[.int .i64 10, .int .i64 f, .int .i64 d, .int .i64 s, .int .i64 t, .int .u64 (u m), .int .i64 z, .bool a, .bool true, .bool c, .int .i64 k] 24)) d') os').cell? ⟨w.heap.size, 4, none⟩ = some (.int .i64 t) := fun d' os' => new_cell _ _ _ _ rfl d' os'
    have c5 : ∀ d' os', (Sort.grow (redrawn (w.alloc (.cells #[.int .i64 10, .int .i64 f, .int .i64 d, .int .i64 s, .int .i64 t, .int .u64 (u m), .int .i64 z, .bool a, .bool true, .bool c, .int .i64 k] 24)) d') os').cell? ⟨w.heap.size, 5, none⟩ = some (.int .u64 (u m)) := fun d' os' => new_cell _ _ _ _ rfl d' os'
    have c6 : ∀ d' os', (Sort.grow (redrawn (w.alloc (.cells #[.int .i64 10, .int .i64 f, .int .i64 d, .int .i64 s, .int .i64 t, .int .u64 (u m), .int .i64 z, .bool a, .bool true, .bool c, .int .i64 k] 24)) d') os').cell? ⟨w.heap.size, 6, none⟩ = some (.int .i64 z) := fun d' os' => new_cell _ _ _ _ rfl d' os'
    have c7 : ∀ d' os', (Sort.grow (redrawn (w.alloc (.cells #[.int .i64 10, .int .i64 f, .int .i64 d, .int .i64 s, .int .i64 t, .int .u64 (u m), .int .i64 z, .bool a, .bool true, .bool c, .int .i64 k] 24)) d') os').cell? ⟨w.heap.size, 7, none⟩ = some (.bool a) := fun d' os' => new_cell _ _ _ _ rfl d' os'
    have c8 : ∀ d' os', (Sort.grow (redrawn (w.alloc (.cells #[.int .i64 10, .int .i64 f, .int .i64 d, .int .i64 s, .int .i64 t, .int .u64 (u m), .int .i64 z, .bool a, .bool true, .bool c, .int .i64 k] 24)) d') os').cell? ⟨w.heap.size, 8, none⟩ = some (.bool true) := fun d' os' => new_cell _ _ _ _ rfl d' os'
    have c9 : ∀ d' os', (Sort.grow (redrawn (w.alloc (.cells #[.int .i64 10, .int .i64 f, .int .i64 d, .int .i64 s, .int .i64 t, .int .u64 (u m), .int .i64 z, .bool a, .bool true, .bool c, .int .i64 k] 24)) d') os').cell? ⟨w.heap.size, 9, none⟩ = some (.bool c) := fun d' os' => new_cell _ _ _ _ rfl d' os'
    have c10 : ∀ d' os', (Sort.grow (redrawn (w.alloc (.cells #[.int .i64 10, .int .i64 f, .int .i64 d, .int .i64 s, .int .i64 t, .int .u64 (u m), .int .i64 z, .bool a, .bool true, .bool c, .int .i64 k] 24)) d') os').cell? ⟨w.heap.size, 10, none⟩ = some (.int .i64 k) := fun d' os' => new_cell _ _ _ _ rfl d' os'
    go_enter Tryd.func31, Tryd.ntmps31
    go_wp2_with fail
    refine wp_region_quiet_below (by kernel_rfl) (by kernel_rfl) ?_
    repeat (go_big_quiet_step (first | (go_at_call 63; exact Calls.on_of (rop_any _ _ (by simp) _)) | (go_at_call 62; exact Calls.on_of (refR_any _ _ _ _ _ _ _))))
    refine wpQuiet_nil ?_
    intro _ hw'
    obtain ⟨⟨dq, osq⟩, hw''⟩ := hw'
    subst hw''
    go_wp2
    go_ret2
    exact ⟨⟨_, _, rfl, rright_10 ⟨10, f, d, s, t, m, z, a, true, c, k⟩ rfl⟩, ((On.refl w).alloc _).grow _ _⟩

set_option maxRecDepth 100000 in
set_option maxHeartbeats 4000000 in
theorem rword_9a (f d s t z k : Int) (m : BitVec 64) (a b c : Bool) (w : World) (H : Hid (7 < f)) :
    Calls Tryd.prog 31 #[.agg #[.int .i64 9, .int .i64 f, .int .i64 d, .int .i64 s, .int .i64 t, .int .u64 (u m), .int .i64 z, .bool a, .bool b, .bool c, .int .i64 k]] w fun e w' => Ans ⟨9, f, d, s, t, m, z, a, b, c, k⟩ e ∧ On w w' := by
  have e2 : wrap64 (u m) = sg m := by rw [← IntWalk.i64_left, wrap_sg]
  have b7 : decide (7 < f) = true := decide_eq_true H.out
  cases b
  · have c0 : ∀ d' os', (Sort.grow (redrawn (w.alloc (.cells #[.int .i64 9, .int .i64 f, .int .i64 d, .int .i64 s, .int .i64 t, .int .u64 (u m), .int .i64 z, .bool a, .bool false, .bool c, .int .i64 k] 24)) d') os').cell? ⟨w.heap.size, 0, none⟩ = some (.int .i64 9) := fun d' os' => new_cell _ _ _ _ rfl d' os'
    have c1 : ∀ d' os', (Sort.grow (redrawn (w.alloc (.cells #[.int .i64 9, .int .i64 f, .int .i64 d, .int .i64 s, .int .i64 t, .int .u64 (u m), .int .i64 z, .bool a, .bool false, .bool c, .int .i64 k] 24)) d') os').cell? ⟨w.heap.size, 1, none⟩ = some (.int .i64 f) := fun d' os' => new_cell _ _ _ _ rfl d' os'
    have c2 : ∀ d' os', (Sort.grow (redrawn (w.alloc (.cells #[.int .i64 9, .int .i64 f, .int .i64 d, .int .i64 s, .int .i64 t, .int .u64 (u m), .int .i64 z, .bool a, .bool false, .bool c, .int .i64 k] 24)) d') os').cell? ⟨w.heap.size, 2, none⟩ = some (.int .i64 d) := fun d' os' => new_cell _ _ _ _ rfl d' os'
    have c3 : ∀ d' os', (Sort.grow (redrawn (w.alloc (.cells #[.int .i64 9, .int .i64 f, .int .i64 d, .int .i64 s, .int .i64 t, .int .u64 (u m), .int .i64 z, .bool a, .bool false, .bool c, .int .i64 k] 24)) d') os').cell? ⟨w.heap.size, 3, none⟩ = some (.int .i64 s) := fun d' os' => new_cell _ _ _ _ rfl d' os'
    have c4 : ∀ d' os', (Sort.grow (redrawn (w.alloc (.cells #[.int .i64 9, .int .i64 f, .int .i64 d, .int .i64 s, .int .i64 t, .int .u64 (u m), .int .i64 z, .bool a, .bool false, .bool c, .int .i64 k] 24)) d') os').cell? ⟨w.heap.size, 4, none⟩ = some (.int .i64 t) := fun d' os' => new_cell _ _ _ _ rfl d' os'
    have c5 : ∀ d' os', (Sort.grow (redrawn (w.alloc (.cells #[.int .i64 9, .int .i64 f, .int .i64 d, .int .i64 s, .int .i64 t, .int .u64 (u m), .int .i64 z, .bool a, .bool false, .bool c, .int .i64 k] 24)) d') os').cell? ⟨w.heap.size, 5, none⟩ = some (.int .u64 (u m)) := fun d' os' => new_cell _ _ _ _ rfl d' os'
    have c6 : ∀ d' os', (Sort.grow (redrawn (w.alloc (.cells #[.int .i64 9, .int .i64 f, .int .i64 d, .int .i64 s, .int .i64 t, .int .u64 (u m), .int .i64 z, .bool a, .bool false, .bool c, .int .i64 k] 24)) d') os').cell? ⟨w.heap.size, 6, none⟩ = some (.int .i64 z) := fun d' os' => new_cell _ _ _ _ rfl d' os'
    have c7 : ∀ d' os', (Sort.grow (redrawn (w.alloc (.cells #[.int .i64 9, .int .i64 f, .int .i64 d, .int .i64 s, .int .i64 t, .int .u64 (u m), .int .i64 z, .bool a, .bool false, .bool c, .int .i64 k] 24)) d') os').cell? ⟨w.heap.size, 7, none⟩ = some (.bool a) := fun d' os' => new_cell _ _ _ _ rfl d' os'
    have c8 : ∀ d' os', (Sort.grow (redrawn (w.alloc (.cells #[.int .i64 9, .int .i64 f, .int .i64 d, .int .i64 s, .int .i64 t, .int .u64 (u m), .int .i64 z, .bool a, .bool false, .bool c, .int .i64 k] 24)) d') os').cell? ⟨w.heap.size, 8, none⟩ = some (.bool false) := fun d' os' => new_cell _ _ _ _ rfl d' os'
    have c9 : ∀ d' os', (Sort.grow (redrawn (w.alloc (.cells #[.int .i64 9, .int .i64 f, .int .i64 d, .int .i64 s, .int .i64 t, .int .u64 (u m), .int .i64 z, .bool a, .bool false, .bool c, .int .i64 k] 24)) d') os').cell? ⟨w.heap.size, 9, none⟩ = some (.bool c) := fun d' os' => new_cell _ _ _ _ rfl d' os'
    have c10 : ∀ d' os', (Sort.grow (redrawn (w.alloc (.cells #[.int .i64 9, .int .i64 f, .int .i64 d, .int .i64 s, .int .i64 t, .int .u64 (u m), .int .i64 z, .bool a, .bool false, .bool c, .int .i64 k] 24)) d') os').cell? ⟨w.heap.size, 10, none⟩ = some (.int .i64 k) := fun d' os' => new_cell _ _ _ _ rfl d' os'
    go_enter Tryd.func31, Tryd.ntmps31
    go_wp2_with fail
    refine wp_region_quiet_below (by kernel_rfl) (by kernel_rfl) ?_
    repeat (go_big_quiet_step (first | (go_at_call 63; exact Calls.on_of (rop_any _ _ (by simp) _)) | (go_at_call 62; exact Calls.on_of (refR_any _ _ _ _ _ _ _))))
    refine wpQuiet_nil ?_
    intro _ hw'
    obtain ⟨⟨dq, osq⟩, hw''⟩ := hw'
    subst hw''
    go_wp2
    go_ret2
    exact ⟨⟨_, _, rfl, by have hr := rright_9 ⟨9, f, d, s, t, m, z, a, false, c, k⟩ rfl; dsimp only at hr; rw [if_pos (show 7 < f by have := H.out; omega)] at hr; exact hr⟩, ((On.refl w).alloc _).grow _ _⟩
  · have c0 : ∀ d' os', (Sort.grow (redrawn (w.alloc (.cells #[.int .i64 9, .int .i64 f, .int .i64 d, .int .i64 s, .int .i64 t, .int .u64 (u m), .int .i64 z, .bool a, .bool true, .bool c, .int .i64 k] 24)) d') os').cell? ⟨w.heap.size, 0, none⟩ = some (.int .i64 9) := fun d' os' => new_cell _ _ _ _ rfl d' os'
    have c1 : ∀ d' os', (Sort.grow (redrawn (w.alloc (.cells #[.int .i64 9, .int .i64 f, .int .i64 d, .int .i64 s, .int .i64 t, .int .u64 (u m), .int .i64 z, .bool a, .bool true, .bool c, .int .i64 k] 24)) d') os').cell? ⟨w.heap.size, 1, none⟩ = some (.int .i64 f) := fun d' os' => new_cell _ _ _ _ rfl d' os'
    have c2 : ∀ d' os', (Sort.grow (redrawn (w.alloc (.cells #[.int .i64 9, .int .i64 f, .int .i64 d, .int .i64 s, .int .i64 t, .int .u64 (u m), .int .i64 z, .bool a, .bool true, .bool c, .int .i64 k] 24)) d') os').cell? ⟨w.heap.size, 2, none⟩ = some (.int .i64 d) := fun d' os' => new_cell _ _ _ _ rfl d' os'
    have c3 : ∀ d' os', (Sort.grow (redrawn (w.alloc (.cells #[.int .i64 9, .int .i64 f, .int .i64 d, .int .i64 s, .int .i64 t, .int .u64 (u m), .int .i64 z, .bool a, .bool true, .bool c, .int .i64 k] 24)) d') os').cell? ⟨w.heap.size, 3, none⟩ = some (.int .i64 s) := fun d' os' => new_cell _ _ _ _ rfl d' os'
    have c4 : ∀ d' os', (Sort.grow (redrawn (w.alloc (.cells #[.int .i64 9, .int .i64 f, .int .i64 d, .int .i64 s, .int .i64 t, .int .u64 (u m), .int .i64 z, .bool a, .bool true, .bool c, .int .i64 k] 24)) d') os').cell? ⟨w.heap.size, 4, none⟩ = some (.int .i64 t) := fun d' os' => new_cell _ _ _ _ rfl d' os'
    have c5 : ∀ d' os', (Sort.grow (redrawn (w.alloc (.cells #[.int .i64 9, .int .i64 f, .int .i64 d, .int .i64 s, .int .i64 t, .int .u64 (u m), .int .i64 z, .bool a, .bool true, .bool c, .int .i64 k] 24)) d') os').cell? ⟨w.heap.size, 5, none⟩ = some (.int .u64 (u m)) := fun d' os' => new_cell _ _ _ _ rfl d' os'
    have c6 : ∀ d' os', (Sort.grow (redrawn (w.alloc (.cells #[.int .i64 9, .int .i64 f, .int .i64 d, .int .i64 s, .int .i64 t, .int .u64 (u m), .int .i64 z, .bool a, .bool true, .bool c, .int .i64 k] 24)) d') os').cell? ⟨w.heap.size, 6, none⟩ = some (.int .i64 z) := fun d' os' => new_cell _ _ _ _ rfl d' os'
    have c7 : ∀ d' os', (Sort.grow (redrawn (w.alloc (.cells #[.int .i64 9, .int .i64 f, .int .i64 d, .int .i64 s, .int .i64 t, .int .u64 (u m), .int .i64 z, .bool a, .bool true, .bool c, .int .i64 k] 24)) d') os').cell? ⟨w.heap.size, 7, none⟩ = some (.bool a) := fun d' os' => new_cell _ _ _ _ rfl d' os'
    have c8 : ∀ d' os', (Sort.grow (redrawn (w.alloc (.cells #[.int .i64 9, .int .i64 f, .int .i64 d, .int .i64 s, .int .i64 t, .int .u64 (u m), .int .i64 z, .bool a, .bool true, .bool c, .int .i64 k] 24)) d') os').cell? ⟨w.heap.size, 8, none⟩ = some (.bool true) := fun d' os' => new_cell _ _ _ _ rfl d' os'
    have c9 : ∀ d' os', (Sort.grow (redrawn (w.alloc (.cells #[.int .i64 9, .int .i64 f, .int .i64 d, .int .i64 s, .int .i64 t, .int .u64 (u m), .int .i64 z, .bool a, .bool true, .bool c, .int .i64 k] 24)) d') os').cell? ⟨w.heap.size, 9, none⟩ = some (.bool c) := fun d' os' => new_cell _ _ _ _ rfl d' os'
    have c10 : ∀ d' os', (Sort.grow (redrawn (w.alloc (.cells #[.int .i64 9, .int .i64 f, .int .i64 d, .int .i64 s, .int .i64 t, .int .u64 (u m), .int .i64 z, .bool a, .bool true, .bool c, .int .i64 k] 24)) d') os').cell? ⟨w.heap.size, 10, none⟩ = some (.int .i64 k) := fun d' os' => new_cell _ _ _ _ rfl d' os'
    go_enter Tryd.func31, Tryd.ntmps31
    go_wp2_with fail
    refine wp_region_quiet_below (by kernel_rfl) (by kernel_rfl) ?_
    repeat (go_big_quiet_step (first | (go_at_call 63; exact Calls.on_of (rop_any _ _ (by simp) _)) | (go_at_call 62; exact Calls.on_of (refR_any _ _ _ _ _ _ _))))
    refine wpQuiet_nil ?_
    intro _ hw'
    obtain ⟨⟨dq, osq⟩, hw''⟩ := hw'
    subst hw''
    go_wp2
    go_ret2
    exact ⟨⟨_, _, rfl, by have hr := rright_9 ⟨9, f, d, s, t, m, z, a, true, c, k⟩ rfl; dsimp only at hr; rw [if_pos (show 7 < f by have := H.out; omega)] at hr; exact hr⟩, ((On.refl w).alloc _).grow _ _⟩

set_option maxRecDepth 100000 in
set_option maxHeartbeats 4000000 in
theorem rword_9b (f d s t z k : Int) (m : BitVec 64) (a b c : Bool) (w : World) (H : Hid (¬ 7 < f)) :
    Calls Tryd.prog 31 #[.agg #[.int .i64 9, .int .i64 f, .int .i64 d, .int .i64 s, .int .i64 t, .int .u64 (u m), .int .i64 z, .bool a, .bool b, .bool c, .int .i64 k]] w fun e w' => Ans ⟨9, f, d, s, t, m, z, a, b, c, k⟩ e ∧ On w w' := by
  have e2 : wrap64 (u m) = sg m := by rw [← IntWalk.i64_left, wrap_sg]
  have b7 : decide (7 < f) = false := decide_eq_false H.out
  cases b
  · have c0 : ∀ d' os', (Sort.grow (redrawn (w.alloc (.cells #[.int .i64 9, .int .i64 f, .int .i64 d, .int .i64 s, .int .i64 t, .int .u64 (u m), .int .i64 z, .bool a, .bool false, .bool c, .int .i64 k] 24)) d') os').cell? ⟨w.heap.size, 0, none⟩ = some (.int .i64 9) := fun d' os' => new_cell _ _ _ _ rfl d' os'
    have c1 : ∀ d' os', (Sort.grow (redrawn (w.alloc (.cells #[.int .i64 9, .int .i64 f, .int .i64 d, .int .i64 s, .int .i64 t, .int .u64 (u m), .int .i64 z, .bool a, .bool false, .bool c, .int .i64 k] 24)) d') os').cell? ⟨w.heap.size, 1, none⟩ = some (.int .i64 f) := fun d' os' => new_cell _ _ _ _ rfl d' os'
    have c2 : ∀ d' os', (Sort.grow (redrawn (w.alloc (.cells #[.int .i64 9, .int .i64 f, .int .i64 d, .int .i64 s, .int .i64 t, .int .u64 (u m), .int .i64 z, .bool a, .bool false, .bool c, .int .i64 k] 24)) d') os').cell? ⟨w.heap.size, 2, none⟩ = some (.int .i64 d) := fun d' os' => new_cell _ _ _ _ rfl d' os'
    have c3 : ∀ d' os', (Sort.grow (redrawn (w.alloc (.cells #[.int .i64 9, .int .i64 f, .int .i64 d, .int .i64 s, .int .i64 t, .int .u64 (u m), .int .i64 z, .bool a, .bool false, .bool c, .int .i64 k] 24)) d') os').cell? ⟨w.heap.size, 3, none⟩ = some (.int .i64 s) := fun d' os' => new_cell _ _ _ _ rfl d' os'
    have c4 : ∀ d' os', (Sort.grow (redrawn (w.alloc (.cells #[.int .i64 9, .int .i64 f, .int .i64 d, .int .i64 s, .int .i64 t, .int .u64 (u m), .int .i64 z, .bool a, .bool false, .bool c, .int .i64 k] 24)) d') os').cell? ⟨w.heap.size, 4, none⟩ = some (.int .i64 t) := fun d' os' => new_cell _ _ _ _ rfl d' os'
    have c5 : ∀ d' os', (Sort.grow (redrawn (w.alloc (.cells #[.int .i64 9, .int .i64 f, .int .i64 d, .int .i64 s, .int .i64 t, .int .u64 (u m), .int .i64 z, .bool a, .bool false, .bool c, .int .i64 k] 24)) d') os').cell? ⟨w.heap.size, 5, none⟩ = some (.int .u64 (u m)) := fun d' os' => new_cell _ _ _ _ rfl d' os'
    have c6 : ∀ d' os', (Sort.grow (redrawn (w.alloc (.cells #[.int .i64 9, .int .i64 f, .int .i64 d, .int .i64 s, .int .i64 t, .int .u64 (u m), .int .i64 z, .bool a, .bool false, .bool c, .int .i64 k] 24)) d') os').cell? ⟨w.heap.size, 6, none⟩ = some (.int .i64 z) := fun d' os' => new_cell _ _ _ _ rfl d' os'
    have c7 : ∀ d' os', (Sort.grow (redrawn (w.alloc (.cells #[.int .i64 9, .int .i64 f, .int .i64 d, .int .i64 s, .int .i64 t, .int .u64 (u m), .int .i64 z, .bool a, .bool false, .bool c, .int .i64 k] 24)) d') os').cell? ⟨w.heap.size, 7, none⟩ = some (.bool a) := fun d' os' => new_cell _ _ _ _ rfl d' os'
    have c8 : ∀ d' os', (Sort.grow (redrawn (w.alloc (.cells #[.int .i64 9, .int .i64 f, .int .i64 d, .int .i64 s, .int .i64 t, .int .u64 (u m), .int .i64 z, .bool a, .bool false, .bool c, .int .i64 k] 24)) d') os').cell? ⟨w.heap.size, 8, none⟩ = some (.bool false) := fun d' os' => new_cell _ _ _ _ rfl d' os'
    have c9 : ∀ d' os', (Sort.grow (redrawn (w.alloc (.cells #[.int .i64 9, .int .i64 f, .int .i64 d, .int .i64 s, .int .i64 t, .int .u64 (u m), .int .i64 z, .bool a, .bool false, .bool c, .int .i64 k] 24)) d') os').cell? ⟨w.heap.size, 9, none⟩ = some (.bool c) := fun d' os' => new_cell _ _ _ _ rfl d' os'
    have c10 : ∀ d' os', (Sort.grow (redrawn (w.alloc (.cells #[.int .i64 9, .int .i64 f, .int .i64 d, .int .i64 s, .int .i64 t, .int .u64 (u m), .int .i64 z, .bool a, .bool false, .bool c, .int .i64 k] 24)) d') os').cell? ⟨w.heap.size, 10, none⟩ = some (.int .i64 k) := fun d' os' => new_cell _ _ _ _ rfl d' os'
    go_enter Tryd.func31, Tryd.ntmps31
    go_wp2_with fail
    refine wp_region_quiet_below (by kernel_rfl) (by kernel_rfl) ?_
    repeat (go_big_quiet_step (first | (go_at_call 63; exact Calls.on_of (rop_any _ _ (by simp) _)) | (go_at_call 62; exact Calls.on_of (refR_any _ _ _ _ _ _ _))))
    refine wpQuiet_nil ?_
    intro _ hw'
    obtain ⟨⟨dq, osq⟩, hw''⟩ := hw'
    subst hw''
    go_wp2
    go_ret2
    exact ⟨⟨_, _, rfl, by have hr := rright_9 ⟨9, f, d, s, t, m, z, a, false, c, k⟩ rfl; dsimp only at hr; rw [if_neg (show ¬ 7 < f by have := H.out; omega)] at hr; exact hr⟩, ((On.refl w).alloc _).grow _ _⟩
  · have c0 : ∀ d' os', (Sort.grow (redrawn (w.alloc (.cells #[.int .i64 9, .int .i64 f, .int .i64 d, .int .i64 s, .int .i64 t, .int .u64 (u m), .int .i64 z, .bool a, .bool true, .bool c, .int .i64 k] 24)) d') os').cell? ⟨w.heap.size, 0, none⟩ = some (.int .i64 9) := fun d' os' => new_cell _ _ _ _ rfl d' os'
    have c1 : ∀ d' os', (Sort.grow (redrawn (w.alloc (.cells #[.int .i64 9, .int .i64 f, .int .i64 d, .int .i64 s, .int .i64 t, .int .u64 (u m), .int .i64 z, .bool a, .bool true, .bool c, .int .i64 k] 24)) d') os').cell? ⟨w.heap.size, 1, none⟩ = some (.int .i64 f) := fun d' os' => new_cell _ _ _ _ rfl d' os'
    have c2 : ∀ d' os', (Sort.grow (redrawn (w.alloc (.cells #[.int .i64 9, .int .i64 f, .int .i64 d, .int .i64 s, .int .i64 t, .int .u64 (u m), .int .i64 z, .bool a, .bool true, .bool c, .int .i64 k] 24)) d') os').cell? ⟨w.heap.size, 2, none⟩ = some (.int .i64 d) := fun d' os' => new_cell _ _ _ _ rfl d' os'
    have c3 : ∀ d' os', (Sort.grow (redrawn (w.alloc (.cells #[.int .i64 9, .int .i64 f, .int .i64 d, .int .i64 s, .int .i64 t, .int .u64 (u m), .int .i64 z, .bool a, .bool true, .bool c, .int .i64 k] 24)) d') os').cell? ⟨w.heap.size, 3, none⟩ = some (.int .i64 s) := fun d' os' => new_cell _ _ _ _ rfl d' os'
    have c4 : ∀ d' os', (Sort.grow (redrawn (w.alloc (.cells #[.int .i64 9, .int .i64 f, .int .i64 d, .int .i64 s, .int .i64 t, .int .u64 (u m), .int .i64 z, .bool a, .bool true, .bool c, .int .i64 k] 24)) d') os').cell? ⟨w.heap.size, 4, none⟩ = some (.int .i64 t) := fun d' os' => new_cell _ _ _ _ rfl d' os'
    have c5 : ∀ d' os', (Sort.grow (redrawn (w.alloc (.cells #[.int .i64 9, .int .i64 f, .int .i64 d, .int .i64 s, .int .i64 t, .int .u64 (u m), .int .i64 z, .bool a, .bool true, .bool c, .int .i64 k] 24)) d') os').cell? ⟨w.heap.size, 5, none⟩ = some (.int .u64 (u m)) := fun d' os' => new_cell _ _ _ _ rfl d' os'
    have c6 : ∀ d' os', (Sort.grow (redrawn (w.alloc (.cells #[.int .i64 9, .int .i64 f, .int .i64 d, .int .i64 s, .int .i64 t, .int .u64 (u m), .int .i64 z, .bool a, .bool true, .bool c, .int .i64 k] 24)) d') os').cell? ⟨w.heap.size, 6, none⟩ = some (.int .i64 z) := fun d' os' => new_cell _ _ _ _ rfl d' os'
    have c7 : ∀ d' os', (Sort.grow (redrawn (w.alloc (.cells #[.int .i64 9, .int .i64 f, .int .i64 d, .int .i64 s, .int .i64 t, .int .u64 (u m), .int .i64 z, .bool a, .bool true, .bool c, .int .i64 k] 24)) d') os').cell? ⟨w.heap.size, 7, none⟩ = some (.bool a) := fun d' os' => new_cell _ _ _ _ rfl d' os'
    have c8 : ∀ d' os', (Sort.grow (redrawn (w.alloc (.cells #[.int .i64 9, .int .i64 f, .int .i64 d, .int .i64 s, .int .i64 t, .int .u64 (u m), .int .i64 z, .bool a, .bool true, .bool c, .int .i64 k] 24)) d') os').cell? ⟨w.heap.size, 8, none⟩ = some (.bool true) := fun d' os' => new_cell _ _ _ _ rfl d' os'
    have c9 : ∀ d' os', (Sort.grow (redrawn (w.alloc (.cells #[.int .i64 9, .int .i64 f, .int .i64 d, .int .i64 s, .int .i64 t, .int .u64 (u m), .int .i64 z, .bool a, .bool true, .bool c, .int .i64 k] 24)) d') os').cell? ⟨w.heap.size, 9, none⟩ = some (.bool c) := fun d' os' => new_cell _ _ _ _ rfl d' os'
    have c10 : ∀ d' os', (Sort.grow (redrawn (w.alloc (.cells #[.int .i64 9, .int .i64 f, .int .i64 d, .int .i64 s, .int .i64 t, .int .u64 (u m), .int .i64 z, .bool a, .bool true, .bool c, .int .i64 k] 24)) d') os').cell? ⟨w.heap.size, 10, none⟩ = some (.int .i64 k) := fun d' os' => new_cell _ _ _ _ rfl d' os'
    go_enter Tryd.func31, Tryd.ntmps31
    go_wp2_with fail
    refine wp_region_quiet_below (by kernel_rfl) (by kernel_rfl) ?_
    repeat (go_big_quiet_step (first | (go_at_call 63; exact Calls.on_of (rop_any _ _ (by simp) _)) | (go_at_call 62; exact Calls.on_of (refR_any _ _ _ _ _ _ _))))
    refine wpQuiet_nil ?_
    intro _ hw'
    obtain ⟨⟨dq, osq⟩, hw''⟩ := hw'
    subst hw''
    go_wp2
    go_ret2
    exact ⟨⟨_, _, rfl, by have hr := rright_9 ⟨9, f, d, s, t, m, z, a, true, c, k⟩ rfl; dsimp only at hr; rw [if_neg (show ¬ 7 < f by have := H.out; omega)] at hr; exact hr⟩, ((On.refl w).alloc _).grow _ _⟩

theorem rword_9 (f d s t z k : Int) (m : BitVec 64) (a b c : Bool) (w : World) : Calls Tryd.prog 31 #[.agg #[.int .i64 9, .int .i64 f, .int .i64 d, .int .i64 s, .int .i64 t, .int .u64 (u m), .int .i64 z, .bool a, .bool b, .bool c, .int .i64 k]] w fun e w' => Ans ⟨9, f, d, s, t, m, z, a, b, c, k⟩ e ∧ On w w' := by
  by_cases h : 7 < f
  · exact rword_9a f d s t z k m a b c w (Lib.hid h)
  · exact rword_9b f d s t z k m a b c w (Lib.hid h)
set_option maxRecDepth 100000 in
set_option maxHeartbeats 4000000 in
theorem rword_11 (f d s t z k : Int) (m : BitVec 64) (a b c : Bool) (w : World) :
    Calls Tryd.prog 31 #[.agg #[.int .i64 11, .int .i64 f, .int .i64 d, .int .i64 s, .int .i64 t, .int .u64 (u m), .int .i64 z, .bool a, .bool b, .bool c, .int .i64 k]] w fun e w' => Ans ⟨11, f, d, s, t, m, z, a, b, c, k⟩ e ∧ On w w' := by
  have e2 : wrap64 (u m) = sg m := by rw [← IntWalk.i64_left, wrap_sg]
  go_enter Tryd.func31, Tryd.ntmps31
  go_wp2
  go_ret2
  exact ⟨⟨_, _, rfl, right_11 _ rfl⟩, (On.refl w).alloc _⟩
set_option maxRecDepth 100000 in
set_option maxHeartbeats 4000000 in
theorem rword_12 (f d s t z k : Int) (m : BitVec 64) (a b c : Bool) (w : World) :
    Calls Tryd.prog 31 #[.agg #[.int .i64 12, .int .i64 f, .int .i64 d, .int .i64 s, .int .i64 t, .int .u64 (u m), .int .i64 z, .bool a, .bool b, .bool c, .int .i64 k]] w fun e w' => Ans ⟨12, f, d, s, t, m, z, a, b, c, k⟩ e ∧ On w w' := by
  have e2 : wrap64 (u m) = sg m := by rw [← IntWalk.i64_left, wrap_sg]
  go_enter Tryd.func31, Tryd.ntmps31
  go_wp2
  go_ret2
  exact ⟨⟨_, _, rfl, right_12 _ rfl⟩, (On.refl w).alloc _⟩
set_option maxRecDepth 100000 in
set_option maxHeartbeats 4000000 in
theorem rword_13 (f d s t z k : Int) (m : BitVec 64) (a b c : Bool) (w : World) :
    Calls Tryd.prog 31 #[.agg #[.int .i64 13, .int .i64 f, .int .i64 d, .int .i64 s, .int .i64 t, .int .u64 (u m), .int .i64 z, .bool a, .bool b, .bool c, .int .i64 k]] w fun e w' => Ans ⟨13, f, d, s, t, m, z, a, b, c, k⟩ e ∧ On w w' := by
  have e2 : wrap64 (u m) = sg m := by rw [← IntWalk.i64_left, wrap_sg]
  go_enter Tryd.func31, Tryd.ntmps31
  go_wp2
  go_ret2
  exact ⟨⟨_, _, rfl, right_13 _ rfl⟩, (On.refl w).alloc _⟩
set_option maxRecDepth 100000 in
set_option maxHeartbeats 4000000 in
theorem rword_14 (f d s t z k : Int) (m : BitVec 64) (a b c : Bool) (w : World) :
    Calls Tryd.prog 31 #[.agg #[.int .i64 14, .int .i64 f, .int .i64 d, .int .i64 s, .int .i64 t, .int .u64 (u m), .int .i64 z, .bool a, .bool b, .bool c, .int .i64 k]] w fun e w' => Ans ⟨14, f, d, s, t, m, z, a, b, c, k⟩ e ∧ On w w' := by
  have e2 : wrap64 (u m) = sg m := by rw [← IntWalk.i64_left, wrap_sg]
  go_enter Tryd.func31, Tryd.ntmps31
  go_wp2
  go_ret2
  exact ⟨⟨_, _, rfl, right_14 _ rfl⟩, (On.refl w).alloc _⟩
set_option maxRecDepth 100000 in
set_option maxHeartbeats 4000000 in
theorem rword_15 (f d s t z k : Int) (m : BitVec 64) (a b c : Bool) (w : World) :
    Calls Tryd.prog 31 #[.agg #[.int .i64 15, .int .i64 f, .int .i64 d, .int .i64 s, .int .i64 t, .int .u64 (u m), .int .i64 z, .bool a, .bool b, .bool c, .int .i64 k]] w fun e w' => Ans ⟨15, f, d, s, t, m, z, a, b, c, k⟩ e ∧ On w w' := by
  have e2 : wrap64 (u m) = sg m := by rw [← IntWalk.i64_left, wrap_sg]
  go_enter Tryd.func31, Tryd.ntmps31
  go_wp2
  go_ret2
  exact ⟨⟨_, _, rfl, right_15 _ rfl⟩, (On.refl w).alloc _⟩
set_option maxRecDepth 100000 in
set_option maxHeartbeats 4000000 in
theorem rword_16 (f d s t z k : Int) (m : BitVec 64) (a b c : Bool) (w : World) :
    Calls Tryd.prog 31 #[.agg #[.int .i64 16, .int .i64 f, .int .i64 d, .int .i64 s, .int .i64 t, .int .u64 (u m), .int .i64 z, .bool a, .bool b, .bool c, .int .i64 k]] w fun e w' => Ans ⟨16, f, d, s, t, m, z, a, b, c, k⟩ e ∧ On w w' := by
  have e2 : wrap64 (u m) = sg m := by rw [← IntWalk.i64_left, wrap_sg]
  go_enter Tryd.func31, Tryd.ntmps31
  go_wp2
  go_ret2
  exact ⟨⟨_, _, rfl, right_16 _ rfl⟩, (On.refl w).alloc _⟩
set_option maxRecDepth 100000 in
set_option maxHeartbeats 4000000 in
theorem rword_17 (f d s t z k : Int) (m : BitVec 64) (a b c : Bool) (w : World) :
    Calls Tryd.prog 31 #[.agg #[.int .i64 17, .int .i64 f, .int .i64 d, .int .i64 s, .int .i64 t, .int .u64 (u m), .int .i64 z, .bool a, .bool b, .bool c, .int .i64 k]] w fun e w' => Ans ⟨17, f, d, s, t, m, z, a, b, c, k⟩ e ∧ On w w' := by
  have e2 : wrap64 (u m) = sg m := by rw [← IntWalk.i64_left, wrap_sg]
  go_enter Tryd.func31, Tryd.ntmps31
  go_wp2
  go_ret2
  exact ⟨⟨_, _, rfl, right_17 _ rfl⟩, (On.refl w).alloc _⟩
set_option maxRecDepth 100000 in
set_option maxHeartbeats 4000000 in
theorem rword_18 (f d s t z k : Int) (m : BitVec 64) (a b c : Bool) (w : World) :
    Calls Tryd.prog 31 #[.agg #[.int .i64 18, .int .i64 f, .int .i64 d, .int .i64 s, .int .i64 t, .int .u64 (u m), .int .i64 z, .bool a, .bool b, .bool c, .int .i64 k]] w fun e w' => Ans ⟨18, f, d, s, t, m, z, a, b, c, k⟩ e ∧ On w w' := by
  have e2 : wrap64 (u m) = sg m := by rw [← IntWalk.i64_left, wrap_sg]
  have HB : Hid (On w (w.alloc (.cells #[.int .i64 18, .int .i64 f, .int .i64 d, .int .i64 s, .int .i64 t, .int .u64 (u m), .int .i64 z, .bool a, .bool b, .bool c, .int .i64 k] 24))) := Lib.hid ((On.refl w).alloc _)
  go_enter Tryd.func31, Tryd.ntmps31
  go_wp2_with (first | (go_at_call 62; refine (refR_any _ _ _ _ _ _ _).mono ?_; rintro e wn ⟨rfl, h⟩; replace HB := tr HB h; clear h))
  go_ret2
  exact ⟨⟨_, _, rfl, right_18 _ rfl⟩, HB.out⟩
set_option maxRecDepth 100000 in
set_option maxHeartbeats 4000000 in
theorem rword_19 (f d s t z k : Int) (m : BitVec 64) (a b c : Bool) (w : World) :
    Calls Tryd.prog 31 #[.agg #[.int .i64 19, .int .i64 f, .int .i64 d, .int .i64 s, .int .i64 t, .int .u64 (u m), .int .i64 z, .bool a, .bool b, .bool c, .int .i64 k]] w fun e w' => Ans ⟨19, f, d, s, t, m, z, a, b, c, k⟩ e ∧ On w w' := by
  have e2 : wrap64 (u m) = sg m := by rw [← IntWalk.i64_left, wrap_sg]
  have HB : Hid (On w (w.alloc (.cells #[.int .i64 19, .int .i64 f, .int .i64 d, .int .i64 s, .int .i64 t, .int .u64 (u m), .int .i64 z, .bool a, .bool b, .bool c, .int .i64 k] 24))) := Lib.hid ((On.refl w).alloc _)
  go_enter Tryd.func31, Tryd.ntmps31
  go_wp2_with (first | (go_at_call 64; refine (rcsr_any _ _ _ _ _ _ _ _ _ _ _).mono ?_; rintro e wn ⟨⟨v, n, rfl, hr⟩, h⟩; have HR := Lib.hid hr; replace HB := tr HB h; clear h hr))
  go_ret2
  exact ⟨⟨_, _, rfl, HR.out⟩, HB.out⟩
set_option maxRecDepth 100000 in
set_option maxHeartbeats 4000000 in
theorem rword_20 (f d s t z k : Int) (m : BitVec 64) (a b c : Bool) (w : World) :
    Calls Tryd.prog 31 #[.agg #[.int .i64 20, .int .i64 f, .int .i64 d, .int .i64 s, .int .i64 t, .int .u64 (u m), .int .i64 z, .bool a, .bool b, .bool c, .int .i64 k]] w fun e w' => Ans ⟨20, f, d, s, t, m, z, a, b, c, k⟩ e ∧ On w w' := by
  have e2 : wrap64 (u m) = sg m := by rw [← IntWalk.i64_left, wrap_sg]
  have c0 : ∀ d' os', (Sort.grow (redrawn (w.alloc (.cells #[.int .i64 20, .int .i64 f, .int .i64 d, .int .i64 s, .int .i64 t, .int .u64 (u m), .int .i64 z, .bool a, .bool b, .bool c, .int .i64 k] 24)) d') os').cell? ⟨w.heap.size, 0, none⟩ = some (.int .i64 20) := fun d' os' => new_cell _ _ _ _ rfl d' os'
  have c1 : ∀ d' os', (Sort.grow (redrawn (w.alloc (.cells #[.int .i64 20, .int .i64 f, .int .i64 d, .int .i64 s, .int .i64 t, .int .u64 (u m), .int .i64 z, .bool a, .bool b, .bool c, .int .i64 k] 24)) d') os').cell? ⟨w.heap.size, 1, none⟩ = some (.int .i64 f) := fun d' os' => new_cell _ _ _ _ rfl d' os'
  have c2 : ∀ d' os', (Sort.grow (redrawn (w.alloc (.cells #[.int .i64 20, .int .i64 f, .int .i64 d, .int .i64 s, .int .i64 t, .int .u64 (u m), .int .i64 z, .bool a, .bool b, .bool c, .int .i64 k] 24)) d') os').cell? ⟨w.heap.size, 2, none⟩ = some (.int .i64 d) := fun d' os' => new_cell _ _ _ _ rfl d' os'
  have c3 : ∀ d' os', (Sort.grow (redrawn (w.alloc (.cells #[.int .i64 20, .int .i64 f, .int .i64 d, .int .i64 s, .int .i64 t, .int .u64 (u m), .int .i64 z, .bool a, .bool b, .bool c, .int .i64 k] 24)) d') os').cell? ⟨w.heap.size, 3, none⟩ = some (.int .i64 s) := fun d' os' => new_cell _ _ _ _ rfl d' os'
  have c4 : ∀ d' os', (Sort.grow (redrawn (w.alloc (.cells #[.int .i64 20, .int .i64 f, .int .i64 d, .int .i64 s, .int .i64 t, .int .u64 (u m), .int .i64 z, .bool a, .bool b, .bool c, .int .i64 k] 24)) d') os').cell? ⟨w.heap.size, 4, none⟩ = some (.int .i64 t) := fun d' os' => new_cell _ _ _ _ rfl d' os'
  have c5 : ∀ d' os', (Sort.grow (redrawn (w.alloc (.cells #[.int .i64 20, .int .i64 f, .int .i64 d, .int .i64 s, .int .i64 t, .int .u64 (u m), .int .i64 z, .bool a, .bool b, .bool c, .int .i64 k] 24)) d') os').cell? ⟨w.heap.size, 5, none⟩ = some (.int .u64 (u m)) := fun d' os' => new_cell _ _ _ _ rfl d' os'
  have c6 : ∀ d' os', (Sort.grow (redrawn (w.alloc (.cells #[.int .i64 20, .int .i64 f, .int .i64 d, .int .i64 s, .int .i64 t, .int .u64 (u m), .int .i64 z, .bool a, .bool b, .bool c, .int .i64 k] 24)) d') os').cell? ⟨w.heap.size, 6, none⟩ = some (.int .i64 z) := fun d' os' => new_cell _ _ _ _ rfl d' os'
  have c7 : ∀ d' os', (Sort.grow (redrawn (w.alloc (.cells #[.int .i64 20, .int .i64 f, .int .i64 d, .int .i64 s, .int .i64 t, .int .u64 (u m), .int .i64 z, .bool a, .bool b, .bool c, .int .i64 k] 24)) d') os').cell? ⟨w.heap.size, 7, none⟩ = some (.bool a) := fun d' os' => new_cell _ _ _ _ rfl d' os'
  have c8 : ∀ d' os', (Sort.grow (redrawn (w.alloc (.cells #[.int .i64 20, .int .i64 f, .int .i64 d, .int .i64 s, .int .i64 t, .int .u64 (u m), .int .i64 z, .bool a, .bool b, .bool c, .int .i64 k] 24)) d') os').cell? ⟨w.heap.size, 8, none⟩ = some (.bool b) := fun d' os' => new_cell _ _ _ _ rfl d' os'
  have c9 : ∀ d' os', (Sort.grow (redrawn (w.alloc (.cells #[.int .i64 20, .int .i64 f, .int .i64 d, .int .i64 s, .int .i64 t, .int .u64 (u m), .int .i64 z, .bool a, .bool b, .bool c, .int .i64 k] 24)) d') os').cell? ⟨w.heap.size, 9, none⟩ = some (.bool c) := fun d' os' => new_cell _ _ _ _ rfl d' os'
  have c10 : ∀ d' os', (Sort.grow (redrawn (w.alloc (.cells #[.int .i64 20, .int .i64 f, .int .i64 d, .int .i64 s, .int .i64 t, .int .u64 (u m), .int .i64 z, .bool a, .bool b, .bool c, .int .i64 k] 24)) d') os').cell? ⟨w.heap.size, 10, none⟩ = some (.int .i64 k) := fun d' os' => new_cell _ _ _ _ rfl d' os'
  go_enter Tryd.func31, Tryd.ntmps31
  go_wp2_with fail
  refine wp_region_quiet_below (by kernel_rfl) (by kernel_rfl) ?_
  repeat (go_big_quiet_step (first | (go_at_call 60; exact Calls.on_of (rsize_on _ _)) | (go_at_call 62; exact Calls.on_of (refR_any _ _ _ _ _ _ _))))
  refine wpQuiet_nil ?_
  intro _ hw'
  obtain ⟨⟨dq, osq⟩, hw''⟩ := hw'
  subst hw''
  go_wp2
  go_ret2
  exact ⟨⟨_, _, rfl, rright_20 _ rfl⟩, ((On.refl w).alloc _).grow _ _⟩
set_option maxRecDepth 100000 in
set_option maxHeartbeats 4000000 in
theorem rword_21 (f d s t z k : Int) (m : BitVec 64) (a b c : Bool) (w : World) :
    Calls Tryd.prog 31 #[.agg #[.int .i64 21, .int .i64 f, .int .i64 d, .int .i64 s, .int .i64 t, .int .u64 (u m), .int .i64 z, .bool a, .bool b, .bool c, .int .i64 k]] w fun e w' => Ans ⟨21, f, d, s, t, m, z, a, b, c, k⟩ e ∧ On w w' := by
  have e2 : wrap64 (u m) = sg m := by rw [← IntWalk.i64_left, wrap_sg]
  have c0 : ∀ d' os', (Sort.grow (redrawn (w.alloc (.cells #[.int .i64 21, .int .i64 f, .int .i64 d, .int .i64 s, .int .i64 t, .int .u64 (u m), .int .i64 z, .bool a, .bool b, .bool c, .int .i64 k] 24)) d') os').cell? ⟨w.heap.size, 0, none⟩ = some (.int .i64 21) := fun d' os' => new_cell _ _ _ _ rfl d' os'
  have c1 : ∀ d' os', (Sort.grow (redrawn (w.alloc (.cells #[.int .i64 21, .int .i64 f, .int .i64 d, .int .i64 s, .int .i64 t, .int .u64 (u m), .int .i64 z, .bool a, .bool b, .bool c, .int .i64 k] 24)) d') os').cell? ⟨w.heap.size, 1, none⟩ = some (.int .i64 f) := fun d' os' => new_cell _ _ _ _ rfl d' os'
  have c2 : ∀ d' os', (Sort.grow (redrawn (w.alloc (.cells #[.int .i64 21, .int .i64 f, .int .i64 d, .int .i64 s, .int .i64 t, .int .u64 (u m), .int .i64 z, .bool a, .bool b, .bool c, .int .i64 k] 24)) d') os').cell? ⟨w.heap.size, 2, none⟩ = some (.int .i64 d) := fun d' os' => new_cell _ _ _ _ rfl d' os'
  have c3 : ∀ d' os', (Sort.grow (redrawn (w.alloc (.cells #[.int .i64 21, .int .i64 f, .int .i64 d, .int .i64 s, .int .i64 t, .int .u64 (u m), .int .i64 z, .bool a, .bool b, .bool c, .int .i64 k] 24)) d') os').cell? ⟨w.heap.size, 3, none⟩ = some (.int .i64 s) := fun d' os' => new_cell _ _ _ _ rfl d' os'
  have c4 : ∀ d' os', (Sort.grow (redrawn (w.alloc (.cells #[.int .i64 21, .int .i64 f, .int .i64 d, .int .i64 s, .int .i64 t, .int .u64 (u m), .int .i64 z, .bool a, .bool b, .bool c, .int .i64 k] 24)) d') os').cell? ⟨w.heap.size, 4, none⟩ = some (.int .i64 t) := fun d' os' => new_cell _ _ _ _ rfl d' os'
  have c5 : ∀ d' os', (Sort.grow (redrawn (w.alloc (.cells #[.int .i64 21, .int .i64 f, .int .i64 d, .int .i64 s, .int .i64 t, .int .u64 (u m), .int .i64 z, .bool a, .bool b, .bool c, .int .i64 k] 24)) d') os').cell? ⟨w.heap.size, 5, none⟩ = some (.int .u64 (u m)) := fun d' os' => new_cell _ _ _ _ rfl d' os'
  have c6 : ∀ d' os', (Sort.grow (redrawn (w.alloc (.cells #[.int .i64 21, .int .i64 f, .int .i64 d, .int .i64 s, .int .i64 t, .int .u64 (u m), .int .i64 z, .bool a, .bool b, .bool c, .int .i64 k] 24)) d') os').cell? ⟨w.heap.size, 6, none⟩ = some (.int .i64 z) := fun d' os' => new_cell _ _ _ _ rfl d' os'
  have c7 : ∀ d' os', (Sort.grow (redrawn (w.alloc (.cells #[.int .i64 21, .int .i64 f, .int .i64 d, .int .i64 s, .int .i64 t, .int .u64 (u m), .int .i64 z, .bool a, .bool b, .bool c, .int .i64 k] 24)) d') os').cell? ⟨w.heap.size, 7, none⟩ = some (.bool a) := fun d' os' => new_cell _ _ _ _ rfl d' os'
  have c8 : ∀ d' os', (Sort.grow (redrawn (w.alloc (.cells #[.int .i64 21, .int .i64 f, .int .i64 d, .int .i64 s, .int .i64 t, .int .u64 (u m), .int .i64 z, .bool a, .bool b, .bool c, .int .i64 k] 24)) d') os').cell? ⟨w.heap.size, 8, none⟩ = some (.bool b) := fun d' os' => new_cell _ _ _ _ rfl d' os'
  have c9 : ∀ d' os', (Sort.grow (redrawn (w.alloc (.cells #[.int .i64 21, .int .i64 f, .int .i64 d, .int .i64 s, .int .i64 t, .int .u64 (u m), .int .i64 z, .bool a, .bool b, .bool c, .int .i64 k] 24)) d') os').cell? ⟨w.heap.size, 9, none⟩ = some (.bool c) := fun d' os' => new_cell _ _ _ _ rfl d' os'
  have c10 : ∀ d' os', (Sort.grow (redrawn (w.alloc (.cells #[.int .i64 21, .int .i64 f, .int .i64 d, .int .i64 s, .int .i64 t, .int .u64 (u m), .int .i64 z, .bool a, .bool b, .bool c, .int .i64 k] 24)) d') os').cell? ⟨w.heap.size, 10, none⟩ = some (.int .i64 k) := fun d' os' => new_cell _ _ _ _ rfl d' os'
  go_enter Tryd.func31, Tryd.ntmps31
  go_wp2_with fail
  refine wp_region_quiet_below (by kernel_rfl) (by kernel_rfl) ?_
  repeat (go_big_quiet_step (first | (go_at_call 60; exact Calls.on_of (rsize_on _ _)) | (go_at_call 62; exact Calls.on_of (refR_any _ _ _ _ _ _ _))))
  refine wpQuiet_nil ?_
  intro _ hw'
  obtain ⟨⟨dq, osq⟩, hw''⟩ := hw'
  subst hw''
  go_wp2
  go_ret2
  exact ⟨⟨_, _, rfl, rright_21 _ rfl⟩, ((On.refl w).alloc _).grow _ _⟩
set_option maxRecDepth 100000 in
set_option maxHeartbeats 4000000 in
theorem rword_22a (f d s t z k : Int) (m : BitVec 64) (a b c : Bool) (w : World) (H : Hid (¬ f < 0 ∧ ¬ 31 < f)) :
    Calls Tryd.prog 31 #[.agg #[.int .i64 22, .int .i64 f, .int .i64 d, .int .i64 s, .int .i64 t, .int .u64 (u m), .int .i64 z, .bool a, .bool b, .bool c, .int .i64 k]] w fun e w' => Ans ⟨22, f, d, s, t, m, z, a, b, c, k⟩ e ∧ On w w' := by
  have e2 : wrap64 (u m) = sg m := by rw [← IntWalk.i64_left, wrap_sg]
  have b0 : decide (f < 0) = false := decide_eq_false H.out.1
  have b1 : decide (31 < f) = false := decide_eq_false H.out.2
  have e4 : wrap64 (f * 4) = f * 4 := IntWalk.wrap64_in _ (by have := H.out; omega)
  have c0 : ∀ d' os', (Sort.grow (redrawn (w.alloc (.cells #[.int .i64 22, .int .i64 f, .int .i64 d, .int .i64 s, .int .i64 t, .int .u64 (u m), .int .i64 z, .bool a, .bool b, .bool c, .int .i64 k] 24)) d') os').cell? ⟨w.heap.size, 0, none⟩ = some (.int .i64 22) := fun d' os' => new_cell _ _ _ _ rfl d' os'
  have c1 : ∀ d' os', (Sort.grow (redrawn (w.alloc (.cells #[.int .i64 22, .int .i64 f, .int .i64 d, .int .i64 s, .int .i64 t, .int .u64 (u m), .int .i64 z, .bool a, .bool b, .bool c, .int .i64 k] 24)) d') os').cell? ⟨w.heap.size, 1, none⟩ = some (.int .i64 f) := fun d' os' => new_cell _ _ _ _ rfl d' os'
  have c2 : ∀ d' os', (Sort.grow (redrawn (w.alloc (.cells #[.int .i64 22, .int .i64 f, .int .i64 d, .int .i64 s, .int .i64 t, .int .u64 (u m), .int .i64 z, .bool a, .bool b, .bool c, .int .i64 k] 24)) d') os').cell? ⟨w.heap.size, 2, none⟩ = some (.int .i64 d) := fun d' os' => new_cell _ _ _ _ rfl d' os'
  have c3 : ∀ d' os', (Sort.grow (redrawn (w.alloc (.cells #[.int .i64 22, .int .i64 f, .int .i64 d, .int .i64 s, .int .i64 t, .int .u64 (u m), .int .i64 z, .bool a, .bool b, .bool c, .int .i64 k] 24)) d') os').cell? ⟨w.heap.size, 3, none⟩ = some (.int .i64 s) := fun d' os' => new_cell _ _ _ _ rfl d' os'
  have c4 : ∀ d' os', (Sort.grow (redrawn (w.alloc (.cells #[.int .i64 22, .int .i64 f, .int .i64 d, .int .i64 s, .int .i64 t, .int .u64 (u m), .int .i64 z, .bool a, .bool b, .bool c, .int .i64 k] 24)) d') os').cell? ⟨w.heap.size, 4, none⟩ = some (.int .i64 t) := fun d' os' => new_cell _ _ _ _ rfl d' os'
  have c5 : ∀ d' os', (Sort.grow (redrawn (w.alloc (.cells #[.int .i64 22, .int .i64 f, .int .i64 d, .int .i64 s, .int .i64 t, .int .u64 (u m), .int .i64 z, .bool a, .bool b, .bool c, .int .i64 k] 24)) d') os').cell? ⟨w.heap.size, 5, none⟩ = some (.int .u64 (u m)) := fun d' os' => new_cell _ _ _ _ rfl d' os'
  have c6 : ∀ d' os', (Sort.grow (redrawn (w.alloc (.cells #[.int .i64 22, .int .i64 f, .int .i64 d, .int .i64 s, .int .i64 t, .int .u64 (u m), .int .i64 z, .bool a, .bool b, .bool c, .int .i64 k] 24)) d') os').cell? ⟨w.heap.size, 6, none⟩ = some (.int .i64 z) := fun d' os' => new_cell _ _ _ _ rfl d' os'
  have c7 : ∀ d' os', (Sort.grow (redrawn (w.alloc (.cells #[.int .i64 22, .int .i64 f, .int .i64 d, .int .i64 s, .int .i64 t, .int .u64 (u m), .int .i64 z, .bool a, .bool b, .bool c, .int .i64 k] 24)) d') os').cell? ⟨w.heap.size, 7, none⟩ = some (.bool a) := fun d' os' => new_cell _ _ _ _ rfl d' os'
  have c8 : ∀ d' os', (Sort.grow (redrawn (w.alloc (.cells #[.int .i64 22, .int .i64 f, .int .i64 d, .int .i64 s, .int .i64 t, .int .u64 (u m), .int .i64 z, .bool a, .bool b, .bool c, .int .i64 k] 24)) d') os').cell? ⟨w.heap.size, 8, none⟩ = some (.bool b) := fun d' os' => new_cell _ _ _ _ rfl d' os'
  have c9 : ∀ d' os', (Sort.grow (redrawn (w.alloc (.cells #[.int .i64 22, .int .i64 f, .int .i64 d, .int .i64 s, .int .i64 t, .int .u64 (u m), .int .i64 z, .bool a, .bool b, .bool c, .int .i64 k] 24)) d') os').cell? ⟨w.heap.size, 9, none⟩ = some (.bool c) := fun d' os' => new_cell _ _ _ _ rfl d' os'
  have c10 : ∀ d' os', (Sort.grow (redrawn (w.alloc (.cells #[.int .i64 22, .int .i64 f, .int .i64 d, .int .i64 s, .int .i64 t, .int .u64 (u m), .int .i64 z, .bool a, .bool b, .bool c, .int .i64 k] 24)) d') os').cell? ⟨w.heap.size, 10, none⟩ = some (.int .i64 k) := fun d' os' => new_cell _ _ _ _ rfl d' os'
  go_enter Tryd.func31, Tryd.ntmps31
  go_wp2_with fail
  refine wp_region_quiet_below (by kernel_rfl) (by kernel_rfl) ?_
  repeat (go_big_quiet_step (first | (go_at_call 60; exact Calls.on_of (rsize_on _ _)) | (go_at_call 62; exact Calls.on_of (refR_any _ _ _ _ _ _ _))))
  refine wpQuiet_nil ?_
  intro _ hw'
  obtain ⟨⟨dq, osq⟩, hw''⟩ := hw'
  subst hw''
  go_wp2
  go_ret2
  exact ⟨⟨_, _, rfl, rright_22 _ rfl⟩, ((On.refl w).alloc _).grow _ _⟩
set_option maxRecDepth 100000 in
set_option maxHeartbeats 4000000 in
theorem rword_22b (f d s t z k : Int) (m : BitVec 64) (a b c : Bool) (w : World) (H : Hid (f < 0)) :
    Calls Tryd.prog 31 #[.agg #[.int .i64 22, .int .i64 f, .int .i64 d, .int .i64 s, .int .i64 t, .int .u64 (u m), .int .i64 z, .bool a, .bool b, .bool c, .int .i64 k]] w fun e w' => Ans ⟨22, f, d, s, t, m, z, a, b, c, k⟩ e ∧ On w w' := by
  have e2 : wrap64 (u m) = sg m := by rw [← IntWalk.i64_left, wrap_sg]
  have b0 : decide (f < 0) = true := by have := H.out; simp; omega
  go_enter Tryd.func31, Tryd.ntmps31
  go_wp2
  go_ret2
  exact ⟨⟨0#32, 7, rfl, right_none (by decide) (fun x hx h0 => amo_none hx (by have := H.out; omega))⟩, (On.refl w).alloc _⟩
set_option maxRecDepth 100000 in
set_option maxHeartbeats 4000000 in
theorem rword_22c (f d s t z k : Int) (m : BitVec 64) (a b c : Bool) (w : World) (H : Hid (¬ f < 0 ∧ 31 < f)) :
    Calls Tryd.prog 31 #[.agg #[.int .i64 22, .int .i64 f, .int .i64 d, .int .i64 s, .int .i64 t, .int .u64 (u m), .int .i64 z, .bool a, .bool b, .bool c, .int .i64 k]] w fun e w' => Ans ⟨22, f, d, s, t, m, z, a, b, c, k⟩ e ∧ On w w' := by
  have e2 : wrap64 (u m) = sg m := by rw [← IntWalk.i64_left, wrap_sg]
  have b0 : decide (f < 0) = false := by have := H.out; simp; omega
  have b1 : decide (31 < f) = true := by have := H.out; simp; omega
  go_enter Tryd.func31, Tryd.ntmps31
  go_wp2
  go_ret2
  exact ⟨⟨0#32, 7, rfl, right_none (by decide) (fun x hx h0 => amo_none hx (by have := H.out; omega))⟩, (On.refl w).alloc _⟩
theorem rword_22 (f d s t z k : Int) (m : BitVec 64) (a b c : Bool) (w : World) : Calls Tryd.prog 31 #[.agg #[.int .i64 22, .int .i64 f, .int .i64 d, .int .i64 s, .int .i64 t, .int .u64 (u m), .int .i64 z, .bool a, .bool b, .bool c, .int .i64 k]] w fun e w' => Ans ⟨22, f, d, s, t, m, z, a, b, c, k⟩ e ∧ On w w' := by
  by_cases h : f < 0
  · exact rword_22b f d s t z k m a b c w (Lib.hid h)
  by_cases g : 31 < f
  · exact rword_22c f d s t z k m a b c w (Lib.hid ⟨h, g⟩)
  · exact rword_22a f d s t z k m a b c w (Lib.hid ⟨h, g⟩)
set_option maxRecDepth 100000 in
set_option maxHeartbeats 4000000 in
theorem rword_n (o : Int) (f d s t z k : Int) (m : BitVec 64) (a b c : Bool) (w : World) (N : Hid (o < 1 ∨ 22 < o)) :
    Calls Tryd.prog 31 #[.agg #[.int .i64 o, .int .i64 f, .int .i64 d, .int .i64 s, .int .i64 t, .int .u64 (u m), .int .i64 z, .bool a, .bool b, .bool c, .int .i64 k]] w fun e w' => Ans ⟨o, f, d, s, t, m, z, a, b, c, k⟩ e ∧ On w w' := by
  have e2 : wrap64 (u m) = sg m := by rw [← IntWalk.i64_left, wrap_sg]
  have b1 : (o == 1) = false := by have := N.out; simp; omega
  have b2 : (o == 2) = false := by have := N.out; simp; omega
  have b3 : (o == 3) = false := by have := N.out; simp; omega
  have b4 : (o == 4) = false := by have := N.out; simp; omega
  have b5 : (o == 5) = false := by have := N.out; simp; omega
  have b6 : (o == 6) = false := by have := N.out; simp; omega
  have b7 : (o == 7) = false := by have := N.out; simp; omega
  have b8 : (o == 8) = false := by have := N.out; simp; omega
  have b9 : (o == 9) = false := by have := N.out; simp; omega
  have b10 : (o == 10) = false := by have := N.out; simp; omega
  have b11 : (o == 11) = false := by have := N.out; simp; omega
  have b12 : (o == 12) = false := by have := N.out; simp; omega
  have b13 : (o == 13) = false := by have := N.out; simp; omega
  have b14 : (o == 14) = false := by have := N.out; simp; omega
  have b15 : (o == 15) = false := by have := N.out; simp; omega
  have b16 : (o == 16) = false := by have := N.out; simp; omega
  have b17 : (o == 17) = false := by have := N.out; simp; omega
  have b18 : (o == 18) = false := by have := N.out; simp; omega
  have b19 : (o == 19) = false := by have := N.out; simp; omega
  have b20 : (o == 20) = false := by have := N.out; simp; omega
  have b21 : (o == 21) = false := by have := N.out; simp; omega
  have b22 : (o == 22) = false := by have := N.out; simp; omega
  go_enter Tryd.func31, Tryd.ntmps31
  go_wp2
  go_ret2
  exact ⟨⟨0#32, 7, rfl, right_other (by decide) N.out⟩, (On.refl w).alloc _⟩
theorem rword_any (o f d s t z k : Int) (m : BitVec 64) (a b c : Bool) (w : World) :
    Calls Tryd.prog 31 #[.agg #[.int .i64 o, .int .i64 f, .int .i64 d, .int .i64 s, .int .i64 t, .int .u64 (u m), .int .i64 z, .bool a, .bool b, .bool c, .int .i64 k]] w fun e w' => Ans ⟨o, f, d, s, t, m, z, a, b, c, k⟩ e ∧ On w w' := by
  by_cases n1 : o = 1
  · subst n1; exact rword_1 f d s t z k m a b c w
  by_cases n2 : o = 2
  · subst n2; exact rword_2 f d s t z k m a b c w
  by_cases n3 : o = 3
  · subst n3; exact rword_3 f d s t z k m a b c w
  by_cases n4 : o = 4
  · subst n4; exact rword_4 f d s t z k m a b c w
  by_cases n5 : o = 5
  · subst n5; exact rword_5 f d s t z k m a b c w
  by_cases n6 : o = 6
  · subst n6; exact rword_6 f d s t z k m a b c w
  by_cases n7 : o = 7
  · subst n7; exact rword_7 f d s t z k m a b c w
  by_cases n8 : o = 8
  · subst n8; exact rword_8 f d s t z k m a b c w
  by_cases n9 : o = 9
  · subst n9; exact rword_9 f d s t z k m a b c w
  by_cases n10 : o = 10
  · subst n10; exact rword_10 f d s t z k m a b c w
  by_cases n11 : o = 11
  · subst n11; exact rword_11 f d s t z k m a b c w
  by_cases n12 : o = 12
  · subst n12; exact rword_12 f d s t z k m a b c w
  by_cases n13 : o = 13
  · subst n13; exact rword_13 f d s t z k m a b c w
  by_cases n14 : o = 14
  · subst n14; exact rword_14 f d s t z k m a b c w
  by_cases n15 : o = 15
  · subst n15; exact rword_15 f d s t z k m a b c w
  by_cases n16 : o = 16
  · subst n16; exact rword_16 f d s t z k m a b c w
  by_cases n17 : o = 17
  · subst n17; exact rword_17 f d s t z k m a b c w
  by_cases n18 : o = 18
  · subst n18; exact rword_18 f d s t z k m a b c w
  by_cases n19 : o = 19
  · subst n19; exact rword_19 f d s t z k m a b c w
  by_cases n20 : o = 20
  · subst n20; exact rword_20 f d s t z k m a b c w
  by_cases n21 : o = 21
  · subst n21; exact rword_21 f d s t z k m a b c w
  by_cases n22 : o = 22
  · subst n22; exact rword_22 f d s t z k m a b c w
  exact rword_n o f d s t z k m a b c w (Lib.hid (by omega))
end Go.Proofs.YtjnalgilkdoalaaDoor
