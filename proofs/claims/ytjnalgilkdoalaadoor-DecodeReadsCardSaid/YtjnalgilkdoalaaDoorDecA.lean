/- What awake, Serial and Memory of layer 3 come to. Conditions: none. -/
import Derived.Test.YtjnalgilkdoalaaDoorDec5
import Derived.Test.YtjnalgilkdoalaaDoorKinds
namespace Go.Proofs.YtjnalgilkdoalaaDoor
open Go.RowKit
set_option linter.unusedSimpArgs false

set_option maxRecDepth 100000 in
set_option maxHeartbeats 4000000 in
theorem ser_11 (f d s t m z k : Int) (a b c : Bool) (w : World) :
    Calls Tryd.prog 8 #[.agg #[.int .i64 11, .int .i64 f, .int .i64 d, .int .i64 s, .int .i64 t, .int .u64 m, .int .i64 z, .bool a, .bool b, .bool c, .int .i64 k]] w fun e w' => e = .returned (.bool true) ∧ On w w' := by
  go_enter Tryd.func8, Tryd.ntmps8
  go_wp2
  go_ret
  exact ⟨rfl, (On.refl w).alloc _⟩
set_option maxRecDepth 100000 in
set_option maxHeartbeats 4000000 in
theorem ser_12 (f d s t m z k : Int) (a b c : Bool) (w : World) :
    Calls Tryd.prog 8 #[.agg #[.int .i64 12, .int .i64 f, .int .i64 d, .int .i64 s, .int .i64 t, .int .u64 m, .int .i64 z, .bool a, .bool b, .bool c, .int .i64 k]] w fun e w' => e = .returned (.bool true) ∧ On w w' := by
  go_enter Tryd.func8, Tryd.ntmps8
  go_wp2
  go_ret
  exact ⟨rfl, (On.refl w).alloc _⟩
set_option maxRecDepth 100000 in
set_option maxHeartbeats 4000000 in
theorem ser_13 (f d s t m z k : Int) (a b c : Bool) (w : World) :
    Calls Tryd.prog 8 #[.agg #[.int .i64 13, .int .i64 f, .int .i64 d, .int .i64 s, .int .i64 t, .int .u64 m, .int .i64 z, .bool a, .bool b, .bool c, .int .i64 k]] w fun e w' => e = .returned (.bool true) ∧ On w w' := by
  go_enter Tryd.func8, Tryd.ntmps8
  go_wp2
  go_ret
  exact ⟨rfl, (On.refl w).alloc _⟩
set_option maxRecDepth 100000 in
set_option maxHeartbeats 4000000 in
theorem ser_14 (f d s t m z k : Int) (a b c : Bool) (w : World) :
    Calls Tryd.prog 8 #[.agg #[.int .i64 14, .int .i64 f, .int .i64 d, .int .i64 s, .int .i64 t, .int .u64 m, .int .i64 z, .bool a, .bool b, .bool c, .int .i64 k]] w fun e w' => e = .returned (.bool true) ∧ On w w' := by
  go_enter Tryd.func8, Tryd.ntmps8
  go_wp2
  go_ret
  exact ⟨rfl, (On.refl w).alloc _⟩
set_option maxRecDepth 100000 in
set_option maxHeartbeats 4000000 in
theorem ser_15 (f d s t m z k : Int) (a b c : Bool) (w : World) :
    Calls Tryd.prog 8 #[.agg #[.int .i64 15, .int .i64 f, .int .i64 d, .int .i64 s, .int .i64 t, .int .u64 m, .int .i64 z, .bool a, .bool b, .bool c, .int .i64 k]] w fun e w' => e = .returned (.bool true) ∧ On w w' := by
  go_enter Tryd.func8, Tryd.ntmps8
  go_wp2
  go_ret
  exact ⟨rfl, (On.refl w).alloc _⟩
set_option maxRecDepth 100000 in
set_option maxHeartbeats 4000000 in
theorem ser_16 (f d s t m z k : Int) (a b c : Bool) (w : World) :
    Calls Tryd.prog 8 #[.agg #[.int .i64 16, .int .i64 f, .int .i64 d, .int .i64 s, .int .i64 t, .int .u64 m, .int .i64 z, .bool a, .bool b, .bool c, .int .i64 k]] w fun e w' => e = .returned (.bool true) ∧ On w w' := by
  go_enter Tryd.func8, Tryd.ntmps8
  go_wp2
  go_ret
  exact ⟨rfl, (On.refl w).alloc _⟩
set_option maxRecDepth 100000 in
set_option maxHeartbeats 4000000 in
theorem ser_17 (f d s t m z k : Int) (a b c : Bool) (w : World) :
    Calls Tryd.prog 8 #[.agg #[.int .i64 17, .int .i64 f, .int .i64 d, .int .i64 s, .int .i64 t, .int .u64 m, .int .i64 z, .bool a, .bool b, .bool c, .int .i64 k]] w fun e w' => e = .returned (.bool true) ∧ On w w' := by
  go_enter Tryd.func8, Tryd.ntmps8
  go_wp2
  go_ret
  exact ⟨rfl, (On.refl w).alloc _⟩
set_option maxRecDepth 100000 in
set_option maxHeartbeats 4000000 in
theorem ser_18 (f d s t m z k : Int) (a b c : Bool) (w : World) :
    Calls Tryd.prog 8 #[.agg #[.int .i64 18, .int .i64 f, .int .i64 d, .int .i64 s, .int .i64 t, .int .u64 m, .int .i64 z, .bool a, .bool b, .bool c, .int .i64 k]] w fun e w' => e = .returned (.bool true) ∧ On w w' := by
  go_enter Tryd.func8, Tryd.ntmps8
  go_wp2
  go_ret
  exact ⟨rfl, (On.refl w).alloc _⟩
set_option maxRecDepth 100000 in
set_option maxHeartbeats 4000000 in
theorem ser_19 (f d s t m z k : Int) (a b c : Bool) (w : World) :
    Calls Tryd.prog 8 #[.agg #[.int .i64 19, .int .i64 f, .int .i64 d, .int .i64 s, .int .i64 t, .int .u64 m, .int .i64 z, .bool a, .bool b, .bool c, .int .i64 k]] w fun e w' => e = .returned (.bool true) ∧ On w w' := by
  go_enter Tryd.func8, Tryd.ntmps8
  go_wp2
  go_ret
  exact ⟨rfl, (On.refl w).alloc _⟩
set_option maxRecDepth 100000 in
set_option maxHeartbeats 4000000 in
theorem ser_0 (f d s t m z k : Int) (a b c : Bool) (w : World) :
    Calls Tryd.prog 8 #[.agg #[.int .i64 0, .int .i64 f, .int .i64 d, .int .i64 s, .int .i64 t, .int .u64 m, .int .i64 z, .bool a, .bool b, .bool c, .int .i64 k]] w fun e w' => e = .returned (.bool true) ∧ On w w' := by
  go_enter Tryd.func8, Tryd.ntmps8
  go_wp2
  go_ret
  exact ⟨rfl, (On.refl w).alloc _⟩
set_option maxRecDepth 100000 in
set_option maxHeartbeats 4000000 in
theorem ser_n (o : Int) (f d s t m z k : Int) (a b c : Bool) (w : World) (N : serOf o = false) :
    Calls Tryd.prog 8 #[.agg #[.int .i64 o, .int .i64 f, .int .i64 d, .int .i64 s, .int .i64 t, .int .u64 m, .int .i64 z, .bool a, .bool b, .bool c, .int .i64 k]] w fun e w' => e = .returned (.bool false) ∧ On w w' := by
  unfold serOf at N
  simp only [Bool.or_eq_false_iff] at N
  obtain ⟨⟨⟨⟨⟨⟨⟨⟨⟨b0, b1⟩, b2⟩, b3⟩, b4⟩, b5⟩, b6⟩, b7⟩, b8⟩, b9⟩ := N
  go_enter Tryd.func8, Tryd.ntmps8
  go_wp2
  go_ret
  exact ⟨rfl, (On.refl w).alloc _⟩
theorem ser_any (o : Int) (f d s t m z k : Int) (a b c : Bool) (w : World) :
    Calls Tryd.prog 8 #[.agg #[.int .i64 o, .int .i64 f, .int .i64 d, .int .i64 s, .int .i64 t, .int .u64 m, .int .i64 z, .bool a, .bool b, .bool c, .int .i64 k]] w fun e w' => e = .returned (.bool (serOf o)) ∧ On w w' := by
  by_cases n11 : o = 11
  · subst n11; exact ser_11 f d s t m z k a b c w
  by_cases n12 : o = 12
  · subst n12; exact ser_12 f d s t m z k a b c w
  by_cases n13 : o = 13
  · subst n13; exact ser_13 f d s t m z k a b c w
  by_cases n14 : o = 14
  · subst n14; exact ser_14 f d s t m z k a b c w
  by_cases n15 : o = 15
  · subst n15; exact ser_15 f d s t m z k a b c w
  by_cases n16 : o = 16
  · subst n16; exact ser_16 f d s t m z k a b c w
  by_cases n17 : o = 17
  · subst n17; exact ser_17 f d s t m z k a b c w
  by_cases n18 : o = 18
  · subst n18; exact ser_18 f d s t m z k a b c w
  by_cases n19 : o = 19
  · subst n19; exact ser_19 f d s t m z k a b c w
  by_cases n0 : o = 0
  · subst n0; exact ser_0 f d s t m z k a b c w
  have N : serOf o = false := by unfold serOf; simp [n11, n12, n13, n14, n15, n16, n17, n18, n19, n0]
  rw [N]
  exact ser_n o f d s t m z k a b c w N
set_option maxRecDepth 100000 in
set_option maxHeartbeats 4000000 in
theorem mem_6 (f d s t m z k : Int) (a b c : Bool) (w : World) :
    Calls Tryd.prog 10 #[.agg #[.int .i64 6, .int .i64 f, .int .i64 d, .int .i64 s, .int .i64 t, .int .u64 m, .int .i64 z, .bool a, .bool b, .bool c, .int .i64 k]] w fun e w' => e = .returned (.bool true) ∧ On w w' := by
  go_enter Tryd.func10, Tryd.ntmps10
  go_wp2
  go_ret
  exact ⟨rfl, (On.refl w).alloc _⟩
set_option maxRecDepth 100000 in
set_option maxHeartbeats 4000000 in
theorem mem_7 (f d s t m z k : Int) (a b c : Bool) (w : World) :
    Calls Tryd.prog 10 #[.agg #[.int .i64 7, .int .i64 f, .int .i64 d, .int .i64 s, .int .i64 t, .int .u64 m, .int .i64 z, .bool a, .bool b, .bool c, .int .i64 k]] w fun e w' => e = .returned (.bool true) ∧ On w w' := by
  go_enter Tryd.func10, Tryd.ntmps10
  go_wp2
  go_ret
  exact ⟨rfl, (On.refl w).alloc _⟩
set_option maxRecDepth 100000 in
set_option maxHeartbeats 4000000 in
theorem mem_20 (f d s t m z k : Int) (a b c : Bool) (w : World) :
    Calls Tryd.prog 10 #[.agg #[.int .i64 20, .int .i64 f, .int .i64 d, .int .i64 s, .int .i64 t, .int .u64 m, .int .i64 z, .bool a, .bool b, .bool c, .int .i64 k]] w fun e w' => e = .returned (.bool true) ∧ On w w' := by
  go_enter Tryd.func10, Tryd.ntmps10
  go_wp2
  go_ret
  exact ⟨rfl, (On.refl w).alloc _⟩
set_option maxRecDepth 100000 in
set_option maxHeartbeats 4000000 in
theorem mem_21 (f d s t m z k : Int) (a b c : Bool) (w : World) :
    Calls Tryd.prog 10 #[.agg #[.int .i64 21, .int .i64 f, .int .i64 d, .int .i64 s, .int .i64 t, .int .u64 m, .int .i64 z, .bool a, .bool b, .bool c, .int .i64 k]] w fun e w' => e = .returned (.bool true) ∧ On w w' := by
  go_enter Tryd.func10, Tryd.ntmps10
  go_wp2
  go_ret
  exact ⟨rfl, (On.refl w).alloc _⟩
set_option maxRecDepth 100000 in
set_option maxHeartbeats 4000000 in
theorem mem_22 (f d s t m z k : Int) (a b c : Bool) (w : World) :
    Calls Tryd.prog 10 #[.agg #[.int .i64 22, .int .i64 f, .int .i64 d, .int .i64 s, .int .i64 t, .int .u64 m, .int .i64 z, .bool a, .bool b, .bool c, .int .i64 k]] w fun e w' => e = .returned (.bool true) ∧ On w w' := by
  go_enter Tryd.func10, Tryd.ntmps10
  go_wp2
  go_ret
  exact ⟨rfl, (On.refl w).alloc _⟩
set_option maxRecDepth 100000 in
set_option maxHeartbeats 4000000 in
theorem mem_n (o : Int) (f d s t m z k : Int) (a b c : Bool) (w : World) (N : memOf o = false) :
    Calls Tryd.prog 10 #[.agg #[.int .i64 o, .int .i64 f, .int .i64 d, .int .i64 s, .int .i64 t, .int .u64 m, .int .i64 z, .bool a, .bool b, .bool c, .int .i64 k]] w fun e w' => e = .returned (.bool false) ∧ On w w' := by
  unfold memOf at N
  simp only [Bool.or_eq_false_iff] at N
  obtain ⟨⟨⟨⟨b0, b1⟩, b2⟩, b3⟩, b4⟩ := N
  go_enter Tryd.func10, Tryd.ntmps10
  go_wp2
  go_ret
  exact ⟨rfl, (On.refl w).alloc _⟩
theorem mem_any (o : Int) (f d s t m z k : Int) (a b c : Bool) (w : World) :
    Calls Tryd.prog 10 #[.agg #[.int .i64 o, .int .i64 f, .int .i64 d, .int .i64 s, .int .i64 t, .int .u64 m, .int .i64 z, .bool a, .bool b, .bool c, .int .i64 k]] w fun e w' => e = .returned (.bool (memOf o)) ∧ On w w' := by
  by_cases n6 : o = 6
  · subst n6; exact mem_6 f d s t m z k a b c w
  by_cases n7 : o = 7
  · subst n7; exact mem_7 f d s t m z k a b c w
  by_cases n20 : o = 20
  · subst n20; exact mem_20 f d s t m z k a b c w
  by_cases n21 : o = 21
  · subst n21; exact mem_21 f d s t m z k a b c w
  by_cases n22 : o = 22
  · subst n22; exact mem_22 f d s t m z k a b c w
  have N : memOf o = false := by unfold memOf; simp [n6, n7, n20, n21, n22]
  rw [N]
  exact mem_n o f d s t m z k a b c w N
theorem dec_first (w : World) :
    Calls Tryd.prog 12 #[.int .u32 19] w fun e w' => e = .returned (.agg #[.int .i64 8, .int .i64 0, .int .i64 0, .int .i64 0, .int .i64 0, .int .u64 0, .int .i64 0, .bool false, .bool false, .bool false, .int .i64 0]) ∧ On w w' := by
  have h := decode_any 19#32 w
  have e : decOf 19#32 = ⟨8, 0, 0, 0, 0, 0, 0, false, false, false, 0⟩ := by decide +kernel
  rw [e] at h
  exact h
theorem awake3_yes (w : World) :
    Calls Tryd.prog 5 #[] w fun e w' => e = .returned (.bool true) ∧ On w w' := by
  have HB := Lib.hid (On.refl w)
  go_enter Tryd.func5, Tryd.ntmps5
  go_wp2_with (first | (go_at_call 12; refine (dec_first _).mono ?_; rintro e wn ⟨rfl, h⟩; replace HB := tr HB h; clear h) | (go_at_call 8; refine (ser_0 _ _ _ _ _ _ _ _ _ _ _).mono ?_; rintro e wn ⟨rfl, hb'⟩; replace HB := Lib.hid ((HB.out.alloc _).trans hb'); clear hb'))
  go_ret
  exact ⟨rfl, HB.out⟩
end Go.Proofs.YtjnalgilkdoalaaDoor
