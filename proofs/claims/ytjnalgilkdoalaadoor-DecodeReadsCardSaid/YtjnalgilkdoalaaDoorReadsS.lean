/- What the reference's Serial and Memory come to, and its Reads of any instruction that has a word. Conditions: the instruction's word. -/
import Derived.Test.YtjnalgilkdoalaaDoorDecA
import Derived.Test.YtjnalgilkdoalaaDoorReadsR
namespace Go.Proofs.YtjnalgilkdoalaaDoor
open Go.RowKit
set_option linter.unusedSimpArgs false
set_option linter.unusedVariables false

set_option maxRecDepth 100000 in
set_option maxHeartbeats 4000000 in
theorem rser_11 (f d s t m z k : Int) (a b c : Bool) (w : World) :
    Calls Tryd.prog 9 #[.agg #[.int .i64 11, .int .i64 f, .int .i64 d, .int .i64 s, .int .i64 t, .int .u64 m, .int .i64 z, .bool a, .bool b, .bool c, .int .i64 k]] w fun e w' => e = .returned (.bool true) ∧ On w w' := by
  go_enter Tryd.func9, Tryd.ntmps9
  go_wp2
  go_ret
  exact ⟨rfl, (On.refl w).alloc _⟩
set_option maxRecDepth 100000 in
set_option maxHeartbeats 4000000 in
theorem rser_12 (f d s t m z k : Int) (a b c : Bool) (w : World) :
    Calls Tryd.prog 9 #[.agg #[.int .i64 12, .int .i64 f, .int .i64 d, .int .i64 s, .int .i64 t, .int .u64 m, .int .i64 z, .bool a, .bool b, .bool c, .int .i64 k]] w fun e w' => e = .returned (.bool true) ∧ On w w' := by
  go_enter Tryd.func9, Tryd.ntmps9
  go_wp2
  go_ret
  exact ⟨rfl, (On.refl w).alloc _⟩
set_option maxRecDepth 100000 in
set_option maxHeartbeats 4000000 in
theorem rser_13 (f d s t m z k : Int) (a b c : Bool) (w : World) :
    Calls Tryd.prog 9 #[.agg #[.int .i64 13, .int .i64 f, .int .i64 d, .int .i64 s, .int .i64 t, .int .u64 m, .int .i64 z, .bool a, .bool b, .bool c, .int .i64 k]] w fun e w' => e = .returned (.bool true) ∧ On w w' := by
  go_enter Tryd.func9, Tryd.ntmps9
  go_wp2
  go_ret
  exact ⟨rfl, (On.refl w).alloc _⟩
set_option maxRecDepth 100000 in
set_option maxHeartbeats 4000000 in
theorem rser_14 (f d s t m z k : Int) (a b c : Bool) (w : World) :
    Calls Tryd.prog 9 #[.agg #[.int .i64 14, .int .i64 f, .int .i64 d, .int .i64 s, .int .i64 t, .int .u64 m, .int .i64 z, .bool a, .bool b, .bool c, .int .i64 k]] w fun e w' => e = .returned (.bool true) ∧ On w w' := by
  go_enter Tryd.func9, Tryd.ntmps9
  go_wp2
  go_ret
  exact ⟨rfl, (On.refl w).alloc _⟩
set_option maxRecDepth 100000 in
set_option maxHeartbeats 4000000 in
theorem rser_15 (f d s t m z k : Int) (a b c : Bool) (w : World) :
    Calls Tryd.prog 9 #[.agg #[.int .i64 15, .int .i64 f, .int .i64 d, .int .i64 s, .int .i64 t, .int .u64 m, .int .i64 z, .bool a, .bool b, .bool c, .int .i64 k]] w fun e w' => e = .returned (.bool true) ∧ On w w' := by
  go_enter Tryd.func9, Tryd.ntmps9
  go_wp2
  go_ret
  exact ⟨rfl, (On.refl w).alloc _⟩
set_option maxRecDepth 100000 in
set_option maxHeartbeats 4000000 in
theorem rser_16 (f d s t m z k : Int) (a b c : Bool) (w : World) :
    Calls Tryd.prog 9 #[.agg #[.int .i64 16, .int .i64 f, .int .i64 d, .int .i64 s, .int .i64 t, .int .u64 m, .int .i64 z, .bool a, .bool b, .bool c, .int .i64 k]] w fun e w' => e = .returned (.bool true) ∧ On w w' := by
  go_enter Tryd.func9, Tryd.ntmps9
  go_wp2
  go_ret
  exact ⟨rfl, (On.refl w).alloc _⟩
set_option maxRecDepth 100000 in
set_option maxHeartbeats 4000000 in
theorem rser_17 (f d s t m z k : Int) (a b c : Bool) (w : World) :
    Calls Tryd.prog 9 #[.agg #[.int .i64 17, .int .i64 f, .int .i64 d, .int .i64 s, .int .i64 t, .int .u64 m, .int .i64 z, .bool a, .bool b, .bool c, .int .i64 k]] w fun e w' => e = .returned (.bool true) ∧ On w w' := by
  go_enter Tryd.func9, Tryd.ntmps9
  go_wp2
  go_ret
  exact ⟨rfl, (On.refl w).alloc _⟩
set_option maxRecDepth 100000 in
set_option maxHeartbeats 4000000 in
theorem rser_18 (f d s t m z k : Int) (a b c : Bool) (w : World) :
    Calls Tryd.prog 9 #[.agg #[.int .i64 18, .int .i64 f, .int .i64 d, .int .i64 s, .int .i64 t, .int .u64 m, .int .i64 z, .bool a, .bool b, .bool c, .int .i64 k]] w fun e w' => e = .returned (.bool true) ∧ On w w' := by
  go_enter Tryd.func9, Tryd.ntmps9
  go_wp2
  go_ret
  exact ⟨rfl, (On.refl w).alloc _⟩
set_option maxRecDepth 100000 in
set_option maxHeartbeats 4000000 in
theorem rser_19 (f d s t m z k : Int) (a b c : Bool) (w : World) :
    Calls Tryd.prog 9 #[.agg #[.int .i64 19, .int .i64 f, .int .i64 d, .int .i64 s, .int .i64 t, .int .u64 m, .int .i64 z, .bool a, .bool b, .bool c, .int .i64 k]] w fun e w' => e = .returned (.bool true) ∧ On w w' := by
  go_enter Tryd.func9, Tryd.ntmps9
  go_wp2
  go_ret
  exact ⟨rfl, (On.refl w).alloc _⟩
set_option maxRecDepth 100000 in
set_option maxHeartbeats 4000000 in
theorem rser_0 (f d s t m z k : Int) (a b c : Bool) (w : World) :
    Calls Tryd.prog 9 #[.agg #[.int .i64 0, .int .i64 f, .int .i64 d, .int .i64 s, .int .i64 t, .int .u64 m, .int .i64 z, .bool a, .bool b, .bool c, .int .i64 k]] w fun e w' => e = .returned (.bool true) ∧ On w w' := by
  go_enter Tryd.func9, Tryd.ntmps9
  go_wp2
  go_ret
  exact ⟨rfl, (On.refl w).alloc _⟩
set_option maxRecDepth 100000 in
set_option maxHeartbeats 4000000 in
theorem rser_n (o : Int) (f d s t m z k : Int) (a b c : Bool) (w : World) (N : serOf o = false) :
    Calls Tryd.prog 9 #[.agg #[.int .i64 o, .int .i64 f, .int .i64 d, .int .i64 s, .int .i64 t, .int .u64 m, .int .i64 z, .bool a, .bool b, .bool c, .int .i64 k]] w fun e w' => e = .returned (.bool false) ∧ On w w' := by
  unfold serOf at N
  simp only [Bool.or_eq_false_iff] at N
  obtain ⟨⟨⟨⟨⟨⟨⟨⟨⟨b0, b1⟩, b2⟩, b3⟩, b4⟩, b5⟩, b6⟩, b7⟩, b8⟩, b9⟩ := N
  go_enter Tryd.func9, Tryd.ntmps9
  go_wp2
  go_ret
  exact ⟨rfl, (On.refl w).alloc _⟩
theorem rser_any (o : Int) (f d s t m z k : Int) (a b c : Bool) (w : World) :
    Calls Tryd.prog 9 #[.agg #[.int .i64 o, .int .i64 f, .int .i64 d, .int .i64 s, .int .i64 t, .int .u64 m, .int .i64 z, .bool a, .bool b, .bool c, .int .i64 k]] w fun e w' => e = .returned (.bool (serOf o)) ∧ On w w' := by
  by_cases n11 : o = 11
  · subst n11; exact rser_11 f d s t m z k a b c w
  by_cases n12 : o = 12
  · subst n12; exact rser_12 f d s t m z k a b c w
  by_cases n13 : o = 13
  · subst n13; exact rser_13 f d s t m z k a b c w
  by_cases n14 : o = 14
  · subst n14; exact rser_14 f d s t m z k a b c w
  by_cases n15 : o = 15
  · subst n15; exact rser_15 f d s t m z k a b c w
  by_cases n16 : o = 16
  · subst n16; exact rser_16 f d s t m z k a b c w
  by_cases n17 : o = 17
  · subst n17; exact rser_17 f d s t m z k a b c w
  by_cases n18 : o = 18
  · subst n18; exact rser_18 f d s t m z k a b c w
  by_cases n19 : o = 19
  · subst n19; exact rser_19 f d s t m z k a b c w
  by_cases n0 : o = 0
  · subst n0; exact rser_0 f d s t m z k a b c w
  have N : serOf o = false := by unfold serOf; simp [n11, n12, n13, n14, n15, n16, n17, n18, n19, n0]
  rw [N]
  exact rser_n o f d s t m z k a b c w N
set_option maxRecDepth 100000 in
set_option maxHeartbeats 4000000 in
theorem rmem_6 (f d s t m z k : Int) (a b c : Bool) (w : World) :
    Calls Tryd.prog 11 #[.agg #[.int .i64 6, .int .i64 f, .int .i64 d, .int .i64 s, .int .i64 t, .int .u64 m, .int .i64 z, .bool a, .bool b, .bool c, .int .i64 k]] w fun e w' => e = .returned (.bool true) ∧ On w w' := by
  go_enter Tryd.func11, Tryd.ntmps11
  go_wp2
  go_ret
  exact ⟨rfl, (On.refl w).alloc _⟩
set_option maxRecDepth 100000 in
set_option maxHeartbeats 4000000 in
theorem rmem_7 (f d s t m z k : Int) (a b c : Bool) (w : World) :
    Calls Tryd.prog 11 #[.agg #[.int .i64 7, .int .i64 f, .int .i64 d, .int .i64 s, .int .i64 t, .int .u64 m, .int .i64 z, .bool a, .bool b, .bool c, .int .i64 k]] w fun e w' => e = .returned (.bool true) ∧ On w w' := by
  go_enter Tryd.func11, Tryd.ntmps11
  go_wp2
  go_ret
  exact ⟨rfl, (On.refl w).alloc _⟩
set_option maxRecDepth 100000 in
set_option maxHeartbeats 4000000 in
theorem rmem_20 (f d s t m z k : Int) (a b c : Bool) (w : World) :
    Calls Tryd.prog 11 #[.agg #[.int .i64 20, .int .i64 f, .int .i64 d, .int .i64 s, .int .i64 t, .int .u64 m, .int .i64 z, .bool a, .bool b, .bool c, .int .i64 k]] w fun e w' => e = .returned (.bool true) ∧ On w w' := by
  go_enter Tryd.func11, Tryd.ntmps11
  go_wp2
  go_ret
  exact ⟨rfl, (On.refl w).alloc _⟩
set_option maxRecDepth 100000 in
set_option maxHeartbeats 4000000 in
theorem rmem_21 (f d s t m z k : Int) (a b c : Bool) (w : World) :
    Calls Tryd.prog 11 #[.agg #[.int .i64 21, .int .i64 f, .int .i64 d, .int .i64 s, .int .i64 t, .int .u64 m, .int .i64 z, .bool a, .bool b, .bool c, .int .i64 k]] w fun e w' => e = .returned (.bool true) ∧ On w w' := by
  go_enter Tryd.func11, Tryd.ntmps11
  go_wp2
  go_ret
  exact ⟨rfl, (On.refl w).alloc _⟩
set_option maxRecDepth 100000 in
set_option maxHeartbeats 4000000 in
theorem rmem_22 (f d s t m z k : Int) (a b c : Bool) (w : World) :
    Calls Tryd.prog 11 #[.agg #[.int .i64 22, .int .i64 f, .int .i64 d, .int .i64 s, .int .i64 t, .int .u64 m, .int .i64 z, .bool a, .bool b, .bool c, .int .i64 k]] w fun e w' => e = .returned (.bool true) ∧ On w w' := by
  go_enter Tryd.func11, Tryd.ntmps11
  go_wp2
  go_ret
  exact ⟨rfl, (On.refl w).alloc _⟩
set_option maxRecDepth 100000 in
set_option maxHeartbeats 4000000 in
theorem rmem_n (o : Int) (f d s t m z k : Int) (a b c : Bool) (w : World) (N : memOf o = false) :
    Calls Tryd.prog 11 #[.agg #[.int .i64 o, .int .i64 f, .int .i64 d, .int .i64 s, .int .i64 t, .int .u64 m, .int .i64 z, .bool a, .bool b, .bool c, .int .i64 k]] w fun e w' => e = .returned (.bool false) ∧ On w w' := by
  unfold memOf at N
  simp only [Bool.or_eq_false_iff] at N
  obtain ⟨⟨⟨⟨b0, b1⟩, b2⟩, b3⟩, b4⟩ := N
  go_enter Tryd.func11, Tryd.ntmps11
  go_wp2
  go_ret
  exact ⟨rfl, (On.refl w).alloc _⟩
theorem rmem_any (o : Int) (f d s t m z k : Int) (a b c : Bool) (w : World) :
    Calls Tryd.prog 11 #[.agg #[.int .i64 o, .int .i64 f, .int .i64 d, .int .i64 s, .int .i64 t, .int .u64 m, .int .i64 z, .bool a, .bool b, .bool c, .int .i64 k]] w fun e w' => e = .returned (.bool (memOf o)) ∧ On w w' := by
  by_cases n6 : o = 6
  · subst n6; exact rmem_6 f d s t m z k a b c w
  by_cases n7 : o = 7
  · subst n7; exact rmem_7 f d s t m z k a b c w
  by_cases n20 : o = 20
  · subst n20; exact rmem_20 f d s t m z k a b c w
  by_cases n21 : o = 21
  · subst n21; exact rmem_21 f d s t m z k a b c w
  by_cases n22 : o = 22
  · subst n22; exact rmem_22 f d s t m z k a b c w
  have N : memOf o = false := by unfold memOf; simp [n6, n7, n20, n21, n22]
  rw [N]
  exact rmem_n o f d s t m z k a b c w N
theorem rreads_yes (o f d s t z k : Int) (m : BitVec 64) (a b c : Bool) (y : BitVec 32) (w : World) (R : Roles ⟨o, f, d, s, t, m, z, a, b, c, k⟩) (HE : Hid (∀ w, Calls Tryd.prog 15 #[.agg #[.int .i64 o, .int .i64 f, .int .i64 d, .int .i64 s, .int .i64 t, .int .u64 (u m), .int .i64 z, .bool a, .bool b, .bool c, .int .i64 k]] w fun e w' => e = .returned (.tuple #[.int .u32 (q y), .int .i64 0]) ∧ On w w')) : Calls Tryd.prog 7 #[.agg #[.int .i64 o, .int .i64 f, .int .i64 d, .int .i64 s, .int .i64 t, .int .u64 (u m), .int .i64 z, .bool a, .bool b, .bool c, .int .i64 k]] w fun e w' => e = .returned (.agg #[.int .i64 (if c = true then 0 else s), .int .i64 t, .int .i64 d, .int .i64 (whenOf o d)]) ∧ On w w' := by
  obtain ⟨-, -, hc, hs, ht, -⟩ := R
  dsimp only at hc hs ht
  by_cases hd : d = 0
  · by_cases n4 : o = 4
    · subst n4
      have hw : whenOf 4 d = 0 := by unfold whenOf; rw [if_pos hd]
      obtain rfl : t = 0 := by omega
      obtain rfl : c = false := by cases c; rfl; exact absurd (hc rfl) (by decide)
      rw [hw]; exact rr_4z f d s 0 z k m a b false y w (Lib.hid hd) HE
    by_cases n6 : o = 6
    · subst n6
      have hw : whenOf 6 d = 0 := by unfold whenOf; rw [if_pos hd]
      obtain rfl : t = 0 := by omega
      obtain rfl : c = false := by cases c; rfl; exact absurd (hc rfl) (by decide)
      rw [hw]; exact rr_6z f d s 0 z k m a b false y w (Lib.hid hd) HE
    by_cases n8 : o = 8
    · subst n8
      have hw : whenOf 8 d = 0 := by unfold whenOf; rw [if_pos hd]
      obtain rfl : t = 0 := by omega
      obtain rfl : c = false := by cases c; rfl; exact absurd (hc rfl) (by decide)
      rw [hw]; exact rr_8z f d s 0 z k m a b false y w (Lib.hid hd) HE
    by_cases n20 : o = 20
    · subst n20
      have hw : whenOf 20 d = 0 := by unfold whenOf; rw [if_pos hd]
      obtain rfl : t = 0 := by omega
      obtain rfl : c = false := by cases c; rfl; exact absurd (hc rfl) (by decide)
      rw [hw]; exact rr_20z f d s 0 z k m a b false y w (Lib.hid hd) HE
    by_cases n19 : o = 19
    · subst n19
      have hw : whenOf 19 d = 0 := by unfold whenOf; rw [if_pos hd]
      obtain rfl : t = 0 := by omega
      rw [hw]; cases c; exact rr_19fz f d s 0 z k m a b y w (Lib.hid hd) HE; exact rr_19tz f d s 0 z k m a b y w (Lib.hid hd) HE
    by_cases n5 : o = 5
    · subst n5
      have hw : whenOf 5 d = 0 := by unfold whenOf; rw [if_pos hd]
      obtain rfl : c = false := by cases c; rfl; exact absurd (hc rfl) (by decide)
      rw [hw]; exact rr_5z f d s t z k m a b false y w (Lib.hid hd) HE
    by_cases n7 : o = 7
    · subst n7
      have hw : whenOf 7 d = 0 := by unfold whenOf; rw [if_pos hd]
      obtain rfl : c = false := by cases c; rfl; exact absurd (hc rfl) (by decide)
      rw [hw]; exact rr_7z f d s t z k m a b false y w (Lib.hid hd) HE
    by_cases n9 : o = 9
    · subst n9
      have hw : whenOf 9 d = 0 := by unfold whenOf; rw [if_pos hd]
      obtain rfl : c = false := by cases c; rfl; exact absurd (hc rfl) (by decide)
      rw [hw]; exact rr_9z f d s t z k m a b false y w (Lib.hid hd) HE
    by_cases n10 : o = 10
    · subst n10
      have hw : whenOf 10 d = 0 := by unfold whenOf; rw [if_pos hd]
      obtain rfl : c = false := by cases c; rfl; exact absurd (hc rfl) (by decide)
      rw [hw]; exact rr_10z f d s t z k m a b false y w (Lib.hid hd) HE
    by_cases n18 : o = 18
    · subst n18
      have hw : whenOf 18 d = 0 := by unfold whenOf; rw [if_pos hd]
      obtain rfl : c = false := by cases c; rfl; exact absurd (hc rfl) (by decide)
      rw [hw]; exact rr_18z f d s t z k m a b false y w (Lib.hid hd) HE
    by_cases n21 : o = 21
    · subst n21
      have hw : whenOf 21 d = 0 := by unfold whenOf; rw [if_pos hd]
      obtain rfl : c = false := by cases c; rfl; exact absurd (hc rfl) (by decide)
      rw [hw]; exact rr_21z f d s t z k m a b false y w (Lib.hid hd) HE
    by_cases n22 : o = 22
    · subst n22
      have hw : whenOf 22 d = 0 := by unfold whenOf; rw [if_pos hd]
      obtain rfl : c = false := by cases c; rfl; exact absurd (hc rfl) (by decide)
      rw [hw]; exact rr_22z f d s t z k m a b false y w (Lib.hid hd) HE
    obtain rfl : s = 0 := by omega
    obtain rfl : t = 0 := by omega
    have hw : whenOf o d = 0 := by unfold whenOf; rw [if_pos hd]
    rw [hw, show (if c = true then (0 : Int) else 0) = 0 by cases c <;> rfl]; exact rr_oz o f d 0 0 z k m a b c y w (Lib.hid ⟨n4, n6, n8, n20, n19, n5, n7, n9, n10, n18, n21, n22⟩) (Lib.hid hd) HE
  · by_cases n4 : o = 4
    · subst n4
      have hw : whenOf 4 d = 1 := by unfold whenOf; rw [if_neg hd, if_neg (by omega)]
      obtain rfl : t = 0 := by omega
      obtain rfl : c = false := by cases c; rfl; exact absurd (hc rfl) (by decide)
      rw [hw]; exact rr_4n f d s 0 z k m a b false y w (Lib.hid hd) HE
    by_cases n6 : o = 6
    · subst n6
      have hw : whenOf 6 d = 2 := by unfold whenOf; rw [if_neg hd, if_pos (by omega)]
      obtain rfl : t = 0 := by omega
      obtain rfl : c = false := by cases c; rfl; exact absurd (hc rfl) (by decide)
      rw [hw]; exact rr_6n f d s 0 z k m a b false y w (Lib.hid hd) HE
    by_cases n8 : o = 8
    · subst n8
      have hw : whenOf 8 d = 1 := by unfold whenOf; rw [if_neg hd, if_neg (by omega)]
      obtain rfl : t = 0 := by omega
      obtain rfl : c = false := by cases c; rfl; exact absurd (hc rfl) (by decide)
      rw [hw]; exact rr_8n f d s 0 z k m a b false y w (Lib.hid hd) HE
    by_cases n20 : o = 20
    · subst n20
      have hw : whenOf 20 d = 2 := by unfold whenOf; rw [if_neg hd, if_pos (by omega)]
      obtain rfl : t = 0 := by omega
      obtain rfl : c = false := by cases c; rfl; exact absurd (hc rfl) (by decide)
      rw [hw]; exact rr_20n f d s 0 z k m a b false y w (Lib.hid hd) HE
    by_cases n19 : o = 19
    · subst n19
      have hw : whenOf 19 d = 2 := by unfold whenOf; rw [if_neg hd, if_pos (by omega)]
      obtain rfl : t = 0 := by omega
      rw [hw]; cases c; exact rr_19fn f d s 0 z k m a b y w (Lib.hid hd) HE; exact rr_19tn f d s 0 z k m a b y w (Lib.hid hd) HE
    by_cases n5 : o = 5
    · subst n5
      have hw : whenOf 5 d = 1 := by unfold whenOf; rw [if_neg hd, if_neg (by omega)]
      obtain rfl : c = false := by cases c; rfl; exact absurd (hc rfl) (by decide)
      rw [hw]; exact rr_5n f d s t z k m a b false y w (Lib.hid hd) HE
    by_cases n7 : o = 7
    · subst n7
      have hw : whenOf 7 d = 1 := by unfold whenOf; rw [if_neg hd, if_neg (by omega)]
      obtain rfl : c = false := by cases c; rfl; exact absurd (hc rfl) (by decide)
      rw [hw]; exact rr_7n f d s t z k m a b false y w (Lib.hid hd) HE
    by_cases n9 : o = 9
    · subst n9
      have hw : whenOf 9 d = 1 := by unfold whenOf; rw [if_neg hd, if_neg (by omega)]
      obtain rfl : c = false := by cases c; rfl; exact absurd (hc rfl) (by decide)
      rw [hw]; exact rr_9n f d s t z k m a b false y w (Lib.hid hd) HE
    by_cases n10 : o = 10
    · subst n10
      have hw : whenOf 10 d = 1 := by unfold whenOf; rw [if_neg hd, if_neg (by omega)]
      obtain rfl : c = false := by cases c; rfl; exact absurd (hc rfl) (by decide)
      rw [hw]; exact rr_10n f d s t z k m a b false y w (Lib.hid hd) HE
    by_cases n18 : o = 18
    · subst n18
      have hw : whenOf 18 d = 1 := by unfold whenOf; rw [if_neg hd, if_neg (by omega)]
      obtain rfl : c = false := by cases c; rfl; exact absurd (hc rfl) (by decide)
      rw [hw]; exact rr_18n f d s t z k m a b false y w (Lib.hid hd) HE
    by_cases n21 : o = 21
    · subst n21
      have hw : whenOf 21 d = 2 := by unfold whenOf; rw [if_neg hd, if_pos (by omega)]
      obtain rfl : c = false := by cases c; rfl; exact absurd (hc rfl) (by decide)
      rw [hw]; exact rr_21n f d s t z k m a b false y w (Lib.hid hd) HE
    by_cases n22 : o = 22
    · subst n22
      have hw : whenOf 22 d = 2 := by unfold whenOf; rw [if_neg hd, if_pos (by omega)]
      obtain rfl : c = false := by cases c; rfl; exact absurd (hc rfl) (by decide)
      rw [hw]; exact rr_22n f d s t z k m a b false y w (Lib.hid hd) HE
    obtain rfl : s = 0 := by omega
    obtain rfl : t = 0 := by omega
    have hw : whenOf o d = 1 := by unfold whenOf; rw [if_neg hd, if_neg (by omega)]
    rw [hw, show (if c = true then (0 : Int) else 0) = 0 by cases c <;> rfl]; exact rr_on o f d 0 0 z k m a b c y w (Lib.hid ⟨n4, n6, n8, n20, n19, n5, n7, n9, n10, n18, n21, n22⟩) (Lib.hid hd) HE
/-- an instruction's registers are fields of its word -/
def Places (x : BitVec 32) (i : Ins) : Prop := (i.rs1 = 0 ∨ i.rs1 = fi x 19 15) ∧ (i.rs2 = 0 ∨ i.rs2 = fi x 24 20) ∧ (i.rd = 0 ∨ i.rd = fi x 11 7)
theorem zero_places (x : BitVec 32) : Places x Ins.zero := ⟨.inl rfl, .inl rfl, .inl rfl⟩
theorem dec_places (x : BitVec 32) : Places x (decOf x) := by
  refine dec_elim (P := Places x) x ?_ ?_ ?_ ?_ ?_ ?_ ?_ ?_ ?_ ?_ ?_ ?_ ?_ ?_ ?_
  all_goals (try intro c)
  all_goals (repeat' split)
  all_goals (try unfold numOf)
  all_goals (try unfold regOf)
  all_goals (try unfold amoOf)
  all_goals (try unfold sysOf)
  all_goals (repeat' split)
  all_goals first | exact zero_places x | (refine ⟨?_, ?_, ?_⟩ <;> first | exact .inl rfl | exact .inr rfl)
end Go.Proofs.YtjnalgilkdoalaaDoor
