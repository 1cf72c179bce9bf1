/- What the reference's Branch and Target come to, and package alu's Target, as words of 64 bits; the laws' first test. Conditions: none. -/
import Derived.Test.YtomecgfodchegaaAluS
import Derived.Test.YtomecgfodchegaaOn
namespace Go.Proofs.Ytomecgfodchegaa
open Go.RowKit

theorem rbranch_any (f : Int) (a b : BitVec 64) (w : World) :
    Calls Try.prog 15 #[.int .i64 f, .int .u64 (u a), .int .u64 (u b)] w fun e w' => e = .returned (.bool (br f a b)) ∧ w = w' := by
  by_cases h0 : f = 0
  · subst h0
    have H : Hid ((u a == u b) = br 0 a b) := Lib.hid (u_beq a b)
    go_enter Try.func15, Try.ntmps15
    go_wp2
    go_ret
    exact ⟨by rw [← H.out]; rfl, rfl⟩
  by_cases h1 : f = 1
  · subst h1
    have H : Hid ((u a != u b) = br 1 a b) := Lib.hid (by show (!(u a == u b)) = _; rw [u_beq]; rfl)
    go_enter Try.func15, Try.ntmps15
    go_wp2
    go_ret
    exact ⟨by rw [← H.out]; rfl, rfl⟩
  by_cases h4 : f = 4
  · subst h4
    go_enter Try.func15, Try.ntmps15
    go_wp2_with (go_at_call 24; refine (rless_any _ _ _).mono ?_; rintro e w' ⟨rfl, rfl⟩)
    go_ret
    exact ⟨rfl, rfl⟩
  by_cases h5 : f = 5
  · subst h5
    go_enter Try.func15, Try.ntmps15
    go_wp2_with (go_at_call 24; refine (rless_any _ _ _).mono ?_; rintro e w' ⟨rfl, rfl⟩)
    go_ret
    exact ⟨rfl, rfl⟩
  by_cases h6 : f = 6
  · subst h6
    have H : Hid (decide (u a < u b) = br 6 a b) := Lib.hid (u_ltb a b)
    go_enter Try.func15, Try.ntmps15
    go_wp2
    go_ret
    exact ⟨by rw [← H.out]; rfl, rfl⟩
  by_cases h7 : f = 7
  · subst h7
    have H : Hid (decide (u b ≤ u a) = br 7 a b) := Lib.hid (by show _ = !a.ult b; rw [← u_ltb, ← decide_not, decide_eq_decide]; omega)
    go_enter Try.func15, Try.ntmps15
    go_wp2
    go_ret
    exact ⟨by rw [← H.out]; rfl, rfl⟩
  have H : Hid (br f a b = false) := Lib.hid (by unfold br; simp only [h0, h1, h4, h5, h6, h7, if_false])
  have e0 : (f == 0) = false := by simpa using h0
  have e1 : (f == 1) = false := by simpa using h1
  have e4 : (f == 4) = false := by simpa using h4
  have e5 : (f == 5) = false := by simpa using h5
  have e6 : (f == 6) = false := by simpa using h6
  have e7 : (f == 7) = false := by simpa using h7
  clear h0 h1 h4 h5 h6 h7
  go_enter Try.func15, Try.ntmps15
  go_wp2
  go_ret
  exact ⟨by rw [H.out]; rfl, rfl⟩
/-- where an instruction goes on -/
def tgt (o : Int) (m pc a : BitVec 64) : BitVec 64 := if o = 3 ∨ o = 5 then pc + m else if o = 4 then (a + m) &&& ~~~1#64 else pc + 4#64
theorem target_any (o : Int) (m pc v : BitVec 64) (f d s t z k : Int) (a b c : Bool) (w : World) :
    Calls Try.prog 16 #[.agg #[.int .i64 o, .int .i64 f, .int .i64 d, .int .i64 s, .int .i64 t, .int .u64 (u m), .int .i64 z, .bool a, .bool b, .bool c, .int .i64 k], .int .u64 (u pc), .int .u64 (u v)] w fun e w' => e = .returned (.int .u64 (u (tgt o m pc v))) ∧ On w w' := by
  by_cases h3 : o = 3
  · subst h3
    have H : Hid (IntKind.u64.wrap (u pc + u m) = u (tgt 3 m pc v)) := Lib.hid (by rw [u_add]; rfl)
    go_enter Try.func16, Try.ntmps16
    go_wp2
    go_ret
    exact ⟨by rw [← H.out]; rfl, (On.refl w).alloc _⟩
  by_cases h5 : o = 5
  · subst h5
    have H : Hid (IntKind.u64.wrap (u pc + u m) = u (tgt 5 m pc v)) := Lib.hid (by rw [u_add]; rfl)
    go_enter Try.func16, Try.ntmps16
    go_wp2
    go_ret
    exact ⟨by rw [← H.out]; rfl, (On.refl w).alloc _⟩
  by_cases h4 : o = 4
  · subst h4
    have H : Hid (bits BinOp.andNot IntKind.u64 (IntKind.u64.wrap (u v + u m)) 1 = u (tgt 4 m pc v)) := Lib.hid (by rw [u_add, u_one, u_andNot]; rfl)
    go_enter Try.func16, Try.ntmps16
    go_wp2
    go_ret
    exact ⟨by rw [← H.out]; rfl, (On.refl w).alloc _⟩
  have H : Hid (IntKind.u64.wrap (u pc + 4) = u (tgt o m pc v)) := Lib.hid (by unfold tgt; rw [if_neg (by omega), if_neg h4, show (4 : Int) = u 4#64 from rfl, u_add])
  have e3 : (o == 3) = false := by simpa using h3
  have e5 : (o == 5) = false := by simpa using h5
  have e4 : (o == 4) = false := by simpa using h4
  clear h3 h4 h5
  go_enter Try.func16, Try.ntmps16
  go_wp2
  go_ret
  exact ⟨by rw [← H.out]; rfl, (On.refl w).alloc _⟩
theorem rtarget_any (o : Int) (m pc v : BitVec 64) (f d s t z k : Int) (a b c : Bool) (w : World) :
    Calls Try.prog 17 #[.agg #[.int .i64 o, .int .i64 f, .int .i64 d, .int .i64 s, .int .i64 t, .int .u64 (u m), .int .i64 z, .bool a, .bool b, .bool c, .int .i64 k], .int .u64 (u pc), .int .u64 (u v)] w fun e w' => e = .returned (.int .u64 (u (tgt o m pc v))) ∧ On w w' := by
  by_cases h3 : o = 3
  · subst h3
    have H : Hid (IntKind.u64.wrap (u pc + u m) = u (tgt 3 m pc v)) := Lib.hid (by rw [u_add]; rfl)
    go_enter Try.func17, Try.ntmps17
    go_wp2
    go_ret
    exact ⟨by rw [← H.out]; rfl, (On.refl w).alloc _⟩
  by_cases h5 : o = 5
  · subst h5
    have H : Hid (IntKind.u64.wrap (u pc + u m) = u (tgt 5 m pc v)) := Lib.hid (by rw [u_add]; rfl)
    go_enter Try.func17, Try.ntmps17
    go_wp2
    go_ret
    exact ⟨by rw [← H.out]; rfl, (On.refl w).alloc _⟩
  by_cases h4 : o = 4
  · subst h4
    have H : Hid (bits BinOp.andNot IntKind.u64 (IntKind.u64.wrap (u v + u m)) 1 = u (tgt 4 m pc v)) := Lib.hid (by rw [u_add, u_one, u_andNot]; rfl)
    go_enter Try.func17, Try.ntmps17
    go_wp2
    go_ret
    exact ⟨by rw [← H.out]; rfl, (On.refl w).alloc _⟩
  have H : Hid (IntKind.u64.wrap (u pc + 4) = u (tgt o m pc v)) := Lib.hid (by unfold tgt; rw [if_neg (by omega), if_neg h4, show (4 : Int) = u 4#64 from rfl, u_add])
  have e3 : (o == 3) = false := by simpa using h3
  have e5 : (o == 5) = false := by simpa using h5
  have e4 : (o == 4) = false := by simpa using h4
  clear h3 h4 h5
  go_enter Try.func17, Try.ntmps17
  go_wp2
  go_ret
  exact ⟨by rw [← H.out]; rfl, (On.refl w).alloc _⟩
theorem alu_23 (w : World) : Calls Try.prog 12 #[.int .i64 0, .bool false, .int .u64 2, .int .u64 3] w fun e w' => e = .returned (.int .u64 5) ∧ w = w' := alu_any 0 false 2#64 3#64 w
theorem branch_11 (w : World) : Calls Try.prog 14 #[.int .i64 0, .int .u64 1, .int .u64 1] w fun e w' => e = .returned (.bool true) ∧ w = w' := branch_any 0 1#64 1#64 w
theorem awake4_yes (w : World) : Calls Try.prog 11 #[] w fun e w' => e = .returned (.bool true) ∧ w = w' := by
  go_enter Try.func11, Try.ntmps11
  go_wp2_with (first | (go_at_call 12; refine (alu_23 _).mono ?_; rintro e w' ⟨rfl, rfl⟩) | (go_at_call 14; refine (branch_11 _).mono ?_; rintro e w' ⟨rfl, rfl⟩))
  go_ret
  exact ⟨rfl, rfl⟩
end Go.Proofs.Ytomecgfodchegaa
