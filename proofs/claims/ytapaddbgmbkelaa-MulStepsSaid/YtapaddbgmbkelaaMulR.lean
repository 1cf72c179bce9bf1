/- What package muldiv's Result, prepare and the steps of a task come to; the laws' first test is in a text of its own. Conditions: none. -/
import Derived.Test.YtapaddbgmbkelaaMulQ
import Derived.Outline
namespace Go.Proofs.Ytapaddbgmbkelaa
open Go.RowKit

/-- an operand, made ready -/
def prp (f : Int) (wd : Bool) (a : BitVec 64) : BitVec 64 := if wd then (if f == 5 || f == 7 then z32 a else s32 a) else a
theorem tres_prp (f : Int) (wd : Bool) (a b : BitVec 64) : tres f wd (prp f wd a) (prp f wd b) = mres f wd a b := by
  cases wd
  · unfold tres mres prp
    rcases fun_cases f with rfl | rfl | rfl | rfl | rfl | rfl | rfl | rfl | ⟨e0, e1, e2, e3, e4, e5, e6, e7⟩
    iterate 8
      · rfl
    · have hn : ¬ (0 ≤ f ∧ f ≤ 7) := by simp only [beq_eq_false_iff_ne] at *; omega
      have hd : dfd f false = false := by unfold dfd dvs; rw [e0, e1, e2, e3, e4, e5, e6, e7]; rfl
      rw [hd]; show (0 : BitVec 64) = mW f a b; rw [mW_none f a b hn]
  · unfold tres mres prp
    rcases fun_cases f with rfl | rfl | rfl | rfl | rfl | rfl | rfl | rfl | ⟨e0, e1, e2, e3, e4, e5, e6, e7⟩
    iterate 8
      · rfl
    · have hd : dfd f true = false := by unfold dfd dvs; rw [e0, e1, e2, e3, e4, e5, e6, e7]; rfl
      simp only [beq_eq_false_iff_ne] at e0 e4 e5 e6 e7
      rw [hd]; show (0 : BitVec 64) = mN f a b; unfold mN; rw [if_neg (by simp [e0, e4, e6]), if_neg (by simp [e5, e7])]
theorem prepare_any (f : Int) (wd : Bool) (a b : BitVec 64) (w : World) :
    Calls Try.prog 21 #[.int .i64 f, .bool wd, .int .u64 (u a), .int .u64 (u b)] w fun e w' => e = .returned (.agg #[.int .i64 f, .bool wd, .int .u64 (u (prp f wd a)), .int .u64 (u (prp f wd b))]) ∧ On w w' := by
  have ha := u_nonneg a
  have hb := u_nonneg b
  have M1 : Hid (u a % 4294967296 = u (z32 a)) := Lib.hid (by rw [← mod_z32, IntKind.wrap_u64]; omega)
  have M2 : Hid (u b % 4294967296 = u (z32 b)) := Lib.hid (by rw [← mod_z32, IntKind.wrap_u64]; omega)
  cases wd
  · go_enter Try.func21, Try.ntmps21
    go_wp2
    exact bodyPost_ret (v := .agg #[.int .i64 f, .bool false, .int .u64 (u a), .int .u64 (u b)]) (by simp [results, Try.results21, go_sem]) rfl ⟨rfl, ((On.refl w).alloc _)⟩
  · cases h5 : (f == 5)
    · cases h7 : (f == 7)
      · have P1 : Hid (prp f true a = s32 a) := Lib.hid (by unfold prp; rw [h5, h7]; rfl)
        have P2 : Hid (prp f true b = s32 b) := Lib.hid (by unfold prp; rw [h5, h7]; rfl)
        go_enter Try.func21, Try.ntmps21
        go_wp2_with (go_at_call 30; refine (mextend_any _ _).mono ?_; rintro e w' ⟨rfl, rfl⟩)
        exact bodyPost_ret (v := .agg #[.int .i64 f, .bool true, .int .u64 (u (s32 a)), .int .u64 (u (s32 b))]) (by simp [results, Try.results21, go_sem]) rfl ⟨by rw [P1.out, P2.out], ((On.refl w).alloc _)⟩
      · have P1 : Hid (prp f true a = z32 a) := Lib.hid (by unfold prp; rw [h5, h7]; rfl)
        have P2 : Hid (prp f true b = z32 b) := Lib.hid (by unfold prp; rw [h5, h7]; rfl)
        go_enter Try.func21, Try.ntmps21
        go_wp2
        exact bodyPost_ret (v := .agg #[.int .i64 f, .bool true, .int .u64 (u a % 4294967296), .int .u64 (u b % 4294967296)]) (by simp [results, Try.results21, go_sem]) rfl ⟨by rw [P1.out, P2.out, M1.out, M2.out], ((On.refl w).alloc _)⟩
    · have P1 : Hid (prp f true a = z32 a) := Lib.hid (by unfold prp; rw [h5]; rfl)
      have P2 : Hid (prp f true b = z32 b) := Lib.hid (by unfold prp; rw [h5]; rfl)
      go_enter Try.func21, Try.ntmps21
      go_wp2
      exact bodyPost_ret (v := .agg #[.int .i64 f, .bool true, .int .u64 (u a % 4294967296), .int .u64 (u b % 4294967296)]) (by simp [results, Try.results21, go_sem]) rfl ⟨by rw [P1.out, P2.out, M1.out, M2.out], ((On.refl w).alloc _)⟩
theorem mresult_any (f : Int) (wd : Bool) (a b : BitVec 64) (w : World) :
    Calls Try.prog 12 #[.int .i64 f, .bool wd, .int .u64 (u a), .int .u64 (u b)] w fun e w' => e = .returned (.int .u64 (u (mres f wd a b))) ∧ On w w' := by
  have H := Lib.hid (tres_prp f wd a b)
  have hb := On.refl w
  go_enter Try.func12, Try.ntmps12
  go_wp2_with (first | (go_at_call 21; refine (prepare_any _ _ _ _ _).mono ?_; rintro e wn ⟨rfl, hb'⟩; have hb := hb.trans hb'; clear hb') | (go_at_call 22; refine (result_any _ _ _ _ _).mono ?_; rintro e wn ⟨rfl, hb'⟩; have hb := hb.trans hb'; clear hb'))
  go_ret
  exact ⟨by rw [← H.out]; rfl, hb⟩
/-- is it the smallest by -1? -/
def ovf (f : Int) (wd : Bool) (a b : BitVec 64) : Bool := (f == 4 || f == 6) && (u a == (if wd then 18446744071562067968 else 9223372036854775808) && u b == 18446744073709551615)
theorem overflows_any (f : Int) (wd : Bool) (a b : BitVec 64) (w : World) :
    Calls Try.prog 39 #[.agg #[.int .i64 f, .bool wd, .int .u64 (u a), .int .u64 (u b)]] w fun e w' => e = .returned (.bool (ovf f wd a b)) ∧ On w w' := by
  have H : Hid (ovf f wd a b = ((f == 4 || f == 6) && (u a == (if wd then 18446744071562067968 else 9223372036854775808) && u b == 18446744073709551615))) := Lib.hid rfl
  cases wd
  · cases hx : (u a == 9223372036854775808)
    all_goals
      simp only [if_false, Bool.false_eq_true, hx] at H
      cases h4 : (f == 4)
      · cases h6 : (f == 6)
        all_goals
          rw [h4, h6] at H
          go_enter Try.func39, Try.ntmps39
          go_wp2
          go_ret
          exact ⟨by rw [H.out]; rfl, (On.refl w).alloc _⟩
      · rw [h4] at H
        go_enter Try.func39, Try.ntmps39
        go_wp2
        go_ret
        exact ⟨by rw [H.out]; rfl, (On.refl w).alloc _⟩
  · cases hx : (u a == 18446744071562067968)
    all_goals
      simp only [if_true, hx] at H
      cases h4 : (f == 4)
      · cases h6 : (f == 6)
        all_goals
          rw [h4, h6] at H
          go_enter Try.func39, Try.ntmps39
          go_wp2
          go_ret
          exact ⟨by rw [H.out]; rfl, (On.refl w).alloc _⟩
      · rw [h4] at H
        go_enter Try.func39, Try.ntmps39
        go_wp2
        go_ret
        exact ⟨by rw [H.out]; rfl, (On.refl w).alloc _⟩
/-- how many steps a task takes -/
def stp (f : Int) (wd : Bool) (a b : BitVec 64) : Int := if dvs f && (u b == 0 || ovf f wd a b) then 1 else if wd then 32 else 64
theorem steps_any (f : Int) (wd : Bool) (a b : BitVec 64) (w : World) :
    Calls Try.prog 29 #[.agg #[.int .i64 f, .bool wd, .int .u64 (u a), .int .u64 (u b)]] w fun e w' => e = .returned (.int .i64 (stp f wd a b)) ∧ On w w' := by
  have c0 : ∀ wr, On (w.alloc (.cells #[.int .i64 f, .bool wd, .int .u64 (u a), .int .u64 (u b)] 45)) wr → wr.cell? ⟨w.heap.size, 0, none⟩ = some (.int .i64 f) := fun _ h => on_new h 0 rfl
  have c1 : ∀ wr, On (w.alloc (.cells #[.int .i64 f, .bool wd, .int .u64 (u a), .int .u64 (u b)] 45)) wr → wr.cell? ⟨w.heap.size, 1, none⟩ = some (.bool wd) := fun _ h => on_new h 1 rfl
  have c2 : ∀ wr, On (w.alloc (.cells #[.int .i64 f, .bool wd, .int .u64 (u a), .int .u64 (u b)] 45)) wr → wr.cell? ⟨w.heap.size, 2, none⟩ = some (.int .u64 (u a)) := fun _ h => on_new h 2 rfl
  have c3 : ∀ wr, On (w.alloc (.cells #[.int .i64 f, .bool wd, .int .u64 (u a), .int .u64 (u b)] 45)) wr → wr.cell? ⟨w.heap.size, 3, none⟩ = some (.int .u64 (u b)) := fun _ h => on_new h 3 rfl
  have hb := On.refl (w.alloc (.cells #[.int .i64 f, .bool wd, .int .u64 (u a), .int .u64 (u b)] 45))
  have H : Hid (stp f wd a b = if dvs f && (u b == 0 || ovf f wd a b) then 1 else if wd then 32 else 64) := Lib.hid rfl
  cases hd : dvs f
  · rw [hd] at H
    have HD := Lib.hid hd
    clear hd
    cases wd
    all_goals
      go_enter Try.func29, Try.ntmps29
      go_wp2_with (go_at_call 38; refine (divides_any _ _ _ _ _).mono ?_; rw [HD.out]; rintro e wn ⟨rfl, hb'⟩; have hb := hb.trans hb'; clear hb')
      go_ret
      exact ⟨by rw [H.out]; rfl, ((On.refl w).alloc _).trans hb⟩
  · rw [hd] at H
    have HD := Lib.hid hd
    clear hd
    cases hz : (u b == 0)
    · rw [hz] at H
      cases ho : ovf f wd a b
      all_goals
        rw [ho] at H
        have HO := Lib.hid ho
        clear ho
        cases wd
        all_goals
          go_enter Try.func29, Try.ntmps29
          go_wp2_with (first | (go_at_call 38; refine (divides_any _ _ _ _ _).mono ?_; rw [HD.out]; rintro e wn ⟨rfl, hb'⟩; have hb := hb.trans hb'; clear hb') | (go_at_call 39; refine (overflows_any _ _ _ _ _).mono ?_; rw [HO.out]; rintro e wn ⟨rfl, hb'⟩; have hb := hb.trans hb'; clear hb'))
          go_ret
          exact ⟨by rw [H.out]; rfl, ((On.refl w).alloc _).trans hb⟩
    · rw [hz] at H
      go_enter Try.func29, Try.ntmps29
      go_wp2_with (go_at_call 38; refine (divides_any _ _ _ _ _).mono ?_; rw [HD.out]; rintro e wn ⟨rfl, hb'⟩; have hb := hb.trans hb'; clear hb')
      go_ret
      exact ⟨by rw [H.out]; rfl, ((On.refl w).alloc _).trans hb⟩
end Go.Proofs.Ytapaddbgmbkelaa
