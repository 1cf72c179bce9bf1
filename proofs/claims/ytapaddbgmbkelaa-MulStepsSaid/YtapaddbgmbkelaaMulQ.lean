/- What the tasks of package muldiv come to: which are defined, which divide, what they result in. Conditions: none. -/
import Derived.Test.YtapaddbgmbkelaaMulP
namespace Go.Proofs.Ytapaddbgmbkelaa
open Go.RowKit

/-- which fun is it? -/
theorem fun_cases (f : Int) : f = 0 ∨ f = 1 ∨ f = 2 ∨ f = 3 ∨ f = 4 ∨ f = 5 ∨ f = 6 ∨ f = 7 ∨ ((f == 0) = false ∧ (f == 1) = false ∧ (f == 2) = false ∧ (f == 3) = false ∧ (f == 4) = false ∧ (f == 5) = false ∧ (f == 6) = false ∧ (f == 7) = false) := by
  simp only [beq_eq_false_iff_ne]; omega
/-- does it divide? -/
def dvs (f : Int) : Bool := f == 4 || f == 5 || f == 6 || f == 7
/-- is it one? -/
def dfd (f : Int) (wd : Bool) : Bool := if f == 1 || f == 2 || f == 3 then !wd else f == 0 || dvs f
theorem divides_any (f : Int) (wd : Bool) (a b : BitVec 64) (w : World) :
    Calls Try.prog 38 #[.agg #[.int .i64 f, .bool wd, .int .u64 (u a), .int .u64 (u b)]] w fun e w' => e = .returned (.bool (dvs f)) ∧ On w w' := by
  rcases fun_cases f with rfl | rfl | rfl | rfl | rfl | rfl | rfl | rfl | ⟨e0, e1, e2, e3, e4, e5, e6, e7⟩
  iterate 8
    · go_enter Try.func38, Try.ntmps38
      go_wp2
      go_ret
      exact ⟨rfl, (On.refl w).alloc _⟩
  · have H : Hid (dvs f = false) := Lib.hid (by unfold dvs; rw [e4, e5, e6, e7]; rfl)
    go_enter Try.func38, Try.ntmps38
    go_wp2
    go_ret
    exact ⟨by rw [H.out]; rfl, (On.refl w).alloc _⟩
theorem defined_any (f : Int) (wd : Bool) (a b : BitVec 64) (w : World) :
    Calls Try.prog 27 #[.agg #[.int .i64 f, .bool wd, .int .u64 (u a), .int .u64 (u b)]] w fun e w' => e = .returned (.bool (dfd f wd)) ∧ On w w' := by
  have HB := Lib.hid (((On.refl w).alloc (.cells #[.int .i64 f, .bool wd, .int .u64 (u a), .int .u64 (u b)] 45)))
  rcases fun_cases f with rfl | rfl | rfl | rfl | rfl | rfl | rfl | rfl | ⟨e0, e1, e2, e3, e4, e5, e6, e7⟩
  iterate 8
    · go_enter Try.func27, Try.ntmps27
      go_wp2_with (go_at_call 38; refine (divides_any _ _ _ _ _).mono ?_; rintro e wn ⟨rfl, hb⟩; have HB := Lib.hid (HB.out.trans hb); clear hb)
      go_ret
      exact ⟨rfl, HB.out⟩
  · have H : Hid (dfd f wd = dvs f) := Lib.hid (by unfold dfd; rw [e0, e1, e2, e3]; rfl)
    go_enter Try.func27, Try.ntmps27
    go_wp2_with (go_at_call 38; refine (divides_any _ _ _ _ _).mono ?_; rintro e wn ⟨rfl, hb⟩; have HB := Lib.hid (HB.out.trans hb); clear hb)
    go_ret
    exact ⟨by rw [H.out]; rfl, HB.out⟩
theorem byZero_any (f : Int) (h : dvs f = true) (wd : Bool) (a b : BitVec 64) (hz : b = 0) (w : World) :
    Calls Try.prog 41 #[.agg #[.int .i64 f, .bool wd, .int .u64 (u a), .int .u64 (u b)]] w fun e w' => e = .returned (.int .u64 (u (mW f a b))) ∧ On w w' := by
  subst hz
  rcases fun_cases f with rfl | rfl | rfl | rfl | rfl | rfl | rfl | rfl | ⟨e0, e1, e2, e3, e4, e5, e6, e7⟩
  iterate 4
    · exact absurd h (by decide)
  iterate 4
    · clear h
      go_enter Try.func41, Try.ntmps41
      go_wp2
      go_ret
      exact ⟨rfl, (On.refl w).alloc _⟩
  · unfold dvs at h; rw [e4, e5, e6, e7] at h; exact absurd h (by decide)
theorem product_any (f : Int) (h : dfd f false = true) (hd : dvs f = false) (wd : Bool) (a b : BitVec 64) (w : World) :
    Calls Try.prog 40 #[.agg #[.int .i64 f, .bool wd, .int .u64 (u a), .int .u64 (u b)]] w fun e w' => e = .returned (.int .u64 (u (mW f a b))) ∧ On w w' := by
  rcases fun_cases f with rfl | rfl | rfl | rfl | rfl | rfl | rfl | rfl | ⟨e0, e1, e2, e3, e4, e5, e6, e7⟩
  · clear h hd
    have H : Hid (IntKind.u64.wrap (u a * u b) = u (mW 0 a b)) := Lib.hid (by rw [u_mul]; rfl)
    go_enter Try.func40, Try.ntmps40
    go_wp2
    go_ret
    exact ⟨by rw [← H.out]; rfl, (On.refl w).alloc _⟩
  · clear h hd
    have H : Hid (IntKind.u64.wrap (IntKind.u64.wrap (u (mhu a b) - u (exc a b)) - u (exc b a)) = u (mW 1 a b)) := Lib.hid (by rw [u_sub, u_sub]; rfl)
    go_enter Try.func40, Try.ntmps40
    go_wp2
    go_quiet ((first | (go_at_call 46; exact Calls.quiet_of_same ((high_any _ _ _).mono (fun _ _ h => ⟨h.1, h.2.symm⟩))) | (go_at_call 47; exact Calls.quiet_of_same ((excess_any _ _ _).mono (fun _ _ h => ⟨h.1, h.2.symm⟩)))))
    go_wp2
    go_ret
    exact ⟨by rw [← H.out]; rfl, ((On.refl w).alloc _).drewN _⟩
  · clear h hd
    have H : Hid (IntKind.u64.wrap (u (mhu a b) - u (exc a b)) = u (mW 2 a b)) := Lib.hid (by rw [u_sub]; rfl)
    go_enter Try.func40, Try.ntmps40
    go_wp2
    go_quiet ((first | (go_at_call 46; exact Calls.quiet_of_same ((high_any _ _ _).mono (fun _ _ h => ⟨h.1, h.2.symm⟩))) | (go_at_call 47; exact Calls.quiet_of_same ((excess_any _ _ _).mono (fun _ _ h => ⟨h.1, h.2.symm⟩)))))
    go_wp2
    go_ret
    exact ⟨by rw [← H.out]; rfl, ((On.refl w).alloc _).drewN _⟩
  · clear h hd
    go_enter Try.func40, Try.ntmps40
    go_wp2_with (go_at_call 46; refine (high_any _ _ _).mono ?_; rintro e w' ⟨rfl, rfl⟩)
    go_ret
    exact ⟨rfl, (On.refl w).alloc _⟩
  iterate 4
    · exact absurd hd (by decide)
  · unfold dfd dvs at h; rw [e0, e1, e2, e3, e4, e5, e6, e7] at h; exact absurd h (by decide)
theorem division_any (f : Int) (hd : dvs f = true) (wd : Bool) (a b : BitVec 64) (hb : b ≠ 0) (w : World) :
    Calls Try.prog 42 #[.agg #[.int .i64 f, .bool wd, .int .u64 (u a), .int .u64 (u b)]] w fun e w' => e = .returned (.int .u64 (u (mW f a b))) ∧ On w w' := by
  have g1 : 1 ≤ u b := by
    have g := u_nonneg b
    have : ¬ u b = 0 := by rw [u_zero, u_inj]; exact hb
    omega
  have g2 : ¬ wrap64 (u b) = 0 := by
    rw [← IntWalk.i64_left, wrap_sg]; intro h
    have : wd64 (sg b) = wd64 0 := by rw [h]
    rw [wd_sg] at this; exact hb this
  have h0 := u_nonneg b
  have h1 := u_nonneg a
  rcases fun_cases f with rfl | rfl | rfl | rfl | rfl | rfl | rfl | rfl | ⟨e0, e1, e2, e3, e4, e5, e6, e7⟩
  iterate 4
    · exact absurd hd (by decide)
  · have H : Hid (IntKind.u64.wrap (wrap64 ((wrap64 (u a)).tdiv (wrap64 (u b)))) = u (mW 4 a b)) := Lib.hid (by
      have e : ∀ v, wrap64 (u v) = sg v := fun v => by rw [← IntWalk.i64_left, wrap_sg]
      rw [e, e, quo_sg]; show _ = u (if b = 0 then _ else _); rw [if_neg hb])
    clear hb hd
    go_enter Try.func42, Try.ntmps42
    go_wp2
    go_ret
    exact ⟨by rw [← H.out]; rfl, (On.refl w).alloc _⟩
  · have H : Hid (IntKind.u64.wrap ((u a).tdiv (u b)) = u (mW 5 a b)) := Lib.hid (by
      rw [Int.tdiv_eq_ediv_of_nonneg h1, u_div, wrap_u]; show _ = u (if b = 0 then _ else _); rw [if_neg hb])
    clear hb hd
    go_enter Try.func42, Try.ntmps42
    go_wp2
    go_ret
    exact ⟨by rw [← H.out]; rfl, (On.refl w).alloc _⟩
  · have H : Hid (IntKind.u64.wrap ((wrap64 (u a)).tmod (wrap64 (u b))) = u (mW 6 a b)) := Lib.hid (by
      have e : ∀ v, wrap64 (u v) = sg v := fun v => by rw [← IntWalk.i64_left, wrap_sg]
      rw [e, e, rem_sg]; show _ = u (if b = 0 then _ else _); rw [if_neg hb])
    clear hb hd
    go_enter Try.func42, Try.ntmps42
    go_wp2
    go_ret
    exact ⟨by rw [← H.out]; rfl, (On.refl w).alloc _⟩
  · have H : Hid (u a % u b = u (mW 7 a b)) := Lib.hid (by
      rw [u_mod]; show _ = u (if b = 0 then _ else _); rw [if_neg hb])
    clear hb hd
    go_enter Try.func42, Try.ntmps42
    go_wp2
    go_ret
    exact ⟨by rw [← H.out]; rfl, (On.refl w).alloc _⟩
  · unfold dvs at hd; rw [e4, e5, e6, e7] at hd; exact absurd hd (by decide)
theorem wide_any (f : Int) (wd : Bool) (h : dfd f wd = true) (a b : BitVec 64) (w : World) :
    Calls Try.prog 31 #[.agg #[.int .i64 f, .bool wd, .int .u64 (u a), .int .u64 (u b)]] w fun e w' => e = .returned (.int .u64 (u (mW f a b))) ∧ On w w' := by
  have c0 : ∀ wr, On (w.alloc (.cells #[.int .i64 f, .bool wd, .int .u64 (u a), .int .u64 (u b)] 45)) wr → wr.cell? ⟨w.heap.size, 0, none⟩ = some (.int .i64 f) := fun _ h => on_new h 0 rfl
  have c1 : ∀ wr, On (w.alloc (.cells #[.int .i64 f, .bool wd, .int .u64 (u a), .int .u64 (u b)] 45)) wr → wr.cell? ⟨w.heap.size, 1, none⟩ = some (.bool wd) := fun _ h => on_new h 1 rfl
  have c2 : ∀ wr, On (w.alloc (.cells #[.int .i64 f, .bool wd, .int .u64 (u a), .int .u64 (u b)] 45)) wr → wr.cell? ⟨w.heap.size, 2, none⟩ = some (.int .u64 (u a)) := fun _ h => on_new h 2 rfl
  have c3 : ∀ wr, On (w.alloc (.cells #[.int .i64 f, .bool wd, .int .u64 (u a), .int .u64 (u b)] 45)) wr → wr.cell? ⟨w.heap.size, 3, none⟩ = some (.int .u64 (u b)) := fun _ h => on_new h 3 rfl
  have hb := On.refl (w.alloc (.cells #[.int .i64 f, .bool wd, .int .u64 (u a), .int .u64 (u b)] 45))
  cases hd : dvs f
  · have hf : dfd f false = true := by
      unfold dfd at h ⊢
      split at h
      · rename_i e; rw [if_pos e]; rfl
      · rename_i e; rw [if_neg e]; exact h
    have HD := Lib.hid hd
    have HF := Lib.hid hf
    clear h hf hd
    go_enter Try.func31, Try.ntmps31
    go_wp2_with (first | (go_at_call 38; refine (divides_any _ _ _ _ _).mono ?_; rw [HD.out]; rintro e wn ⟨rfl, hb'⟩; have hb := hb.trans hb'; clear hb') | (go_at_call 40; refine (product_any _ HF.out HD.out _ _ _ _).mono ?_; rintro e wn ⟨rfl, hb'⟩; have hb := hb.trans hb'; clear hb'))
    go_ret
    exact ⟨rfl, ((On.refl w).alloc _).trans hb⟩
  · have HD := Lib.hid hd
    clear h hd
    by_cases hz : b = 0
    · have tz : (u b == 0) = true := by rw [hz]; rfl
      have HZ := Lib.hid hz
      clear hz
      go_enter Try.func31, Try.ntmps31
      go_wp2_with (first | (go_at_call 38; refine (divides_any _ _ _ _ _).mono ?_; rw [HD.out]; rintro e wn ⟨rfl, hb'⟩; have hb := hb.trans hb'; clear hb') | (go_at_call 41; refine (byZero_any _ HD.out _ _ _ HZ.out _).mono ?_; rintro e wn ⟨rfl, hb'⟩; have hb := hb.trans hb'; clear hb'))
      go_ret
      exact ⟨rfl, ((On.refl w).alloc _).trans hb⟩
    · have tz : (u b == 0) = false := by rw [u_zero, u_beq]; simpa using hz
      have HZ := Lib.hid hz
      clear hz
      go_enter Try.func31, Try.ntmps31
      go_wp2_with (first | (go_at_call 38; refine (divides_any _ _ _ _ _).mono ?_; rw [HD.out]; rintro e wn ⟨rfl, hb'⟩; have hb := hb.trans hb'; clear hb') | (go_at_call 42; refine (division_any _ HD.out _ _ _ HZ.out _).mono ?_; rintro e wn ⟨rfl, hb'⟩; have hb := hb.trans hb'; clear hb'))
      go_ret
      exact ⟨rfl, ((On.refl w).alloc _).trans hb⟩
/-- what a task results in: its operands have been made ready -/
def tres (f : Int) (wd : Bool) (a b : BitVec 64) : BitVec 64 := if dfd f wd then (if wd then s32 (mW f a b) else mW f a b) else 0
theorem result_any (f : Int) (wd : Bool) (a b : BitVec 64) (w : World) :
    Calls Try.prog 22 #[.agg #[.int .i64 f, .bool wd, .int .u64 (u a), .int .u64 (u b)]] w fun e w' => e = .returned (.int .u64 (u (tres f wd a b))) ∧ On w w' := by
  have c0 : ∀ wr, On (w.alloc (.cells #[.int .i64 f, .bool wd, .int .u64 (u a), .int .u64 (u b)] 45)) wr → wr.cell? ⟨w.heap.size, 0, none⟩ = some (.int .i64 f) := fun _ h => on_new h 0 rfl
  have c1 : ∀ wr, On (w.alloc (.cells #[.int .i64 f, .bool wd, .int .u64 (u a), .int .u64 (u b)] 45)) wr → wr.cell? ⟨w.heap.size, 1, none⟩ = some (.bool wd) := fun _ h => on_new h 1 rfl
  have c2 : ∀ wr, On (w.alloc (.cells #[.int .i64 f, .bool wd, .int .u64 (u a), .int .u64 (u b)] 45)) wr → wr.cell? ⟨w.heap.size, 2, none⟩ = some (.int .u64 (u a)) := fun _ h => on_new h 2 rfl
  have c3 : ∀ wr, On (w.alloc (.cells #[.int .i64 f, .bool wd, .int .u64 (u a), .int .u64 (u b)] 45)) wr → wr.cell? ⟨w.heap.size, 3, none⟩ = some (.int .u64 (u b)) := fun _ h => on_new h 3 rfl
  have hb := On.refl (w.alloc (.cells #[.int .i64 f, .bool wd, .int .u64 (u a), .int .u64 (u b)] 45))
  cases hd : dfd f wd
  · have H : Hid (tres f wd a b = 0) := Lib.hid (by unfold tres; rw [hd]; rfl)
    have HD := Lib.hid hd
    clear hd
    go_enter Try.func22, Try.ntmps22
    go_wp2_with (first | (go_at_call 27; refine (defined_any _ _ _ _ _).mono ?_; rw [HD.out]; rintro e wn ⟨rfl, hb'⟩; have hb := hb.trans hb'; clear hb'))
    go_ret
    exact ⟨by rw [H.out]; rfl, ((On.refl w).alloc _).trans hb⟩
  · have H : Hid (tres f wd a b = if wd then s32 (mW f a b) else mW f a b) := Lib.hid (by unfold tres; rw [hd]; rfl)
    have HD := Lib.hid hd
    clear hd
    cases wd
    all_goals
      go_enter Try.func22, Try.ntmps22
      go_wp2_with (first | (go_at_call 27; refine (defined_any _ _ _ _ _).mono ?_; rw [HD.out]; rintro e wn ⟨rfl, hb'⟩; have hb := hb.trans hb'; clear hb') | (go_at_call 31; refine (wide_any _ _ HD.out _ _ _).mono ?_; rintro e wn ⟨rfl, hb'⟩; have hb := hb.trans hb'; clear hb') | (go_at_call 30; refine (mextend_any _ _).mono ?_; rintro e w' ⟨rfl, rfl⟩))
      go_ret
      exact ⟨by rw [H.out]; rfl, ((On.refl w).alloc _).trans hb⟩
end Go.Proofs.Ytapaddbgmbkelaa
