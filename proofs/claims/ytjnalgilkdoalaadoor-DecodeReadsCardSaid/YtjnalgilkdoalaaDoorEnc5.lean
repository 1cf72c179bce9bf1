/- What Encode comes to in the reference: the word without what plays no part, or an error where there is none. Conditions: none. -/
import Derived.Test.YtjnalgilkdoalaaDoorEnc3
import Derived.Test.YtjnalgilkdoalaaDoorEnc4
import Derived.Test.YtjnalgilkdoalaaDoorDec8
namespace Go.Proofs.YtjnalgilkdoalaaDoor
open Go.RowKit
set_option linter.unusedSimpArgs false
set_option linter.unusedVariables false

set_option maxRecDepth 100000 in
set_option maxHeartbeats 4000000 in
theorem renc_yes (o f d s t z k : Int) (m : BitVec 64) (a b c : Bool) (w : World) (HI : Hid (I64 o ∧ I64 f ∧ I64 d ∧ I64 s ∧ I64 t ∧ I64 z ∧ I64 k)) (x : BitVec 32) (hx : decOf x = ⟨o, f, d, s, t, m, z, a, b, c, k⟩) (h0 : o ≠ 0) :
    Calls Tryd.prog 15 #[.agg #[.int .i64 o, .int .i64 f, .int .i64 d, .int .i64 s, .int .i64 t, .int .u64 (u m), .int .i64 z, .bool a, .bool b, .bool c, .int .i64 k]] w fun e w' => e = .returned (.tuple #[.int .u32 (q (clr x)), .int .i64 0]) ∧ On w w' := by
  have hd := ref_decode_any (clr x)
  rw [dec_clr x (by rw [hx]; exact h0), hx] at hd
  obtain ⟨y, hy⟩ : ∃ y, clr x = y := ⟨_, rfl⟩
  rw [hy] at hd ⊢
  have hd' : ∀ w, Calls Tryd.prog 32 #[.int .u32 (q y)] w fun e w' => e = .returned (.agg #[.int .i64 o, .int .i64 f, .int .i64 d, .int .i64 s, .int .i64 t, .int .u64 (u m), .int .i64 z, .bool a, .bool b, .bool c, .int .i64 k]) ∧ On w w' := hd
  have HD := Lib.hid hd'
  have HR : Hid (∀ v n, Right ⟨o, f, d, s, t, m, z, a, b, c, k⟩ v n → v = y ∧ n = 0) := Lib.hid (fun v n hr => hy ▸ hr.2 x hx h0)
  have bo : (o == 0) = false := by simpa using h0
  clear hd hd' hy hx h0
  have HB : Hid (On w (w.alloc (.cells #[.int .i64 o, .int .i64 f, .int .i64 d, .int .i64 s, .int .i64 t, .int .u64 (u m), .int .i64 z, .bool a, .bool b, .bool c, .int .i64 k] 24))) := Lib.hid ((On.refl w).alloc _)
  go_enter Tryd.func15, Tryd.ntmps15
  go_wp2_with (go_at_call 31; refine (rword_any _ _ _ _ _ _ _ _ _ _ _ _).mono ?_; rintro e wn ⟨⟨v, n, rfl, hr⟩, h⟩; obtain ⟨k0, k1, k2, k3, k4, k5, k6, k7, k8, k9, k10, kf, hlt⟩ := own11 h; have c0 := fun d' os' => cell_regrown k0 d' os'; have c1 := fun d' os' => cell_regrown k1 d' os'; have c2 := fun d' os' => cell_regrown k2 d' os'; have c3 := fun d' os' => cell_regrown k3 d' os'; have c4 := fun d' os' => cell_regrown k4 d' os'; have c5 := fun d' os' => cell_regrown k5 d' os'; have c6 := fun d' os' => cell_regrown k6 d' os'; have c7 := fun d' os' => cell_regrown k7 d' os'; have c8 := fun d' os' => cell_regrown k8 d' os'; have c9 := fun d' os' => cell_regrown k9 d' os'; have c10 := fun d' os' => cell_regrown k10 d' os'; clear k0 k1 k2 k3 k4 k5 k6 k7 k8 k9 k10 kf hlt; replace HB := tr HB h; clear h; obtain ⟨rfl, rfl⟩ := HR.out _ _ hr; clear hr)
  all_goals (
    refine wp_region_quiet_below (by kernel_rfl) (by kernel_rfl) ?_
    repeat (go_big_quiet_step (first | (go_at_call 32; exact Calls.on_of (HD.out _))))
    refine wpQuiet_nil ?_
    intro _ hw'
    obtain ⟨⟨dq, osq⟩, hw''⟩ := hw'
    subst hw''
    go_wp2
    go_ret2
    exact ⟨rfl, HB.out.grow _ _⟩)
set_option maxRecDepth 100000 in
set_option maxHeartbeats 4000000 in
theorem renc_no (o f d s t z k : Int) (m : BitVec 64) (a b c : Bool) (w : World) (HI : Hid (I64 o ∧ I64 f ∧ I64 d ∧ I64 s ∧ I64 t ∧ I64 z ∧ I64 k)) (hn : ∀ x, decOf x = ⟨o, f, d, s, t, m, z, a, b, c, k⟩ → o = 0) :
    Calls Tryd.prog 15 #[.agg #[.int .i64 o, .int .i64 f, .int .i64 d, .int .i64 s, .int .i64 t, .int .u64 (u m), .int .i64 z, .bool a, .bool b, .bool c, .int .i64 k]] w fun e w' => e = .returned (.tuple #[.int .u32 0, .int .i64 7]) ∧ On w w' := by
  have HN := Lib.hid hn
  clear hn
  have HB : Hid (On w (w.alloc (.cells #[.int .i64 o, .int .i64 f, .int .i64 d, .int .i64 s, .int .i64 t, .int .u64 (u m), .int .i64 z, .bool a, .bool b, .bool c, .int .i64 k] 24))) := Lib.hid ((On.refl w).alloc _)
  go_enter Tryd.func15, Tryd.ntmps15
  go_wp2_with (go_at_call 31; refine (rword_any _ _ _ _ _ _ _ _ _ _ _ _).mono ?_; rintro e wn ⟨⟨v, n, rfl, hr⟩, h⟩; obtain ⟨k0, k1, k2, k3, k4, k5, k6, k7, k8, k9, k10, kf, hlt⟩ := own11 h; have c0 := fun d' os' => cell_regrown k0 d' os'; have c1 := fun d' os' => cell_regrown k1 d' os'; have c2 := fun d' os' => cell_regrown k2 d' os'; have c3 := fun d' os' => cell_regrown k3 d' os'; have c4 := fun d' os' => cell_regrown k4 d' os'; have c5 := fun d' os' => cell_regrown k5 d' os'; have c6 := fun d' os' => cell_regrown k6 d' os'; have c7 := fun d' os' => cell_regrown k7 d' os'; have c8 := fun d' os' => cell_regrown k8 d' os'; have c9 := fun d' os' => cell_regrown k9 d' os'; have c10 := fun d' os' => cell_regrown k10 d' os'; clear k0 k1 k2 k3 k4 k5 k6 k7 k8 k9 k10 kf hlt; replace HB := tr HB h; clear h; by_cases n0 : n = 0; rotate_left; (have b0 : (n != 0) = true := (by simpa using n0); clear hr n0); rotate_left; (subst n0; have o0 : o ≠ 0 := (fun e => hr.1 e rfl); have bo : (o == 0) = false := (by simpa using o0); have hne : decOf v ≠ ⟨o, f, d, s, t, m, z, a, b, c, k⟩ := (fun e => o0 (HN.out _ e)); have hd := ref_decode_any v; obtain ⟨j, hj⟩ : ∃ j, decOf v = j := ⟨_, rfl⟩; rw [hj] at hne hd; clear hj hr o0; obtain ⟨o', f', d', s', t', m', z', a', b', c', k'⟩ := j; have HD : Hid (∀ w, Calls Tryd.prog 32 #[.int .u32 (q v)] w fun e w' => e = .returned (.agg #[.int .i64 o', .int .i64 f', .int .i64 d', .int .i64 s', .int .i64 t', .int .u64 (u m'), .int .i64 z', .bool a', .bool b', .bool c', .int .i64 k']) ∧ On w w') := Lib.hid hd; clear hd; rcases differ hne with d0 | ⟨d0, d1 | ⟨d1, d2 | ⟨d2, d3 | ⟨d3, d4 | ⟨d4, d5 | ⟨d5, d6 | ⟨d6, d7 | ⟨d7, d8 | ⟨d8, d9 | ⟨d9, d10⟩⟩⟩⟩⟩⟩⟩⟩⟩⟩ <;> dsimp only at *))
  all_goals (
    refine wp_region_quiet_below (by kernel_rfl) (by kernel_rfl) ?_
    repeat (go_big_quiet_step (first | (go_at_call 32; exact Calls.on_of (HD.out _))))
    refine wpQuiet_nil ?_
    intro _ hw'
    obtain ⟨⟨dq, osq⟩, hw''⟩ := hw'
    subst hw''
    go_wp2
    go_ret2
    exact ⟨rfl, HB.out.grow _ _⟩)
end Go.Proofs.YtjnalgilkdoalaaDoor
