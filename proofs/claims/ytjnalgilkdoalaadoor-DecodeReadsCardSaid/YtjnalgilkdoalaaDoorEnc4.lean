/- What Encode comes to: the word without what plays no part, or an error where there is none. Conditions: the library's table lies in memory. -/
import Derived.Test.YtjnalgilkdoalaaDoorEnc2
import Derived.Test.YtjnalgilkdoalaaDoorDec5
namespace Go.Proofs.YtjnalgilkdoalaaDoor
open Go.RowKit
set_option linter.unusedSimpArgs false
set_option linter.unusedVariables false

theorem differ {i j : Ins} (h : i ≠ j) : ((i.op == j.op) = false) ∨ (((i.op == j.op) = true) ∧ (((i.fn == j.fn) = false) ∨ (((i.fn == j.fn) = true) ∧ (((i.rd == j.rd) = false) ∨ (((i.rd == j.rd) = true) ∧ (((i.rs1 == j.rs1) = false) ∨ (((i.rs1 == j.rs1) = true) ∧ (((i.rs2 == j.rs2) = false) ∨ (((i.rs2 == j.rs2) = true) ∧ (((u i.imm == u j.imm) = false) ∨ (((u i.imm == u j.imm) = true) ∧ (((i.size == j.size) = false) ∨ (((i.size == j.size) = true) ∧ (((i.sg == j.sg) = false) ∨ (((i.sg == j.sg) = true) ∧ (((i.wd == j.wd) = false) ∨ (((i.wd == j.wd) = true) ∧ (((i.ui == j.ui) = false) ∨ (((i.ui == j.ui) = true) ∧ (((i.csr == j.csr) = false))))))))))))))))))))) := by
  by_cases h0 : i.op = j.op
  · refine .inr ⟨by simp [h0], ?_⟩
    by_cases h1 : i.fn = j.fn
    · refine .inr ⟨by simp [h1], ?_⟩
      by_cases h2 : i.rd = j.rd
      · refine .inr ⟨by simp [h2], ?_⟩
        by_cases h3 : i.rs1 = j.rs1
        · refine .inr ⟨by simp [h3], ?_⟩
          by_cases h4 : i.rs2 = j.rs2
          · refine .inr ⟨by simp [h4], ?_⟩
            by_cases h5 : i.imm = j.imm
            · refine .inr ⟨by simp [h5], ?_⟩
              by_cases h6 : i.size = j.size
              · refine .inr ⟨by simp [h6], ?_⟩
                by_cases h7 : i.sg = j.sg
                · refine .inr ⟨by simp [h7], ?_⟩
                  by_cases h8 : i.wd = j.wd
                  · refine .inr ⟨by simp [h8], ?_⟩
                    by_cases h9 : i.ui = j.ui
                    · refine .inr ⟨by simp [h9], ?_⟩
                      by_cases h10 : i.csr = j.csr
                      · exfalso; apply h; cases i; cases j; simp_all
                      · simpa using h10
                    · exact .inl (by simpa using h9)
                  · exact .inl (by simpa using h8)
                · exact .inl (by simpa using h7)
              · exact .inl (by simpa using h6)
            · exact .inl (by rw [u_beq]; simpa using h5)
          · exact .inl (by simpa using h4)
        · exact .inl (by simpa using h3)
      · exact .inl (by simpa using h2)
    · exact .inl (by simpa using h1)
  · exact .inl (by simpa using h0)
set_option maxRecDepth 100000 in
set_option maxHeartbeats 4000000 in
theorem enc_yes (o f d s t z k : Int) (m : BitVec 64) (a b c : Bool) (w : World) (ht : Tab w) (HI : Hid (I64 o ∧ I64 f ∧ I64 d ∧ I64 s ∧ I64 t ∧ I64 z ∧ I64 k)) (x : BitVec 32) (hx : decOf x = ⟨o, f, d, s, t, m, z, a, b, c, k⟩) (h0 : o ≠ 0) :
    Calls Tryd.prog 13 #[.agg #[.int .i64 o, .int .i64 f, .int .i64 d, .int .i64 s, .int .i64 t, .int .u64 (u m), .int .i64 z, .bool a, .bool b, .bool c, .int .i64 k]] w fun e w' => e = .returned (.tuple #[.int .u32 (q (clr x)), .int .i64 0]) ∧ On w w' := by
  have hd := decode_any (clr x)
  rw [dec_clr x (by rw [hx]; exact h0), hx] at hd
  obtain ⟨y, hy⟩ : ∃ y, clr x = y := ⟨_, rfl⟩
  rw [hy] at hd ⊢
  have hd' : ∀ w, Calls Tryd.prog 12 #[.int .u32 (q y)] w fun e w' => e = .returned (.agg #[.int .i64 o, .int .i64 f, .int .i64 d, .int .i64 s, .int .i64 t, .int .u64 (u m), .int .i64 z, .bool a, .bool b, .bool c, .int .i64 k]) ∧ On w w' := hd
  have HD := Lib.hid hd'
  have HR : Hid (∀ v n, Right ⟨o, f, d, s, t, m, z, a, b, c, k⟩ v n → v = y ∧ n = 0) := Lib.hid (fun v n hr => hy ▸ hr.2 x hx h0)
  have bo : (o == 0) = false := by simpa using h0
  clear hd hd' hy hx h0
  have HT := Lib.hid (ht.keep ((On.refl w).alloc (.cells #[.int .i64 o, .int .i64 f, .int .i64 d, .int .i64 s, .int .i64 t, .int .u64 (u m), .int .i64 z, .bool a, .bool b, .bool c, .int .i64 k] 24)))
  clear ht
  have HB : Hid (On w (w.alloc (.cells #[.int .i64 o, .int .i64 f, .int .i64 d, .int .i64 s, .int .i64 t, .int .u64 (u m), .int .i64 z, .bool a, .bool b, .bool c, .int .i64 k] 24))) := Lib.hid ((On.refl w).alloc _)
  go_enter Tryd.func13, Tryd.ntmps13
  go_wp2_with (go_at_call 30; refine (asm_any _ _ _ _ _ _ _ _ _ _ _ _ HT.out HI).mono ?_; rintro e wn ⟨⟨v, n, rfl, hr⟩, h⟩; obtain ⟨k0, k1, k2, k3, k4, k5, k6, k7, k8, k9, k10, kf, hlt⟩ := own11 h; have c0 := fun d' os' => cell_regrown k0 d' os'; have c1 := fun d' os' => cell_regrown k1 d' os'; have c2 := fun d' os' => cell_regrown k2 d' os'; have c3 := fun d' os' => cell_regrown k3 d' os'; have c4 := fun d' os' => cell_regrown k4 d' os'; have c5 := fun d' os' => cell_regrown k5 d' os'; have c6 := fun d' os' => cell_regrown k6 d' os'; have c7 := fun d' os' => cell_regrown k7 d' os'; have c8 := fun d' os' => cell_regrown k8 d' os'; have c9 := fun d' os' => cell_regrown k9 d' os'; have c10 := fun d' os' => cell_regrown k10 d' os'; clear k0 k1 k2 k3 k4 k5 k6 k7 k8 k9 k10 kf hlt; replace HB := tr HB h; clear h; obtain ⟨rfl, rfl⟩ := HR.out _ _ hr; clear hr)
  all_goals (
    refine wp_region_quiet_below (by kernel_rfl) (by kernel_rfl) ?_
    repeat (go_big_quiet_step (first | (go_at_call 12; exact Calls.on_of (HD.out _))))
    refine wpQuiet_nil ?_
    intro _ hw'
    obtain ⟨⟨dq, osq⟩, hw''⟩ := hw'
    subst hw''
    go_wp2
    go_ret2
    exact ⟨rfl, HB.out.grow _ _⟩)
set_option maxRecDepth 100000 in
set_option maxHeartbeats 4000000 in
theorem enc_no (o f d s t z k : Int) (m : BitVec 64) (a b c : Bool) (w : World) (ht : Tab w) (HI : Hid (I64 o ∧ I64 f ∧ I64 d ∧ I64 s ∧ I64 t ∧ I64 z ∧ I64 k)) (hn : ∀ x, decOf x = ⟨o, f, d, s, t, m, z, a, b, c, k⟩ → o = 0) :
    Calls Tryd.prog 13 #[.agg #[.int .i64 o, .int .i64 f, .int .i64 d, .int .i64 s, .int .i64 t, .int .u64 (u m), .int .i64 z, .bool a, .bool b, .bool c, .int .i64 k]] w fun e w' => e = .returned (.tuple #[.int .u32 0, .int .i64 7]) ∧ On w w' := by
  have HN := Lib.hid hn
  clear hn
  have HT := Lib.hid (ht.keep ((On.refl w).alloc (.cells #[.int .i64 o, .int .i64 f, .int .i64 d, .int .i64 s, .int .i64 t, .int .u64 (u m), .int .i64 z, .bool a, .bool b, .bool c, .int .i64 k] 24)))
  clear ht
  have HB : Hid (On w (w.alloc (.cells #[.int .i64 o, .int .i64 f, .int .i64 d, .int .i64 s, .int .i64 t, .int .u64 (u m), .int .i64 z, .bool a, .bool b, .bool c, .int .i64 k] 24))) := Lib.hid ((On.refl w).alloc _)
  go_enter Tryd.func13, Tryd.ntmps13
  go_wp2_with (go_at_call 30; refine (asm_any _ _ _ _ _ _ _ _ _ _ _ _ HT.out HI).mono ?_; rintro e wn ⟨⟨v, n, rfl, hr⟩, h⟩; obtain ⟨k0, k1, k2, k3, k4, k5, k6, k7, k8, k9, k10, kf, hlt⟩ := own11 h; have c0 := fun d' os' => cell_regrown k0 d' os'; have c1 := fun d' os' => cell_regrown k1 d' os'; have c2 := fun d' os' => cell_regrown k2 d' os'; have c3 := fun d' os' => cell_regrown k3 d' os'; have c4 := fun d' os' => cell_regrown k4 d' os'; have c5 := fun d' os' => cell_regrown k5 d' os'; have c6 := fun d' os' => cell_regrown k6 d' os'; have c7 := fun d' os' => cell_regrown k7 d' os'; have c8 := fun d' os' => cell_regrown k8 d' os'; have c9 := fun d' os' => cell_regrown k9 d' os'; have c10 := fun d' os' => cell_regrown k10 d' os'; clear k0 k1 k2 k3 k4 k5 k6 k7 k8 k9 k10 kf hlt; replace HB := tr HB h; clear h; by_cases n0 : n = 0; rotate_left; (have b0 : (n != 0) = true := (by simpa using n0); clear hr n0); rotate_left; (subst n0; have o0 : o ≠ 0 := (fun e => hr.1 e rfl); have bo : (o == 0) = false := (by simpa using o0); have hne : decOf v ≠ ⟨o, f, d, s, t, m, z, a, b, c, k⟩ := (fun e => o0 (HN.out _ e)); have hd := decode_any v; obtain ⟨j, hj⟩ : ∃ j, decOf v = j := ⟨_, rfl⟩; rw [hj] at hne hd; clear hj hr o0; obtain ⟨o', f', d', s', t', m', z', a', b', c', k'⟩ := j; have HD : Hid (∀ w, Calls Tryd.prog 12 #[.int .u32 (q v)] w fun e w' => e = .returned (.agg #[.int .i64 o', .int .i64 f', .int .i64 d', .int .i64 s', .int .i64 t', .int .u64 (u m'), .int .i64 z', .bool a', .bool b', .bool c', .int .i64 k']) ∧ On w w') := Lib.hid hd; clear hd; rcases differ hne with d0 | ⟨d0, d1 | ⟨d1, d2 | ⟨d2, d3 | ⟨d3, d4 | ⟨d4, d5 | ⟨d5, d6 | ⟨d6, d7 | ⟨d7, d8 | ⟨d8, d9 | ⟨d9, d10⟩⟩⟩⟩⟩⟩⟩⟩⟩⟩ <;> dsimp only at *))
  all_goals (
    refine wp_region_quiet_below (by kernel_rfl) (by kernel_rfl) ?_
    repeat (go_big_quiet_step (first | (go_at_call 12; exact Calls.on_of (HD.out _))))
    refine wpQuiet_nil ?_
    intro _ hw'
    obtain ⟨⟨dq, osq⟩, hw''⟩ := hw'
    subst hw''
    go_wp2
    go_ret2
    exact ⟨rfl, HB.out.grow _ _⟩)
end Go.Proofs.YtjnalgilkdoalaaDoor
