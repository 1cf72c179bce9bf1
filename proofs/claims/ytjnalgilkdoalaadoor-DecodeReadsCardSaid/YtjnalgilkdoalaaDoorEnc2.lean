/- What assembling a word comes to: the word and the error that the instruction asks for. Conditions: the library's table lies in memory. -/
import Derived.Test.YtjnalgilkdoalaaDoorEnc1
import Derived.Lib.QuietBelow
namespace Go.Proofs.YtjnalgilkdoalaaDoor
open Go.RowKit
set_option linter.unusedSimpArgs false
set_option linter.unusedVariables false

/-- a word and an error that are right for the instruction -/
def Ans (i : Ins) (e : Ending) : Prop := ∃ (v : BitVec 32) (n : Int), e = .returned (.tuple #[.int .u32 (q v), .int .i64 n]) ∧ Right i v n
theorem wrap_in (n : Int) : I64 (wrap64 n) := by
  rw [← IntWalk.i64_left, i64_wrap]
  have h1 := BitVec.le_toInt (BitVec.ofInt 64 n)
  have h2 := BitVec.toInt_lt (x := BitVec.ofInt 64 n)
  unfold I64; omega
theorem bits_in (x y : Int) : I64 (bits .and .i64 x y) := by
  unfold bits
  dsimp only
  rw [IntWalk.i64_left]
  exact wrap_in _
theorem csr_right (i : Ins) (h : i.op = 19) : Right i (asmW 115 i.rd (if i.ui = true then wrap64 (i.fn + 4) else i.fn) i.rs1 (bits .and .i64 i.csr 31) (i.csr / 32) 0 []) (asmE 115 i.rd (if i.ui = true then wrap64 (i.fn + 4) else i.fn) i.rs1 (bits .and .i64 i.csr 31) (i.csr / 32) 0 []) := by
  by_cases g : wrap64 (i.fn + 4) = i.fn + 4
  · rw [g]; exact right_19 i h
  · refine right_of (by omega) (fun x hx => ?_)
    subst hx
    have := csr_in x h
    exact absurd (IntWalk.wrap64_in _ (by omega)) g
theorem amo_right (i : Ins) (h : i.op = 20 ∨ i.op = 21 ∨ i.op = 22) : Right i (asmW 47 i.rd (szOf i.size) i.rs1 i.rs2 (wrap64 (a5 i.op i.fn * 4)) 0 []) (asmE 47 i.rd (szOf i.size) i.rs1 i.rs2 (wrap64 (a5 i.op i.fn * 4)) 0 []) := by
  rcases h with h | h | h
  · have e : wrap64 (a5 20 i.fn * 4) = 8 := by rw [show a5 20 i.fn = 2 from rfl]; decide +kernel
    rw [h, e]; exact right_20 i h
  · have e : wrap64 (a5 21 i.fn * 4) = 12 := by rw [show a5 21 i.fn = 3 from rfl]; decide +kernel
    rw [h, e]; exact right_21 i h
  · rw [h]
    have e : a5 22 i.fn = i.fn := rfl
    rw [e]
    by_cases g : wrap64 (i.fn * 4) = i.fn * 4
    · rw [g]; exact right_22 i h
    · refine right_of (by omega) (fun x hx => ?_)
      subst hx
      have := amo_in x h
      exact absurd (IntWalk.wrap64_in _ (by omega)) g
theorem sz_in (z : Int) : I64 (szOf z) := by have := tz_small (wd64 z); unfold szOf I64; omega
theorem lf_in (a : Bool) (z : Int) : I64 (lfOf a z) := by have := tz_small (wd64 z); unfold lfOf szOf I64; split <;> omega
theorem div_in {k : Int} (h : I64 k) : I64 (k / 32) := by unfold I64 at h ⊢; omega
set_option maxRecDepth 100000 in
set_option maxHeartbeats 4000000 in
theorem sys_13_asm (f d s t z k : Int) (m : BitVec 64) (a b c : Bool) (w : World) :
    Calls Tryd.prog 53 #[.agg #[.int .i64 13, .int .i64 f, .int .i64 d, .int .i64 s, .int .i64 t, .int .u64 (u m), .int .i64 z, .bool a, .bool b, .bool c, .int .i64 k]] w fun e w' => Ans ⟨13, f, d, s, t, m, z, a, b, c, k⟩ e ∧ On w w' := by
  go_enter Tryd.func53, Tryd.ntmps53
  go_wp2
  go_ret2
  exact ⟨⟨_, _, rfl, right_13 _ rfl⟩, (On.refl w).alloc _⟩
set_option maxRecDepth 100000 in
set_option maxHeartbeats 4000000 in
theorem sys_14_asm (f d s t z k : Int) (m : BitVec 64) (a b c : Bool) (w : World) :
    Calls Tryd.prog 53 #[.agg #[.int .i64 14, .int .i64 f, .int .i64 d, .int .i64 s, .int .i64 t, .int .u64 (u m), .int .i64 z, .bool a, .bool b, .bool c, .int .i64 k]] w fun e w' => Ans ⟨14, f, d, s, t, m, z, a, b, c, k⟩ e ∧ On w w' := by
  go_enter Tryd.func53, Tryd.ntmps53
  go_wp2
  go_ret2
  exact ⟨⟨_, _, rfl, right_14 _ rfl⟩, (On.refl w).alloc _⟩
set_option maxRecDepth 100000 in
set_option maxHeartbeats 4000000 in
theorem sys_15_asm (f d s t z k : Int) (m : BitVec 64) (a b c : Bool) (w : World) :
    Calls Tryd.prog 53 #[.agg #[.int .i64 15, .int .i64 f, .int .i64 d, .int .i64 s, .int .i64 t, .int .u64 (u m), .int .i64 z, .bool a, .bool b, .bool c, .int .i64 k]] w fun e w' => Ans ⟨15, f, d, s, t, m, z, a, b, c, k⟩ e ∧ On w w' := by
  go_enter Tryd.func53, Tryd.ntmps53
  go_wp2
  go_ret2
  exact ⟨⟨_, _, rfl, right_15 _ rfl⟩, (On.refl w).alloc _⟩
set_option maxRecDepth 100000 in
set_option maxHeartbeats 4000000 in
theorem sys_16_asm (f d s t z k : Int) (m : BitVec 64) (a b c : Bool) (w : World) :
    Calls Tryd.prog 53 #[.agg #[.int .i64 16, .int .i64 f, .int .i64 d, .int .i64 s, .int .i64 t, .int .u64 (u m), .int .i64 z, .bool a, .bool b, .bool c, .int .i64 k]] w fun e w' => Ans ⟨16, f, d, s, t, m, z, a, b, c, k⟩ e ∧ On w w' := by
  go_enter Tryd.func53, Tryd.ntmps53
  go_wp2
  go_ret2
  exact ⟨⟨_, _, rfl, right_16 _ rfl⟩, (On.refl w).alloc _⟩
set_option maxRecDepth 100000 in
set_option maxHeartbeats 4000000 in
theorem sys_17_asm (f d s t z k : Int) (m : BitVec 64) (a b c : Bool) (w : World) :
    Calls Tryd.prog 53 #[.agg #[.int .i64 17, .int .i64 f, .int .i64 d, .int .i64 s, .int .i64 t, .int .u64 (u m), .int .i64 z, .bool a, .bool b, .bool c, .int .i64 k]] w fun e w' => Ans ⟨17, f, d, s, t, m, z, a, b, c, k⟩ e ∧ On w w' := by
  go_enter Tryd.func53, Tryd.ntmps53
  go_wp2
  go_ret2
  exact ⟨⟨_, _, rfl, right_17 _ rfl⟩, (On.refl w).alloc _⟩
set_option maxRecDepth 100000 in
set_option maxHeartbeats 4000000 in
theorem sys_18_asm (f d s t z k : Int) (m : BitVec 64) (a b c : Bool) (w : World) (HI : Hid (I64 f ∧ I64 d ∧ I64 s ∧ I64 t ∧ I64 z ∧ I64 k)) :
    Calls Tryd.prog 53 #[.agg #[.int .i64 18, .int .i64 f, .int .i64 d, .int .i64 s, .int .i64 t, .int .u64 (u m), .int .i64 z, .bool a, .bool b, .bool c, .int .i64 k]] w fun e w' => Ans ⟨18, f, d, s, t, m, z, a, b, c, k⟩ e ∧ On w w' := by
  have HB : Hid (On w (w.alloc (.cells #[.int .i64 18, .int .i64 f, .int .i64 d, .int .i64 s, .int .i64 t, .int .u64 (u m), .int .i64 z, .bool a, .bool b, .bool c, .int .i64 k] 24))) := Lib.hid ((On.refl w).alloc _)
  go_enter Tryd.func53, Tryd.ntmps53
  go_wp2_with (go_at_call 51; refine (R_any _ _ _ _ _ _ (by unfold I64; omega) (by unfold I64; omega) (by unfold I64; omega) HI.out.2.2.1 HI.out.2.2.2.1 (by unfold I64; omega) _).mono ?_; rintro e wn ⟨rfl, h⟩; replace HB := tr HB h; clear h)
  go_ret2
  exact ⟨⟨_, _, rfl, right_18 _ rfl⟩, HB.out⟩
set_option maxRecDepth 100000 in
set_option maxHeartbeats 4000000 in
theorem sys_19_asm (f d s t z k : Int) (m : BitVec 64) (a b c : Bool) (w : World) (HI : Hid (I64 f ∧ I64 d ∧ I64 s ∧ I64 t ∧ I64 z ∧ I64 k)) :
    Calls Tryd.prog 53 #[.agg #[.int .i64 19, .int .i64 f, .int .i64 d, .int .i64 s, .int .i64 t, .int .u64 (u m), .int .i64 z, .bool a, .bool b, .bool c, .int .i64 k]] w fun e w' => Ans ⟨19, f, d, s, t, m, z, a, b, c, k⟩ e ∧ On w w' := by
  have HB : Hid (On w (w.alloc (.cells #[.int .i64 19, .int .i64 f, .int .i64 d, .int .i64 s, .int .i64 t, .int .u64 (u m), .int .i64 z, .bool a, .bool b, .bool c, .int .i64 k] 24))) := Lib.hid ((On.refl w).alloc _)
  cases c
  · have H := Lib.hid (csr_right ⟨19, f, d, s, t, m, z, a, b, false, k⟩ rfl)
    go_enter Tryd.func53, Tryd.ntmps53
    go_wp2_with (go_at_call 51; refine (R_any _ _ _ _ _ _ (by unfold I64; omega) HI.out.2.1 HI.out.1 HI.out.2.2.1 (bits_in _ _) (div_in HI.out.2.2.2.2.2) _).mono ?_; rintro e wn ⟨rfl, h⟩; replace HB := tr HB h; clear h)
    go_ret2
    exact ⟨⟨_, _, rfl, H.out⟩, HB.out⟩
  · have H := Lib.hid (csr_right ⟨19, f, d, s, t, m, z, a, b, true, k⟩ rfl)
    go_enter Tryd.func53, Tryd.ntmps53
    go_wp2_with (go_at_call 51; refine (R_any _ _ _ _ _ _ (by unfold I64; omega) HI.out.2.1 (wrap_in _) HI.out.2.2.1 (bits_in _ _) (div_in HI.out.2.2.2.2.2) _).mono ?_; rintro e wn ⟨rfl, h⟩; replace HB := tr HB h; clear h)
    go_ret2
    exact ⟨⟨_, _, rfl, H.out⟩, HB.out⟩
set_option maxRecDepth 100000 in
set_option maxHeartbeats 4000000 in
theorem sys_n_asm (o : Int) (f d s t z k : Int) (m : BitVec 64) (a b c : Bool) (w : World) (N : Hid (o < 1 ∨ 22 < o)) :
    Calls Tryd.prog 53 #[.agg #[.int .i64 o, .int .i64 f, .int .i64 d, .int .i64 s, .int .i64 t, .int .u64 (u m), .int .i64 z, .bool a, .bool b, .bool c, .int .i64 k]] w fun e w' => Ans ⟨o, f, d, s, t, m, z, a, b, c, k⟩ e ∧ On w w' := by
  have b13 : (o == 13) = false := by have := N.out; simp; omega
  have b14 : (o == 14) = false := by have := N.out; simp; omega
  have b16 : (o == 16) = false := by have := N.out; simp; omega
  have b15 : (o == 15) = false := by have := N.out; simp; omega
  have b17 : (o == 17) = false := by have := N.out; simp; omega
  have b18 : (o == 18) = false := by have := N.out; simp; omega
  have b19 : (o == 19) = false := by have := N.out; simp; omega
  go_enter Tryd.func53, Tryd.ntmps53
  go_wp2
  go_ret2
  exact ⟨⟨0#32, _, rfl, right_other (by decide) N.out⟩, (On.refl w).alloc _⟩
set_option maxRecDepth 100000 in
set_option maxHeartbeats 4000000 in
theorem asm_1 (f d s t z k : Int) (m : BitVec 64) (a b c : Bool) (w : World) (ht : Tab w) (HI : Hid (I64 f ∧ I64 d ∧ I64 s ∧ I64 t ∧ I64 z ∧ I64 k)) :
    Calls Tryd.prog 30 #[.agg #[.int .i64 1, .int .i64 f, .int .i64 d, .int .i64 s, .int .i64 t, .int .u64 (u m), .int .i64 z, .bool a, .bool b, .bool c, .int .i64 k]] w fun e w' => Ans ⟨1, f, d, s, t, m, z, a, b, c, k⟩ e ∧ On w w' := by
  have e2 : wrap64 (u m) = sg m := by rw [← IntWalk.i64_left, wrap_sg]
  have HB : Hid (On w (w.alloc (.cells #[.int .i64 1, .int .i64 f, .int .i64 d, .int .i64 s, .int .i64 t, .int .u64 (u m), .int .i64 z, .bool a, .bool b, .bool c, .int .i64 k] 24))) := Lib.hid ((On.refl w).alloc _)
  go_enter Tryd.func30, Tryd.ntmps30
  go_wp2_with (first | (go_at_call 42; refine (U_any _ _ _ (by unfold I64; omega) HI.out.2.1 _).mono ?_; rintro e wn ⟨rfl, h⟩; replace HB := tr HB h; clear h))
  all_goals (go_ret2; exact ⟨⟨_, _, rfl, right_1 _ rfl⟩, HB.out⟩)
set_option maxRecDepth 100000 in
set_option maxHeartbeats 4000000 in
theorem asm_2 (f d s t z k : Int) (m : BitVec 64) (a b c : Bool) (w : World) (ht : Tab w) (HI : Hid (I64 f ∧ I64 d ∧ I64 s ∧ I64 t ∧ I64 z ∧ I64 k)) :
    Calls Tryd.prog 30 #[.agg #[.int .i64 2, .int .i64 f, .int .i64 d, .int .i64 s, .int .i64 t, .int .u64 (u m), .int .i64 z, .bool a, .bool b, .bool c, .int .i64 k]] w fun e w' => Ans ⟨2, f, d, s, t, m, z, a, b, c, k⟩ e ∧ On w w' := by
  have e2 : wrap64 (u m) = sg m := by rw [← IntWalk.i64_left, wrap_sg]
  have HB : Hid (On w (w.alloc (.cells #[.int .i64 2, .int .i64 f, .int .i64 d, .int .i64 s, .int .i64 t, .int .u64 (u m), .int .i64 z, .bool a, .bool b, .bool c, .int .i64 k] 24))) := Lib.hid ((On.refl w).alloc _)
  go_enter Tryd.func30, Tryd.ntmps30
  go_wp2_with (first | (go_at_call 42; refine (U_any _ _ _ (by unfold I64; omega) HI.out.2.1 _).mono ?_; rintro e wn ⟨rfl, h⟩; replace HB := tr HB h; clear h))
  all_goals (go_ret2; exact ⟨⟨_, _, rfl, right_2 _ rfl⟩, HB.out⟩)
set_option maxRecDepth 100000 in
set_option maxHeartbeats 4000000 in
theorem asm_3 (f d s t z k : Int) (m : BitVec 64) (a b c : Bool) (w : World) (ht : Tab w) (HI : Hid (I64 f ∧ I64 d ∧ I64 s ∧ I64 t ∧ I64 z ∧ I64 k)) :
    Calls Tryd.prog 30 #[.agg #[.int .i64 3, .int .i64 f, .int .i64 d, .int .i64 s, .int .i64 t, .int .u64 (u m), .int .i64 z, .bool a, .bool b, .bool c, .int .i64 k]] w fun e w' => Ans ⟨3, f, d, s, t, m, z, a, b, c, k⟩ e ∧ On w w' := by
  have e2 : wrap64 (u m) = sg m := by rw [← IntWalk.i64_left, wrap_sg]
  have HB : Hid (On w (w.alloc (.cells #[.int .i64 3, .int .i64 f, .int .i64 d, .int .i64 s, .int .i64 t, .int .u64 (u m), .int .i64 z, .bool a, .bool b, .bool c, .int .i64 k] 24))) := Lib.hid ((On.refl w).alloc _)
  go_enter Tryd.func30, Tryd.ntmps30
  go_wp2_with (first | (go_at_call 43; refine (J_any _ _ _ (by unfold I64; omega) HI.out.2.1 _).mono ?_; rintro e wn ⟨rfl, h⟩; replace HB := tr HB h; clear h))
  all_goals (go_ret2; exact ⟨⟨_, _, rfl, right_3 _ rfl⟩, HB.out⟩)
set_option maxRecDepth 100000 in
set_option maxHeartbeats 4000000 in
theorem asm_4 (f d s t z k : Int) (m : BitVec 64) (a b c : Bool) (w : World) (ht : Tab w) (HI : Hid (I64 f ∧ I64 d ∧ I64 s ∧ I64 t ∧ I64 z ∧ I64 k)) :
    Calls Tryd.prog 30 #[.agg #[.int .i64 4, .int .i64 f, .int .i64 d, .int .i64 s, .int .i64 t, .int .u64 (u m), .int .i64 z, .bool a, .bool b, .bool c, .int .i64 k]] w fun e w' => Ans ⟨4, f, d, s, t, m, z, a, b, c, k⟩ e ∧ On w w' := by
  have e2 : wrap64 (u m) = sg m := by rw [← IntWalk.i64_left, wrap_sg]
  have HB : Hid (On w (w.alloc (.cells #[.int .i64 4, .int .i64 f, .int .i64 d, .int .i64 s, .int .i64 t, .int .u64 (u m), .int .i64 z, .bool a, .bool b, .bool c, .int .i64 k] 24))) := Lib.hid ((On.refl w).alloc _)
  go_enter Tryd.func30, Tryd.ntmps30
  go_wp2_with (first | (go_at_call 44; refine (I_any _ _ _ _ _ (by unfold I64; omega) HI.out.2.1 (by unfold I64; omega) HI.out.2.2.1 _).mono ?_; rintro e wn ⟨rfl, h⟩; replace HB := tr HB h; clear h))
  all_goals (go_ret2; exact ⟨⟨_, _, rfl, right_4 _ rfl⟩, HB.out⟩)
set_option maxRecDepth 100000 in
set_option maxHeartbeats 4000000 in
theorem asm_5 (f d s t z k : Int) (m : BitVec 64) (a b c : Bool) (w : World) (ht : Tab w) (HI : Hid (I64 f ∧ I64 d ∧ I64 s ∧ I64 t ∧ I64 z ∧ I64 k)) :
    Calls Tryd.prog 30 #[.agg #[.int .i64 5, .int .i64 f, .int .i64 d, .int .i64 s, .int .i64 t, .int .u64 (u m), .int .i64 z, .bool a, .bool b, .bool c, .int .i64 k]] w fun e w' => Ans ⟨5, f, d, s, t, m, z, a, b, c, k⟩ e ∧ On w w' := by
  have e2 : wrap64 (u m) = sg m := by rw [← IntWalk.i64_left, wrap_sg]
  have HB : Hid (On w (w.alloc (.cells #[.int .i64 5, .int .i64 f, .int .i64 d, .int .i64 s, .int .i64 t, .int .u64 (u m), .int .i64 z, .bool a, .bool b, .bool c, .int .i64 k] 24))) := Lib.hid ((On.refl w).alloc _)
  go_enter Tryd.func30, Tryd.ntmps30
  go_wp2_with (first | (go_at_call 45; refine (B_any _ _ _ _ _ (by unfold I64; omega) HI.out.1 HI.out.2.2.1 HI.out.2.2.2.1 _).mono ?_; rintro e wn ⟨rfl, h⟩; replace HB := tr HB h; clear h))
  all_goals (go_ret2; exact ⟨⟨_, _, rfl, right_5 _ rfl⟩, HB.out⟩)
set_option maxRecDepth 100000 in
set_option maxHeartbeats 4000000 in
theorem asm_6 (f d s t z k : Int) (m : BitVec 64) (a b c : Bool) (w : World) (ht : Tab w) (HI : Hid (I64 f ∧ I64 d ∧ I64 s ∧ I64 t ∧ I64 z ∧ I64 k)) :
    Calls Tryd.prog 30 #[.agg #[.int .i64 6, .int .i64 f, .int .i64 d, .int .i64 s, .int .i64 t, .int .u64 (u m), .int .i64 z, .bool a, .bool b, .bool c, .int .i64 k]] w fun e w' => Ans ⟨6, f, d, s, t, m, z, a, b, c, k⟩ e ∧ On w w' := by
  have e2 : wrap64 (u m) = sg m := by rw [← IntWalk.i64_left, wrap_sg]
  have HT : Hid (∀ d' os', Tab (Sort.grow (redrawn (w.alloc (.cells #[.int .i64 6, .int .i64 f, .int .i64 d, .int .i64 s, .int .i64 t, .int .u64 (u m), .int .i64 z, .bool a, .bool b, .bool c, .int .i64 k] 24)) d') os')) := Lib.hid (fun d' os' => ht.keep (((On.refl w).alloc _).grow d' os'))
  clear ht
  have c0 : ∀ d' os', (Sort.grow (redrawn (w.alloc (.cells #[.int .i64 6, .int .i64 f, .int .i64 d, .int .i64 s, .int .i64 t, .int .u64 (u m), .int .i64 z, .bool a, .bool b, .bool c, .int .i64 k] 24)) d') os').cell? ⟨w.heap.size, 0, none⟩ = some (.int .i64 6) := fun d' os' => new_cell _ _ _ _ rfl d' os'
  have c1 : ∀ d' os', (Sort.grow (redrawn (w.alloc (.cells #[.int .i64 6, .int .i64 f, .int .i64 d, .int .i64 s, .int .i64 t, .int .u64 (u m), .int .i64 z, .bool a, .bool b, .bool c, .int .i64 k] 24)) d') os').cell? ⟨w.heap.size, 1, none⟩ = some (.int .i64 f) := fun d' os' => new_cell _ _ _ _ rfl d' os'
  have c2 : ∀ d' os', (Sort.grow (redrawn (w.alloc (.cells #[.int .i64 6, .int .i64 f, .int .i64 d, .int .i64 s, .int .i64 t, .int .u64 (u m), .int .i64 z, .bool a, .bool b, .bool c, .int .i64 k] 24)) d') os').cell? ⟨w.heap.size, 2, none⟩ = some (.int .i64 d) := fun d' os' => new_cell _ _ _ _ rfl d' os'
  have c3 : ∀ d' os', (Sort.grow (redrawn (w.alloc (.cells #[.int .i64 6, .int .i64 f, .int .i64 d, .int .i64 s, .int .i64 t, .int .u64 (u m), .int .i64 z, .bool a, .bool b, .bool c, .int .i64 k] 24)) d') os').cell? ⟨w.heap.size, 3, none⟩ = some (.int .i64 s) := fun d' os' => new_cell _ _ _ _ rfl d' os'
  have c4 : ∀ d' os', (Sort.grow (redrawn (w.alloc (.cells #[.int .i64 6, .int .i64 f, .int .i64 d, .int .i64 s, .int .i64 t, .int .u64 (u m), .int .i64 z, .bool a, .bool b, .bool c, .int .i64 k] 24)) d') os').cell? ⟨w.heap.size, 4, none⟩ = some (.int .i64 t) := fun d' os' => new_cell _ _ _ _ rfl d' os'
  have c5 : ∀ d' os', (Sort.grow (redrawn (w.alloc (.cells #[.int .i64 6, .int .i64 f, .int .i64 d, .int .i64 s, .int .i64 t, .int .u64 (u m), .int .i64 z, .bool a, .bool b, .bool c, .int .i64 k] 24)) d') os').cell? ⟨w.heap.size, 5, none⟩ = some (.int .u64 (u m)) := fun d' os' => new_cell _ _ _ _ rfl d' os'
  have c6 : ∀ d' os', (Sort.grow (redrawn (w.alloc (.cells #[.int .i64 6, .int .i64 f, .int .i64 d, .int .i64 s, .int .i64 t, .int .u64 (u m), .int .i64 z, .bool a, .bool b, .bool c, .int .i64 k] 24)) d') os').cell? ⟨w.heap.size, 6, none⟩ = some (.int .i64 z) := fun d' os' => new_cell _ _ _ _ rfl d' os'
  have c7 : ∀ d' os', (Sort.grow (redrawn (w.alloc (.cells #[.int .i64 6, .int .i64 f, .int .i64 d, .int .i64 s, .int .i64 t, .int .u64 (u m), .int .i64 z, .bool a, .bool b, .bool c, .int .i64 k] 24)) d') os').cell? ⟨w.heap.size, 7, none⟩ = some (.bool a) := fun d' os' => new_cell _ _ _ _ rfl d' os'
  have c8 : ∀ d' os', (Sort.grow (redrawn (w.alloc (.cells #[.int .i64 6, .int .i64 f, .int .i64 d, .int .i64 s, .int .i64 t, .int .u64 (u m), .int .i64 z, .bool a, .bool b, .bool c, .int .i64 k] 24)) d') os').cell? ⟨w.heap.size, 8, none⟩ = some (.bool b) := fun d' os' => new_cell _ _ _ _ rfl d' os'
  have c9 : ∀ d' os', (Sort.grow (redrawn (w.alloc (.cells #[.int .i64 6, .int .i64 f, .int .i64 d, .int .i64 s, .int .i64 t, .int .u64 (u m), .int .i64 z, .bool a, .bool b, .bool c, .int .i64 k] 24)) d') os').cell? ⟨w.heap.size, 9, none⟩ = some (.bool c) := fun d' os' => new_cell _ _ _ _ rfl d' os'
  have c10 : ∀ d' os', (Sort.grow (redrawn (w.alloc (.cells #[.int .i64 6, .int .i64 f, .int .i64 d, .int .i64 s, .int .i64 t, .int .u64 (u m), .int .i64 z, .bool a, .bool b, .bool c, .int .i64 k] 24)) d') os').cell? ⟨w.heap.size, 10, none⟩ = some (.int .i64 k) := fun d' os' => new_cell _ _ _ _ rfl d' os'
  go_enter Tryd.func30, Tryd.ntmps30
  go_wp2_with fail
  refine wp_region_quiet_below (by kernel_rfl) (by kernel_rfl) ?_
  repeat (go_big_quiet_step (first | (go_at_call 46; exact Calls.on_of (load_any _ _ _ _ _ _ _ _ _ _ _ _ (HT.out _ _))) | (go_at_call 44; exact Calls.on_of (I_any _ _ _ _ _ (by unfold I64; omega) HI.out.2.1 (lf_in _ _) HI.out.2.2.1 _))))
  refine wpQuiet_nil ?_
  intro _ hw'
  obtain ⟨⟨dq, osq⟩, hw''⟩ := hw'
  subst hw''
  go_wp2
  go_ret2
  exact ⟨⟨_, _, rfl, right_6 _ rfl⟩, ((On.refl w).alloc _).grow _ _⟩
set_option maxRecDepth 100000 in
set_option maxHeartbeats 4000000 in
theorem asm_7 (f d s t z k : Int) (m : BitVec 64) (a b c : Bool) (w : World) (ht : Tab w) (HI : Hid (I64 f ∧ I64 d ∧ I64 s ∧ I64 t ∧ I64 z ∧ I64 k)) :
    Calls Tryd.prog 30 #[.agg #[.int .i64 7, .int .i64 f, .int .i64 d, .int .i64 s, .int .i64 t, .int .u64 (u m), .int .i64 z, .bool a, .bool b, .bool c, .int .i64 k]] w fun e w' => Ans ⟨7, f, d, s, t, m, z, a, b, c, k⟩ e ∧ On w w' := by
  have e2 : wrap64 (u m) = sg m := by rw [← IntWalk.i64_left, wrap_sg]
  have HT : Hid (∀ d' os', Tab (Sort.grow (redrawn (w.alloc (.cells #[.int .i64 7, .int .i64 f, .int .i64 d, .int .i64 s, .int .i64 t, .int .u64 (u m), .int .i64 z, .bool a, .bool b, .bool c, .int .i64 k] 24)) d') os')) := Lib.hid (fun d' os' => ht.keep (((On.refl w).alloc _).grow d' os'))
  clear ht
  have c0 : ∀ d' os', (Sort.grow (redrawn (w.alloc (.cells #[.int .i64 7, .int .i64 f, .int .i64 d, .int .i64 s, .int .i64 t, .int .u64 (u m), .int .i64 z, .bool a, .bool b, .bool c, .int .i64 k] 24)) d') os').cell? ⟨w.heap.size, 0, none⟩ = some (.int .i64 7) := fun d' os' => new_cell _ _ _ _ rfl d' os'
  have c1 : ∀ d' os', (Sort.grow (redrawn (w.alloc (.cells #[.int .i64 7, .int .i64 f, .int .i64 d, .int .i64 s, .int .i64 t, .int .u64 (u m), .int .i64 z, .bool a, .bool b, .bool c, .int .i64 k] 24)) d') os').cell? ⟨w.heap.size, 1, none⟩ = some (.int .i64 f) := fun d' os' => new_cell _ _ _ _ rfl d' os'
  have c2 : ∀ d' os', (Sort.grow (redrawn (w.alloc (.cells #[.int .i64 7, .int .i64 f, .int .i64 d, .int .i64 s, .int .i64 t, .int .u64 (u m), .int .i64 z, .bool a, .bool b, .bool c, .int .i64 k] 24)) d') os').cell? ⟨w.heap.size, 2, none⟩ = some (.int .i64 d) := fun d' os' => new_cell _ _ _ _ rfl d' os'
  have c3 : ∀ d' os', (Sort.grow (redrawn (w.alloc (.cells #[.int .i64 7, .int .i64 f, .int .i64 d, .int .i64 s, .int .i64 t, .int .u64 (u m), .int .i64 z, .bool a, .bool b, .bool c, .int .i64 k] 24)) d') os').cell? ⟨w.heap.size, 3, none⟩ = some (.int .i64 s) := fun d' os' => new_cell _ _ _ _ rfl d' os'
  have c4 : ∀ d' os', (Sort.grow (redrawn (w.alloc (.cells #[.int .i64 7, .int .i64 f, .int .i64 d, .int .i64 s, .int .i64 t, .int .u64 (u m), .int .i64 z, .bool a, .bool b, .bool c, .int .i64 k] 24)) d') os').cell? ⟨w.heap.size, 4, none⟩ = some (.int .i64 t) := fun d' os' => new_cell _ _ _ _ rfl d' os'
  have c5 : ∀ d' os', (Sort.grow (redrawn (w.alloc (.cells #[.int .i64 7, .int .i64 f, .int .i64 d, .int .i64 s, .int .i64 t, .int .u64 (u m), .int .i64 z, .bool a, .bool b, .bool c, .int .i64 k] 24)) d') os').cell? ⟨w.heap.size, 5, none⟩ = some (.int .u64 (u m)) := fun d' os' => new_cell _ _ _ _ rfl d' os'
  have c6 : ∀ d' os', (Sort.grow (redrawn (w.alloc (.cells #[.int .i64 7, .int .i64 f, .int .i64 d, .int .i64 s, .int .i64 t, .int .u64 (u m), .int .i64 z, .bool a, .bool b, .bool c, .int .i64 k] 24)) d') os').cell? ⟨w.heap.size, 6, none⟩ = some (.int .i64 z) := fun d' os' => new_cell _ _ _ _ rfl d' os'
  have c7 : ∀ d' os', (Sort.grow (redrawn (w.alloc (.cells #[.int .i64 7, .int .i64 f, .int .i64 d, .int .i64 s, .int .i64 t, .int .u64 (u m), .int .i64 z, .bool a, .bool b, .bool c, .int .i64 k] 24)) d') os').cell? ⟨w.heap.size, 7, none⟩ = some (.bool a) := fun d' os' => new_cell _ _ _ _ rfl d' os'
  have c8 : ∀ d' os', (Sort.grow (redrawn (w.alloc (.cells #[.int .i64 7, .int .i64 f, .int .i64 d, .int .i64 s, .int .i64 t, .int .u64 (u m), .int .i64 z, .bool a, .bool b, .bool c, .int .i64 k] 24)) d') os').cell? ⟨w.heap.size, 8, none⟩ = some (.bool b) := fun d' os' => new_cell _ _ _ _ rfl d' os'
  have c9 : ∀ d' os', (Sort.grow (redrawn (w.alloc (.cells #[.int .i64 7, .int .i64 f, .int .i64 d, .int .i64 s, .int .i64 t, .int .u64 (u m), .int .i64 z, .bool a, .bool b, .bool c, .int .i64 k] 24)) d') os').cell? ⟨w.heap.size, 9, none⟩ = some (.bool c) := fun d' os' => new_cell _ _ _ _ rfl d' os'
  have c10 : ∀ d' os', (Sort.grow (redrawn (w.alloc (.cells #[.int .i64 7, .int .i64 f, .int .i64 d, .int .i64 s, .int .i64 t, .int .u64 (u m), .int .i64 z, .bool a, .bool b, .bool c, .int .i64 k] 24)) d') os').cell? ⟨w.heap.size, 10, none⟩ = some (.int .i64 k) := fun d' os' => new_cell _ _ _ _ rfl d' os'
  go_enter Tryd.func30, Tryd.ntmps30
  go_wp2_with fail
  refine wp_region_quiet_below (by kernel_rfl) (by kernel_rfl) ?_
  repeat (go_big_quiet_step (first | (go_at_call 48; exact Calls.on_of (size_any _ _ _ _ _ _ _ _ _ _ _ _ (HT.out _ _))) | (go_at_call 47; exact Calls.on_of (S_any _ _ _ _ _ (by unfold I64; omega) (sz_in _) HI.out.2.2.1 HI.out.2.2.2.1 _))))
  refine wpQuiet_nil ?_
  intro _ hw'
  obtain ⟨⟨dq, osq⟩, hw''⟩ := hw'
  subst hw''
  go_wp2
  go_ret2
  exact ⟨⟨_, _, rfl, right_7 _ rfl⟩, ((On.refl w).alloc _).grow _ _⟩
set_option maxRecDepth 100000 in
set_option maxHeartbeats 4000000 in
theorem asm_20 (f d s t z k : Int) (m : BitVec 64) (a b c : Bool) (w : World) (ht : Tab w) (HI : Hid (I64 f ∧ I64 d ∧ I64 s ∧ I64 t ∧ I64 z ∧ I64 k)) :
    Calls Tryd.prog 30 #[.agg #[.int .i64 20, .int .i64 f, .int .i64 d, .int .i64 s, .int .i64 t, .int .u64 (u m), .int .i64 z, .bool a, .bool b, .bool c, .int .i64 k]] w fun e w' => Ans ⟨20, f, d, s, t, m, z, a, b, c, k⟩ e ∧ On w w' := by
  have e2 : wrap64 (u m) = sg m := by rw [← IntWalk.i64_left, wrap_sg]
  have HT : Hid (∀ d' os', Tab (Sort.grow (redrawn (w.alloc (.cells #[.int .i64 20, .int .i64 f, .int .i64 d, .int .i64 s, .int .i64 t, .int .u64 (u m), .int .i64 z, .bool a, .bool b, .bool c, .int .i64 k] 24)) d') os')) := Lib.hid (fun d' os' => ht.keep (((On.refl w).alloc _).grow d' os'))
  clear ht
  have c0 : ∀ d' os', (Sort.grow (redrawn (w.alloc (.cells #[.int .i64 20, .int .i64 f, .int .i64 d, .int .i64 s, .int .i64 t, .int .u64 (u m), .int .i64 z, .bool a, .bool b, .bool c, .int .i64 k] 24)) d') os').cell? ⟨w.heap.size, 0, none⟩ = some (.int .i64 20) := fun d' os' => new_cell _ _ _ _ rfl d' os'
  have c1 : ∀ d' os', (Sort.grow (redrawn (w.alloc (.cells #[.int .i64 20, .int .i64 f, .int .i64 d, .int .i64 s, .int .i64 t, .int .u64 (u m), .int .i64 z, .bool a, .bool b, .bool c, .int .i64 k] 24)) d') os').cell? ⟨w.heap.size, 1, none⟩ = some (.int .i64 f) := fun d' os' => new_cell _ _ _ _ rfl d' os'
  have c2 : ∀ d' os', (Sort.grow (redrawn (w.alloc (.cells #[.int .i64 20, .int .i64 f, .int .i64 d, .int .i64 s, .int .i64 t, .int .u64 (u m), .int .i64 z, .bool a, .bool b, .bool c, .int .i64 k] 24)) d') os').cell? ⟨w.heap.size, 2, none⟩ = some (.int .i64 d) := fun d' os' => new_cell _ _ _ _ rfl d' os'
  have c3 : ∀ d' os', (Sort.grow (redrawn (w.alloc (.cells #[.int .i64 20, .int .i64 f, .int .i64 d, .int .i64 s, .int .i64 t, .int .u64 (u m), .int .i64 z, .bool a, .bool b, .bool c, .int .i64 k] 24)) d') os').cell? ⟨w.heap.size, 3, none⟩ = some (.int .i64 s) := fun d' os' => new_cell _ _ _ _ rfl d' os'
  have c4 : ∀ d' os', (Sort.grow (redrawn (w.alloc (.cells #[.int .i64 20, .int .i64 f, .int .i64 d, .int .i64 s, .int .i64 t, .int .u64 (u m), .int .i64 z, .bool a, .bool b, .bool c, .int .i64 k] 24)) d') os').cell? ⟨w.heap.size, 4, none⟩ = some (.int .i64 t) := fun d' os' => new_cell _ _ _ _ rfl d' os'
  have c5 : ∀ d' os', (Sort.grow (redrawn (w.alloc (.cells #[.int .i64 20, .int .i64 f, .int .i64 d, .int .i64 s, .int .i64 t, .int .u64 (u m), .int .i64 z, .bool a, .bool b, .bool c, .int .i64 k] 24)) d') os').cell? ⟨w.heap.size, 5, none⟩ = some (.int .u64 (u m)) := fun d' os' => new_cell _ _ _ _ rfl d' os'
  have c6 : ∀ d' os', (Sort.grow (redrawn (w.alloc (.cells #[.int .i64 20, .int .i64 f, .int .i64 d, .int .i64 s, .int .i64 t, .int .u64 (u m), .int .i64 z, .bool a, .bool b, .bool c, .int .i64 k] 24)) d') os').cell? ⟨w.heap.size, 6, none⟩ = some (.int .i64 z) := fun d' os' => new_cell _ _ _ _ rfl d' os'
  have c7 : ∀ d' os', (Sort.grow (redrawn (w.alloc (.cells #[.int .i64 20, .int .i64 f, .int .i64 d, .int .i64 s, .int .i64 t, .int .u64 (u m), .int .i64 z, .bool a, .bool b, .bool c, .int .i64 k] 24)) d') os').cell? ⟨w.heap.size, 7, none⟩ = some (.bool a) := fun d' os' => new_cell _ _ _ _ rfl d' os'
  have c8 : ∀ d' os', (Sort.grow (redrawn (w.alloc (.cells #[.int .i64 20, .int .i64 f, .int .i64 d, .int .i64 s, .int .i64 t, .int .u64 (u m), .int .i64 z, .bool a, .bool b, .bool c, .int .i64 k] 24)) d') os').cell? ⟨w.heap.size, 8, none⟩ = some (.bool b) := fun d' os' => new_cell _ _ _ _ rfl d' os'
  have c9 : ∀ d' os', (Sort.grow (redrawn (w.alloc (.cells #[.int .i64 20, .int .i64 f, .int .i64 d, .int .i64 s, .int .i64 t, .int .u64 (u m), .int .i64 z, .bool a, .bool b, .bool c, .int .i64 k] 24)) d') os').cell? ⟨w.heap.size, 9, none⟩ = some (.bool c) := fun d' os' => new_cell _ _ _ _ rfl d' os'
  have c10 : ∀ d' os', (Sort.grow (redrawn (w.alloc (.cells #[.int .i64 20, .int .i64 f, .int .i64 d, .int .i64 s, .int .i64 t, .int .u64 (u m), .int .i64 z, .bool a, .bool b, .bool c, .int .i64 k] 24)) d') os').cell? ⟨w.heap.size, 10, none⟩ = some (.int .i64 k) := fun d' os' => new_cell _ _ _ _ rfl d' os'
  go_enter Tryd.func30, Tryd.ntmps30
  go_wp2_with fail
  refine wp_region_quiet_below (by kernel_rfl) (by kernel_rfl) ?_
  repeat (go_big_quiet_step (first | (go_at_call 48; exact Calls.on_of (size_any _ _ _ _ _ _ _ _ _ _ _ _ (HT.out _ _))) | (go_at_call 52; exact Calls.on_of (amo5_any _ _ _ _ _ _ _ _ _ _ _ _)) | (go_at_call 51; exact Calls.on_of (R_any _ _ _ _ _ _ (by unfold I64; omega) HI.out.2.1 (sz_in _) HI.out.2.2.1 HI.out.2.2.2.1 (wrap_in _) _))))
  refine wpQuiet_nil ?_
  intro _ hw'
  obtain ⟨⟨dq, osq⟩, hw''⟩ := hw'
  subst hw''
  go_wp2
  go_ret2
  exact ⟨⟨_, _, rfl, amo_right ⟨20, f, d, s, t, m, z, a, b, c, k⟩ (by simp)⟩, ((On.refl w).alloc _).grow _ _⟩
set_option maxRecDepth 100000 in
set_option maxHeartbeats 4000000 in
theorem asm_21 (f d s t z k : Int) (m : BitVec 64) (a b c : Bool) (w : World) (ht : Tab w) (HI : Hid (I64 f ∧ I64 d ∧ I64 s ∧ I64 t ∧ I64 z ∧ I64 k)) :
    Calls Tryd.prog 30 #[.agg #[.int .i64 21, .int .i64 f, .int .i64 d, .int .i64 s, .int .i64 t, .int .u64 (u m), .int .i64 z, .bool a, .bool b, .bool c, .int .i64 k]] w fun e w' => Ans ⟨21, f, d, s, t, m, z, a, b, c, k⟩ e ∧ On w w' := by
  have e2 : wrap64 (u m) = sg m := by rw [← IntWalk.i64_left, wrap_sg]
  have HT : Hid (∀ d' os', Tab (Sort.grow (redrawn (w.alloc (.cells #[.int .i64 21, .int .i64 f, .int .i64 d, .int .i64 s, .int .i64 t, .int .u64 (u m), .int .i64 z, .bool a, .bool b, .bool c, .int .i64 k] 24)) d') os')) := Lib.hid (fun d' os' => ht.keep (((On.refl w).alloc _).grow d' os'))
  clear ht
  have c0 : ∀ d' os', (Sort.grow (redrawn (w.alloc (.cells #[.int .i64 21, .int .i64 f, .int .i64 d, .int .i64 s, .int .i64 t, .int .u64 (u m), .int .i64 z, .bool a, .bool b, .bool c, .int .i64 k] 24)) d') os').cell? ⟨w.heap.size, 0, none⟩ = some (.int .i64 21) := fun d' os' => new_cell _ _ _ _ rfl d' os'
  have c1 : ∀ d' os', (Sort.grow (redrawn (w.alloc (.cells #[.int .i64 21, .int .i64 f, .int .i64 d, .int .i64 s, .int .i64 t, .int .u64 (u m), .int .i64 z, .bool a, .bool b, .bool c, .int .i64 k] 24)) d') os').cell? ⟨w.heap.size, 1, none⟩ = some (.int .i64 f) := fun d' os' => new_cell _ _ _ _ rfl d' os'
  have c2 : ∀ d' os', (Sort.grow (redrawn (w.alloc (.cells #[.int .i64 21, .int .i64 f, .int .i64 d, .int .i64 s, .int .i64 t, .int .u64 (u m), .int .i64 z, .bool a, .bool b, .bool c, .int .i64 k] 24)) d') os').cell? ⟨w.heap.size, 2, none⟩ = some (.int .i64 d) := fun d' os' => new_cell _ _ _ _ rfl d' os'
  have c3 : ∀ d' os', (Sort.grow (redrawn (w.alloc (.cells #[.int .i64 21, .int .i64 f, .int .i64 d, .int .i64 s, .int .i64 t, .int .u64 (u m), .int .i64 z, .bool a, .bool b, .bool c, .int .i64 k] 24)) d') os').cell? ⟨w.heap.size, 3, none⟩ = some (.int .i64 s) := fun d' os' => new_cell _ _ _ _ rfl d' os'
  have c4 : ∀ d' os', (Sort.grow (redrawn (w.alloc (.cells #[.int .i64 21, .int .i64 f, .int .i64 d, .int .i64 s, .int .i64 t, .int .u64 (u m), .int .i64 z, .bool a, .bool b, .bool c, .int .i64 k] 24)) d') os').cell? ⟨w.heap.size, 4, none⟩ = some (.int .i64 t) := fun d' os' => new_cell _ _ _ _ rfl d' os'
  have c5 : ∀ d' os', (Sort.grow (redrawn (w.alloc (.cells #[.int .i64 21, .int .i64 f, .int .i64 d, .int .i64 s, .int .i64 t, .int .u64 (u m), .int .i64 z, .bool a, .bool b, .bool c, .int .i64 k] 24)) d') os').cell? ⟨w.heap.size, 5, none⟩ = some (.int .u64 (u m)) := fun d' os' => new_cell _ _ _ _ rfl d' os'
  have c6 : ∀ d' os', (Sort.grow (redrawn (w.alloc (.cells #[.int .i64 21, .int .i64 f, .int .i64 d, .int .i64 s, .int .i64 t, .int .u64 (u m), .int .i64 z, .bool a, .bool b, .bool c, .int .i64 k] 24)) d') os').cell? ⟨w.heap.size, 6, none⟩ = some (.int .i64 z) := fun d' os' => new_cell _ _ _ _ rfl d' os'
  have c7 : ∀ d' os', (Sort.grow (redrawn (w.alloc (.cells #[.int .i64 21, .int .i64 f, .int .i64 d, .int .i64 s, .int .i64 t, .int .u64 (u m), .int .i64 z, .bool a, .bool b, .bool c, .int .i64 k] 24)) d') os').cell? ⟨w.heap.size, 7, none⟩ = some (.bool a) := fun d' os' => new_cell _ _ _ _ rfl d' os'
  have c8 : ∀ d' os', (Sort.grow (redrawn (w.alloc (.cells #[.int .i64 21, .int .i64 f, .int .i64 d, .int .i64 s, .int .i64 t, .int .u64 (u m), .int .i64 z, .bool a, .bool b, .bool c, .int .i64 k] 24)) d') os').cell? ⟨w.heap.size, 8, none⟩ = some (.bool b) := fun d' os' => new_cell _ _ _ _ rfl d' os'
  have c9 : ∀ d' os', (Sort.grow (redrawn (w.alloc (.cells #[.int .i64 21, .int .i64 f, .int .i64 d, .int .i64 s, .int .i64 t, .int .u64 (u m), .int .i64 z, .bool a, .bool b, .bool c, .int .i64 k] 24)) d') os').cell? ⟨w.heap.size, 9, none⟩ = some (.bool c) := fun d' os' => new_cell _ _ _ _ rfl d' os'
  have c10 : ∀ d' os', (Sort.grow (redrawn (w.alloc (.cells #[.int .i64 21, .int .i64 f, .int .i64 d, .int .i64 s, .int .i64 t, .int .u64 (u m), .int .i64 z, .bool a, .bool b, .bool c, .int .i64 k] 24)) d') os').cell? ⟨w.heap.size, 10, none⟩ = some (.int .i64 k) := fun d' os' => new_cell _ _ _ _ rfl d' os'
  go_enter Tryd.func30, Tryd.ntmps30
  go_wp2_with fail
  refine wp_region_quiet_below (by kernel_rfl) (by kernel_rfl) ?_
  repeat (go_big_quiet_step (first | (go_at_call 48; exact Calls.on_of (size_any _ _ _ _ _ _ _ _ _ _ _ _ (HT.out _ _))) | (go_at_call 52; exact Calls.on_of (amo5_any _ _ _ _ _ _ _ _ _ _ _ _)) | (go_at_call 51; exact Calls.on_of (R_any _ _ _ _ _ _ (by unfold I64; omega) HI.out.2.1 (sz_in _) HI.out.2.2.1 HI.out.2.2.2.1 (wrap_in _) _))))
  refine wpQuiet_nil ?_
  intro _ hw'
  obtain ⟨⟨dq, osq⟩, hw''⟩ := hw'
  subst hw''
  go_wp2
  go_ret2
  exact ⟨⟨_, _, rfl, amo_right ⟨21, f, d, s, t, m, z, a, b, c, k⟩ (by simp)⟩, ((On.refl w).alloc _).grow _ _⟩
set_option maxRecDepth 100000 in
set_option maxHeartbeats 4000000 in
theorem asm_22 (f d s t z k : Int) (m : BitVec 64) (a b c : Bool) (w : World) (ht : Tab w) (HI : Hid (I64 f ∧ I64 d ∧ I64 s ∧ I64 t ∧ I64 z ∧ I64 k)) :
    Calls Tryd.prog 30 #[.agg #[.int .i64 22, .int .i64 f, .int .i64 d, .int .i64 s, .int .i64 t, .int .u64 (u m), .int .i64 z, .bool a, .bool b, .bool c, .int .i64 k]] w fun e w' => Ans ⟨22, f, d, s, t, m, z, a, b, c, k⟩ e ∧ On w w' := by
  have e2 : wrap64 (u m) = sg m := by rw [← IntWalk.i64_left, wrap_sg]
  have HT : Hid (∀ d' os', Tab (Sort.grow (redrawn (w.alloc (.cells #[.int .i64 22, .int .i64 f, .int .i64 d, .int .i64 s, .int .i64 t, .int .u64 (u m), .int .i64 z, .bool a, .bool b, .bool c, .int .i64 k] 24)) d') os')) := Lib.hid (fun d' os' => ht.keep (((On.refl w).alloc _).grow d' os'))
  clear ht
  have c0 : ∀ d' os', (Sort.grow (redrawn (w.alloc (.cells #[.int .i64 22, .int .i64 f, .int .i64 d, .int .i64 s, .int .i64 t, .int .u64 (u m), .int .i64 z, .bool a, .bool b, .bool c, .int .i64 k] 24)) d') os').cell? ⟨w.heap.size, 0, none⟩ = some (.int .i64 22) := fun d' os' => new_cell _ _ _ _ rfl d' os'
  have c1 : ∀ d' os', (Sort.grow (redrawn (w.alloc (.cells #[.int .i64 22, .int .i64 f, .int .i64 d, .int .i64 s, .int .i64 t, .int .u64 (u m), .int .i64 z, .bool a, .bool b, .bool c, .int .i64 k] 24)) d') os').cell? ⟨w.heap.size, 1, none⟩ = some (.int .i64 f) := fun d' os' => new_cell _ _ _ _ rfl d' os'
  have c2 : ∀ d' os', (Sort.grow (redrawn (w.alloc (.cells #[.int .i64 22, .int .i64 f, .int .i64 d, .int .i64 s, .int .i64 t, .int .u64 (u m), .int .i64 z, .bool a, .bool b, .bool c, .int .i64 k] 24)) d') os').cell? ⟨w.heap.size, 2, none⟩ = some (.int .i64 d) := fun d' os' => new_cell _ _ _ _ rfl d' os'
  have c3 : ∀ d' os', (Sort.grow (redrawn (w.alloc (.cells #[.int .i64 22, .int .i64 f, .int .i64 d, .int .i64 s, .int .i64 t, .int .u64 (u m), .int .i64 z, .bool a, .bool b, .bool c, .int .i64 k] 24)) d') os').cell? ⟨w.heap.size, 3, none⟩ = some (.int .i64 s) := fun d' os' => new_cell _ _ _ _ rfl d' os'
  have c4 : ∀ d' os', (Sort.grow (redrawn (w.alloc (.cells #[.int .i64 22, .int .i64 f, .int .i64 d, .int .i64 s, .int .i64 t, .int .u64 (u m), .int .i64 z, .bool a, .bool b, .bool c, .int .i64 k] 24)) d') os').cell? ⟨w.heap.size, 4, none⟩ = some (.int .i64 t) := fun d' os' => new_cell _ _ _ _ rfl d' os'
  have c5 : ∀ d' os', (Sort.grow (redrawn (w.alloc (.cells #[.int .i64 22, .int .i64 f, .int .i64 d, .int .i64 s, .int .i64 t, .int .u64 (u m), .int .i64 z, .bool a, .bool b, .bool c, .int .i64 k] 24)) d') os').cell? ⟨w.heap.size, 5, none⟩ = some (.int .u64 (u m)) := fun d' os' => new_cell _ _ _ _ rfl d' os'
  have c6 : ∀ d' os', (Sort.grow (redrawn (w.alloc (.cells #[.int .i64 22, .int .i64 f, .int .i64 d, .int .i64 s, .int .i64 t, .int .u64 (u m), .int .i64 z, .bool a, .bool b, .bool c, .int .i64 k] 24)) d') os').cell? ⟨w.heap.size, 6, none⟩ = some (.int .i64 z) := fun d' os' => new_cell _ _ _ _ rfl d' os'
  have c7 : ∀ d' os', (Sort.grow (redrawn (w.alloc (.cells #[.int .i64 22, .int .i64 f, .int .i64 d, .int .i64 s, .int .i64 t, .int .u64 (u m), .int .i64 z, .bool a, .bool b, .bool c, .int .i64 k] 24)) d') os').cell? ⟨w.heap.size, 7, none⟩ = some (.bool a) := fun d' os' => new_cell _ _ _ _ rfl d' os'
  have c8 : ∀ d' os', (Sort.grow (redrawn (w.alloc (.cells #[.int .i64 22, .int .i64 f, .int .i64 d, .int .i64 s, .int .i64 t, .int .u64 (u m), .int .i64 z, .bool a, .bool b, .bool c, .int .i64 k] 24)) d') os').cell? ⟨w.heap.size, 8, none⟩ = some (.bool b) := fun d' os' => new_cell _ _ _ _ rfl d' os'
  have c9 : ∀ d' os', (Sort.grow (redrawn (w.alloc (.cells #[.int .i64 22, .int .i64 f, .int .i64 d, .int .i64 s, .int .i64 t, .int .u64 (u m), .int .i64 z, .bool a, .bool b, .bool c, .int .i64 k] 24)) d') os').cell? ⟨w.heap.size, 9, none⟩ = some (.bool c) := fun d' os' => new_cell _ _ _ _ rfl d' os'
  have c10 : ∀ d' os', (Sort.grow (redrawn (w.alloc (.cells #[.int .i64 22, .int .i64 f, .int .i64 d, .int .i64 s, .int .i64 t, .int .u64 (u m), .int .i64 z, .bool a, .bool b, .bool c, .int .i64 k] 24)) d') os').cell? ⟨w.heap.size, 10, none⟩ = some (.int .i64 k) := fun d' os' => new_cell _ _ _ _ rfl d' os'
  go_enter Tryd.func30, Tryd.ntmps30
  go_wp2_with fail
  refine wp_region_quiet_below (by kernel_rfl) (by kernel_rfl) ?_
  repeat (go_big_quiet_step (first | (go_at_call 48; exact Calls.on_of (size_any _ _ _ _ _ _ _ _ _ _ _ _ (HT.out _ _))) | (go_at_call 52; exact Calls.on_of (amo5_any _ _ _ _ _ _ _ _ _ _ _ _)) | (go_at_call 51; exact Calls.on_of (R_any _ _ _ _ _ _ (by unfold I64; omega) HI.out.2.1 (sz_in _) HI.out.2.2.1 HI.out.2.2.2.1 (wrap_in _) _))))
  refine wpQuiet_nil ?_
  intro _ hw'
  obtain ⟨⟨dq, osq⟩, hw''⟩ := hw'
  subst hw''
  go_wp2
  go_ret2
  exact ⟨⟨_, _, rfl, amo_right ⟨22, f, d, s, t, m, z, a, b, c, k⟩ (by simp)⟩, ((On.refl w).alloc _).grow _ _⟩
set_option maxRecDepth 100000 in
set_option maxHeartbeats 4000000 in
theorem asm_8 (f d s t z k : Int) (m : BitVec 64) (a b c : Bool) (w : World) (ht : Tab w) (HI : Hid (I64 f ∧ I64 d ∧ I64 s ∧ I64 t ∧ I64 z ∧ I64 k)) :
    Calls Tryd.prog 30 #[.agg #[.int .i64 8, .int .i64 f, .int .i64 d, .int .i64 s, .int .i64 t, .int .u64 (u m), .int .i64 z, .bool a, .bool b, .bool c, .int .i64 k]] w fun e w' => Ans ⟨8, f, d, s, t, m, z, a, b, c, k⟩ e ∧ On w w' := by
  have e2 : wrap64 (u m) = sg m := by rw [← IntWalk.i64_left, wrap_sg]
  have HB : Hid (On w (w.alloc (.cells #[.int .i64 8, .int .i64 f, .int .i64 d, .int .i64 s, .int .i64 t, .int .u64 (u m), .int .i64 z, .bool a, .bool b, .bool c, .int .i64 k] 24))) := Lib.hid ((On.refl w).alloc _)
  go_enter Tryd.func30, Tryd.ntmps30
  go_wp2_with (first | (go_at_call 49; refine (num_asm 8 _ _ _ _ _ _ _ _ _ _ _ (Lib.hid ⟨(by unfold I64; omega), HI.out⟩)).mono ?_; rintro e wn ⟨rfl, h⟩; replace HB := tr HB h; clear h))
  all_goals (go_ret2; exact ⟨⟨_, _, rfl, right_8 _ rfl⟩, HB.out⟩)
set_option maxRecDepth 100000 in
set_option maxHeartbeats 4000000 in
theorem asm_9 (f d s t z k : Int) (m : BitVec 64) (a b c : Bool) (w : World) (ht : Tab w) (HI : Hid (I64 f ∧ I64 d ∧ I64 s ∧ I64 t ∧ I64 z ∧ I64 k)) :
    Calls Tryd.prog 30 #[.agg #[.int .i64 9, .int .i64 f, .int .i64 d, .int .i64 s, .int .i64 t, .int .u64 (u m), .int .i64 z, .bool a, .bool b, .bool c, .int .i64 k]] w fun e w' => Ans ⟨9, f, d, s, t, m, z, a, b, c, k⟩ e ∧ On w w' := by
  have e2 : wrap64 (u m) = sg m := by rw [← IntWalk.i64_left, wrap_sg]
  have HB : Hid (On w (w.alloc (.cells #[.int .i64 9, .int .i64 f, .int .i64 d, .int .i64 s, .int .i64 t, .int .u64 (u m), .int .i64 z, .bool a, .bool b, .bool c, .int .i64 k] 24))) := Lib.hid ((On.refl w).alloc _)
  go_enter Tryd.func30, Tryd.ntmps30
  go_wp2_with (first | (go_at_call 50; refine (reg_asm 9 _ _ _ _ _ _ _ _ _ _ _ (Lib.hid ⟨(by unfold I64; omega), HI.out⟩)).mono ?_; rintro e wn ⟨rfl, h⟩; replace HB := tr HB h; clear h))
  all_goals (go_ret2; exact ⟨⟨_, _, rfl, right_9 _ rfl⟩, HB.out⟩)
set_option maxRecDepth 100000 in
set_option maxHeartbeats 4000000 in
theorem asm_10 (f d s t z k : Int) (m : BitVec 64) (a b c : Bool) (w : World) (ht : Tab w) (HI : Hid (I64 f ∧ I64 d ∧ I64 s ∧ I64 t ∧ I64 z ∧ I64 k)) :
    Calls Tryd.prog 30 #[.agg #[.int .i64 10, .int .i64 f, .int .i64 d, .int .i64 s, .int .i64 t, .int .u64 (u m), .int .i64 z, .bool a, .bool b, .bool c, .int .i64 k]] w fun e w' => Ans ⟨10, f, d, s, t, m, z, a, b, c, k⟩ e ∧ On w w' := by
  have e2 : wrap64 (u m) = sg m := by rw [← IntWalk.i64_left, wrap_sg]
  have HB : Hid (On w (w.alloc (.cells #[.int .i64 10, .int .i64 f, .int .i64 d, .int .i64 s, .int .i64 t, .int .u64 (u m), .int .i64 z, .bool a, .bool b, .bool c, .int .i64 k] 24))) := Lib.hid ((On.refl w).alloc _)
  go_enter Tryd.func30, Tryd.ntmps30
  go_wp2_with (first | (go_at_call 50; refine (reg_asm 10 _ _ _ _ _ _ _ _ _ _ _ (Lib.hid ⟨(by unfold I64; omega), HI.out⟩)).mono ?_; rintro e wn ⟨rfl, h⟩; replace HB := tr HB h; clear h))
  all_goals (go_ret2; exact ⟨⟨_, _, rfl, right_10 _ rfl⟩, HB.out⟩)
theorem fence_0 : asmW 15 0 0 0 0 0 0 LI = 15#32 ∧ asmE 15 0 0 0 0 0 0 LI = 0 := by decide +kernel
theorem fence_1 : asmW 15 0 1 0 0 0 0 LI = 4111#32 ∧ asmE 15 0 1 0 0 0 0 LI = 0 := by decide +kernel
theorem fence_0I (w : World) : Calls Tryd.prog 44 #[.int .i64 15, .int .i64 0, .int .i64 0, .int .i64 0, .int .i64 0] w fun e w' => e = .returned (.tuple #[.int .u32 (q 15#32), .int .i64 0]) ∧ On w w' := by
  have h := I_any 15 0 0 0 0 (by unfold I64; omega) (by unfold I64; omega) (by unfold I64; omega) (by unfold I64; omega) w
  rw [fence_0.1, fence_0.2] at h
  exact h
set_option maxRecDepth 100000 in
set_option maxHeartbeats 4000000 in
theorem asm_11 (f d s t z k : Int) (m : BitVec 64) (a b c : Bool) (w : World) (ht : Tab w) (HI : Hid (I64 f ∧ I64 d ∧ I64 s ∧ I64 t ∧ I64 z ∧ I64 k)) :
    Calls Tryd.prog 30 #[.agg #[.int .i64 11, .int .i64 f, .int .i64 d, .int .i64 s, .int .i64 t, .int .u64 (u m), .int .i64 z, .bool a, .bool b, .bool c, .int .i64 k]] w fun e w' => Ans ⟨11, f, d, s, t, m, z, a, b, c, k⟩ e ∧ On w w' := by
  have e2 : wrap64 (u m) = sg m := by rw [← IntWalk.i64_left, wrap_sg]
  have HB : Hid (On w (w.alloc (.cells #[.int .i64 11, .int .i64 f, .int .i64 d, .int .i64 s, .int .i64 t, .int .u64 (u m), .int .i64 z, .bool a, .bool b, .bool c, .int .i64 k] 24))) := Lib.hid ((On.refl w).alloc _)
  go_enter Tryd.func30, Tryd.ntmps30
  go_wp2_with (first | (go_at_call 44; refine (fence_0I _).mono ?_; rintro e wn ⟨rfl, h⟩; replace HB := tr HB h; clear h))
  all_goals (go_ret2; exact ⟨⟨_, _, rfl, right_11 _ rfl⟩, HB.out⟩)
theorem fence_1I (w : World) : Calls Tryd.prog 44 #[.int .i64 15, .int .i64 0, .int .i64 1, .int .i64 0, .int .i64 0] w fun e w' => e = .returned (.tuple #[.int .u32 (q 4111#32), .int .i64 0]) ∧ On w w' := by
  have h := I_any 15 0 1 0 0 (by unfold I64; omega) (by unfold I64; omega) (by unfold I64; omega) (by unfold I64; omega) w
  rw [fence_1.1, fence_1.2] at h
  exact h
set_option maxRecDepth 100000 in
set_option maxHeartbeats 4000000 in
theorem asm_12 (f d s t z k : Int) (m : BitVec 64) (a b c : Bool) (w : World) (ht : Tab w) (HI : Hid (I64 f ∧ I64 d ∧ I64 s ∧ I64 t ∧ I64 z ∧ I64 k)) :
    Calls Tryd.prog 30 #[.agg #[.int .i64 12, .int .i64 f, .int .i64 d, .int .i64 s, .int .i64 t, .int .u64 (u m), .int .i64 z, .bool a, .bool b, .bool c, .int .i64 k]] w fun e w' => Ans ⟨12, f, d, s, t, m, z, a, b, c, k⟩ e ∧ On w w' := by
  have e2 : wrap64 (u m) = sg m := by rw [← IntWalk.i64_left, wrap_sg]
  have HB : Hid (On w (w.alloc (.cells #[.int .i64 12, .int .i64 f, .int .i64 d, .int .i64 s, .int .i64 t, .int .u64 (u m), .int .i64 z, .bool a, .bool b, .bool c, .int .i64 k] 24))) := Lib.hid ((On.refl w).alloc _)
  go_enter Tryd.func30, Tryd.ntmps30
  go_wp2_with (first | (go_at_call 44; refine (fence_1I _).mono ?_; rintro e wn ⟨rfl, h⟩; replace HB := tr HB h; clear h))
  all_goals (go_ret2; exact ⟨⟨_, _, rfl, right_12 _ rfl⟩, HB.out⟩)
set_option maxRecDepth 100000 in
set_option maxHeartbeats 4000000 in
theorem asm_13 (f d s t z k : Int) (m : BitVec 64) (a b c : Bool) (w : World) (ht : Tab w) (HI : Hid (I64 f ∧ I64 d ∧ I64 s ∧ I64 t ∧ I64 z ∧ I64 k)) :
    Calls Tryd.prog 30 #[.agg #[.int .i64 13, .int .i64 f, .int .i64 d, .int .i64 s, .int .i64 t, .int .u64 (u m), .int .i64 z, .bool a, .bool b, .bool c, .int .i64 k]] w fun e w' => Ans ⟨13, f, d, s, t, m, z, a, b, c, k⟩ e ∧ On w w' := by
  have e2 : wrap64 (u m) = sg m := by rw [← IntWalk.i64_left, wrap_sg]
  have HB : Hid (On w (w.alloc (.cells #[.int .i64 13, .int .i64 f, .int .i64 d, .int .i64 s, .int .i64 t, .int .u64 (u m), .int .i64 z, .bool a, .bool b, .bool c, .int .i64 k] 24))) := Lib.hid ((On.refl w).alloc _)
  go_enter Tryd.func30, Tryd.ntmps30
  go_wp2_with (first | (go_at_call 53; refine (sys_13_asm _ _ _ _ _ _ _ _ _ _ _).mono ?_; rintro e wn ⟨⟨v, n, rfl, hr⟩, h⟩; have HR := Lib.hid hr; replace HB := tr HB h; clear h hr))
  all_goals (go_ret2; exact ⟨⟨_, _, rfl, HR.out⟩, HB.out⟩)
set_option maxRecDepth 100000 in
set_option maxHeartbeats 4000000 in
theorem asm_14 (f d s t z k : Int) (m : BitVec 64) (a b c : Bool) (w : World) (ht : Tab w) (HI : Hid (I64 f ∧ I64 d ∧ I64 s ∧ I64 t ∧ I64 z ∧ I64 k)) :
    Calls Tryd.prog 30 #[.agg #[.int .i64 14, .int .i64 f, .int .i64 d, .int .i64 s, .int .i64 t, .int .u64 (u m), .int .i64 z, .bool a, .bool b, .bool c, .int .i64 k]] w fun e w' => Ans ⟨14, f, d, s, t, m, z, a, b, c, k⟩ e ∧ On w w' := by
  have e2 : wrap64 (u m) = sg m := by rw [← IntWalk.i64_left, wrap_sg]
  have HB : Hid (On w (w.alloc (.cells #[.int .i64 14, .int .i64 f, .int .i64 d, .int .i64 s, .int .i64 t, .int .u64 (u m), .int .i64 z, .bool a, .bool b, .bool c, .int .i64 k] 24))) := Lib.hid ((On.refl w).alloc _)
  go_enter Tryd.func30, Tryd.ntmps30
  go_wp2_with (first | (go_at_call 53; refine (sys_14_asm _ _ _ _ _ _ _ _ _ _ _).mono ?_; rintro e wn ⟨⟨v, n, rfl, hr⟩, h⟩; have HR := Lib.hid hr; replace HB := tr HB h; clear h hr))
  all_goals (go_ret2; exact ⟨⟨_, _, rfl, HR.out⟩, HB.out⟩)
set_option maxRecDepth 100000 in
set_option maxHeartbeats 4000000 in
theorem asm_15 (f d s t z k : Int) (m : BitVec 64) (a b c : Bool) (w : World) (ht : Tab w) (HI : Hid (I64 f ∧ I64 d ∧ I64 s ∧ I64 t ∧ I64 z ∧ I64 k)) :
    Calls Tryd.prog 30 #[.agg #[.int .i64 15, .int .i64 f, .int .i64 d, .int .i64 s, .int .i64 t, .int .u64 (u m), .int .i64 z, .bool a, .bool b, .bool c, .int .i64 k]] w fun e w' => Ans ⟨15, f, d, s, t, m, z, a, b, c, k⟩ e ∧ On w w' := by
  have e2 : wrap64 (u m) = sg m := by rw [← IntWalk.i64_left, wrap_sg]
  have HB : Hid (On w (w.alloc (.cells #[.int .i64 15, .int .i64 f, .int .i64 d, .int .i64 s, .int .i64 t, .int .u64 (u m), .int .i64 z, .bool a, .bool b, .bool c, .int .i64 k] 24))) := Lib.hid ((On.refl w).alloc _)
  go_enter Tryd.func30, Tryd.ntmps30
  go_wp2_with (first | (go_at_call 53; refine (sys_15_asm _ _ _ _ _ _ _ _ _ _ _).mono ?_; rintro e wn ⟨⟨v, n, rfl, hr⟩, h⟩; have HR := Lib.hid hr; replace HB := tr HB h; clear h hr))
  all_goals (go_ret2; exact ⟨⟨_, _, rfl, HR.out⟩, HB.out⟩)
set_option maxRecDepth 100000 in
set_option maxHeartbeats 4000000 in
theorem asm_16 (f d s t z k : Int) (m : BitVec 64) (a b c : Bool) (w : World) (ht : Tab w) (HI : Hid (I64 f ∧ I64 d ∧ I64 s ∧ I64 t ∧ I64 z ∧ I64 k)) :
    Calls Tryd.prog 30 #[.agg #[.int .i64 16, .int .i64 f, .int .i64 d, .int .i64 s, .int .i64 t, .int .u64 (u m), .int .i64 z, .bool a, .bool b, .bool c, .int .i64 k]] w fun e w' => Ans ⟨16, f, d, s, t, m, z, a, b, c, k⟩ e ∧ On w w' := by
  have e2 : wrap64 (u m) = sg m := by rw [← IntWalk.i64_left, wrap_sg]
  have HB : Hid (On w (w.alloc (.cells #[.int .i64 16, .int .i64 f, .int .i64 d, .int .i64 s, .int .i64 t, .int .u64 (u m), .int .i64 z, .bool a, .bool b, .bool c, .int .i64 k] 24))) := Lib.hid ((On.refl w).alloc _)
  go_enter Tryd.func30, Tryd.ntmps30
  go_wp2_with (first | (go_at_call 53; refine (sys_16_asm _ _ _ _ _ _ _ _ _ _ _).mono ?_; rintro e wn ⟨⟨v, n, rfl, hr⟩, h⟩; have HR := Lib.hid hr; replace HB := tr HB h; clear h hr))
  all_goals (go_ret2; exact ⟨⟨_, _, rfl, HR.out⟩, HB.out⟩)
set_option maxRecDepth 100000 in
set_option maxHeartbeats 4000000 in
theorem asm_17 (f d s t z k : Int) (m : BitVec 64) (a b c : Bool) (w : World) (ht : Tab w) (HI : Hid (I64 f ∧ I64 d ∧ I64 s ∧ I64 t ∧ I64 z ∧ I64 k)) :
    Calls Tryd.prog 30 #[.agg #[.int .i64 17, .int .i64 f, .int .i64 d, .int .i64 s, .int .i64 t, .int .u64 (u m), .int .i64 z, .bool a, .bool b, .bool c, .int .i64 k]] w fun e w' => Ans ⟨17, f, d, s, t, m, z, a, b, c, k⟩ e ∧ On w w' := by
  have e2 : wrap64 (u m) = sg m := by rw [← IntWalk.i64_left, wrap_sg]
  have HB : Hid (On w (w.alloc (.cells #[.int .i64 17, .int .i64 f, .int .i64 d, .int .i64 s, .int .i64 t, .int .u64 (u m), .int .i64 z, .bool a, .bool b, .bool c, .int .i64 k] 24))) := Lib.hid ((On.refl w).alloc _)
  go_enter Tryd.func30, Tryd.ntmps30
  go_wp2_with (first | (go_at_call 53; refine (sys_17_asm _ _ _ _ _ _ _ _ _ _ _).mono ?_; rintro e wn ⟨⟨v, n, rfl, hr⟩, h⟩; have HR := Lib.hid hr; replace HB := tr HB h; clear h hr))
  all_goals (go_ret2; exact ⟨⟨_, _, rfl, HR.out⟩, HB.out⟩)
set_option maxRecDepth 100000 in
set_option maxHeartbeats 4000000 in
theorem asm_18 (f d s t z k : Int) (m : BitVec 64) (a b c : Bool) (w : World) (ht : Tab w) (HI : Hid (I64 f ∧ I64 d ∧ I64 s ∧ I64 t ∧ I64 z ∧ I64 k)) :
    Calls Tryd.prog 30 #[.agg #[.int .i64 18, .int .i64 f, .int .i64 d, .int .i64 s, .int .i64 t, .int .u64 (u m), .int .i64 z, .bool a, .bool b, .bool c, .int .i64 k]] w fun e w' => Ans ⟨18, f, d, s, t, m, z, a, b, c, k⟩ e ∧ On w w' := by
  have e2 : wrap64 (u m) = sg m := by rw [← IntWalk.i64_left, wrap_sg]
  have HB : Hid (On w (w.alloc (.cells #[.int .i64 18, .int .i64 f, .int .i64 d, .int .i64 s, .int .i64 t, .int .u64 (u m), .int .i64 z, .bool a, .bool b, .bool c, .int .i64 k] 24))) := Lib.hid ((On.refl w).alloc _)
  go_enter Tryd.func30, Tryd.ntmps30
  go_wp2_with (first | (go_at_call 53; refine (sys_18_asm _ _ _ _ _ _ _ _ _ _ _ HI).mono ?_; rintro e wn ⟨⟨v, n, rfl, hr⟩, h⟩; have HR := Lib.hid hr; replace HB := tr HB h; clear h hr))
  all_goals (go_ret2; exact ⟨⟨_, _, rfl, HR.out⟩, HB.out⟩)
set_option maxRecDepth 100000 in
set_option maxHeartbeats 4000000 in
theorem asm_19 (f d s t z k : Int) (m : BitVec 64) (a b c : Bool) (w : World) (ht : Tab w) (HI : Hid (I64 f ∧ I64 d ∧ I64 s ∧ I64 t ∧ I64 z ∧ I64 k)) :
    Calls Tryd.prog 30 #[.agg #[.int .i64 19, .int .i64 f, .int .i64 d, .int .i64 s, .int .i64 t, .int .u64 (u m), .int .i64 z, .bool a, .bool b, .bool c, .int .i64 k]] w fun e w' => Ans ⟨19, f, d, s, t, m, z, a, b, c, k⟩ e ∧ On w w' := by
  have e2 : wrap64 (u m) = sg m := by rw [← IntWalk.i64_left, wrap_sg]
  have HB : Hid (On w (w.alloc (.cells #[.int .i64 19, .int .i64 f, .int .i64 d, .int .i64 s, .int .i64 t, .int .u64 (u m), .int .i64 z, .bool a, .bool b, .bool c, .int .i64 k] 24))) := Lib.hid ((On.refl w).alloc _)
  go_enter Tryd.func30, Tryd.ntmps30
  go_wp2_with (first | (go_at_call 53; refine (sys_19_asm _ _ _ _ _ _ _ _ _ _ _ HI).mono ?_; rintro e wn ⟨⟨v, n, rfl, hr⟩, h⟩; have HR := Lib.hid hr; replace HB := tr HB h; clear h hr))
  all_goals (go_ret2; exact ⟨⟨_, _, rfl, HR.out⟩, HB.out⟩)
set_option maxRecDepth 100000 in
set_option maxHeartbeats 4000000 in
theorem asm_n (o : Int) (f d s t z k : Int) (m : BitVec 64) (a b c : Bool) (w : World) (N : Hid (o < 1 ∨ 22 < o)) :
    Calls Tryd.prog 30 #[.agg #[.int .i64 o, .int .i64 f, .int .i64 d, .int .i64 s, .int .i64 t, .int .u64 (u m), .int .i64 z, .bool a, .bool b, .bool c, .int .i64 k]] w fun e w' => Ans ⟨o, f, d, s, t, m, z, a, b, c, k⟩ e ∧ On w w' := by
  have e2 : wrap64 (u m) = sg m := by rw [← IntWalk.i64_left, wrap_sg]
  have b1 : (o == 1) = false := by have := N.out; simp; omega
  have b2 : (o == 2) = false := by have := N.out; simp; omega
  have b3 : (o == 3) = false := by have := N.out; simp; omega
  have b4 : (o == 4) = false := by have := N.out; simp; omega
  have b5 : (o == 5) = false := by have := N.out; simp; omega
  have b6 : (o == 6) = false := by have := N.out; simp; omega
  have b7 : (o == 7) = false := by have := N.out; simp; omega
  have b8 : (o == 8) = false := by have := N.out; simp; omega
  have b9 : (o == 9) = false := by have := N.out; simp; omega
  have b10 : (o == 10) = false := by have := N.out; simp; omega
  have b11 : (o == 11) = false := by have := N.out; simp; omega
  have b12 : (o == 12) = false := by have := N.out; simp; omega
  have b20 : (o == 20) = false := by have := N.out; simp; omega
  have b21 : (o == 21) = false := by have := N.out; simp; omega
  have b22 : (o == 22) = false := by have := N.out; simp; omega
  have HB : Hid (On w (w.alloc (.cells #[.int .i64 o, .int .i64 f, .int .i64 d, .int .i64 s, .int .i64 t, .int .u64 (u m), .int .i64 z, .bool a, .bool b, .bool c, .int .i64 k] 24))) := Lib.hid ((On.refl w).alloc _)
  go_enter Tryd.func30, Tryd.ntmps30
  go_wp2_with (go_at_call 53; refine (sys_n_asm _ _ _ _ _ _ _ _ _ _ _ _ N).mono ?_; rintro e wn ⟨⟨v, n, rfl, hr⟩, h⟩; have HR := Lib.hid hr; replace HB := tr HB h; clear h hr)
  go_ret2
  exact ⟨⟨_, _, rfl, HR.out⟩, HB.out⟩
theorem asm_any (o f d s t z k : Int) (m : BitVec 64) (a b c : Bool) (w : World) (ht : Tab w) (HI : Hid (I64 o ∧ I64 f ∧ I64 d ∧ I64 s ∧ I64 t ∧ I64 z ∧ I64 k)) :
    Calls Tryd.prog 30 #[.agg #[.int .i64 o, .int .i64 f, .int .i64 d, .int .i64 s, .int .i64 t, .int .u64 (u m), .int .i64 z, .bool a, .bool b, .bool c, .int .i64 k]] w fun e w' => Ans ⟨o, f, d, s, t, m, z, a, b, c, k⟩ e ∧ On w w' := by
  by_cases n1 : o = 1
  · subst n1; exact asm_1 f d s t z k m a b c w ht (Lib.hid HI.out.2)
  by_cases n2 : o = 2
  · subst n2; exact asm_2 f d s t z k m a b c w ht (Lib.hid HI.out.2)
  by_cases n3 : o = 3
  · subst n3; exact asm_3 f d s t z k m a b c w ht (Lib.hid HI.out.2)
  by_cases n4 : o = 4
  · subst n4; exact asm_4 f d s t z k m a b c w ht (Lib.hid HI.out.2)
  by_cases n5 : o = 5
  · subst n5; exact asm_5 f d s t z k m a b c w ht (Lib.hid HI.out.2)
  by_cases n6 : o = 6
  · subst n6; exact asm_6 f d s t z k m a b c w ht (Lib.hid HI.out.2)
  by_cases n7 : o = 7
  · subst n7; exact asm_7 f d s t z k m a b c w ht (Lib.hid HI.out.2)
  by_cases n8 : o = 8
  · subst n8; exact asm_8 f d s t z k m a b c w ht (Lib.hid HI.out.2)
  by_cases n9 : o = 9
  · subst n9; exact asm_9 f d s t z k m a b c w ht (Lib.hid HI.out.2)
  by_cases n10 : o = 10
  · subst n10; exact asm_10 f d s t z k m a b c w ht (Lib.hid HI.out.2)
  by_cases n11 : o = 11
  · subst n11; exact asm_11 f d s t z k m a b c w ht (Lib.hid HI.out.2)
  by_cases n12 : o = 12
  · subst n12; exact asm_12 f d s t z k m a b c w ht (Lib.hid HI.out.2)
  by_cases n13 : o = 13
  · subst n13; exact asm_13 f d s t z k m a b c w ht (Lib.hid HI.out.2)
  by_cases n14 : o = 14
  · subst n14; exact asm_14 f d s t z k m a b c w ht (Lib.hid HI.out.2)
  by_cases n15 : o = 15
  · subst n15; exact asm_15 f d s t z k m a b c w ht (Lib.hid HI.out.2)
  by_cases n16 : o = 16
  · subst n16; exact asm_16 f d s t z k m a b c w ht (Lib.hid HI.out.2)
  by_cases n17 : o = 17
  · subst n17; exact asm_17 f d s t z k m a b c w ht (Lib.hid HI.out.2)
  by_cases n18 : o = 18
  · subst n18; exact asm_18 f d s t z k m a b c w ht (Lib.hid HI.out.2)
  by_cases n19 : o = 19
  · subst n19; exact asm_19 f d s t z k m a b c w ht (Lib.hid HI.out.2)
  by_cases n20 : o = 20
  · subst n20; exact asm_20 f d s t z k m a b c w ht (Lib.hid HI.out.2)
  by_cases n21 : o = 21
  · subst n21; exact asm_21 f d s t z k m a b c w ht (Lib.hid HI.out.2)
  by_cases n22 : o = 22
  · subst n22; exact asm_22 f d s t z k m a b c w ht (Lib.hid HI.out.2)
  exact asm_n o f d s t z k m a b c w (Lib.hid (by omega))
end Go.Proofs.YtjnalgilkdoalaaDoor
