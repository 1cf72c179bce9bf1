/- What the parts of package decode that assemble a word come to: trailing zeros, sizes, operations. Conditions: the library's table lies in memory. -/
import Derived.Test.YtjnalgilkdoalaaDoorEncQ
import Derived.Test.YtjnalgilkdoalaaDoorAsm
namespace Go.Proofs.YtjnalgilkdoalaaDoor
open Go.RowKit
set_option linter.unusedSimpArgs false
set_option linter.unusedVariables false

/-- the library's table of trailing zeros lies in memory -/
def Tab (w : World) : Prop := 0 < w.heap.size ∧ ∀ i, i < 64 → w.cell? ⟨0, i, none⟩ = some (.int .u8 (tz64.getD i 0))
theorem Tab.keep {w w' : World} (h : Tab w) (hw : On w w') : Tab w' := ⟨Nat.lt_of_lt_of_le h.1 hw.size, fun i hi => (Below.cell hw (p := ⟨0, i, none⟩) h.1).trans (h.2 i hi)⟩
theorem tz_range (n : Nat) : 0 ≤ tz64.getD n 0 ∧ tz64.getD n 0 ≤ 63 := by
  by_cases c : n < 64
  · have hall : ∀ n : Fin 64, 0 ≤ tz64.getD n.val 0 ∧ tz64.getD n.val 0 ≤ 63 := by decide +kernel
    exact hall ⟨n, c⟩
  · rw [List.getD_eq_getElem?_getD, List.getElem?_eq_none (by show 64 ≤ n; omega)]; simp
set_option maxRecDepth 100000 in
set_option maxHeartbeats 4000000 in
theorem tz_any (v : BitVec 64) (w : World) (ht : Tab w) :
    Calls Tryd.prog 72 #[.int .u64 (u v)] w fun e w' => e = .returned (.int .i64 (tzOf v)) ∧ w = w' := by
  by_cases hv : v = 0#64
  · subst hv
    have b0 : (u 0#64 == 0) = true := rfl
    go_enter Tryd.func72, Tryd.ntmps72
    go_wp2
    go_ret
    exact ⟨rfl, rfl⟩
  · have b0 : (u v == 0) = false := by
      rw [show (0 : Int) = u 0#64 by rfl, u_beq]; simpa using hv
    have e1 : IntKind.u64.wrap (-(u v)) = u (-v) := by rw [wrap_ofInt, BitVec.ofInt_neg, ofInt_u]
    have e2 : bits .and .u64 (u v) (u (-v)) = u (v &&& -v) := u_and _ _
    have e3 : IntKind.u64.wrap (u (v &&& -v) * 285870213051353865) = u ((v &&& -v) * 285870213051353865#64) := by
      rw [wrap_ofInt, BitVec.ofInt_mul, ofInt_u]; rfl
    obtain ⟨n, hn⟩ : ∃ n, (((v &&& -v) * 285870213051353865#64) >>> 58).toNat = n := ⟨_, rfl⟩
    have hn64 : n < 64 := by
      rw [← hn, BitVec.toNat_ushiftRight, Nat.shiftRight_eq_div_pow]
      have := ((v &&& -v) * 285870213051353865#64).isLt
      omega
    have e4 : u ((v &&& -v) * 285870213051353865#64) / 288230376151711744 = (n : Int) := by
      rw [show (288230376151711744 : Int) = 2 ^ 58 by decide, u_shr]; unfold u; rw [hn]
    have hz : tzOf v = tz64.getD n 0 := by unfold tzOf; rw [if_neg hv, hn]
    have hc := ht.2 n hn64
    have hr := tz_range n
    rw [hz]
    have HV := Lib.hid hv
    clear hv hz hn ht
    obtain ⟨y, hy⟩ : ∃ y, tz64.getD n 0 = y := ⟨_, rfl⟩
    rw [hy] at hc hr ⊢
    clear hy
    obtain ⟨r1, r2⟩ := hr
    have hw : wrap64 y = y := IntWalk.wrap64_in _ (by omega)
    have i0 : (0 : Int) ≤ (n : Int) := by omega
    have i1 : (n : Int) < 64 := by omega
    go_enter Tryd.func72, Tryd.ntmps72
    go_wp2
    go_ret
    exact ⟨rfl, rfl⟩
set_option maxRecDepth 100000 in
set_option maxHeartbeats 4000000 in
theorem size_any (o f d s t z k : Int) (m : BitVec 64) (a b c : Bool) (w : World) (ht : Tab w) :
    Calls Tryd.prog 48 #[.agg #[.int .i64 o, .int .i64 f, .int .i64 d, .int .i64 s, .int .i64 t, .int .u64 (u m), .int .i64 z, .bool a, .bool b, .bool c, .int .i64 k]] w fun e w' => e = .returned (.int .i64 (szOf z)) ∧ On w w' := by
  have HT := Lib.hid (ht.keep ((On.refl w).alloc (.cells #[.int .i64 o, .int .i64 f, .int .i64 d, .int .i64 s, .int .i64 t, .int .u64 (u m), .int .i64 z, .bool a, .bool b, .bool c, .int .i64 k] 24)))
  have e0 := wrap_wd z
  clear ht
  go_enter Tryd.func48, Tryd.ntmps48
  go_wp2_with (go_at_call 72; refine (tz_any _ _ HT.out).mono ?_; rintro e wn ⟨rfl, rfl⟩)
  go_ret
  exact ⟨rfl, (On.refl w).alloc _⟩
set_option maxRecDepth 100000 in
set_option maxHeartbeats 4000000 in
theorem load_any (o f d s t z k : Int) (m : BitVec 64) (a b c : Bool) (w : World) (ht : Tab w) :
    Calls Tryd.prog 46 #[.agg #[.int .i64 o, .int .i64 f, .int .i64 d, .int .i64 s, .int .i64 t, .int .u64 (u m), .int .i64 z, .bool a, .bool b, .bool c, .int .i64 k]] w fun e w' => e = .returned (.int .i64 (lfOf a z)) ∧ On w w' := by
  have hz : 0 ≤ szOf z ∧ szOf z ≤ 64 := tz_small (wd64 z)
  have hs : Calls Tryd.prog 48 #[.agg #[.int .i64 o, .int .i64 f, .int .i64 d, .int .i64 s, .int .i64 t, .int .u64 (u m), .int .i64 z, .bool a, .bool b, .bool c, .int .i64 k]] (w.alloc (.cells #[.int .i64 o, .int .i64 f, .int .i64 d, .int .i64 s, .int .i64 t, .int .u64 (u m), .int .i64 z, .bool a, .bool b, .bool c, .int .i64 k] 24)) fun e w' => e = .returned (.int .i64 (szOf z)) ∧ On (w.alloc (.cells #[.int .i64 o, .int .i64 f, .int .i64 d, .int .i64 s, .int .i64 t, .int .u64 (u m), .int .i64 z, .bool a, .bool b, .bool c, .int .i64 k] 24)) w' := size_any o f d s t z k m a b c _ (ht.keep ((On.refl w).alloc _))
  have hl : lfOf a z = if a = true then szOf z else szOf z + 4 := rfl
  rw [hl]
  obtain ⟨y, hy⟩ : ∃ y, szOf z = y := ⟨_, rfl⟩
  rw [hy] at hs hz ⊢
  clear hy hl ht
  obtain ⟨z1, z2⟩ := hz
  have e0 : wrap64 (y + 4) = y + 4 := IntWalk.wrap64_in _ (by omega)
  have HS := Lib.hid hs
  clear hs
  have HB : Hid (On w (w.alloc (.cells #[.int .i64 o, .int .i64 f, .int .i64 d, .int .i64 s, .int .i64 t, .int .u64 (u m), .int .i64 z, .bool a, .bool b, .bool c, .int .i64 k] 24))) := Lib.hid ((On.refl w).alloc _)
  cases a
  · go_enter Tryd.func46, Tryd.ntmps46
    go_wp2_with (go_at_call 48; refine (HS.out).mono ?_; rintro e wn ⟨rfl, h⟩; replace HB := tr HB h; clear h)
    go_ret
    exact ⟨by first | rfl | simp, HB.out⟩
  · go_enter Tryd.func46, Tryd.ntmps46
    go_wp2_with (go_at_call 48; refine (HS.out).mono ?_; rintro e wn ⟨rfl, h⟩; replace HB := tr HB h; clear h)
    go_ret
    exact ⟨by first | rfl | simp, HB.out⟩
/-- the number of an atomic operation -/
def a5 (o f : Int) : Int := if o = 20 then 2 else if o = 21 then 3 else f
set_option maxRecDepth 100000 in
set_option maxHeartbeats 4000000 in
theorem amo5_any (o f d s t z k : Int) (m : BitVec 64) (a b c : Bool) (w : World) :
    Calls Tryd.prog 52 #[.agg #[.int .i64 o, .int .i64 f, .int .i64 d, .int .i64 s, .int .i64 t, .int .u64 (u m), .int .i64 z, .bool a, .bool b, .bool c, .int .i64 k]] w fun e w' => e = .returned (.int .i64 (a5 o f)) ∧ On w w' := by
  by_cases h1 : o = 20
  · subst h1
    go_enter Tryd.func52, Tryd.ntmps52
    go_wp2
    go_ret
    exact ⟨rfl, (On.refl w).alloc _⟩
  by_cases h2 : o = 21
  · subst h2
    go_enter Tryd.func52, Tryd.ntmps52
    go_wp2
    go_ret
    exact ⟨rfl, (On.refl w).alloc _⟩
  have e : a5 o f = f := by unfold a5; rw [if_neg h1, if_neg h2]
  have b1 : (o == 20) = false := by simpa using h1
  have b2 : (o == 21) = false := by simpa using h2
  rw [e]
  clear h1 h2 e
  go_enter Tryd.func52, Tryd.ntmps52
  go_wp2
  go_ret
  exact ⟨rfl, (On.refl w).alloc _⟩
set_option maxRecDepth 100000 in
set_option maxHeartbeats 4000000 in
theorem plain_any (f : Int) (w : World) :
    Calls Tryd.prog 73 #[.int .i64 f] w fun e w' => e = .returned (.tuple #[.int .i64 (pf3 f), .int .i64 (pf7 f)]) ∧ w = w' := by
  by_cases h1 : f = 8
  · subst h1
    go_enter Tryd.func73, Tryd.ntmps73
    go_wp2
    go_ret2
    exact ⟨rfl, rfl⟩
  by_cases h2 : f = 13
  · subst h2
    go_enter Tryd.func73, Tryd.ntmps73
    go_wp2
    go_ret2
    exact ⟨rfl, rfl⟩
  have e : pf3 f = f ∧ pf7 f = 0 := by unfold pf3 pf7; rw [if_neg h1, if_neg h2, if_neg (by omega)]; exact ⟨rfl, rfl⟩
  have b1 : (f == 8) = false := by simpa using h1
  have b2 : (f == 13) = false := by simpa using h2
  rw [e.1, e.2]
  clear h1 h2 e
  go_enter Tryd.func73, Tryd.ntmps73
  go_wp2
  go_ret2
  exact ⟨rfl, rfl⟩
theorem pf3_in {f : Int} (h : I64 f) : I64 (pf3 f) := by unfold pf3; unfold I64 at h ⊢; (repeat' split) <;> omega
theorem pf7_cases (f : Int) : pf7 f = 0 ∨ pf7 f = 32 := by unfold pf7; split <;> simp
set_option maxRecDepth 100000 in
set_option maxHeartbeats 4000000 in
theorem num_asm (o f d s t z k : Int) (m : BitVec 64) (a b c : Bool) (w : World) (HI : Hid (I64 o ∧ I64 f ∧ I64 d ∧ I64 s ∧ I64 t ∧ I64 z ∧ I64 k)) :
    Calls Tryd.prog 49 #[.agg #[.int .i64 o, .int .i64 f, .int .i64 d, .int .i64 s, .int .i64 t, .int .u64 (u m), .int .i64 z, .bool a, .bool b, .bool c, .int .i64 k]] w fun e w' => e = .returned (.tuple #[.int .u32 (q (asmW (if b = true then 27 else 19) d (pf3 f) s 0 0 (bits .or .i64 (sg m) (pf7 f * 32)) LI)), .int .i64 (asmE (if b = true then 27 else 19) d (pf3 f) s 0 0 (bits .or .i64 (sg m) (pf7 f * 32)) LI)]) ∧ On w w' := by
  have h7 : pf7 f * 32 = 0 ∨ pf7 f * 32 = 1024 := by have := pf7_cases f; omega
  have w7 : wrap64 (pf7 f * 32) = pf7 f * 32 := IntWalk.wrap64_in _ (by omega)
  have w8 : IntKind.i64.wrap (pf7 f * 32) = pf7 f * 32 := by rw [IntWalk.i64_left, w7]
  clear h7
  have HB : Hid (On w (w.alloc (.cells #[.int .i64 o, .int .i64 f, .int .i64 d, .int .i64 s, .int .i64 t, .int .u64 (u m), .int .i64 z, .bool a, .bool b, .bool c, .int .i64 k] 24))) := Lib.hid ((On.refl w).alloc _)
  cases b
  · have e1 := wrap_sg m
    have e2 : wrap64 (u m) = sg m := by rw [← IntWalk.i64_left, wrap_sg]
    go_enter Tryd.func49, Tryd.ntmps49
    go_wp2_with (first | (go_at_call 73; refine (plain_any _ _).mono ?_; rintro e wn ⟨rfl, rfl⟩) | (go_at_call 44; refine (I_any _ _ _ _ _ (by unfold I64; omega) HI.out.2.2.1 (pf3_in HI.out.2.1) HI.out.2.2.2.1 _).mono ?_; rintro e wn ⟨rfl, h⟩; replace HB := tr HB h; clear h))
    go_ret2
    exact ⟨rfl, HB.out⟩
  · have e1 := wrap_sg m
    have e2 : wrap64 (u m) = sg m := by rw [← IntWalk.i64_left, wrap_sg]
    go_enter Tryd.func49, Tryd.ntmps49
    go_wp2_with (first | (go_at_call 73; refine (plain_any _ _).mono ?_; rintro e wn ⟨rfl, rfl⟩) | (go_at_call 44; refine (I_any _ _ _ _ _ (by unfold I64; omega) HI.out.2.2.1 (pf3_in HI.out.2.1) HI.out.2.2.2.1 _).mono ?_; rintro e wn ⟨rfl, h⟩; replace HB := tr HB h; clear h))
    go_ret2
    exact ⟨rfl, HB.out⟩

theorem pf7_in (f : Int) : I64 (pf7 f) := by have := pf7_cases f; unfold I64; omega
set_option maxRecDepth 100000 in
set_option maxHeartbeats 4000000 in
theorem reg_asm (o f d s t z k : Int) (m : BitVec 64) (a b c : Bool) (w : World) (HI : Hid (I64 o ∧ I64 f ∧ I64 d ∧ I64 s ∧ I64 t ∧ I64 z ∧ I64 k)) :
    Calls Tryd.prog 50 #[.agg #[.int .i64 o, .int .i64 f, .int .i64 d, .int .i64 s, .int .i64 t, .int .u64 (u m), .int .i64 z, .bool a, .bool b, .bool c, .int .i64 k]] w fun e w' => e = .returned (.tuple #[.int .u32 (q (asmW (if b = true then 59 else 51) d (if o = 10 then f else pf3 f) s t (if o = 10 then 1 else pf7 f) 0 [])), .int .i64 (asmE (if b = true then 59 else 51) d (if o = 10 then f else pf3 f) s t (if o = 10 then 1 else pf7 f) 0 [])]) ∧ On w w' := by
  have HB : Hid (On w (w.alloc (.cells #[.int .i64 o, .int .i64 f, .int .i64 d, .int .i64 s, .int .i64 t, .int .u64 (u m), .int .i64 z, .bool a, .bool b, .bool c, .int .i64 k] 24))) := Lib.hid ((On.refl w).alloc _)
  by_cases ho : o = 10
  · subst ho
    cases b
    · go_enter Tryd.func50, Tryd.ntmps50
      go_wp2_with (first | (go_at_call 73; refine (plain_any _ _).mono ?_; rintro e wn ⟨rfl, rfl⟩) | (go_at_call 51; refine (R_any _ _ _ _ _ _ (by unfold I64; omega) HI.out.2.2.1 HI.out.2.1 HI.out.2.2.2.1 HI.out.2.2.2.2.1 (by unfold I64; omega) _).mono ?_; rintro e wn ⟨rfl, h⟩; replace HB := tr HB h; clear h))
      go_ret2
      exact ⟨rfl, HB.out⟩
    · go_enter Tryd.func50, Tryd.ntmps50
      go_wp2_with (first | (go_at_call 73; refine (plain_any _ _).mono ?_; rintro e wn ⟨rfl, rfl⟩) | (go_at_call 51; refine (R_any _ _ _ _ _ _ (by unfold I64; omega) HI.out.2.2.1 HI.out.2.1 HI.out.2.2.2.1 HI.out.2.2.2.2.1 (by unfold I64; omega) _).mono ?_; rintro e wn ⟨rfl, h⟩; replace HB := tr HB h; clear h))
      go_ret2
      exact ⟨rfl, HB.out⟩
  · have bo : (o == 10) = false := by simpa using ho
    rw [if_neg ho, if_neg ho]
    clear ho
    cases b
    · go_enter Tryd.func50, Tryd.ntmps50
      go_wp2_with (first | (go_at_call 73; refine (plain_any _ _).mono ?_; rintro e wn ⟨rfl, rfl⟩) | (go_at_call 51; refine (R_any _ _ _ _ _ _ (by unfold I64; omega) HI.out.2.2.1 (pf3_in HI.out.2.1) HI.out.2.2.2.1 HI.out.2.2.2.2.1 (pf7_in f) _).mono ?_; rintro e wn ⟨rfl, h⟩; replace HB := tr HB h; clear h))
      go_ret2
      exact ⟨rfl, HB.out⟩
    · go_enter Tryd.func50, Tryd.ntmps50
      go_wp2_with (first | (go_at_call 73; refine (plain_any _ _).mono ?_; rintro e wn ⟨rfl, rfl⟩) | (go_at_call 51; refine (R_any _ _ _ _ _ _ (by unfold I64; omega) HI.out.2.2.1 (pf3_in HI.out.2.1) HI.out.2.2.2.1 HI.out.2.2.2.2.1 (pf7_in f) _).mono ?_; rintro e wn ⟨rfl, h⟩; replace HB := tr HB h; clear h))
      go_ret2
      exact ⟨rfl, HB.out⟩

end Go.Proofs.YtjnalgilkdoalaaDoor
