/- The calls of package ram: New, Pages, refused, Read, Write. Conditions: named at each. -/
import Derived.Test.YtkjkmekkcnmjnaaRamS
import Derived.Test.YtkjkmekkcnmjnaaHelpB
namespace Go.Proofs.Ytkjkmekkcnmjnaa
open Go.RowKit
set_option linter.unusedVariables false
set_option maxRecDepth 100000

theorem new_ok (p : Nat) (hp : 4 ≤ p ∧ p ≤ 256) (w : World) : Calls Try.prog 8 #[.int .i64 p] w fun e w' =>
    e = .returned (.tuple #[.pointer (some ⟨w.heap.size + 1, 0, none⟩), .int .i64 0]) ∧ On w w' ∧ RamAt w.heap.size (w.heap.size + 1) p (fun _ => 0) w' := by
  have h1 : (4 : Int) ≤ (p : Int) := by omega
  have h2 : (p : Int) ≤ 256 := by omega
  have hmm := @run_makeMap Try.prog
  have HP := Lib.hid hp
  clear hp
  go_enter Try.func8, Try.ntmps8
  go_wp2
  go_ret2
  have s1 := alloc_size w (.map #[] 0)
  refine ⟨rfl, ((On.refl w).alloc _).alloc _, w.heap.size, fun _ => none, HP.out, ⟨by omega, by omega, by simp⟩, ?_, ⟨#[], 0, ?_, tab_empty⟩, by simp, by simp, by simp, by simp⟩
  · rw [← s1]; exact blk_new _ _
  · exact ((On.refl _).alloc _).keep (blk_new w _)
theorem new_no (p : Int) (hp : p < 4 ∨ 256 < p) (w : World) : Calls Try.prog 8 #[.int .i64 p] w fun e w' => e = .returned (.tuple #[.pointer none, .int .i64 1]) ∧ w = w' := by
  by_cases h : p < 4
  · go_enter Try.func8, Try.ntmps8
    go_wp2
    go_ret2
    exact ⟨rfl, rfl⟩
  · have h2 : 256 < p := by omega
    have h1 : 4 ≤ p := by omega
    clear hp h
    go_enter Try.func8, Try.ntmps8
    go_wp2
    go_ret2
    exact ⟨rfl, rfl⟩
theorem pages_nil (w : World) : Calls Try.prog 16 #[.pointer none] w fun e w' => e = .returned (.int .i64 0) ∧ w = w' := by
  go_enter Try.func16, Try.ntmps16
  go_wp2
  go_ret
  exact ⟨rfl, rfl⟩
theorem pages_any {n r N : Nat} {M : Nat → Int} {w : World} (R : RamAt n r N M w) : Calls Try.prog 16 #[.pointer (some ⟨r, 0, none⟩)] w fun e w' => e = .returned (.int .i64 N) ∧ w = w' := by
  obtain ⟨mb, tab, R⟩ := R
  have c0 := blk_cell R.cell 0 rfl
  have HR := Lib.hid R
  clear R
  go_enter Try.func16, Try.ntmps16
  go_wp2
  go_ret
  exact ⟨rfl, rfl⟩
theorem refused_nil (a s : Int) (w : World) : Calls Try.prog 24 #[.pointer none, .int .u64 a, .int .i64 s] w fun e w' => e = .returned (.int .i64 2) ∧ w = w' := by
  go_enter Try.func24, Try.ntmps24
  go_wp2
  go_ret
  exact ⟨rfl, rfl⟩
/-- what speaks against a word of that size there -/
def refA (a : BitVec 64) (s : Int) : Int := if s = 1 ∨ s = 2 ∨ s = 4 ∨ s = 8 then (if mult a s then 0 else 5) else 1
theorem refused_any (r : Nat) (a : BitVec 64) (s : Int) (hs : s ≤ 9223372036854775807) (w : World) : Calls Try.prog 24 #[.pointer (some ⟨r, 0, none⟩), .int .u64 (u a), .int .i64 s] w fun e w' => e = .returned (.int .i64 (refA a s)) ∧ w = w' := by
  have H := aligned_any a s hs w
  by_cases h : s = 1 ∨ s = 2 ∨ s = 4 ∨ s = 8
  · have E : Hid (refA a s = if mult a s then 0 else 5) := Lib.hid (by unfold refA; rw [if_pos h])
    cases hm : mult a s <;> rw [hm] at E H <;> (
      have H := Lib.hid H
      have Hm := Lib.hid hm
      clear hm
      rcases h with rfl | rfl | rfl | rfl <;> (
        go_enter Try.func24, Try.ntmps24
        go_wp2_with (go_at_call 40; refine H.out.mono ?_; rintro e w' ⟨rfl, rfl⟩)
        go_ret
        exact ⟨by rw [E.out]; rfl, rfl⟩))
  · have E : Hid (refA a s = 1) := Lib.hid (by unfold refA; rw [if_neg h])
    have h1 : ¬ s = 1 := fun e => h (.inl e)
    have h2 : ¬ s = 2 := fun e => h (.inr (.inl e))
    have h3 : ¬ s = 4 := fun e => h (.inr (.inr (.inl e)))
    have h4 : ¬ s = 8 := fun e => h (.inr (.inr (.inr e)))
    clear h H
    go_enter Try.func24, Try.ntmps24
    go_wp2
    go_ret
    exact ⟨by rw [E.out]; rfl, rfl⟩

theorem load_nil (r : Nat) (A : Int) (a : Option Addr) (c : Nat) (w : World) : Calls Try.prog 38 #[.pointer (some ⟨r, 0, none⟩), .int .u64 A, .slice a 0 c] w fun e w' => e = .returned (.tuple #[]) ∧ w = w' := by
  go_enter Try.func38, Try.ntmps38
  go_wp2_with fail
  go_loopw [1, 2] (fun x y wr => x = .int .u64 A ∧ y = .slice a 0 c ∧ w = wr) (fun _ y _ => (lenNat y))
  case atStart => exact ⟨rfl, rfl, rfl⟩
  case round =>
    obtain ⟨rfl, rfl, rfl⟩ := hrel
    go_wp2_with fail
    go_end0
    exact ⟨rfl, rfl⟩
theorem store_nil (r : Nat) (A : Int) (a : Option Addr) (c : Nat) (w : World) : Calls Try.prog 39 #[.pointer (some ⟨r, 0, none⟩), .int .u64 A, .slice a 0 c] w fun e w' => e = .returned (.tuple #[]) ∧ w = w' := by
  go_enter Try.func39, Try.ntmps39
  go_wp2_with fail
  go_loopw [1, 2] (fun x y wr => x = .int .u64 A ∧ y = .slice a 0 c ∧ w = wr) (fun _ y _ => (lenNat y))
  case atStart => exact ⟨rfl, rfl, rfl⟩
  case round =>
    obtain ⟨rfl, rfl, rfl⟩ := hrel
    go_wp2_with fail
    go_end0
    exact ⟨rfl, rfl⟩
/-- how far an address is from the first byte -/
def offR (a : BitVec 64) : Nat := (u a - 2147483648).toNat
theorem offR_of {N : Nat} (hN : 4 ≤ N ∧ N ≤ 256) {a : BitVec 64} {k : Nat} (hk : 0 < k) (h : hasB N a k = true) : u a = 2147483648 + (offR a : Int) ∧ offR a + k ≤ N * 4096 := by
  rw [hasB_iff hN a (by omega)] at h
  have h := of_decide_eq_true h
  unfold offR
  omega
theorem make_rw (k : Nat) (hk : k ≤ 1048576) (w : World) : (Instr.makeSlice 32 (.int .i64 k) (.int .i64 k)).run Try.prog w = .ok (.slice (some ⟨w.heap.size, 0, none⟩) k k) (w.alloc (.cells (rwA k fun _ => 0) 5)) := by
  obtain ⟨i0, hi, hz0, hz1, hz2⟩ := info_parts u8_info
  have hmk := run_make (P := Try.prog) w 32 5 i0 (.int .u8 0) Try.underlying32 hi hz0 .i64 .i64 k k (by omega) (by omega) (by rw [hz2]; omega) (by omega)
  rw [Int.toNat_natCast, hz1, Nat.mul_one, show (Value.int IntKind.u8 0).cells = #[Value.int IntKind.u8 0] from rfl] at hmk
  rw [show madeCells #[.int .u8 0] k = rwA k (fun _ => 0) from rw_of (by rw [size_madeCells]) fun i hi => by simp [madeCells, hi, Nat.mod_one]] at hmk
  exact hmk
theorem read_nil (a n : Int) (w : World) : Calls Try.prog 17 #[.pointer none, .int .u64 a, .int .i64 n] w fun e w' => e = .returned (.tuple #[.slice none 0 0, .int .i64 2]) ∧ w = w' := by
  go_enter Try.func17, Try.ntmps17
  go_wp2
  go_ret2
  exact ⟨rfl, rfl⟩
theorem read_neg (r : Nat) (a n : Int) (hn : n < 0) (w : World) : Calls Try.prog 17 #[.pointer (some ⟨r, 0, none⟩), .int .u64 a, .int .i64 n] w fun e w' => e = .returned (.tuple #[.slice none 0 0, .int .i64 1]) ∧ w = w' := by
  go_enter Try.func17, Try.ntmps17
  go_wp2
  go_ret2
  exact ⟨rfl, rfl⟩
theorem read_bus {n r N : Nat} {M : Nat → Int} {w : World} (R : RamAt n r N M w) (a : BitVec 64) (k : Int) (hk0 : 0 ≤ k) (hk1 : k ≤ 9223372036854775807) (hh : hasB N a k = false) :
    Calls Try.prog 17 #[.pointer (some ⟨r, 0, none⟩), .int .u64 (u a), .int .i64 k] w fun e w' => e = .returned (.tuple #[.slice none 0 0, .int .i64 6]) ∧ On w w' := by
  obtain ⟨mb, tab, R⟩ := R
  have H := has_any R a k hk0 hk1
  rw [hh] at H
  have H := Lib.hid H
  have HH := Lib.hid hh
  clear R hh
  have hb := On.refl w
  go_enter Try.func17, Try.ntmps17
  go_wp2_with (first | (go_at_call 37; refine (H.out).mono ?_; rintro e wn ⟨rfl, hb'⟩; have hb := hb.trans hb'; clear hb'))
  go_ret2
  exact ⟨rfl, hb⟩
theorem read_ok {n r N : Nat} {M : Nat → Int} {w : World} (R : RamAt n r N M w) (a : BitVec 64) (k : Nat) (hh : hasB N a k = true) :
    Calls Try.prog 17 #[.pointer (some ⟨r, 0, none⟩), .int .u64 (u a), .int .i64 k] w fun e w' => On w w' ∧ ∃ B, w.heap.size ≤ B ∧
      e = .returned (.tuple #[.slice (some ⟨B, 0, none⟩) k k, .int .i64 0]) ∧ w'.heap[B]? = some (.cells (rwA k fun i => M (offR a + i)) 5 (0, 0)) := by
  obtain ⟨mb, tab, R⟩ := R
  have hN := R.pages
  have hk1 : k ≤ 1048576 := by
    rcases Nat.eq_zero_or_pos k with h0 | h0
    · omega
    · have := (offR_of hN h0 hh).2; omega
  have H := has_any R a k (by omega) (by omega)
  rw [hh] at H
  have HH := Lib.hid hh
  have HR := Lib.hid R
  have hmk := make_rw k hk1
  have hk0 : (0 : Int) ≤ (k : Int) := by omega
  have HK := Lib.hid hk1
  clear R hh hk1
  have hb := On.refl w
  rcases Nat.eq_zero_or_pos k with h0 | h0
  · subst h0
    rw [show ((0 : Nat) : Int) = 0 from rfl] at H hmk ⊢
    have H := Lib.hid H
    go_enter Try.func17, Try.ntmps17
    go_wp2_with (first | (go_at_call 37; refine (H.out).mono ?_; rintro e wn ⟨rfl, hb'⟩; have hb := hb.trans hb'; clear hb') | (go_at_call 38; refine (load_nil r _ _ _ _).mono ?_; rintro e w' ⟨rfl, rfl⟩))
    go_ret2
    rename_i wn
    exact ⟨hb.alloc _, _, hb.size, rfl, by rw [rw_congr (f := fun i => M (offR a + i)) (g := fun _ => 0) fun i hi => by omega]; exact blk_new _ _⟩
  · obtain ⟨e1, e2⟩ := offR_of hN h0 HH.out
    have H := Lib.hid H
    have H0 := Lib.hid h0
    have HL : ∀ (wq : World), RamIn n r N mb tab M wq → ∀ (B : Nat), wq.heap[B]? = some (.cells (rwA k fun _ => 0) 5 (0, 0)) →
      Calls Try.prog 38 #[.pointer (some ⟨r, 0, none⟩), .int .u64 (u a), .slice (some ⟨B, 0, none⟩) k k] wq fun e w' =>
        e = .returned (.tuple #[]) ∧ But B wq w' ∧ w'.heap[B]? = some (.cells (rwA k fun i => M (offR a + i)) 5 (0, 0)) := fun wq R' B hB => by
      rw [e1]; exact load_any R' e2 hB
    have HL := Lib.hid HL
    clear e1 e2 h0
    go_enter Try.func17, Try.ntmps17
    go_wp2_with (first | (go_at_call 37; refine (H.out).mono ?_; rintro e wn ⟨rfl, hb'⟩; have hb := hb.trans hb'; clear hb') | (go_at_call 38; refine (HL.out _ (HR.out.on (hb.alloc _)) _ (blk_new _ _)).mono ?_; rintro e w4 ⟨rfl, hb4, hg4⟩; have HB4 := Lib.hid hb4; have HG4 := Lib.hid hg4; clear hb4 hg4))
    go_ret2
    refine ⟨?_, _, hb.size, rfl, HG4.out⟩
    have h1 := hb.alloc (.cells (rwA k fun _ => 0) 5)
    exact But.below h1 hb.size h1.size HB4.out

/-- a slice of bytes that the calls may not turn -/
def Src (n : Nat) (w : World) (s : Value) (len : Nat) (z : Nat → Int) : Prop :=
  (∃ a c, s = .slice a 0 c ∧ len = 0) ∨ ∃ sb so c, s = .slice (some ⟨sb, so, none⟩) len c ∧ 0 < len ∧ len ≤ c ∧ (c : Int) ≤ 9223372036854775807 ∧ SafeB 64 n w sb ∧ ∀ i, i < len → w.cell? ⟨sb, so + i, none⟩ = some (.int .u8 (z i))
theorem Src.kp {n : Nat} {w w' : World} {s : Value} {len : Nat} {z : Nat → Int} (h : Src n w s len z) (k : Kp 64 n w w') : Src n w' s len z := by
  rcases h with h | ⟨sb, so, c, h1, h2, h3, h4, h5, h6⟩
  · exact .inl h
  · exact .inr ⟨sb, so, c, h1, h2, h3, h4, h5.on_kp k, fun i hi => h5.cell k (h6 i hi)⟩
theorem write_nil (a : Int) (s : Value) (w : World) : Calls Try.prog 18 #[.pointer none, .int .u64 a, s] w fun e w' => e = .returned (.int .i64 2) ∧ w = w' := by
  go_enter Try.func18, Try.ntmps18
  go_wp2
  go_ret
  exact ⟨rfl, rfl⟩
theorem write_bus {n r N : Nat} {M : Nat → Int} {w : World} (R : RamAt n r N M w) (a : BitVec 64) {b : Option Addr} {len c : Nat} (hl : (len : Int) ≤ 9223372036854775807) (hh : hasB N a len = false) :
    Calls Try.prog 18 #[.pointer (some ⟨r, 0, none⟩), .int .u64 (u a), .slice b len c] w fun e w' => e = .returned (.int .i64 6) ∧ On w w' := by
  obtain ⟨mb, tab, R⟩ := R
  have H := has_any R a len (by omega) hl
  rw [hh] at H
  have H := Lib.hid H
  have HH := Lib.hid hh
  clear R hh
  have hb := On.refl w
  go_enter Try.func18, Try.ntmps18
  go_wp2_with (first | (go_at_call 37; refine (H.out).mono ?_; rintro e wn ⟨rfl, hb'⟩; have hb := hb.trans hb'; clear hb'))
  go_ret
  exact ⟨rfl, hb⟩
theorem write_ok {n r N : Nat} {M z : Nat → Int} {w : World} (R : RamAt n r N M w) (hz : ∀ i, 0 ≤ z i ∧ z i < 256) (a : BitVec 64) {s : Value} {len : Nat} (hs : Src n w s len z) (hh : hasB N a len = true) :
    Calls Try.prog 18 #[.pointer (some ⟨r, 0, none⟩), .int .u64 (u a), s] w fun e w' => e = .returned (.int .i64 0) ∧ Kp 64 n w w' ∧ RamAt n r N (ov M (offR a) len z) w' := by
  have hN : 4 ≤ N ∧ N ≤ 256 := by obtain ⟨_, _, R⟩ := R; exact R.pages
  have hl : (len : Int) ≤ 9223372036854775807 := by
    rcases Nat.eq_zero_or_pos len with h | h
    · omega
    · have := (offR_of hN h hh).2; omega
  obtain ⟨mb, tab, R⟩ := R
  have H := has_any R a len (by omega) hl
  rw [hh] at H
  have HR := Lib.hid R
  have HH := Lib.hid hh
  clear R hh hl
  have hb := On.refl w
  rcases hs with ⟨b, c, rfl, rfl⟩ | ⟨sb, so, c, rfl, h1, h2, h3, h4, h5⟩
  · rw [show ((0 : Nat) : Int) = 0 from rfl] at H
    have H := Lib.hid H
    go_enter Try.func18, Try.ntmps18
    go_wp2_with (first | (go_at_call 37; refine (H.out).mono ?_; rintro e wn ⟨rfl, hb'⟩; have hb := hb.trans hb'; clear hb') | (go_at_call 39; refine (store_nil r _ _ _ _).mono ?_; rintro e w' ⟨rfl, rfl⟩))
    go_ret
    exact ⟨rfl, .of_on hb, by rw [ov_none]; exact ⟨_, _, HR.out.on hb⟩⟩
  · have H := Lib.hid H
    obtain ⟨e1, e2⟩ := offR_of hN h1 HH.out
    have HL : ∀ (wq : World), On w wq →
      Calls Try.prog 39 #[.pointer (some ⟨r, 0, none⟩), .int .u64 (u a), .slice (some ⟨sb, so, none⟩) len c] wq fun e w' =>
        e = .returned (.tuple #[]) ∧ Kp 64 n wq w' ∧ RamAt n r N (ov M (offR a) len z) w' := fun wq hq => by
      rw [e1]; exact store_some ⟨_, _, HR.out.on hq⟩ hz e2 h2 h3 (h4.on_kp (.of_on hq)) fun i hi => h4.cell (.of_on hq) (h5 i hi)
    have HL := Lib.hid HL
    clear e1 e2 h1 h2 h3 h4 h5 hz
    go_enter Try.func18, Try.ntmps18
    go_wp2_with (first | (go_at_call 37; refine (H.out).mono ?_; rintro e wn ⟨rfl, hb'⟩; have hb := hb.trans hb'; clear hb') | (go_at_call 39; refine (HL.out _ hb).mono ?_; rintro e w4 ⟨rfl, hk4, hr4⟩; have HK4 := Lib.hid (And.intro hk4 hr4); clear hk4 hr4))
    go_ret
    exact ⟨rfl, (Kp.of_on hb).trans HK4.out.1, HK4.out.2⟩
/-! ### words -/
/-- what a word's call answers for an error -/
def wdE (N : Nat) (a : BitVec 64) (s : Int) : Int := if refA a s = 0 then (if hasB N a s then 0 else 6) else refA a s
/-- the bytes from a place on -/
def rdL (M : Nat → Int) (o k : Nat) : List Int := (List.range k).map fun i => M (o + i)
theorem rdL_len (M : Nat → Int) (o k : Nat) : (rdL M o k).length = k := by simp [rdL]
theorem rdL_get (M : Nat → Int) (o : Nat) {k i : Nat} (h : i < k) : (rdL M o k).getD i 0 = M (o + i) := by simp [rdL, h]
theorem rdL_byte {M : Nat → Int} (hM : ∀ x, 0 ≤ M x ∧ M x < 256) (o k : Nat) : Byte (rdL M o k) := fun i => by
  by_cases h : i < k
  · rw [rdL_get M o h]; exact hM _
  · rw [List.getD_eq_getElem?_getD, List.getElem?_eq_none (by rw [rdL_len]; omega)]; simp
theorem row_rb {w : World} {B k o : Nat} {M : Nat → Int} (hk : k ≤ 1048576) (h : w.heap[B]? = some (.cells (rwA k fun i => M (o + i)) 5 (0, 0))) : RB w (.slice (some ⟨B, 0, none⟩) k k) (rdL M o k) := by
  rcases Nat.eq_zero_or_pos k with h0 | h0
  · subst h0; exact .inl ⟨_, _, rfl, rfl, fun h => by cases h⟩
  · refine .inr ⟨B, 0, k, by rw [rdL_len], by rw [rdL_len]; exact h0, by rw [rdL_len]; omega, by omega, fun i hi => ?_⟩
    rw [rdL_len] at hi
    rw [rdL_get M o hi, Nat.zero_add, blk_cell h i (rw_get _ hi)]
theorem RamAt.byte {n r N : Nat} {M : Nat → Int} {w : World} (R : RamAt n r N M w) : ∀ x, 0 ≤ M x ∧ M x < 256 := by obtain ⟨_, _, R⟩ := R; exact R.byte
theorem RamAt.pages {n r N : Nat} {M : Nat → Int} {w : World} (R : RamAt n r N M w) : 4 ≤ N ∧ N ≤ 256 := by obtain ⟨_, _, R⟩ := R; exact R.pages
theorem word_nil (a s : Int) (w : World) : Calls Try.prog 13 #[.pointer none, .int .u64 a, .int .i64 s] w fun e w' => e = .returned (.tuple #[.int .u64 0, .int .i64 2]) ∧ w = w' := by
  go_enter Try.func13, Try.ntmps13
  go_wp2_with (first | (go_at_call 24; refine (refused_nil a s _).mono ?_; rintro e w' ⟨rfl, rfl⟩))
  go_ret2
  exact ⟨rfl, rfl⟩
theorem put_nil (a s v : Int) (w : World) : Calls Try.prog 14 #[.pointer none, .int .u64 a, .int .i64 s, .int .u64 v] w fun e w' => e = .returned (.int .i64 2) ∧ w = w' := by
  go_enter Try.func14, Try.ntmps14
  go_wp2_with (first | (go_at_call 24; refine (refused_nil a s _).mono ?_; rintro e w' ⟨rfl, rfl⟩))
  go_ret
  exact ⟨rfl, rfl⟩
theorem refA_cases (a : BitVec 64) (s : Int) : (refA a s = 0 ∧ (s = 1 ∨ s = 2 ∨ s = 4 ∨ s = 8)) ∨ refA a s = 1 ∨ refA a s = 5 := by
  unfold refA
  by_cases h : s = 1 ∨ s = 2 ∨ s = 4 ∨ s = 8
  · rw [if_pos h]
    cases mult a s
    · exact .inr (.inr rfl)
    · exact .inl ⟨rfl, h⟩
  · rw [if_neg h]; exact .inr (.inl rfl)
/-- what a word's call answers for the word -/
def wdV (N : Nat) (M : Nat → Int) (a : BitVec 64) (s : Int) : Int := if wdE N a s = 0 then u (wordOf (rdL M (offR a) s.toNat)) else 0
theorem wdV_no {N : Nat} {M : Nat → Int} {a : BitVec 64} {s : Int} (h : wdE N a s ≠ 0) : wdV N M a s = 0 := by unfold wdV; rw [if_neg h]
theorem wdV_yes {N : Nat} {M : Nat → Int} {a : BitVec 64} {k : Nat} (h : wdE N a k = 0) : wdV N M a k = u (wordOf (rdL M (offR a) k)) := by unfold wdV; rw [if_pos h, Int.toNat_natCast]
set_option maxHeartbeats 1000000 in
theorem ramword_any {n r N : Nat} {M : Nat → Int} {w : World} (R : RamAt n r N M w) (a : BitVec 64) (s : Int) (hs : s ≤ 9223372036854775807) :
    Calls Try.prog 13 #[.pointer (some ⟨r, 0, none⟩), .int .u64 (u a), .int .i64 s] w fun e w' => e = .returned (.tuple #[.int .u64 (wdV N M a s), .int .i64 (wdE N a s)]) ∧ On w w' := by
  have H1 := Lib.hid (refused_any r a s hs)
  have hb := On.refl w
  rcases refA_cases a s with ⟨h0, h8⟩ | h0 | h0
  · rw [h0] at H1
    have HM := Lib.hid R.byte
    cases hh : hasB N a s
    · have E : Hid (wdE N a s = 6) := Lib.hid (by unfold wdE; rw [if_pos h0, hh]; rfl)
      have H2 : ∀ wq, On w wq → Calls Try.prog 17 #[.pointer (some ⟨r, 0, none⟩), .int .u64 (u a), .int .i64 s] wq fun e w' => e = .returned (.tuple #[.slice none 0 0, .int .i64 6]) ∧ On wq w' := fun wq hq =>
        read_bus (R.on hq) a s (by omega) hs hh
      have H2 := Lib.hid H2
      clear hh h0 h8 R
      go_enter Try.func13, Try.ntmps13
      go_wp2_with (first | (go_at_call 24; refine (H1.out _).mono ?_; rintro e w' ⟨rfl, rfl⟩) | (go_at_call 17; refine (H2.out _ hb).mono ?_; rintro e wn ⟨rfl, hb'⟩; have hb := hb.trans hb'; clear hb') | (go_at_call 25; refine (word_any _ [] _ (.inl ⟨_, _, rfl, rfl, fun _ => rfl⟩) byte_nil).mono ?_; rintro e w' ⟨rfl, rfl⟩))
      go_ret2
      refine ⟨?_, hb⟩
      rw [wdV_no (by rw [E.out]; omega), E.out]
      rfl
    · have E : Hid (wdE N a s = 0) := Lib.hid (by unfold wdE; rw [if_pos h0, hh]; rfl)
      obtain ⟨k, hk⟩ : ∃ k : Nat, s = (k : Int) := ⟨s.toNat, by omega⟩
      subst hk
      have H2 : ∀ wq, On w wq → Calls Try.prog 17 #[.pointer (some ⟨r, 0, none⟩), .int .u64 (u a), .int .i64 k] wq fun e w' => On wq w' ∧ ∃ B, wq.heap.size ≤ B ∧
          e = .returned (.tuple #[.slice (some ⟨B, 0, none⟩) k k, .int .i64 0]) ∧ w'.heap[B]? = some (.cells (rwA k fun i => M (offR a + i)) 5 (0, 0)) := fun wq hq => read_ok (R.on hq) a k hh
      have H2 := Lib.hid H2
      have HK : Hid (k ≤ 8) := Lib.hid (by omega)
      clear hh h0 h8 R hs
      go_enter Try.func13, Try.ntmps13
      go_wp2_with (first | (go_at_call 24; refine (H1.out _).mono ?_; rintro e w' ⟨rfl, rfl⟩) | (go_at_call 17; refine (H2.out _ hb).mono ?_; rintro e wn ⟨hb', B, _, rfl, hg⟩; have hb := hb.trans hb'; clear hb'; have HG := Lib.hid (row_rb (by have := HK.out; omega) hg); clear hg) | (go_at_call 25; refine (word_any _ _ _ HG.out (rdL_byte HM.out _ _)).mono ?_; rintro e w' ⟨rfl, rfl⟩))
      go_ret2
      refine ⟨?_, hb⟩
      rw [wdV_yes E.out, E.out]
      rfl
  · have E : Hid (wdE N a s = 1) := Lib.hid (by unfold wdE; rw [h0]; rfl)
    rw [h0] at H1
    go_enter Try.func13, Try.ntmps13
    go_wp2_with (first | (go_at_call 24; refine (H1.out _).mono ?_; rintro e w' ⟨rfl, rfl⟩))
    go_ret2
    refine ⟨?_, hb⟩
    rw [wdV_no (by rw [E.out]; omega), E.out]
    rfl
  · have E : Hid (wdE N a s = 5) := Lib.hid (by unfold wdE; rw [h0]; rfl)
    rw [h0] at H1
    go_enter Try.func13, Try.ntmps13
    go_wp2_with (first | (go_at_call 24; refine (H1.out _).mono ?_; rintro e w' ⟨rfl, rfl⟩))
    go_ret2
    refine ⟨?_, hb⟩
    rw [wdV_no (by rw [E.out]; omega), E.out]
    rfl
/-- the memory behind Put -/
def ptM (N : Nat) (M : Nat → Int) (a : BitVec 64) (s : Int) (v : BitVec 64) : Nat → Int := if wdE N a s = 0 then ov M (offR a) s.toNat (byteAt v) else M
theorem ptM_no {N : Nat} {M : Nat → Int} {a : BitVec 64} {s : Int} {v : BitVec 64} (h : wdE N a s ≠ 0) : ptM N M a s v = M := by unfold ptM; rw [if_neg h]
theorem ptM_yes {N : Nat} {M : Nat → Int} {a : BitVec 64} {k : Nat} {v : BitVec 64} (h : wdE N a k = 0) : ptM N M a k v = ov M (offR a) k (byteAt v) := by unfold ptM; rw [if_pos h, Int.toNat_natCast]
theorem clamp_nat {k : Nat} (h : k ≤ 8) : clamp (k : Int) = k := by unfold clamp; omega
set_option maxHeartbeats 1000000 in
theorem ramput_any {n r N : Nat} {M : Nat → Int} {w : World} (R : RamAt n r N M w) (a : BitVec 64) (s : Int) (hs : s ≤ 9223372036854775807) (v : BitVec 64) :
    Calls Try.prog 14 #[.pointer (some ⟨r, 0, none⟩), .int .u64 (u a), .int .i64 s, .int .u64 (u v)] w fun e w' => e = .returned (.int .i64 (wdE N a s)) ∧ Kp 64 n w w' ∧ RamAt n r N (ptM N M a s v) w' := by
  have H1 := Lib.hid (refused_any r a s hs)
  have HR := Lib.hid R
  rcases refA_cases a s with ⟨h0, h8⟩ | h0 | h0
  · rw [h0] at H1
    obtain ⟨k, hk⟩ : ∃ k : Nat, s = (k : Int) := ⟨s.toNat, by omega⟩
    subst hk
    have hk8 : k ≤ 8 := by omega
    have hk0 : 0 < k := by omega
    have HB := bytes_any v k
    rw [clamp_nat hk8] at HB
    have hsz := alloc_size w (.cells (rowTo v k k) 5)
    have hon := (On.refl w).alloc (.cells (rowTo v k k) 5)
    have hR := R.on hon
    have hnew := blk_new w (.cells (rowTo v k k) 5)
    cases hh : hasB N a k
    · have E : Hid (wdE N a k = 6) := Lib.hid (by unfold wdE; rw [if_pos h0, hh]; rfl)
      have H2 := Lib.hid (write_bus hR a (b := some ⟨w.heap.size, 0, none⟩) (len := k) (c := k) hs hh)
      have HB := Lib.hid HB
      have HO := Lib.hid hon
      clear hh h0 h8 R hR hon hnew hsz hk0
      go_enter Try.func14, Try.ntmps14
      go_wp2_with (first | (go_at_call 24; refine (H1.out _).mono ?_; rintro e w' ⟨rfl, rfl⟩) | (go_at_call 26; refine (HB.out _).mono ?_; rintro e w' ⟨rfl, rfl⟩) | (go_at_call 18; refine H2.out.mono ?_; rintro e w' ⟨rfl, hb⟩; have HO := Lib.hid (HO.out.trans hb); clear hb))
      go_ret
      refine ⟨by rw [E.out]; rfl, .of_on HO.out, ?_⟩
      rw [ptM_no (by rw [E.out]; omega)]
      exact HR.out.on HO.out
    · have E : Hid (wdE N a k = 0) := Lib.hid (by unfold wdE; rw [if_pos h0, hh]; rfl)
      have hs2 : Src n (w.alloc (.cells (rowTo v k k) 5)) (.slice (some ⟨w.heap.size, 0, none⟩) k k) k (byteAt v) :=
        .inr ⟨_, 0, k, rfl, hk0, Nat.le_refl _, by omega, .of_cells hnew (by decide), fun i hi => by rw [blk_cell hnew (0 + i) (rowTo_get v k k (0 + i) (by omega)), Nat.zero_add, if_pos hi]⟩
      have H2 := Lib.hid (write_ok hR (fun i => ⟨byteAt_nonneg v i, byteAt_lt v i⟩) a hs2 hh)
      have HB := Lib.hid HB
      have HO := Lib.hid hon
      clear hh h0 h8 R hR hon hnew hsz hk0 hs2
      go_enter Try.func14, Try.ntmps14
      go_wp2_with (first | (go_at_call 24; refine (H1.out _).mono ?_; rintro e w' ⟨rfl, rfl⟩) | (go_at_call 26; refine (HB.out _).mono ?_; rintro e w' ⟨rfl, rfl⟩) | (go_at_call 18; refine H2.out.mono ?_; rintro e w' ⟨rfl, hb, hr⟩; have HF := Lib.hid (And.intro hb hr); clear hb hr))
      go_ret
      refine ⟨by rw [E.out]; rfl, (Kp.of_on HO.out).trans HF.out.1, ?_⟩
      rw [ptM_yes E.out]
      exact HF.out.2
  · have E : Hid (wdE N a s = 1) := Lib.hid (by unfold wdE; rw [h0]; rfl)
    rw [h0] at H1
    go_enter Try.func14, Try.ntmps14
    go_wp2_with (first | (go_at_call 24; refine (H1.out _).mono ?_; rintro e w' ⟨rfl, rfl⟩))
    go_ret
    exact ⟨by rw [E.out]; rfl, .refl _ _ _, by rw [ptM_no (by rw [E.out]; omega)]; exact HR.out⟩
  · have E : Hid (wdE N a s = 5) := Lib.hid (by unfold wdE; rw [h0]; rfl)
    rw [h0] at H1
    go_enter Try.func14, Try.ntmps14
    go_wp2_with (first | (go_at_call 24; refine (H1.out _).mono ?_; rintro e w' ⟨rfl, rfl⟩))
    go_ret
    exact ⟨by rw [E.out]; rfl, .refl _ _ _, by rw [ptM_no (by rw [E.out]; omega)]; exact HR.out⟩
end Go.Proofs.Ytkjkmekkcnmjnaa
