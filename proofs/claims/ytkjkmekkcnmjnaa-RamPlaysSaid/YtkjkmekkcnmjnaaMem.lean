/- What Bytes of package bits comes to: a new row of the word's lowest bytes. Conditions: none. -/
import Derived.Test.YtkjkmekkcnmjnaaCalls
import Derived.Outline
namespace Go.Proofs.Ytkjkmekkcnmjnaa
open Go.RowKit
set_option maxRecDepth 100000

/-- byte i of a word, as the model's number -/
def byteAt (v : BitVec 64) (i : Nat) : Int := u (v >>> (8 * i) &&& 255)
theorem bv255 : (255 : BitVec 64) = low 8 := by decide +kernel
theorem byte_bit (v : BitVec 64) (i j : Nat) : (v >>> (8 * i) &&& 255).getLsbD j = (decide (j < 8) && v.getLsbD (8 * i + j)) := by
  rw [BitVec.getLsbD_and, BitVec.getLsbD_ushiftRight, bv255, low_bit, Bool.and_comm]
  congr 1
  rw [decide_eq_decide]; omega
theorem byteAt_nonneg (v : BitVec 64) (i : Nat) : 0 ≤ byteAt v i := u_nonneg _
theorem byteAt_lt (v : BitVec 64) (i : Nat) : byteAt v i < 256 := by
  unfold byteAt u
  have h : (v >>> (8 * i) &&& 255).toNat ≤ 255 := by rw [BitVec.toNat_and]; exact Nat.and_le_right
  omega
theorem byteAt_code (v : BitVec 64) (k : Nat) : bits BinOp.and IntKind.u64 (u v / 2 ^ (k * 8)) 255 % 256 = byteAt v k := by
  have h1 := byteAt_nonneg v k
  have h2 := byteAt_lt v k
  rw [u_shr, u_and255, Nat.mul_comm]
  unfold byteAt at h1 h2 ⊢
  omega
/-- a row of m bytes of which the first k are the word's, the others 0 -/
def rowTo (v : BitVec 64) (m k : Nat) : Array Value := ((List.range m).map fun i => Value.int .u8 (if i < k then byteAt v i else 0)).toArray
theorem rowTo_size (v : BitVec 64) (m k : Nat) : (rowTo v m k).size = m := by simp [rowTo]
theorem rowTo_get (v : BitVec 64) (m k i : Nat) (h : i < m) : (rowTo v m k)[i]? = some (.int .u8 (if i < k then byteAt v i else 0)) := by
  simp [rowTo, h]
theorem rowTo_step (v : BitVec 64) (m k : Nat) : (rowTo v m k).setIfInBounds k (.int .u8 (byteAt v k)) = rowTo v m (k + 1) := by
  apply Array.ext_getElem?
  intro i
  by_cases hi : i < m
  · rw [rowTo_get v m (k + 1) i hi, Array.getElem?_setIfInBounds, rowTo_size]
    by_cases e : k = i
    · subst e; rw [if_pos rfl, if_pos hi, if_pos (by omega)]
    · rw [if_neg e, rowTo_get v m k i hi]
      by_cases e2 : i < k
      · rw [if_pos e2, if_pos (by omega)]
      · rw [if_neg e2, if_neg (by omega)]
  · rw [Array.getElem?_eq_none (by rw [Array.size_setIfInBounds, rowTo_size]; omega), Array.getElem?_eq_none (by rw [rowTo_size]; omega)]
theorem rowTo_made (v : BitVec 64) (m : Nat) : madeCells #[.int .u8 0] m = rowTo v m 0 := by
  apply Array.ext_getElem?
  intro i
  by_cases hi : i < m
  · rw [rowTo_get v m 0 i hi, if_neg (by omega)]
    simp [madeCells, hi, Nat.mod_one]
  · rw [Array.getElem?_eq_none (by rw [size_madeCells]; omega), Array.getElem?_eq_none (by rw [rowTo_size]; omega)]

theorem u8_info : (Try.prog.info? 5).map (fun i => (i.zero, i.size, i.bytes)) = some (some (.int .u8 0), 1, 1) := by kernel_rfl

/-- a made row -/
def Filled (v : BitVec 64) (m : Nat) (w : World) (i : Value) (wr : World) : Prop := ∃ k : Nat, k ≤ m ∧ i = .int .i64 k ∧ wr = w.alloc (.cells (rowTo v m k) 5)
theorem filled_round (v : BitVec 64) (m k : Nat) (hk : k < m) (w wr : World) (n : Int) (hn : n = ((k + 1 : Nat) : Int)) (h : wr = w.alloc (.cells ((rowTo v m k).setIfInBounds k (.int .u8 (byteAt v k))) 5)) : Filled v m w (.int .i64 n) wr :=
  ⟨k + 1, by omega, by rw [hn], by rw [h, rowTo_step]⟩
theorem bytes_mid (v : BitVec 64) (m : Nat) (hm : m ≤ 8) (w : World) :
    Calls Try.prog 26 #[.int .u64 (u v), .int .i64 m] w fun e w' => e = .returned (.slice (some ⟨w.heap.size, 0, none⟩) m m) ∧ w' = w.alloc (.cells (rowTo v m m) 5) := by
  obtain ⟨i0, hi, hz0, hz1, hz2⟩ := info_parts u8_info
  have hmk := run_make (P := Try.prog) w 32 5 i0 (.int .u8 0) Try.underlying32 hi hz0 .i64 .i64 m m (by omega) (by omega) (by rw [hz2]; omega) (by omega)
  rw [Int.toNat_natCast, hz1, Nat.mul_one, show (Value.int IntKind.u8 0).cells = #[Value.int IntKind.u8 0] from rfl, rowTo_made v m] at hmk
  clear hi hz0 hz1 hz2
  rcases Nat.eq_zero_or_pos m with rfl | hp
  · rw [show ((0 : Nat) : Int) = 0 from rfl] at hmk
    go_enter Try.func26, Try.ntmps26
    go_wp2_with fail
    go_loopw [6, 13] (fun _ i wr => i = .int .i64 0 ∧ wr = w.alloc (.cells (rowTo v 0 0) 5)) (fun _ _ _ => 0)
    case atStart => exact ⟨rfl, rfl⟩
    case round =>
      obtain ⟨rfl, rfl⟩ := hrel
      go_wp2_with fail
      go_ret
      exact ⟨rfl, rfl⟩
  · have hs := rowTo_size v m
    go_enter Try.func26, Try.ntmps26
    go_wp2_with fail
    go_loopw [6, 13] (fun _ i wr => Filled v m w i wr) (fun _ i _ => (m - intOf i).toNat)
    case atStart => exact ⟨0, by omega, rfl, rfl⟩
    case round =>
      obtain ⟨k, hk, rfl, rfl⟩ := hrel
      by_cases hlt : k < m
      · have hg := rowTo_get v m k k hlt
        go_wp2_with fail
        refine ⟨filled_round v m k hlt w _ _ (by omega) (by rw [byteAt_code]), by simp [intOf]; omega⟩
      · have He : Hid (k = m) := Lib.hid (by omega)
        go_wp2_with fail
        go_ret
        exact ⟨rfl, by rw [He.out]⟩
/-- how many bytes are asked for -/
def clamp (n : Int) : Nat := (max 0 (min n 8)).toNat
theorem clamp_le (n : Int) : clamp n ≤ 8 := by unfold clamp; omega
theorem bytes_zero (v : BitVec 64) (n : Int) (hn : n < 0) (w : World) :
    Calls Try.prog 26 #[.int .u64 (u v), .int .i64 n] w fun e w' => e = .returned (.slice (some ⟨w.heap.size, 0, none⟩) 0 0) ∧ w' = w.alloc (.cells (rowTo v 0 0) 5) := by
  obtain ⟨i0, hi, hz0, hz1, hz2⟩ := info_parts u8_info
  have hmk := run_make (P := Try.prog) w 32 5 i0 (.int .u8 0) Try.underlying32 hi hz0 .i64 .i64 0 0 (by omega) (by omega) (by rw [hz2]; omega) (by omega)
  rw [show Int.toNat 0 = 0 from rfl, hz1, Nat.mul_one, show (Value.int IntKind.u8 0).cells = #[Value.int IntKind.u8 0] from rfl, rowTo_made v 0] at hmk
  clear hi hz0 hz1 hz2
  go_enter Try.func26, Try.ntmps26
  go_wp2_with fail
  go_loopw [6, 13] (fun _ i wr => i = .int .i64 0 ∧ wr = w.alloc (.cells (rowTo v 0 0) 5)) (fun _ _ _ => 0)
  case atStart => exact ⟨rfl, rfl⟩
  case round =>
    obtain ⟨rfl, rfl⟩ := hrel
    go_wp2_with fail
    go_ret
    exact ⟨rfl, rfl⟩
theorem bytes_top (v : BitVec 64) (n : Int) (hn : 8 < n) (w : World) :
    Calls Try.prog 26 #[.int .u64 (u v), .int .i64 n] w fun e w' => e = .returned (.slice (some ⟨w.heap.size, 0, none⟩) 8 8) ∧ w' = w.alloc (.cells (rowTo v 8 8) 5) := by
  obtain ⟨i0, hi, hz0, hz1, hz2⟩ := info_parts u8_info
  have hmk := run_make (P := Try.prog) w 32 5 i0 (.int .u8 0) Try.underlying32 hi hz0 .i64 .i64 8 8 (by omega) (by omega) (by rw [hz2]; omega) (by omega)
  rw [show Int.toNat 8 = 8 from rfl, hz1, Nat.mul_one, show (Value.int IntKind.u8 0).cells = #[Value.int IntKind.u8 0] from rfl, rowTo_made v 8] at hmk
  clear hi hz0 hz1 hz2
  have hs := rowTo_size v 8
  go_enter Try.func26, Try.ntmps26
  go_wp2_with fail
  go_loopw [6, 13] (fun _ i wr => Filled v 8 w i wr) (fun _ i _ => (8 - intOf i).toNat)
  case atStart => exact ⟨0, by omega, rfl, rfl⟩
  case round =>
    obtain ⟨k, hk, rfl, rfl⟩ := hrel
    by_cases hlt : k < 8
    · have hg := rowTo_get v 8 k k hlt
      go_wp2_with fail
      refine ⟨filled_round v 8 k hlt w _ _ (by omega) (by rw [byteAt_code]), by simp [intOf]; omega⟩
    · have He : Hid (k = 8) := Lib.hid (by omega)
      go_wp2_with fail
      go_ret
      exact ⟨rfl, by rw [He.out]⟩
theorem bytes_any (v : BitVec 64) (n : Int) (w : World) :
    Calls Try.prog 26 #[.int .u64 (u v), .int .i64 n] w fun e w' => e = .returned (.slice (some ⟨w.heap.size, 0, none⟩) (clamp n) (clamp n)) ∧ w' = w.alloc (.cells (rowTo v (clamp n) (clamp n)) 5) := by
  by_cases h1 : n < 0
  · rw [show clamp n = 0 by unfold clamp; omega]; exact bytes_zero v n h1 w
  · by_cases h2 : 8 < n
    · rw [show clamp n = 8 by unfold clamp; omega]; exact bytes_top v n h2 w
    · obtain ⟨m, rfl⟩ := Int.eq_ofNat_of_zero_le (show 0 ≤ n by omega)
      rw [show clamp (m : Int) = m by unfold clamp; omega]; exact bytes_mid v m (by omega) w
theorem bytes_at {a : Int} {v : BitVec 64} (h : a = u v) (n : Int) (w : World) :
    Calls Try.prog 26 #[.int .u64 a, .int .i64 n] w fun e w' => e = .returned (.slice (some ⟨w.heap.size, 0, none⟩) (clamp n) (clamp n)) ∧ w' = w.alloc (.cells (rowTo v (clamp n) (clamp n)) 5) := by
  rw [h]; exact bytes_any v n w
end Go.Proofs.Ytkjkmekkcnmjnaa
