/- What the reference's Bytes comes to: a row of the word's lowest bytes. Conditions: none. -/
import Derived.Test.YtkjkmekkcnmjnaaMem
import Derived.Test.YtkjkmekkcnmjnaaLoops
import Derived.Deep.DeepMust
namespace Go.Proofs.Ytkjkmekkcnmjnaa
open Go.RowKit
set_option maxRecDepth 100000

/-- the lowest m bytes of a word, as cells -/
def byteCells (v : BitVec 64) (m : Nat) : List Value := (List.range m).map fun i => Value.int .u8 (byteAt v i)
theorem byteCells_succ (v : BitVec 64) (m : Nat) : byteCells v (m + 1) = byteCells v m ++ [.int .u8 (byteAt v m)] := by
  simp [byteCells, List.range_succ]
theorem byteCells_length (v : BitVec 64) (m : Nat) : (byteCells v m).length = m := by simp [byteCells]
theorem byteAt_ref (v : BitVec 64) (k : Nat) (hk : k < 8) (a b : Int) (ha : a = 8 * (k : Int) + 7) (hb : b = 8 * (k : Int)) : u (fld v a b) % 256 = byteAt v k := by
  subst ha hb
  have h : fld v (8 * (k : Int) + 7) (8 * (k : Int)) = v >>> (8 * k) &&& 255 := by
    apply BitVec.eq_of_getLsbD_eq; intro i hi
    rw [fld_bit, byte_bit]
    have e1 : decide (Ends (8 * (k : Int) + 7) (8 * (k : Int)) ∧ (i : Int) ≤ 8 * (k : Int) + 7 - 8 * (k : Int)) = decide (i < 8) := by
      rw [decide_eq_decide]; unfold Ends; omega
    rw [e1, show (8 * (k : Int)).toNat = 8 * k by omega]
  have h1 := byteAt_nonneg v k
  have h2 := byteAt_lt v k
  rw [h]; unfold byteAt at h1 h2 ⊢
  omega
/-! ### what a small append asks -/
theorem one_new (w : World) (x : Value) (t : TypeId) : ∀ (j : Nat) (y : Value), [x][j]? = some y → (w.alloc (.cells #[x] t)).cell? ((⟨w.heap.size, 0, none⟩ : Addr).add j) = some y := by
  intro j y h
  have hj : j = 0 := by
    rcases Nat.eq_zero_or_pos j with h0 | h0
    · exact h0
    · rw [List.getElem?_eq_none (by simp; omega)] at h; cases h
  subst hj
  simp at h
  subst h
  show (w.alloc (.cells #[x] t)).cell? ⟨w.heap.size, 0, none⟩ = some x
  rw [World.cell?_alloc_new]; rfl
theorem one_cell (k : IntKind) (n : Int) : ∀ y ∈ [Value.int k n], y.oneCell' = true := by
  intro y hy
  simp at hy
  subst hy
  rfl
theorem small_len {k : Nat} (h : k < 8) : k + 1 ≤ maxLen := by unfold maxLen; omega
theorem small_bytes {k : Nat} (h : k < 8) : (k + 1) * 1 ≤ 140737488355328 := by omega
theorem base_alloc {b : Nat} {w : World} (h : b ≤ w.heap.size) (o : Obj) : b ≤ (w.alloc o).heap.size := by
  show b ≤ (w.heap.push o).size
  rw [Array.size_push]; omega
/-- what the reference's loop carries -/
def BytesAt (v : BitVec 64) (m : Nat) (w : World) (t i : Value) (wr : World) : Prop :=
  ∃ k : Nat, k ≤ m ∧ i = .int .i64 k ∧ wr.ownsRow w.heap.size 5 1 t k (byteCells v k) ∧ Below w.heap.size w wr
theorem bytesAt_round (v : BitVec 64) (m k : Nat) (hk : k < m) (w wr w1 : World) (t r : Value) (x n : Int) (hx : x = byteAt v k) (hn : n = ((k + 1 : Nat) : Int)) (o : Obj)
    (hown : wr.ownsRow w.heap.size 5 1 t k (byteCells v k)) (hb : Below w.heap.size w wr)
    (hown' : w1.ownsRow w.heap.size 5 1 r (k + 1) (byteCells v k ++ [.int .u8 x])) (hg : (wr.alloc o).grownBy w1 t.ownBlock) : BytesAt v m w r (.int .i64 n) w1 :=
  ⟨k + 1, by omega, by rw [hn], by rw [byteCells_succ, ← hx]; exact hown', (hb.alloc hb.size o).grown hg (base_alloc hb.size o) (fun g h => (hown.lt g h).1)⟩
theorem ref_bytes_mid (v : BitVec 64) (n : Int) (hn : n ≤ 8) (w : World) :
    Calls Try.prog 45 #[.int .u64 (u v), .int .i64 n] w fun e w' => ∃ r, e = .returned r ∧ w'.ownsRow w.heap.size 5 1 r n.toNat (byteCells v n.toNat) ∧ Below w.heap.size w w' := by
  obtain ⟨i0, hi, hz0, hz1, hz2⟩ := info_parts u8_info
  go_enter Try.func45, Try.ntmps45
  go_wp2_with fail
  go_loopw [5, 6] (fun t i wr => BytesAt v n.toNat w t i wr) (fun _ i _ => (n - intOf i).toNat)
  case atStart => exact ⟨0, by omega, rfl, World.ownsRow_nil _ _ _ _, Below.refl _ _⟩
  case round =>
    obtain ⟨k, hk, rfl, hown, hb⟩ := hrel
    by_cases hlt : (k : Int) < n
    · have Hb := Lib.hid hb
      have Hown := Lib.hid hown
      clear hb hown
      have hk8 : k < 8 := by omega
      have hsz : w.heap.size ≤ wr.heap.size := Hb.out.size
      go_wp2_with (first
        | (go_at_call 55; refine (ref_field_any _ _ _ _).mono ?_; rintro e w' ⟨rfl, rfl⟩)
        | (at_builtin
           (refine wpList_append_own _ rfl _ _ 32 rfl w.heap.size 5 i0 (.int .u8 0) 1 1 Try.underlying32 hi hz0 hz1 hz2 rfl (by decide) _ k _ rfl (Hown.out.alloc _) ⟨wr.heap.size, 0, none⟩ 1 1 [.int .u8 (u (fld v (8 * (k : Int) + 7) (8 * (k : Int))) % 256)] rfl rfl (one_new _ _ _) (one_cell _ _) (small_len hk8) (small_bytes hk8) (base_alloc hsz _) ?_)
           intro v' w1 hown' hgrow _))
      exact ⟨bytesAt_round v _ k (by omega) w _ _ _ _ _ _ (byteAt_ref v k hk8 _ _ rfl rfl) (by omega) _ Hown.out Hb.out hown' hgrow, by simp [intOf]; omega⟩
    · have He : Hid (k = n.toNat) := Lib.hid (by omega)
      have Hb := Lib.hid hb
      have Hown := Lib.hid hown
      clear hb hown
      go_wp2_with fail
      go_ret
      exact ⟨_, rfl, by rw [← He.out]; exact Hown.out, Hb.out⟩
theorem ref_bytes_top (v : BitVec 64) (n : Int) (hn : 8 < n) (w : World) :
    Calls Try.prog 45 #[.int .u64 (u v), .int .i64 n] w fun e w' => ∃ r, e = .returned r ∧ w'.ownsRow w.heap.size 5 1 r 8 (byteCells v 8) ∧ Below w.heap.size w w' := by
  obtain ⟨i0, hi, hz0, hz1, hz2⟩ := info_parts u8_info
  go_enter Try.func45, Try.ntmps45
  go_wp2_with fail
  go_loopw [5, 6] (fun t i wr => BytesAt v 8 w t i wr) (fun _ i _ => (8 - intOf i).toNat)
  case atStart => exact ⟨0, by omega, rfl, World.ownsRow_nil _ _ _ _, Below.refl _ _⟩
  case round =>
    obtain ⟨k, hk, rfl, hown, hb⟩ := hrel
    by_cases hk8 : k < 8
    · have Hb := Lib.hid hb
      have Hown := Lib.hid hown
      clear hb hown
      have hsz : w.heap.size ≤ wr.heap.size := Hb.out.size
      go_wp2_with (first
        | (go_at_call 55; refine (ref_field_any _ _ _ _).mono ?_; rintro e w' ⟨rfl, rfl⟩)
        | (at_builtin
           refine wpList_append_own _ rfl _ _ 32 rfl w.heap.size 5 i0 (.int .u8 0) 1 1 Try.underlying32 hi hz0 hz1 hz2 rfl (by decide) _ k _ rfl (Hown.out.alloc _) ⟨wr.heap.size, 0, none⟩ 1 1 [.int .u8 (u (fld v (8 * (k : Int) + 7) (8 * (k : Int))) % 256)] rfl rfl (one_new _ _ _) (one_cell _ _) (small_len hk8) (small_bytes hk8) (base_alloc hsz _) ?_
           intro v' w1 hown' hgrow _))
      exact ⟨bytesAt_round v _ k hk8 w _ _ _ _ _ _ (byteAt_ref v k hk8 _ _ rfl rfl) (by omega) _ Hown.out Hb.out hown' hgrow, by simp [intOf]; omega⟩
    · have He : Hid (k = 8) := Lib.hid (by omega)
      have Hb := Lib.hid hb
      have Hown := Lib.hid hown
      clear hb hown
      go_wp2_with fail
      go_ret
      exact ⟨_, rfl, by rw [← He.out]; exact Hown.out, Hb.out⟩
theorem ref_bytes_any (v : BitVec 64) (n : Int) (w : World) :
    Calls Try.prog 45 #[.int .u64 (u v), .int .i64 n] w fun e w' => ∃ r, e = .returned r ∧ w'.ownsRow w.heap.size 5 1 r (clamp n) (byteCells v (clamp n)) ∧ Below w.heap.size w w' := by
  by_cases h : 8 < n
  · rw [show clamp n = 8 by unfold clamp; omega]; exact ref_bytes_top v n h w
  · rw [show clamp n = n.toNat by unfold clamp; omega]; exact ref_bytes_mid v n (by omega) w
end Go.Proofs.Ytkjkmekkcnmjnaa
