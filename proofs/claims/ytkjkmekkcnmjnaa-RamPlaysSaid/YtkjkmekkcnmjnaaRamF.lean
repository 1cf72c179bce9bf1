/- The calls of package ram at places that are in RAM, by how far they are from its first byte; the bytes of words. Conditions: named at each. -/
import Derived.Test.YtkjkmekkcnmjnaaRamE
import Derived.Test.YtkjkmekkcnmjnaaFacts
namespace Go.Proofs.Ytkjkmekkcnmjnaa
open Go.RowKit
set_option linter.unusedVariables false
set_option maxRecDepth 100000

theorem mod_of {o k : Nat} (hk : k = 1 ∨ k = 2 ∨ k = 4 ∨ k = 8) (hm : o % k = 0) : (2147483648 + (o : Int)) % (k : Int) = 0 := by
  rcases hk with rfl | rfl | rfl | rfl <;> omega
section
variable {n r N : Nat} {M : Nat → Int} {w : World} {o k : Nat} {A : Int}
theorem wdE_at (R : RamAt n r N M w) (hk : k = 1 ∨ k = 2 ∨ k = 4 ∨ k = 8) (hm : o % k = 0) (hl : o + k ≤ N * 4096) {a : BitVec 64} (ha : u a = 2147483648 + (o : Int)) : wdE N a k = 0 ∧ offR a = o := by
  have h := mod_of hk hm
  refine ⟨wdE_ok R.pages (by omega) (by rw [ha]; exact h) (by omega) (by omega), by unfold offR; omega⟩
theorem putO (R : RamAt n r N M w) (hk : k = 1 ∨ k = 2 ∨ k = 4 ∨ k = 8) (hm : o % k = 0) (hl : o + k ≤ N * 4096) (hA : A = 2147483648 + (o : Int)) {V : Int} {v : BitVec 64} (hV : V = u v) {K : Int} (hK : K = (k : Int)) :
    Calls Try.prog 14 #[.pointer (some ⟨r, 0, none⟩), .int .u64 A, .int .i64 K, .int .u64 V] w fun e w' => e = .returned (.int .i64 0) ∧ Kp 64 n w w' ∧ RamAt n r N (ov M o k (byteAt v)) w' := by
  have hN := R.pages
  obtain ⟨a, ha⟩ := at_u (o := o) (by omega)
  obtain ⟨h1, h2⟩ := wdE_at R hk hm hl ha
  subst hK
  have H := ramput_at R (A := A) (V := V) (s := k) (by rw [ha]; exact hA) hV (by omega)
  rw [h1, ptM_yes h1, h2] at H
  exact H
theorem wordO (R : RamAt n r N M w) (hk : k = 1 ∨ k = 2 ∨ k = 4 ∨ k = 8) (hm : o % k = 0) (hl : o + k ≤ N * 4096) (hA : A = 2147483648 + (o : Int)) {K : Int} (hK : K = (k : Int)) :
    Calls Try.prog 13 #[.pointer (some ⟨r, 0, none⟩), .int .u64 A, .int .i64 K] w fun e w' => e = .returned (.tuple #[.int .u64 (u (wordOf (rdL M o k))), .int .i64 0]) ∧ On w w' := by
  have hN := R.pages
  obtain ⟨a, ha⟩ := at_u (o := o) (by omega)
  obtain ⟨h1, h2⟩ := wdE_at R hk hm hl ha
  subst hK
  have H := ramword_at R (A := A) (s := k) (by rw [ha]; exact hA) (by omega)
  rw [h1, wdV_yes h1, h2] at H
  exact H
theorem readO (R : RamAt n r N M w) (hl : o + k ≤ N * 4096) (hA : A = 2147483648 + (o : Int)) {K : Int} (hK : K = (k : Int)) :
    Calls Try.prog 17 #[.pointer (some ⟨r, 0, none⟩), .int .u64 A, .int .i64 K] w fun e w' => On w w' ∧ ∃ B, w.heap.size ≤ B ∧
      e = .returned (.tuple #[.slice (some ⟨B, 0, none⟩) k k, .int .i64 0]) ∧ w'.heap[B]? = some (.cells (rwA k fun i => M (o + i)) 5 (0, 0)) := by
  have hN := R.pages
  obtain ⟨a, ha⟩ := at_u (o := o) (by omega)
  have h1 := hasB_in (s := (k : Int)) hN (by omega) (show 2147483648 ≤ u a by omega) (by omega)
  have h2 : offR a = o := by unfold offR; omega
  have H := read_ok R a k h1
  rw [h2, ha, ← hA, ← hK] at H
  exact H
theorem writeO (R : RamAt n r N M w) {z : Nat → Int} (hz : ∀ i, 0 ≤ z i ∧ z i < 256) {s : Value} (hs : Src n w s k z) (hl : o + k ≤ N * 4096) (hA : A = 2147483648 + (o : Int)) :
    Calls Try.prog 18 #[.pointer (some ⟨r, 0, none⟩), .int .u64 A, s] w fun e w' => e = .returned (.int .i64 0) ∧ Kp 64 n w w' ∧ RamAt n r N (ov M o k z) w' := by
  have hN := R.pages
  obtain ⟨a, ha⟩ := at_u (o := o) (by omega)
  have h1 := hasB_in (s := (k : Int)) hN (by omega) (show 2147483648 ≤ u a by omega) (by omega)
  have h2 : offR a = o := by unfold offR; omega
  have H := write_ok R hz a hs h1
  rw [h2, ha, ← hA] at H
  exact H
theorem someO (R : RamAt n r N M w) {z : Nat → Int} {st : Nat → Bool} (hz : ∀ i, 0 ≤ z i ∧ z i < 256) {s t : Value} {k2 : Nat} (hs : Src n w s k z) (ht : SrcB n w t k2 st) (hl : o + k ≤ N * 4096) (hA : A = 2147483648 + (o : Int)) :
    Calls Try.prog 21 #[.pointer (some ⟨r, 0, none⟩), .int .u64 A, s, t] w fun e w' => e = .returned (.int .i64 0) ∧ Kp 64 n w w' ∧ RamAt n r N (sm M o (min k k2) z st) w' := by
  have hN := R.pages
  obtain ⟨a, ha⟩ := at_u (o := o) (by omega)
  have h1 := hasB_in (s := (k : Int)) hN (by omega) (show 2147483648 ≤ u a by omega) (by omega)
  have h2 : offR a = o := by unfold offR; omega
  have H := some_ok R hz a hs ht h1
  rw [h2, ha, ← hA] at H
  exact H
end
theorem rdL_eq {M : Nat → Int} {o k : Nat} {zs : List Int} (hl : zs.length = k) (h : ∀ i, i < k → M (o + i) = zs.getD i 0) : rdL M o k = zs := by
  apply List.ext_getElem (by rw [rdL_len, hl])
  intro i h1 h2
  have h3 : i < k := by rw [rdL_len] at h1; exact h1
  have := h i h3
  rw [List.getD_eq_getElem?_getD, List.getElem?_eq_getElem h2] at this
  simp [rdL, this]
theorem byteAt_shr (v : BitVec 64) (j i : Nat) : byteAt (v >>> (8 * j)) i = byteAt v (j + i) := by
  unfold byteAt
  rw [← BitVec.shiftRight_add, show 8 * j + 8 * i = 8 * (j + i) by omega]
theorem byteAt_not (v : BitVec 64) (k : Nat) (hk : k < 8) : byteAt ((v >>> (8 * k) &&& 255) ^^^ 255) 0 = byteAt (~~~v) k := by
  unfold byteAt
  congr 1
  apply BitVec.eq_of_getLsbD_eq
  intro j hj
  rw [byte_bit (~~~v) k j]
  simp only [bv255, BitVec.getLsbD_and, BitVec.getLsbD_ushiftRight, BitVec.getLsbD_xor, low_bit, BitVec.getLsbD_not]
  by_cases h : j < 8
  · simp [h, show j < 64 from hj, show 8 * k + j < 64 by omega]
  · simp [h]
theorem word_half (v : BitVec 64) (k : Nat) (hk : k ≤ 8) (M : Nat → Int) (o j : Nat) (h : ∀ i, i < k → M (o + i) = byteAt v (j + i)) : wordOf (rdL M o k) = zxt (v >>> (8 * j)) (8 * (k : Int)) := by
  rw [rdL_eq (zs := byteNums (v >>> (8 * j)) k) (byteNums_length _ _) (fun i hi => by rw [byteNums_get _ _ _ hi, byteAt_shr, h i hi]), byteNums_word _ _ hk]
theorem ov_congr {M z z' : Nat → Int} {o m : Nat} (h : ∀ i, i < m → z i = z' i) : ov M o m z = ov M o m z' := by
  funext x
  unfold ov
  by_cases h1 : o ≤ x ∧ x < o + m
  · rw [if_pos h1, if_pos h1, h _ (by omega)]
  · rw [if_neg h1, if_neg h1]
end Go.Proofs.Ytkjkmekkcnmjnaa
