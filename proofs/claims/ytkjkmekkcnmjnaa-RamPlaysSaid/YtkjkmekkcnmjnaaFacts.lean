/- What fields, signs and counts have to do with one another: plain facts on words of 64 bits, no program. Conditions: named at each. -/
import Derived.Test.YtkjkmekkcnmjnaaWord
namespace Go.Proofs.Ytkjkmekkcnmjnaa

theorem ext64 {a b : BitVec 64} (h : ∀ i, i < 64 → a.getLsbD i = b.getLsbD i) : a = b := BitVec.eq_of_getLsbD_eq h

theorem fld_put (v : BitVec 64) (hi lo : Int) (x : BitVec 64) (h : Ends hi lo) : fld (put v hi lo x) hi lo = zxt x (hi - lo + 1) := by
  have h' := h; unfold Ends at h'
  apply ext64; intro i hi64
  rw [fld_bit, put_bit, zxt_bit]
  by_cases e : (i : Int) ≤ hi - lo
  · have e1 : decide (Ends hi lo ∧ (i : Int) ≤ hi - lo) = true := decide_eq_true ⟨h, e⟩
    have e2 : decide ((i : Int) < hi - lo + 1) = true := decide_eq_true (by omega)
    rw [e1, e2, if_pos ⟨h, by omega, by omega⟩, show lo.toNat + i - lo.toNat = i by omega]
  · have e1 : decide (Ends hi lo ∧ (i : Int) ≤ hi - lo) = false := decide_eq_false (fun hh => e hh.2)
    have e2 : decide ((i : Int) < hi - lo + 1) = false := decide_eq_false (by omega)
    rw [e1, e2]; simp
theorem put_fld (v : BitVec 64) (hi lo : Int) : put v hi lo (fld v hi lo) = v := by
  apply ext64; intro i hi64
  rw [put_bit]
  by_cases e : Ends hi lo ∧ lo ≤ (i : Int) ∧ (i : Int) ≤ hi
  · have e' := e; unfold Ends at e'
    rw [if_pos e, fld_bit, show lo.toNat + (i - lo.toNat) = i by omega]
    have e1 : decide (Ends hi lo ∧ ((i - lo.toNat : Nat) : Int) ≤ hi - lo) = true := decide_eq_true ⟨e.1, by omega⟩
    rw [e1, Bool.true_and]
  · rw [if_neg e]
theorem put_put (v : BitVec 64) (hi lo : Int) (x : BitVec 64) (top bot : Int) (y : BitVec 64) (h1 : Ends hi lo) (h2 : Ends top bot) (h : ¬ (bot ≤ hi ∧ lo ≤ top)) :
    put (put v hi lo x) top bot y = put (put v top bot y) hi lo x := by
  apply ext64; intro i hi64
  rw [put_bit, put_bit, put_bit, put_bit]
  unfold Ends at *
  by_cases e1 : lo ≤ (i : Int) ∧ (i : Int) ≤ hi
  · rw [if_neg (by omega), if_pos ⟨h1, e1⟩, if_pos ⟨h1, e1⟩]
  · by_cases e2 : bot ≤ (i : Int) ∧ (i : Int) ≤ top
    · rw [if_pos ⟨h2, e2⟩, if_neg (fun hh => e1 hh.2), if_pos ⟨h2, e2⟩]
    · rw [if_neg (fun hh => e2 hh.2), if_neg (fun hh => e1 hh.2), if_neg (fun hh => e1 hh.2), if_neg (fun hh => e2 hh.2)]
theorem fld_other (w : BitVec 64) (hi lo top bot : Int) (y : BitVec 64) (h1 : Ends hi lo) (h2 : Ends top bot) (h : ¬ (bot ≤ hi ∧ lo ≤ top)) :
    fld (put w top bot y) hi lo = fld w hi lo := by
  apply ext64; intro i hi64
  rw [fld_bit, fld_bit, put_bit]
  by_cases e : (i : Int) ≤ hi - lo
  · unfold Ends at *
    rw [if_neg (by omega)]
  · have e1 : decide (Ends hi lo ∧ (i : Int) ≤ hi - lo) = false := decide_eq_false (fun hh => e hh.2)
    rw [e1]; simp
theorem sxt_sxt (v : BitVec 64) (n m : Int) (h1 : 1 ≤ n) (h2 : n ≤ m) : sxt (sxt v n) m = sxt v n := by
  apply ext64; intro i hi64
  by_cases e : (i : Int) < m
  · rw [sxt_bit _ _ _ hi64, if_pos e]
  · have e1 : decide (1 ≤ m) = true := decide_eq_true (by omega)
    have e2 : decide (1 ≤ n) = true := decide_eq_true h1
    rw [sxt_bit _ m _ hi64, if_neg e, sxt_bit _ _ _ hi64, if_neg (by omega), e1, e2, Bool.true_and, Bool.true_and, sxt_bit _ _ _ (by omega)]
    by_cases e3 : n = m
    · subst e3; rw [if_pos (by omega)]
    · rw [if_neg (by omega), e2, Bool.true_and]
theorem sxt_zxt (v : BitVec 64) (n : Int) (h1 : 1 ≤ n) : sxt (zxt v n) n = sxt v n := by
  apply ext64; intro i hi64
  rw [sxt_bit _ _ _ hi64, sxt_bit _ _ _ hi64, zxt_bit, zxt_bit]
  by_cases e : (i : Int) < n
  · rw [if_pos e, if_pos e, decide_eq_true e, Bool.true_and]
  · rw [if_neg e, if_neg e]
    have e1 : decide ((((n - 1).toNat : Nat) : Int) < n) = true := decide_eq_true (by omega)
    rw [e1, Bool.true_and]
theorem zxt_sxt (v : BitVec 64) (n : Int) : zxt (sxt v n) n = zxt v n := by
  apply ext64; intro i hi64
  rw [zxt_bit, zxt_bit, sxt_bit _ _ _ hi64]
  by_cases e : (i : Int) < n
  · rw [if_pos e]
  · rw [decide_eq_false e]; simp
theorem fld_one (v : BitVec 64) (n : Int) (h1 : 1 ≤ n) (h2 : n ≤ 64) : fld v (n - 1) (n - 1) = if v.getLsbD (n - 1).toNat then 1 else 0 := by
  apply ext64; intro i hi64
  have ex : ∀ (c : Bool), (if c = true then (1 : BitVec 64) else 0).getLsbD i = (c && decide (i = 0)) := by
    intro c; cases c
    · simp
    · rw [if_pos rfl, one_bit]; simp
  rw [fld_bit, ex, Bool.and_comm]
  by_cases e : i = 0
  · subst e
    have e1 : decide (Ends (n - 1) (n - 1) ∧ ((0 : Nat) : Int) ≤ n - 1 - (n - 1)) = true := decide_eq_true (by unfold Ends; omega)
    rw [e1]; simp
  · have e1 : decide (Ends (n - 1) (n - 1) ∧ (i : Int) ≤ n - 1 - (n - 1)) = false := decide_eq_false (by unfold Ends; omega)
    rw [e1]; simp [e]
theorem sxt_all (v : BitVec 64) : sxt v 64 = zxt v 64 := by
  unfold sxt; rw [if_neg (by omega)]
theorem sxt_less (v : BitVec 64) (n : Int) (h1 : 1 ≤ n) (h2 : n < 64) (hv : v.getLsbD (n - 1).toNat = true) : sxt v n - zxt v n = BitVec.allOnes 64 <<< n.toNat := by
  have h : sxt v n = zxt v n + BitVec.allOnes 64 <<< n.toNat := by
    unfold sxt; rw [if_pos ⟨h1, h2, hv⟩]
    symm
    refine BitVec.add_eq_or_of_and_eq_zero _ _ ?_
    apply ext64; intro i hi64
    rw [BitVec.getLsbD_and, zxt_bit, BitVec.getLsbD_shiftLeft]
    by_cases e : (i : Int) < n
    · have e1 : decide (i < n.toNat) = true := decide_eq_true (by omega)
      rw [e1]; simp
    · rw [decide_eq_false e]; simp
  rw [h, BitVec.add_comm, BitVec.add_sub_cancel]
theorem sxt_neg (v : BitVec 64) (n : Int) (h1 : 1 ≤ n) (h2 : n < 64) (hv : v.getLsbD (n - 1).toNat = true) : IntKind.i64.wrap (u (sxt v n)) < 0 := by
  have hb : (sxt v n).getLsbD 63 = true := by
    rw [sxt_bit _ _ _ (by omega), hv]
    by_cases e : ((63 : Nat) : Int) < n
    · omega
    · rw [if_neg e, decide_eq_true h1]; rfl
  have hge : 2 ^ 63 ≤ (sxt v n).toNat := by
    have := BitVec.msb_eq_true_iff_two_mul_ge (x := sxt v n)
    have hm : (sxt v n).msb = true := by rw [BitVec.msb_eq_getLsbD_last]; exact hb
    have := this.1 hm
    omega
  have hlt := (sxt v n).isLt
  rw [IntKind.wrap_i64]; unfold u; omega
theorem sxt_neg64 (v : BitVec 64) (n : Int) (h1 : 1 ≤ n) (h2 : n < 64) (hv : v.getLsbD (n - 1).toNat = true) : RowKit.wrap64 (u (sxt v n)) < 0 := by
  have h := sxt_neg v n h1 h2 hv
  rw [IntKind.wrap_i64] at h
  unfold RowKit.wrap64; exact h
theorem fld_join (v : BitVec 64) (hi mid lo : Int) (h0 : 0 ≤ lo) (h1 : lo ≤ mid) (h2 : mid < hi) (h3 : hi ≤ 63) :
    fld v hi lo = fld v hi (mid + 1) <<< (mid + 1 - lo).toNat ||| fld v mid lo := by
  apply ext64; intro i hi64
  rw [BitVec.getLsbD_or, BitVec.getLsbD_shiftLeft, fld_bit, fld_bit, fld_bit]
  have e64 : decide (i < 64) = true := decide_eq_true hi64
  by_cases e : (i : Int) ≤ mid - lo
  · have a1 : decide (Ends hi lo ∧ (i : Int) ≤ hi - lo) = true := decide_eq_true (by unfold Ends; omega)
    have a2 : decide (Ends mid lo ∧ (i : Int) ≤ mid - lo) = true := decide_eq_true (by unfold Ends; omega)
    have a3 : decide (i < (mid + 1 - lo).toNat) = true := decide_eq_true (by omega)
    rw [a1, a2, a3]; simp
  · have a2 : decide (Ends mid lo ∧ (i : Int) ≤ mid - lo) = false := decide_eq_false (by unfold Ends; omega)
    have a3 : decide (i < (mid + 1 - lo).toNat) = false := decide_eq_false (by omega)
    have a1 : decide (Ends hi lo ∧ (i : Int) ≤ hi - lo) = decide (Ends hi (mid + 1) ∧ ((i - (mid + 1 - lo).toNat : Nat) : Int) ≤ hi - (mid + 1)) := by
      rw [decide_eq_decide]; unfold Ends; omega
    rw [a1, a2, a3, e64, show (mid + 1).toNat + (i - (mid + 1 - lo).toNat) = lo.toNat + i by omega]; simp
theorem lowest_le_highest (v : BitVec 64) (hne : v ≠ 0) : lowest v ≤ highest v := by
  obtain ⟨h1, h2⟩ := lowest_spec hne
  obtain ⟨h3, h4⟩ := highest_spec hne
  rcases Nat.lt_or_ge (highest v) (lowest v) with h | h
  · rw [h1 _ h] at h4; exact absurd h4 (by simp)
  · exact h
theorem shr_highest (v : BitVec 64) (hne : v ≠ 0) : v >>> highest v = 1 := by
  obtain ⟨h3, h4⟩ := highest_spec hne
  apply ext64; intro i hi64
  rw [BitVec.getLsbD_ushiftRight, one_bit]
  by_cases e : i = 0
  · subst e; rw [Nat.add_zero, h4]; rfl
  · rw [h3 _ (by omega), decide_eq_false e]
theorem shl_lowest (v : BitVec 64) (hne : v ≠ 0) : v <<< (63 - lowest v) = (1 : BitVec 64) <<< 63 := by
  obtain ⟨h1, h2⟩ := lowest_spec hne
  have hl := lowest_lt v
  apply ext64; intro i hi64
  rw [BitVec.getLsbD_shiftLeft, one_shl_bit, decide_eq_true hi64]
  by_cases e : i = 63
  · subst e
    have a1 : decide (63 < 63 - lowest v) = false := decide_eq_false (by omega)
    rw [a1, show 63 - (63 - lowest v) = lowest v by omega, h2]; simp
  · rw [decide_eq_false e]
    by_cases e2 : i < 63 - lowest v
    · rw [decide_eq_true e2]; simp
    · rw [h1 (i - (63 - lowest v)) (by omega)]; simp
end Go.Proofs.Ytkjkmekkcnmjnaa
