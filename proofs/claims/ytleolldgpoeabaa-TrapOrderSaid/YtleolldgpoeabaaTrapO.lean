/- Which interrupt comes ahead of which, on words; the law's own closure. Conditions: named at each. -/
import Derived.Test.YtleolldgpoeabaaTrapC
namespace Go.Proofs.Ytleolldgpoeabaa
open Go.RowKit

theorem acc_first (x : BitVec 64) : ∀ j, acc x j ≠ 0#64 → ∃ k, k < j ∧ acc x j = cauN (ordN k) ∧ x.getLsbD (ordN k) = true ∧ ∀ i, i < k → x.getLsbD (ordN i) = false
  | 0, h => absurd rfl h
  | j + 1, h => by
    by_cases h0 : acc x j = 0#64
    · cases hb : x.getLsbD (ordN j)
      · exact absurd (acc_no h0 hb) h
      · refine ⟨j, Nat.lt_succ_self j, acc_yes h0 hb, hb, fun i hi => ?_⟩
        cases hi2 : x.getLsbD (ordN i)
        · rfl
        · exfalso
          have : ∀ n, acc x (i + 1 + n) ≠ 0#64 := by
            have hs : acc x (i + 1) ≠ 0#64 := by
              by_cases hz : acc x i = 0#64
              · rw [acc_yes hz hi2]; exact cauN_ne i
              · rw [acc_keep hz]; exact hz
            intro n; rw [acc_stay hs n]; exact hs
          exact this (j - (i + 1)) (by rw [show i + 1 + (j - (i + 1)) = j by omega]; exact h0)
    · obtain ⟨k, hk, h1, h2, h3⟩ := acc_first x j h0
      exact ⟨k, by omega, by rw [acc_keep h0, h1], h2, h3⟩
theorem acc_none {x : BitVec 64} (h : acc x 6 = 0#64) : ∀ k, k < 6 → x.getLsbD (ordN k) = false := fun k hk => by
  cases hb : x.getLsbD (ordN k)
  · rfl
  · exact absurd h (acc_some hk hb)
/-- what is taken, and of what rank it is -/
theorem sel_spec {m s : BitVec 64} (h : selB m s = true) : ∃ k, k < 6 ∧ selV m s = cauN (ordN k) ∧
    ((m.getLsbD (ordN k) = true ∧ ∀ i, i < k → m.getLsbD (ordN i) = false) ∨ ((∀ i, i < 6 → m.getLsbD (ordN i) = false) ∧ s.getLsbD (ordN k) = true ∧ ∀ i, i < k → s.getLsbD (ordN i) = false)) := by
  have hv : selV m s ≠ 0#64 := by unfold selB at h; simpa using h
  unfold selV at hv ⊢
  by_cases hm : acc m 6 = 0#64
  · rw [if_pos hm] at hv ⊢
    obtain ⟨k, hk, h1, h2, h3⟩ := acc_first s 6 hv
    exact ⟨k, hk, h1, .inr ⟨acc_none hm, h2, h3⟩⟩
  · rw [if_neg hm] at hv ⊢
    obtain ⟨k, hk, h1, h2, h3⟩ := acc_first m 6 hm
    exact ⟨k, hk, h1, .inl ⟨h2, h3⟩⟩
def rnk (i : BitVec 64) (k : Nat) : Nat := k + if i.getLsbD (ordN k) = true then 6 else 0
section
variable (h : Nat → BitVec 64) (p : Int)
theorem cntM_imp {x : BitVec 64} {k : Nat} (hb : (cntM h p x).getLsbD (ordN k) = true) : x.getLsbD (ordN k) = true ∧ (h 36).getLsbD (ordN k) = false := by
  rw [cntM_bit h p x _ (ord_lt k)] at hb
  have := (Bool.and_eq_true_iff.1 (Bool.and_eq_true_iff.1 hb).2)
  exact ⟨this.1, by simpa using this.2⟩
theorem cntS_imp {x : BitVec 64} {k : Nat} (hb : (cntS h p x).getLsbD (ordN k) = true) : x.getLsbD (ordN k) = true ∧ (h 36).getLsbD (ordN k) = true := by
  rw [cntS_bit h p x] at hb
  exact Bool.and_eq_true_iff.1 (Bool.and_eq_true_iff.1 hb).2
theorem cntM_mono {x y : BitVec 64} (hxy : ∀ i, x.getLsbD i = true → y.getLsbD i = true) {k : Nat} (hb : (cntM h p x).getLsbD (ordN k) = true) : (cntM h p y).getLsbD (ordN k) = true := by
  have := cntM_imp h p hb
  rw [cntM_bit h p x _ (ord_lt k)] at hb
  rw [cntM_bit h p y _ (ord_lt k), hxy _ this.1, this.2, (Bool.and_eq_true_iff.1 hb).1]; rfl
theorem cntS_mono {x y : BitVec 64} (hxy : ∀ i, x.getLsbD i = true → y.getLsbD i = true) {k : Nat} (hb : (cntS h p x).getLsbD (ordN k) = true) : (cntS h p y).getLsbD (ordN k) = true := by
  have := cntS_imp h p hb
  rw [cntS_bit h p x] at hb
  rw [cntS_bit h p y, hxy _ this.1, this.2, (Bool.and_eq_true_iff.1 hb).1]; rfl
/-- with more pending what is taken comes no later -/
theorem sel_mono {x y : BitVec 64} (hxy : ∀ i, x.getLsbD i = true → y.getLsbD i = true) (ho : selB (cntM h p x) (cntS h p x) = true) :
    selB (cntM h p y) (cntS h p y) = true ∧ ∃ k j, k < 6 ∧ j < 6 ∧ selV (cntM h p x) (cntS h p x) = cauN (ordN k) ∧ selV (cntM h p y) (cntS h p y) = cauN (ordN j) ∧ x.getLsbD (ordN k) = true ∧ rnk (h 36) j ≤ rnk (h 36) k := by
  obtain ⟨k, hk, hv, hb⟩ := sel_spec ho
  have hx : x.getLsbD (ordN k) = true := by
    rcases hb with hb | hb
    · exact (cntM_imp h p hb.1).1
    · exact (cntS_imp h p hb.2.1).1
  have hy : selB (cntM h p y) (cntS h p y) = true := by
    rcases hb with hb | hb
    · exact selB_true (.inl (acc_some hk (cntM_mono h p hxy hb.1)))
    · exact selB_true (.inr (acc_some hk (cntS_mono h p hxy hb.2.1)))
  obtain ⟨j, hj, hw, hc⟩ := sel_spec hy
  refine ⟨hy, k, j, hk, hj, hv, hw, hx, ?_⟩
  unfold rnk
  rcases hb with hb | hb
  · have e1 := (cntM_imp h p hb.1).2
    have hm := cntM_mono h p hxy hb.1
    rcases hc with hc | hc
    · have e2 := (cntM_imp h p hc.1).2
      rw [e1, e2]
      by_cases hjk : j ≤ k
      · simpa using hjk
      · exfalso; have := hc.2 k (by omega); rw [hm] at this; cases this
    · exfalso; have := hc.1 k hk; rw [hm] at this; cases this
  · have e1 := (cntS_imp h p hb.2.1).2
    have hs := cntS_mono h p hxy hb.2.1
    rw [e1]
    rcases hc with hc | hc
    · have e2 := (cntM_imp h p hc.1).2
      rw [e2]; simp; omega
    · have e2 := (cntS_imp h p hc.2.1).2
      rw [e2]
      by_cases hjk : j ≤ k
      · simpa using hjk
      · exfalso; have := hc.2.2 k (by omega); rw [hs] at this; cases this
end
theorem cauN_num (k : Nat) : cauN (ordN k) &&& 63#64 = ordB k := by
  unfold cauN ordB ordN; split <;> decide
theorem cauN_top (k : Nat) : (cauN (ordN k)).getLsbD 63 = true := by
  unfold cauN ordN; split <;> decide
theorem ordB_inj {i j : Nat} (hi : i < 6) (hj : j < 6) (h : ordB i = ordB j) : i = j := by
  have : ∀ a b : Fin 6, ordB a.val = ordB b.val → a = b := by decide
  exact congrArg Fin.val (this ⟨i, hi⟩ ⟨j, hj⟩ h)
theorem cnd_more (h e : Nat → BitVec 64) (v : BitVec 64) (i : Nat) (hb : (cnd h e).getLsbD i = true) : (cnd h (upd e 2 (e 2 ||| v))).getLsbD i = true := by
  unfold cnd pend at *
  rw [upd_self]
  simp only [BitVec.getLsbD_and, BitVec.getLsbD_or] at *
  revert hb
  cases (cH h 4).getLsbD i <;> cases (e 2).getLsbD i <;> cases (2696#64).getLsbD i <;> cases (h 37).getLsbD i <;> simp
theorem cnd_bit (h e : Nat → BitVec 64) (i : Nat) (hb : (cnd h e).getLsbD i = true) : (pend (cH h) e).getLsbD i = true ∧ (h 37).getLsbD i = true := by
  unfold cnd at hb
  rw [BitVec.getLsbD_and] at hb
  exact Bool.and_eq_true_iff.1 hb
theorem wak_of {h e : Nat → BitVec 64} {i : Nat} (hb : (cnd h e).getLsbD i = true) : wak h e = true := by
  unfold wak
  have : cnd h e ≠ 0#64 := fun hz => by rw [hz] at hb; simp at hb
  simpa using this
end Go.Proofs.Ytleolldgpoeabaa
