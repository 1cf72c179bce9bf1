/- A trap and the way back, on words. Plain lemmas. Conditions: named at each. -/
import Derived.Test.YtleolldgpoeabaaTrapA
namespace Go.Proofs.Ytleolldgpoeabaa
open Go.RowKit

theorem putB_bit (v b : BitVec 64) (on : Bool) (i : Nat) (hi : i < 64) : (putB v b on).getLsbD i = if b.getLsbD i = true then on else v.getLsbD i := by
  unfold putB
  cases on
  · simp only [Bool.false_eq_true, if_false, BitVec.getLsbD_and, BitVec.getLsbD_not, hi]
    cases b.getLsbD i <;> simp
  · simp only [if_true, BitVec.getLsbD_or]
    cases b.getLsbD i <;> simp
theorem movB_bit (s t : BitVec 64) (k i : Nat) (hk : k < 64) (hi : i < 64) : (movB s t (1#64 <<< k)).getLsbD i = if t.getLsbD i = true then s.getLsbD k else s.getLsbD i := by
  unfold movB; rw [putB_bit _ _ _ _ hi, bit_test s k hk, Bool.not_not]
theorem pow_bit (k i : Nat) : (1#64 <<< k).getLsbD i = (decide (i = k) && decide (i < 64)) := one_shl_bit k i
theorem and_pow {v w : BitVec 64} {k : Nat} (h : v.getLsbD k = w.getLsbD k) : v &&& 1#64 <<< k = w &&& 1#64 <<< k := by
  apply BitVec.eq_of_getLsbD_eq
  intro i hi
  rw [BitVec.getLsbD_and, BitVec.getLsbD_and, pow_bit]
  by_cases e : i = k
  · subst e; rw [h]
  · simp [e]
theorem and_pow0 {v : BitVec 64} {k : Nat} (h : v.getLsbD k = false) : v &&& 1#64 <<< k = 0#64 := by
  apply BitVec.eq_of_getLsbD_eq
  intro i hi
  rw [BitVec.getLsbD_and, pow_bit]
  by_cases e : i = k
  · subst e; rw [h]; simp
  · simp [e]
theorem wmp_bit (s : BitVec 64) (p : Int) (i : Nat) (hi : i < 64) (h : (0x1800#64).getLsbD i = false) : (wmp s p).getLsbD i = s.getLsbD i := by
  unfold wmp
  rw [BitVec.getLsbD_or, BitVec.getLsbD_and, BitVec.getLsbD_and, BitVec.getLsbD_not, h]
  simp [hi]
theorem wmp_mpw (s : BitVec 64) (p : Int) : mpw (wmp s p) = ((wd64 p &&& 3#64) <<< 11) >>> 11 := by
  rw [← mpw_and, ← mpp_part]
  congr 1
  unfold wmp
  apply BitVec.eq_of_getLsbD_eq
  intro i hi
  simp only [BitVec.getLsbD_and, BitVec.getLsbD_or, BitVec.getLsbD_not, hi]
  cases (0x1800#64).getLsbD i <;> simp
theorem wmp_mpq (s : BitVec 64) {p : Int} (hp : p = 0 ∨ p = 1 ∨ p = 3) : mpq (wmp s p) = p := by
  unfold mpq
  rw [wmp_mpw]
  rcases hp with rfl | rfl | rfl <;> rfl
/-- the bits of the status behind a trap -/
theorem stS_8 (s : BitVec 64) (p : Int) : (stS s p).getLsbD 8 = (p == 1) := by
  unfold stS; rw [putB_bit _ _ _ _ (by omega)]; rfl
theorem stS_5 (s : BitVec 64) (p : Int) : (stS s p).getLsbD 5 = s.getLsbD 1 := by
  unfold stS; rw [putB_bit _ _ _ _ (by omega), if_neg (by decide), putB_bit _ _ _ _ (by omega), if_neg (by decide)]
  exact (movB_bit s 32#64 1 5 (by omega) (by omega)).trans (by rw [if_pos (by decide)])
theorem stS_1 (s : BitVec 64) (p : Int) : (stS s p).getLsbD 1 = false := by
  unfold stS; rw [putB_bit _ _ _ _ (by omega), if_neg (by decide), putB_bit _ _ _ _ (by omega)]; rfl
theorem srS_1 (s : BitVec 64) : (srS s).getLsbD 1 = s.getLsbD 5 := by
  unfold srS; rw [putB_bit _ _ _ _ (by omega), if_neg (by decide), putB_bit _ _ _ _ (by omega), if_neg (by decide)]
  exact (movB_bit s 2#64 5 1 (by omega) (by omega)).trans (by rw [if_pos (by decide)])
theorem stM_7 (s : BitVec 64) (p : Int) : (stM s p).getLsbD 7 = s.getLsbD 3 := by
  unfold stM; rw [wmp_bit _ _ _ (by omega) (by decide), putB_bit _ _ _ _ (by omega), if_neg (by decide)]
  exact (movB_bit s 128#64 3 7 (by omega) (by omega)).trans (by rw [if_pos (by decide)])
theorem stM_3 (s : BitVec 64) (p : Int) : (stM s p).getLsbD 3 = false := by
  unfold stM; rw [wmp_bit _ _ _ (by omega) (by decide), putB_bit _ _ _ _ (by omega)]; rfl
theorem mrS_3 (s : BitVec 64) : (mrS s).getLsbD 3 = s.getLsbD 7 := by
  have h : (wmp (putB (movB s 8#64 128#64) 128#64 true) 0).getLsbD 3 = s.getLsbD 7 := by
    rw [wmp_bit _ _ _ (by omega) (by decide), putB_bit _ _ _ _ (by omega), if_neg (by decide)]
    exact (movB_bit s 8#64 7 3 (by omega) (by omega)).trans (by rw [if_pos (by decide)])
  unfold mrS; split
  · exact h
  · rw [putB_bit _ _ _ _ (by omega), if_neg (by decide)]; exact h
theorem low_keep {v : BitVec 64} (h : v &&& 3#64 = 0#64) : v &&& ~~~3#64 = v := by
  apply BitVec.eq_of_getLsbD_eq
  intro i hi
  have h2 := congrArg (fun x => BitVec.getLsbD x i) h
  simp only [BitVec.getLsbD_and, BitVec.getLsbD_zero] at h2
  rw [BitVec.getLsbD_and, BitVec.getLsbD_not]
  revert h2
  cases v.getLsbD i <;> cases (3#64).getLsbD i <;> simp [hi]
theorem dlg_low {h : Nat → BitVec 64} {p : Int} {c : BitVec 64} (hd : dlg h p c = true) : p = 0 ∨ p = 1 := by
  unfold dlg at hd
  have := (Bool.and_eq_true_iff.1 hd).1
  simpa using this
section
variable (h : Nat → BitVec 64) (p : Int) (c t : BitVec 64)
theorem ent_S (hd : dlg h p c = true) : entH h p c t = upd (entS h p (cau c) t) 65 0#64 := by unfold entH; rw [hd]; rfl
theorem ent_M (hd : dlg h p c = false) : entH h p c t = upd (entM h p (cau c) t) 65 0#64 := by unfold entH; rw [hd]; rfl
theorem entS_st (hd : dlg h p c = true) : entH h p c t 34 = stS (h 34) p := by rw [ent_S h p c t hd]; rfl
theorem entS_48 (hd : dlg h p c = true) : entH h p c t 48 = h 0 &&& ~~~3#64 := by rw [ent_S h p c t hd]; rfl
theorem entM_st (hd : dlg h p c = false) : entH h p c t 34 = stM (h 34) p := by rw [ent_M h p c t hd]; rfl
theorem entM_42 (hd : dlg h p c = false) : entH h p c t 42 = h 0 &&& ~~~3#64 := by rw [ent_M h p c t hd]; rfl
theorem ent_x : xV (entH h p c t) = xV h := by
  apply xV_congr
  intro i h1 h2
  cases hd : dlg h p c
  · rw [ent_M h p c t hd]; unfold entM
    rw [upd_ne _ _ (by omega), upd_ne _ _ (by omega), upd_ne _ _ (by omega), upd_ne _ _ (by omega), upd_ne _ _ (by omega), upd_ne _ _ (by omega)]
  · rw [ent_S h p c t hd]; unfold entS
    rw [upd_ne _ _ (by omega), upd_ne _ _ (by omega), upd_ne _ _ (by omega), upd_ne _ _ (by omega), upd_ne _ _ (by omega), upd_ne _ _ (by omega)]
theorem back_S (hd : dlg h p c = true) (h0 : h 0 &&& 3#64 = 0#64) :
    srH (entH h p c t) 0 = h 0 ∧ srP (entH h p c t) = p ∧ srH (entH h p c t) 34 &&& 2#64 = h 34 &&& 2#64 ∧ srH (entH h p c t) 48 = h 0 ∧ entH h p c t 34 &&& 2#64 = 0#64 := by
  have e48 := (entS_48 h p c t hd).trans (low_keep h0)
  have e34 := entS_st h p c t hd
  have a0 : srH (entH h p c t) 0 = entH h p c t 48 := rfl
  have a34 : srH (entH h p c t) 34 = srS (entH h p c t 34) := rfl
  have a48 : srH (entH h p c t) 48 = entH h p c t 48 := rfl
  refine ⟨a0.trans e48, ?_, ?_, a48.trans e48, ?_⟩
  · unfold srP; rw [e34, stS_8]
    rcases dlg_low hd with rfl | rfl <;> rfl
  · rw [a34, e34]; exact and_pow (k := 1) (by rw [srS_1, stS_5])
  · rw [e34]; exact and_pow0 (k := 1) (stS_1 _ _)
theorem back_M (hd : dlg h p c = false) (hp : p = 0 ∨ p = 1 ∨ p = 3) (h0 : h 0 &&& 3#64 = 0#64) :
    mrH (entH h p c t) 0 = h 0 ∧ mpq (entH h p c t 34) = p ∧ mrH (entH h p c t) 34 &&& 8#64 = h 34 &&& 8#64 ∧ mrH (entH h p c t) 42 = h 0 ∧ entH h p c t 34 &&& 8#64 = 0#64 := by
  have e42 := (entM_42 h p c t hd).trans (low_keep h0)
  have e34 := entM_st h p c t hd
  have a0 : mrH (entH h p c t) 0 = entH h p c t 42 := rfl
  have a34 : mrH (entH h p c t) 34 = mrS (entH h p c t 34) := rfl
  have a42 : mrH (entH h p c t) 42 = entH h p c t 42 := rfl
  refine ⟨a0.trans e42, ?_, ?_, a42.trans e42, ?_⟩
  · rw [e34]; unfold stM; exact wmp_mpq _ hp
  · rw [a34, e34]; exact and_pow (k := 3) (by rw [mrS_3, stM_7])
  · rw [e34]; exact and_pow0 (k := 3) (stM_3 _ _)
end
end Go.Proofs.Ytleolldgpoeabaa
