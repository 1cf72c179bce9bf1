/- A trap, and the ways back, leave a state such as writes leave; what they do not touch. Plain lemmas on words. Conditions: named at each. -/
import Derived.Test.YtleolldgpoeabaaTrapB
import Derived.Test.YtleolldgpoeabaaMayZ
namespace Go.Proofs.Ytleolldgpoeabaa
open Go.RowKit

theorem putB_sub {v b m : BitVec 64} (on : Bool) (h : Sub v m) (hb : Sub b m) : Sub (putB v b on) m := sub_iff.2 fun i hi hx => by
  rw [putB_bit _ _ _ _ hi] at hx
  split at hx
  · next e => exact sub_iff.1 hb i hi e
  · exact sub_iff.1 h i hi hx
theorem movB_sub {s t m f : BitVec 64} (h : Sub s m) (hb : Sub t m) : Sub (movB s t f) m := putB_sub _ h hb
theorem wmp_sub {s m : BitVec 64} (p : Int) (h : Sub s m) (hb : Sub 0x1800#64 m) : Sub (wmp s p) m := sub_iff.2 fun i hi hx => by
  cases e : (0x1800#64).getLsbD i
  · rw [wmp_bit _ _ _ hi e] at hx; exact sub_iff.1 h i hi hx
  · exact sub_iff.1 hb i hi e
theorem sub_lit {x m : BitVec 64} (h : (x &&& ~~~m == 0#64) = true) : Sub x m := by unfold Sub; simpa using h
/-- MPP as its number -/
theorem mpw_two {v : BitVec 64} : v &&& 0x1800#64 = 0x1000#64 ↔ mpw v = 2#64 := by
  rw [← mpw_and]
  constructor
  · intro h; rw [h]; rfl
  · intro h
    apply BitVec.eq_of_getLsbD_eq
    intro i hi
    by_cases h1 : i < 11
    · have : (0x1800#64).getLsbD i = false := by revert i; decide
      rw [BitVec.getLsbD_and, this, Bool.and_false]
      have : ∀ j : Fin 11, (0x1000#64).getLsbD j.val = false := by decide
      exact (this ⟨i, h1⟩).symm
    · have h2 := congrArg (fun x => BitVec.getLsbD x (i - 11)) h
      simp only [BitVec.getLsbD_ushiftRight] at h2
      rw [show 11 + (i - 11) = i by omega] at h2
      rw [h2]
      have : ∀ j : Fin 64, 11 ≤ j.val → (2#64).getLsbD (j.val - 11) = (0x1000#64).getLsbD j.val := by decide
      exact this ⟨i, hi⟩ (by show 11 ≤ i; omega)
theorem putB_mpw {v b : BitVec 64} (on : Bool) (hb : b &&& 0x1800#64 = 0#64) : mpw (putB v b on) = mpw v := by
  rw [← mpw_and, ← mpw_and]
  congr 1
  apply BitVec.eq_of_getLsbD_eq
  intro i hi
  rw [BitVec.getLsbD_and, BitVec.getLsbD_and, putB_bit _ _ _ _ hi]
  have h2 := congrArg (fun x => BitVec.getLsbD x i) hb
  simp only [BitVec.getLsbD_and, BitVec.getLsbD_zero] at h2
  cases e : (0x1800#64).getLsbD i
  · simp
  · rw [e] at h2
    have : b.getLsbD i = false := by simpa using h2
    rw [this]; simp
theorem movB_mpw {v t f : BitVec 64} (hb : t &&& 0x1800#64 = 0#64) : mpw (movB v t f) = mpw v := putB_mpw _ hb
theorem okC0_of {v : BitVec 64} (h1 : Sub v 0x7e19aa#64) (h2 : mpw v ≠ 2#64) : OkC 0 v := ⟨h1, fun h => h2 (mpw_two.1 h)⟩
theorem okC0_mp {v : BitVec 64} (h : OkC 0 v) : mpw v ≠ 2#64 := fun e => h.2 (mpw_two.2 e)
theorem stS_ok {s : BitVec 64} (p : Int) (h : OkC 0 s) : OkC 0 (stS s p) := by
  refine okC0_of ?_ ?_
  · exact putB_sub _ (putB_sub _ (movB_sub h.1 (sub_lit (by decide))) (sub_lit (by decide))) (sub_lit (by decide))
  · unfold stS; rw [putB_mpw _ (by decide), putB_mpw _ (by decide), movB_mpw (by decide)]; exact okC0_mp h
theorem wmp_two (s : BitVec 64) {p : Int} (hp : p = 0 ∨ p = 1 ∨ p = 3) : mpw (wmp s p) ≠ 2#64 := by
  rw [wmp_mpw]; rcases hp with rfl | rfl | rfl <;> decide
theorem stM_ok {s : BitVec 64} {p : Int} (hp : p = 0 ∨ p = 1 ∨ p = 3) (h : OkC 0 s) : OkC 0 (stM s p) :=
  okC0_of (wmp_sub _ (putB_sub _ (movB_sub h.1 (sub_lit (by decide))) (sub_lit (by decide))) (sub_lit (by decide))) (wmp_two _ hp)
theorem mrS_ok {s : BitVec 64} (h : OkC 0 s) : OkC 0 (mrS s) := by
  have h1 : OkC 0 (wmp (putB (movB s 8#64 128#64) 128#64 true) 0) :=
    okC0_of (wmp_sub _ (putB_sub _ (movB_sub h.1 (sub_lit (by decide))) (sub_lit (by decide))) (sub_lit (by decide))) (wmp_two _ (.inl rfl))
  unfold mrS; split
  · exact h1
  · exact okC0_of (putB_sub _ h1.1 (sub_lit (by decide))) (by rw [putB_mpw _ (by decide)]; exact okC0_mp h1)
theorem srS_ok {s : BitVec 64} (h : OkC 0 s) : OkC 0 (srS s) := by
  refine okC0_of ?_ ?_
  · exact putB_sub _ (putB_sub _ (movB_sub h.1 (sub_lit (by decide))) (sub_lit (by decide))) (sub_lit (by decide))
  · unfold srS; rw [putB_mpw _ (by decide), putB_mpw _ (by decide), movB_mpw (by decide)]; exact okC0_mp h
theorem cH_0 (h : Nat → BitVec 64) (v : BitVec 64) : cH (upd h 0 v) = cH h := cH_low h 0 v (by omega)
theorem cau_ok (c : BitVec 64) : OkC 15 (cau c) := sub_and c _
theorem cau_ok9 (c : BitVec 64) : OkC 9 (cau c) := sub_and c _
section
variable {h : Nat → BitVec 64} {p : Int}
theorem ent_ok (c t : BitVec 64) (hp : p = 0 ∨ p = 1 ∨ p = 3) (hk : OkS (cH h)) : OkS (cH (entH h p c t)) := by
  have h0 : OkC 0 (h 34) := hk.at_ 0
  cases hd : dlg h p c
  · rw [ent_M h p c t hd]; unfold entM
    rw [show (65 : Nat) = 34 + 31 from rfl, cH_upd, cH_0, show (34 : Nat) = 34 + 0 from rfl, cH_upd, show (44 : Nat) = 34 + 10 from rfl, cH_upd, show (42 : Nat) = 34 + 8 from rfl, cH_upd, show (43 : Nat) = 34 + 9 from rfl, cH_upd]
    exact ((((hk.upd 9 (cau_ok9 c)).upd 8 (v := h 0 &&& ~~~3#64) (low_and _ _)).upd 10 (v := t) trivial).upd 0 (stM_ok hp h0)).upd 31 (v := 0#64) trivial
  · rw [ent_S h p c t hd]; unfold entS
    rw [show (65 : Nat) = 34 + 31 from rfl, cH_upd, cH_0, show (34 : Nat) = 34 + 0 from rfl, cH_upd, show (50 : Nat) = 34 + 16 from rfl, cH_upd, show (48 : Nat) = 34 + 14 from rfl, cH_upd, show (49 : Nat) = 34 + 15 from rfl, cH_upd]
    exact ((((hk.upd 15 (cau_ok c)).upd 14 (v := h 0 &&& ~~~3#64) (low_and _ _)).upd 16 (v := t) trivial).upd 0 (stS_ok p h0)).upd 31 (v := 0#64) trivial
theorem mr_ok (hk : OkS (cH h)) : OkS (cH (mrH h)) := by
  have h0 : OkC 0 (h 34) := hk.at_ 0
  unfold mrH
  rw [show (65 : Nat) = 34 + 31 from rfl, cH_upd, cH_0, show (34 : Nat) = 34 + 0 from rfl, cH_upd]
  exact (hk.upd 0 (mrS_ok h0)).upd 31 (v := 0#64) trivial
theorem sr_ok (hk : OkS (cH h)) : OkS (cH (srH h)) := by
  have h0 : OkC 0 (h 34) := hk.at_ 0
  unfold srH
  rw [show (65 : Nat) = 34 + 31 from rfl, cH_upd, cH_0, show (34 : Nat) = 34 + 0 from rfl, cH_upd]
  exact (hk.upd 0 (srS_ok h0)).upd 31 (v := 0#64) trivial
end
theorem and3_mod (v : BitVec 64) : v &&& 3#64 = 0#64 ↔ v.toNat % 4 = 0 := by
  constructor
  · intro h
    have := congrArg BitVec.toNat h
    rw [BitVec.toNat_and, show (3#64).toNat = 2 ^ 2 - 1 from rfl, Nat.and_two_pow_sub_one_eq_mod] at this
    exact this
  · intro h
    apply BitVec.eq_of_toNat_eq
    rw [BitVec.toNat_and, show (3#64).toNat = 2 ^ 2 - 1 from rfl, Nat.and_two_pow_sub_one_eq_mod]
    exact h
theorem hdl_low (v c : BitVec 64) : hdl v c &&& 3#64 = 0#64 := by
  have h1 := (and3_mod _).1 (low_and v 3#64)
  unfold hdl
  split
  · rw [and3_mod, BitVec.toNat_add, BitVec.toNat_mul]
    rw [show (4#64).toNat = 4 from rfl]
    omega
  · exact low_and v 3#64
section
variable (h : Nat → BitVec 64) (p : Int) (c t : BitVec 64)
theorem ent_pc : entH h p c t 0 &&& 3#64 = 0#64 := by
  cases hd : dlg h p c
  · rw [ent_M h p c t hd]; exact hdl_low _ _
  · rw [ent_S h p c t hd]; exact hdl_low _ _
theorem stS_oth (s : BitVec 64) (p : Int) (i : Nat) (hi : i < 64) (h : (290#64).getLsbD i = false) : (stS s p).getLsbD i = s.getLsbD i := by
  have : ∀ j : Fin 64, (290#64).getLsbD j.val = false → (256#64).getLsbD j.val = false ∧ (2#64).getLsbD j.val = false ∧ (32#64).getLsbD j.val = false := by decide +kernel
  obtain ⟨h1, h2, h3⟩ := this ⟨i, hi⟩ h
  unfold stS; rw [putB_bit _ _ _ _ hi, if_neg (by rw [h1]; decide), putB_bit _ _ _ _ hi, if_neg (by rw [h2]; decide)]
  unfold movB; rw [putB_bit _ _ _ _ hi, if_neg (by rw [h3]; decide)]
theorem stM_oth (s : BitVec 64) (p : Int) (i : Nat) (hi : i < 64) (h : (6280#64).getLsbD i = false) : (stM s p).getLsbD i = s.getLsbD i := by
  have : ∀ j : Fin 64, (6280#64).getLsbD j.val = false → (0x1800#64).getLsbD j.val = false ∧ (8#64).getLsbD j.val = false ∧ (128#64).getLsbD j.val = false := by decide +kernel
  obtain ⟨h1, h2, h3⟩ := this ⟨i, hi⟩ h
  unfold stM; rw [wmp_bit _ _ _ hi h1, putB_bit _ _ _ _ hi, if_neg (by rw [h2]; decide)]
  unfold movB; rw [putB_bit _ _ _ _ hi, if_neg (by rw [h3]; decide)]
theorem xor_and {a s m : BitVec 64} (h : ∀ i, i < 64 → m.getLsbD i = true → a.getLsbD i = s.getLsbD i) : (a ^^^ s) &&& m = 0#64 := by
  apply BitVec.eq_of_getLsbD_eq
  intro i hi
  rw [BitVec.getLsbD_and, BitVec.getLsbD_xor, BitVec.getLsbD_zero]
  cases e : m.getLsbD i
  · simp
  · rw [h i hi e]; simp
theorem apart (i : Nat) (hi : i < 64) : ((6280#64).getLsbD i = true → (290#64).getLsbD i = false) ∧ ((290#64).getLsbD i = true → (6280#64).getLsbD i = false) := by
  have : ∀ j : Fin 64, ((6280#64).getLsbD j.val = true → (290#64).getLsbD j.val = false) ∧ ((290#64).getLsbD j.val = true → (6280#64).getLsbD j.val = false) := by decide +kernel
  exact this ⟨i, hi⟩
theorem keep_S (hd : dlg h p c = true) : entH h p c t 42 = h 42 ∧ entH h p c t 43 = h 43 ∧ entH h p c t 44 = h 44 ∧ (entH h p c t 34 ^^^ h 34) &&& 6280#64 = 0#64 := by
  rw [entS_st h p c t hd, ent_S h p c t hd]
  exact ⟨rfl, rfl, rfl, xor_and fun i hi hm => stS_oth _ _ i hi ((apart i hi).1 hm)⟩
theorem keep_M (hd : dlg h p c = false) : entH h p c t 48 = h 48 ∧ entH h p c t 49 = h 49 ∧ entH h p c t 50 = h 50 ∧ (entH h p c t 34 ^^^ h 34) &&& 290#64 = 0#64 := by
  rw [entM_st h p c t hd, ent_M h p c t hd]
  exact ⟨rfl, rfl, rfl, xor_and fun i hi hm => stM_oth _ _ i hi ((apart i hi).2 hm)⟩
end
end Go.Proofs.Ytleolldgpoeabaa
