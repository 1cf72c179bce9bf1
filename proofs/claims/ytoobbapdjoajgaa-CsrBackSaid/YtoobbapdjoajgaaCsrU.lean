/- What is written is read, as far as it is kept: in plain terms. Conditions: none. -/
import Derived.Test.YtoobbapdjoajgaaCsrO
namespace Go.Proofs.Ytoobbapdjoajgaa
open Go.RowKit

theorem upd_back (c : Nat → BitVec 64) (i : Nat) {z y : BitVec 64} (h : y = z) : upd (upd c i z) i y = upd c i z := by
  rw [h, upd_upd]
theorem bit_off {a b : BitVec 64} (h : a &&& b = 0#64) (i : Nat) : a.getLsbD i = true → b.getLsbD i = false := by
  intro ha
  have := congrArg (fun x => x.getLsbD i) h
  simp only [BitVec.getLsbD_and, BitVec.getLsbD_zero, ha, Bool.true_and] at this
  exact this
theorem or_and {z a m : BitVec 64} (hz : Sub z m) (h : m &&& a = 0#64) : (z ||| a) &&& m = z := by
  apply BitVec.eq_of_getLsbD_eq; intro i hi
  simp only [BitVec.getLsbD_and, BitVec.getLsbD_or]
  cases hm : m.getLsbD i
  · cases hzi : z.getLsbD i
    · simp
    · exact absurd (sub_iff.1 hz i hi hzi) (by rw [hm]; decide)
  · rw [bit_off h i hm]; simp
theorem kst_back (o v : BitVec 64) : kst (kst o v) (kst o v ||| 0xa00000000#64) = kst o v := by
  have hz : Sub (kst o v) 0x7e19aa#64 := by unfold kst; split <;> exact sub_and _ _
  generalize kst o v = z at *
  have h1 : (z ||| 0xa00000000#64) &&& 0x7e19aa#64 = z := or_and hz (by decide)
  unfold kst
  split
  · unfold repl
    have h2 : (z ||| 0xa00000000#64) &&& ~~~0x1800#64 ||| z &&& 0x1800#64 = z ||| 0xa00000000#64 := by
      apply BitVec.eq_of_getLsbD_eq; intro i hi
      simp only [BitVec.getLsbD_and, BitVec.getLsbD_or, BitVec.getLsbD_not, hi, decide_true, Bool.true_and]
      have hm : (0x1800#64).getLsbD i = true → (0xa00000000#64).getLsbD i = false := bit_off (by decide) i
      cases hk : (0x1800#64).getLsbD i
      · simp
      · rw [hm hk]; simp
    rw [h2, h1]
  · exact h1
theorem repl_back (o v m b : BitVec 64) (h : m &&& b = 0#64) : repl (repl o v m) ((repl o v m &&& m) ||| b) m = repl o v m := by
  generalize repl o v m = z
  unfold repl
  apply BitVec.eq_of_getLsbD_eq; intro i hi
  simp only [BitVec.getLsbD_and, BitVec.getLsbD_or, BitVec.getLsbD_not, hi, decide_true, Bool.true_and]
  cases hm : m.getLsbD i
  · simp
  · rw [bit_off h i hm]; simp
theorem repl_view (z m : BitVec 64) : repl z (z &&& m) m = z := by
  unfold repl
  apply BitVec.eq_of_getLsbD_eq; intro i hi
  simp only [BitVec.getLsbD_and, BitVec.getLsbD_or, BitVec.getLsbD_not, hi, decide_true, Bool.true_and]
  cases m.getLsbD i <;> simp
theorem sip_back (z l d : BitVec 64) : repl z ((z ||| (l &&& 0xa88#64)) &&& d) (d &&& 2#64) = z := by
  unfold repl
  apply BitVec.eq_of_getLsbD_eq; intro i hi
  simp only [BitVec.getLsbD_and, BitVec.getLsbD_or, BitVec.getLsbD_not, hi, decide_true, Bool.true_and]
  have hm : (2#64).getLsbD i = true → (0xa88#64).getLsbD i = false := bit_off (by decide) i
  cases hk : (2#64).getLsbD i
  · simp
  · rw [hm hk]; cases d.getLsbD i <;> simp
theorem and_twice (v m : BitVec 64) : (v &&& m) &&& m = v &&& m := by
  apply BitVec.eq_of_getLsbD_eq; intro i hi
  simp only [BitVec.getLsbD_and]
  cases m.getLsbD i <;> simp
theorem ksa_back (o v : BitVec 64) : ksa (ksa o v) (ksa o v) = ksa o v := by
  generalize ksa o v = z
  unfold ksa; split <;> rfl
theorem kev_back (v : BitVec 64) : kev (kev v) = kev v := by
  have h : kev v &&& 7#64 = kev v := by
    unfold kev; split
    · rfl
    · exact and_twice _ _
  have h5 := kev_ok v
  generalize kev v = z at *
  unfold kev
  rw [h, if_neg (by omega)]
theorem cyc_in (c e : Nat → BitVec 64) (h : c 21 = e 0) : cyc c e = c 20 := by
  unfold cyc; split
  · rfl
  · rw [h, BitVec.sub_self, BitVec.add_zero]
set_option maxRecDepth 100000 in
theorem mip_back (v l : BitVec 64) (h : l &&& 0x200#64 = 0#64) : ((v &&& 0x222#64) ||| (l &&& 0xa88#64)) &&& 0x222#64 = v &&& 0x222#64 := by
  apply BitVec.eq_of_getLsbD_eq; intro i hi
  have h1 := congrArg (fun x => x.getLsbD i) h
  have h2 : (0xa88#64 &&& 0x222#64 : BitVec 64) = 0x200#64 := by decide
  have h2 := congrArg (fun x => x.getLsbD i) h2
  simp only [BitVec.getLsbD_and, BitVec.getLsbD_or, BitVec.getLsbD_zero] at h1 h2 ⊢
  revert h1 h2
  cases v.getLsbD i <;> cases l.getLsbD i <;> cases (0xa88#64).getLsbD i <;> cases (0x222#64).getLsbD i <;> cases (0x200#64).getLsbD i <;> decide
set_option maxRecDepth 100000 in
theorem mip_again (v l : BitVec 64) : (((v &&& 0x222#64) ||| (l &&& 0xa88#64)) &&& 0x222#64) ||| (l &&& 0xa88#64) = (v &&& 0x222#64) ||| (l &&& 0xa88#64) := by
  apply BitVec.eq_of_getLsbD_eq; intro i hi
  simp only [BitVec.getLsbD_and, BitVec.getLsbD_or]
  cases v.getLsbD i <;> cases l.getLsbD i <;> cases (0xa88#64).getLsbD i <;> cases (0x222#64).getLsbD i <;> decide
set_option maxRecDepth 100000 in
theorem ip_back (c e : Nat → BitVec 64) (v : BitVec 64) (h : e 2 &&& 0x200#64 = 0#64) : kp (kp c e 836 v) e 836 (rv (kp c e 836 v) e 836) = kp c e 836 v :=
  upd_back c 4 (y := ((v &&& 0x222#64) ||| (e 2 &&& 0xa88#64)) &&& 0x222#64) (mip_back v (e 2) h)
set_option maxRecDepth 100000 in
theorem ip_again (c e : Nat → BitVec 64) (v : BitVec 64) : rv (kp (kp c e 836 v) e 836 (rv (kp c e 836 v) e 836)) e 836 = rv (kp c e 836 v) e 836 := mip_again v (e 2)
theorem inh_back (c e : Nat → BitVec 64) (z : BitVec 64) (hz : z &&& 0x7d#64 = z) (x : Nat → BitVec 64) (hx : x = upd (upd (upd c 20 (cyc c e)) 21 (e 0)) 18 z) : upd (upd (upd x 20 (cyc x e)) 21 (e 0)) 18 (x 18 &&& 0x7d#64) = x := by
  have h18 : x 18 = z := by rw [hx, upd_self]
  have h21 : x 21 = e 0 := by rw [hx, upd_ne _ _ (by omega), upd_self]
  rw [cyc_in x e h21, ← h21, h18, hz, ← h18, upd_id, upd_id, upd_id]
theorem cy_back (c e : Nat → BitVec 64) (v : BitVec 64) (x : Nat → BitVec 64) (hx : x = upd (upd c 20 v) 21 (e 0)) : upd (upd x 20 (cyc x e)) 21 (e 0) = x := by
  have h21 : x 21 = e 0 := by rw [hx, upd_self]
  rw [cyc_in x e h21, ← h21, upd_id, upd_id]
set_option maxRecDepth 100000 in
theorem kp_back (c e : Nat → BitVec 64) (n : Int) (v : BitVec 64) (hx : ex n = true) (hn : n ≠ 836) : kp (kp c e n v) e n (rv (kp c e n v) e n) = kp c e n v := by
  rcases ex_cases hx with rfl | rfl | rfl | rfl | rfl | rfl | rfl | rfl | rfl | rfl | rfl | rfl | rfl | rfl | rfl | rfl | rfl | rfl | rfl | rfl | rfl | rfl | rfl | rfl | rfl | rfl | rfl | rfl | rfl | rfl | rfl | rfl | rfl | rfl | rfl | rfl | rfl | rfl | rfl | rfl | rfl | rfl | rfl | rfl | rfl
  · exact upd_back c 0 (kst_back (c 0) v)
  · exact upd_back c 0 (repl_back (c 0) v 0xc0122#64 0x200000000#64 (by decide))
  · have h : ∀ (c e : Nat → BitVec 64) (v : BitVec 64), kp c e 769 v = c := fun _ _ _ => rfl
    rw [h]
  · exact upd_back c 1 (and_twice v 0xb3ff#64)
  · exact upd_back c 2 (and_twice v 0x222#64)
  · exact upd_back c 3 (and_twice v 0xaaa#64)
  · exact upd_back c 3 (repl_view (repl (c 3) v (c 2)) (c 2))
  · exact absurd rfl hn
  · exact upd_back c 4 (sip_back (repl (c 4) v (c 2 &&& 2#64)) (e 2) (c 2))
  · exact upd_back c 5 (and_twice v (~~~2#64))
  · exact upd_back c 11 (and_twice v (~~~2#64))
  · exact upd_back c 6 (and_twice v 0x7f#64)
  · exact upd_back c 12 (and_twice v 0x7f#64)
  · exact inh_back c e (v &&& 0x7d#64) (and_twice v 0x7d#64) _ rfl
  · exact upd_back c 7 rfl
  · exact upd_back c 13 rfl
  · exact upd_back c 10 rfl
  · exact upd_back c 16 rfl
  · exact upd_back c 8 (and_twice v (~~~3#64))
  · exact upd_back c 14 (and_twice v (~~~3#64))
  · exact upd_back c 9 (and_twice v 0x800000000000003f#64)
  · exact upd_back c 15 (and_twice v 0x800000000000003f#64)
  · exact upd_back c 17 (ksa_back (c 17) v)
  · exact cy_back c e v _ rfl
  · have h : ∀ (c e : Nat → BitVec 64) (v : BitVec 64), kp c e 3072 v = c := fun _ _ _ => rfl
    rw [h]
  · exact upd_back c 19 rfl
  · have h : ∀ (c e : Nat → BitVec 64) (v : BitVec 64), kp c e 3074 v = c := fun _ _ _ => rfl
    rw [h]
  · exact upd_back c 22 (kev_back v)
  · exact upd_back c 23 (kev_back v)
  · exact upd_back c 24 (kev_back v)
  · exact upd_back c 25 (kev_back v)
  · exact upd_back c 26 (z := v - e 3) (y := v - e 3 + e 3 - e 3) (BitVec.add_sub_cancel _ _)
  · exact upd_back c 27 (z := v - e 4) (y := v - e 4 + e 4 - e 4) (BitVec.add_sub_cancel _ _)
  · exact upd_back c 28 (z := v - e 5) (y := v - e 5 + e 5 - e 5) (BitVec.add_sub_cancel _ _)
  · exact upd_back c 29 (z := v - e 6) (y := v - e 6 + e 6 - e 6) (BitVec.add_sub_cancel _ _)
  · have h : ∀ (c e : Nat → BitVec 64) (v : BitVec 64), kp c e 3075 v = c := fun _ _ _ => rfl
    rw [h]
  · have h : ∀ (c e : Nat → BitVec 64) (v : BitVec 64), kp c e 3076 v = c := fun _ _ _ => rfl
    rw [h]
  · have h : ∀ (c e : Nat → BitVec 64) (v : BitVec 64), kp c e 3077 v = c := fun _ _ _ => rfl
    rw [h]
  · have h : ∀ (c e : Nat → BitVec 64) (v : BitVec 64), kp c e 3078 v = c := fun _ _ _ => rfl
    rw [h]
  · have h : ∀ (c e : Nat → BitVec 64) (v : BitVec 64), kp c e 3073 v = c := fun _ _ _ => rfl
    rw [h]
  · have h : ∀ (c e : Nat → BitVec 64) (v : BitVec 64), kp c e 3857 v = c := fun _ _ _ => rfl
    rw [h]
  · have h : ∀ (c e : Nat → BitVec 64) (v : BitVec 64), kp c e 3858 v = c := fun _ _ _ => rfl
    rw [h]
  · have h : ∀ (c e : Nat → BitVec 64) (v : BitVec 64), kp c e 3859 v = c := fun _ _ _ => rfl
    rw [h]
  · have h : ∀ (c e : Nat → BitVec 64) (v : BitVec 64), kp c e 3860 v = c := fun _ _ _ => rfl
    rw [h]
  · have h : ∀ (c e : Nat → BitVec 64) (v : BitVec 64), kp c e 3861 v = c := fun _ _ _ => rfl
    rw [h]
end Go.Proofs.Ytoobbapdjoajgaa
