/- Which word an instruction is: what the table says of it. Plain lemmas. Conditions: none. -/
import Derived.Test.YtjnalgilkdoalaaDoorDecP
import Derived.Test.YtjnalgilkdoalaaDoorBackA
namespace Go.Proofs.YtjnalgilkdoalaaDoor
open Go.RowKit
set_option linter.unusedSimpArgs false
set_option linter.unusedVariables false

theorem word_R (x : BitVec 32) : asmW (fi x 6 0) (fi x 11 7) (fi x 14 12) (fi x 19 15) (fi x 24 20) (fi x 31 25) 0 [] = x ∧ asmE (fi x 6 0) (fi x 11 7) (fi x 14 12) (fi x 19 15) (fi x 24 20) (fi x 31 25) 0 [] = 0 := by
  have e := asm_nil (fi x 6 0) (fi x 11 7) (fi x 14 12) (fi x 19 15) (fi x 24 20) (fi x 31 25)
  unfold wordOf at e
  rw [fit_word x, if_pos rfl, if_pos rfl, lay_word] at e
  exact e
theorem fitsI (x : BitVec 32) : Fit (fi x 6 0) (fi x 11 7) (fi x 14 12) (fi x 19 15) 0 0 = true := Fit_of (fi_in x (hi := 6) (lo := 0) rfl) (fi_in x (hi := 11) (lo := 7) rfl) (fi_in x (hi := 14) (lo := 12) rfl) (fi_in x (hi := 19) (lo := 15) rfl) (In_zero _) (In_zero _)
theorem word_I (x : BitVec 32) : asmW (fi x 6 0) (fi x 11 7) (fi x 14 12) (fi x 19 15) 0 0 (sg (immOf (zx x) LI)) LI = x ∧ asmE (fi x 6 0) (fi x 11 7) (fi x 14 12) (fi x 19 15) 0 0 (sg (immOf (zx x) LI)) LI = 0 := by
  have e := asm_good (fitsI x) (immOf_inr sameI (zx x)) (immOf_ins sameI (zx x))
  rw [wd_sg, imm_again sameI x _ (clearI (fitsI x)) (fun j hj hs => by
    have hc := coverI j hj
    rw [hs] at hc
    rw [lay_bit (fitsI x) j hj, ← lb_word x j hj]
    simp at hc
    unfold lb
    repeat' split
    all_goals first | rfl | omega)] at e
  exact e
theorem fitsS (x : BitVec 32) : Fit (fi x 6 0) 0 (fi x 14 12) (fi x 19 15) (fi x 24 20) 0 = true := Fit_of (fi_in x (hi := 6) (lo := 0) rfl) (In_zero _) (fi_in x (hi := 14) (lo := 12) rfl) (fi_in x (hi := 19) (lo := 15) rfl) (fi_in x (hi := 24) (lo := 20) rfl) (In_zero _)
theorem word_S (x : BitVec 32) : asmW (fi x 6 0) 0 (fi x 14 12) (fi x 19 15) (fi x 24 20) 0 (sg (immOf (zx x) LS)) LS = x ∧ asmE (fi x 6 0) 0 (fi x 14 12) (fi x 19 15) (fi x 24 20) 0 (sg (immOf (zx x) LS)) LS = 0 := by
  have e := asm_good (fitsS x) (immOf_inr sameS (zx x)) (immOf_ins sameS (zx x))
  rw [wd_sg, imm_again sameS x _ (clearS (fitsS x)) (fun j hj hs => by
    have hc := coverS j hj
    rw [hs] at hc
    rw [lay_bit (fitsS x) j hj, ← lb_word x j hj]
    simp at hc
    unfold lb
    repeat' split
    all_goals first | rfl | omega)] at e
  exact e
theorem fitsB (x : BitVec 32) : Fit (fi x 6 0) 0 (fi x 14 12) (fi x 19 15) (fi x 24 20) 0 = true := Fit_of (fi_in x (hi := 6) (lo := 0) rfl) (In_zero _) (fi_in x (hi := 14) (lo := 12) rfl) (fi_in x (hi := 19) (lo := 15) rfl) (fi_in x (hi := 24) (lo := 20) rfl) (In_zero _)
theorem word_B (x : BitVec 32) : asmW (fi x 6 0) 0 (fi x 14 12) (fi x 19 15) (fi x 24 20) 0 (sg (immOf (zx x) LB)) LB = x ∧ asmE (fi x 6 0) 0 (fi x 14 12) (fi x 19 15) (fi x 24 20) 0 (sg (immOf (zx x) LB)) LB = 0 := by
  have e := asm_good (fitsB x) (immOf_inr sameB (zx x)) (immOf_ins sameB (zx x))
  rw [wd_sg, imm_again sameB x _ (clearB (fitsB x)) (fun j hj hs => by
    have hc := coverB j hj
    rw [hs] at hc
    rw [lay_bit (fitsB x) j hj, ← lb_word x j hj]
    simp at hc
    unfold lb
    repeat' split
    all_goals first | rfl | omega)] at e
  exact e
theorem fitsU (x : BitVec 32) : Fit (fi x 6 0) (fi x 11 7) 0 0 0 0 = true := Fit_of (fi_in x (hi := 6) (lo := 0) rfl) (fi_in x (hi := 11) (lo := 7) rfl) (In_zero _) (In_zero _) (In_zero _) (In_zero _)
theorem word_U (x : BitVec 32) : asmW (fi x 6 0) (fi x 11 7) 0 0 0 0 (sg (immOf (zx x) LU)) LU = x ∧ asmE (fi x 6 0) (fi x 11 7) 0 0 0 0 (sg (immOf (zx x) LU)) LU = 0 := by
  have e := asm_good (fitsU x) (immOf_inr sameU (zx x)) (immOf_ins sameU (zx x))
  rw [wd_sg, imm_again sameU x _ (clearU (fitsU x)) (fun j hj hs => by
    have hc := coverU j hj
    rw [hs] at hc
    rw [lay_bit (fitsU x) j hj, ← lb_word x j hj]
    simp at hc
    unfold lb
    repeat' split
    all_goals first | rfl | omega)] at e
  exact e
theorem fitsJ (x : BitVec 32) : Fit (fi x 6 0) (fi x 11 7) 0 0 0 0 = true := Fit_of (fi_in x (hi := 6) (lo := 0) rfl) (fi_in x (hi := 11) (lo := 7) rfl) (In_zero _) (In_zero _) (In_zero _) (In_zero _)
theorem word_J (x : BitVec 32) : asmW (fi x 6 0) (fi x 11 7) 0 0 0 0 (sg (immOf (zx x) LJ)) LJ = x ∧ asmE (fi x 6 0) (fi x 11 7) 0 0 0 0 (sg (immOf (zx x) LJ)) LJ = 0 := by
  have e := asm_good (fitsJ x) (immOf_inr sameJ (zx x)) (immOf_ins sameJ (zx x))
  rw [wd_sg, imm_again sameJ x _ (clearJ (fitsJ x)) (fun j hj hs => by
    have hc := coverJ j hj
    rw [hs] at hc
    rw [lay_bit (fitsJ x) j hj, ← lb_word x j hj]
    simp at hc
    unfold lb
    repeat' split
    all_goals first | rfl | omega)] at e
  exact e
/-- the word with what plays no part left out -/
def clr (x : BitVec 32) : BitVec 32 := if fi x 6 0 = 15 then (if fi x 14 12 = 0 then 15#32 else 4111#32) else if fi x 6 0 = 47 then x &&& ~~~0x06000000#32 else x
theorem clr_same {x : BitVec 32} (h1 : ¬ fi x 6 0 = 15) (h2 : ¬ fi x 6 0 = 47) : clr x = x := by unfold clr; rw [if_neg h1, if_neg h2]
theorem clr_amo {x : BitVec 32} (h : fi x 6 0 = 47) : clr x = x &&& ~~~0x06000000#32 := by unfold clr; rw [if_neg (by omega), if_pos h]
theorem low_bits (x : BitVec 32) : ∀ i, i < 25 ∨ 27 ≤ i → (x &&& ~~~0x06000000#32).getLsbD i = x.getLsbD i := by
  intro i hi
  rw [BitVec.getLsbD_and]
  by_cases c : i < 32
  · have hall : ∀ i : Fin 32, (i.val < 25 ∨ 27 ≤ i.val) → (~~~0x06000000#32).getLsbD i.val = true := by decide +kernel
    rw [hall ⟨i, c⟩ hi, Bool.and_true]
  · rw [BitVec.getLsbD_of_ge x _ (by omega), Bool.false_and]
theorem clr_fields (x : BitVec 32) (hi lo : Nat) (h : hi < 25 ∨ 27 ≤ lo) : fi (x &&& ~~~0x06000000#32) hi lo = fi x hi lo := fi_same hi lo (fun i h1 h2 => low_bits x i (by omega))
theorem clr_f7 (x : BitVec 32) : fi (x &&& ~~~0x06000000#32) 31 25 = fi x 31 27 * 4 := by
  obtain ⟨y, hy⟩ : ∃ y, x &&& ~~~0x06000000#32 = y := ⟨_, rfl⟩
  have e5 : fi y 31 27 = fi x 31 27 := hy ▸ clr_fields x 31 27 (by omega)
  have e2 : fi y 26 25 = 0 := by
    have h : fi y 26 25 = fi 0#32 26 25 := fi_same 26 25 (fun i h1 h2 => by
      rw [← hy, BitVec.getLsbD_and]
      have hall : ∀ i : Fin 32, (25 ≤ i.val ∧ i.val ≤ 26) → (~~~0x06000000#32).getLsbD i.val = false := by decide +kernel
      rw [hall ⟨i, by omega⟩ ⟨h1, h2⟩]; simp)
    rw [h]; decide +kernel
  have h1 : fi y 31 25 = ((y.toNat / 2 ^ 25 % 2 ^ 7 : Nat) : Int) := fi_nat y 31 25 (by omega) (by omega)
  have h2 : fi y 31 27 = ((y.toNat / 2 ^ 27 % 2 ^ 5 : Nat) : Int) := fi_nat y 31 27 (by omega) (by omega)
  have h3 : fi y 26 25 = ((y.toNat / 2 ^ 25 % 2 ^ 2 : Nat) : Int) := fi_nat y 26 25 (by omega) (by omega)
  rw [hy]
  omega
theorem word_amo {x : BitVec 32} (h : fi x 6 0 = 47) : asmW 47 (fi x 11 7) (fi x 14 12) (fi x 19 15) (fi x 24 20) (fi x 31 27 * 4) 0 [] = clr x ∧ asmE 47 (fi x 11 7) (fi x 14 12) (fi x 19 15) (fi x 24 20) (fi x 31 27 * 4) 0 [] = 0 := by
  have e := word_R (x &&& ~~~0x06000000#32)
  have c6 : fi (x &&& ~~~0x06000000#32) 6 0 = fi x 6 0 := clr_fields x 6 0 (by omega)
  have c11 : fi (x &&& ~~~0x06000000#32) 11 7 = fi x 11 7 := clr_fields x 11 7 (by omega)
  have c14 : fi (x &&& ~~~0x06000000#32) 14 12 = fi x 14 12 := clr_fields x 14 12 (by omega)
  have c19 : fi (x &&& ~~~0x06000000#32) 19 15 = fi x 19 15 := clr_fields x 19 15 (by omega)
  have c24 : fi (x &&& ~~~0x06000000#32) 24 20 = fi x 24 20 := clr_fields x 24 20 (by omega)
  rw [c6, c11, c14, c19, c24, clr_f7, h] at e
  rw [clr_amo h]
  exact e
/-- what is left is the same instruction -/
theorem dec_clr (x : BitVec 32) (h : (decOf x).op ≠ 0) : decOf (clr x) = decOf x := by
  by_cases h1 : fi x 6 0 = 15
  · have e := dec_fence h1
    unfold clr
    rw [if_pos h1]
    by_cases h3 : fi x 14 12 = 0
    · rw [if_pos h3, e, if_pos h3]; decide +kernel
    · rw [if_neg h3] at e ⊢
      by_cases h4 : fi x 14 12 = 1
      · rw [e, if_pos h4]; decide +kernel
      · rw [if_neg h4] at e; rw [e] at h; exact absurd rfl h
  · by_cases h2 : fi x 6 0 = 47
    · rw [clr_amo h2, dec_amo h2, dec_amo ((clr_fields x 6 0 (by omega)).trans h2)]
      exact amo_same (low_bits x)
    · rw [clr_same h1 h2]
theorem clr_in (x : BitVec 32) (h : (decOf x).op ≠ 0) : clr x &&& ~~~x = 0#32 := by
  apply BitVec.eq_of_getLsbD_eq; intro i hi
  rw [BitVec.getLsbD_and, BitVec.getLsbD_not, decide_eq_true hi, Bool.true_and, BitVec.getLsbD_zero]
  by_cases h1 : fi x 6 0 = 15
  · have e := dec_fence h1
    have b0 : ∀ j, j < 7 → x.getLsbD j = (15#32).getLsbD j := fun j hj => by
      have := fi_bit x (hi := 6) (lo := 0) (by omega) (by omega) j (by omega)
      rw [show ((6 : Nat) : Int) = 6 by rfl, show ((0 : Nat) : Int) = 0 by rfl, h1, Nat.zero_add] at this
      rw [← this]
      have hall : ∀ j : Fin 7, (wd64 15).getLsbD j.val = (15#32).getLsbD j.val := by decide +kernel
      exact hall ⟨j, hj⟩
    unfold clr
    rw [if_pos h1]
    by_cases h3 : fi x 14 12 = 0
    · rw [if_pos h3]
      by_cases c : i < 7
      · rw [b0 i c]; simp
      · have hall : ∀ j : Fin 32, 7 ≤ j.val → (15#32).getLsbD j.val = false := by decide +kernel
        rw [hall ⟨i, hi⟩ (by show 7 ≤ i; omega)]; rfl
    · rw [if_neg h3] at e ⊢
      by_cases h4 : fi x 14 12 = 1
      · have b12 : x.getLsbD 12 = true := by
          have := fi_bit x (hi := 14) (lo := 12) (by omega) (by omega) 0 (by omega)
          rw [show ((14 : Nat) : Int) = 14 by rfl, show ((12 : Nat) : Int) = 12 by rfl, h4, Nat.add_zero] at this
          rw [← this]; decide +kernel
        have hall : ∀ j : Fin 32, (4111#32).getLsbD j.val = (decide (j.val < 7) && (15#32).getLsbD j.val || decide (j.val = 12)) := by decide +kernel
        rw [hall ⟨i, hi⟩]
        by_cases c : i < 7
        · rw [b0 i c]; simp [show ¬ i = 12 by omega]
        · by_cases d : i = 12
          · subst d; rw [b12]; simp
          · simp [c, d]
      · rw [if_neg h4] at e; rw [e] at h; exact absurd rfl h
  · by_cases h2 : fi x 6 0 = 47
    · rw [clr_amo h2, BitVec.getLsbD_and]; cases x.getLsbD i <;> simp
    · rw [clr_same h1 h2]; simp
/-- the table of the library's trailing zeros -/
def tz64 : List Int := [0, 1, 56, 2, 57, 49, 28, 3, 61, 58, 42, 50, 38, 29, 17, 4, 62, 47, 59, 36, 45, 43, 51, 22, 53, 39, 33, 30, 24, 18, 12, 5, 63, 55, 48, 27, 60, 41, 37, 16, 46, 35, 44, 21, 52, 32, 23, 11, 54, 26, 40, 15, 34, 20, 31, 10, 25, 14, 19, 9, 13, 8, 7, 6]
def tzOf (v : BitVec 64) : Int := if v = 0#64 then 64 else tz64.getD (((v &&& -v) * 285870213051353865#64) >>> 58).toNat 0
theorem tz_small (v : BitVec 64) : 0 ≤ tzOf v ∧ tzOf v ≤ 64 := by
  unfold tzOf
  split
  · omega
  · obtain ⟨n, hn⟩ : ∃ n, (((v &&& -v) * 285870213051353865#64) >>> 58).toNat = n := ⟨_, rfl⟩
    rw [hn]
    by_cases c : n < 64
    · have hall : ∀ n : Fin 64, 0 ≤ tz64.getD n.val 0 ∧ tz64.getD n.val 0 ≤ 64 := by decide +kernel
      exact hall ⟨n, c⟩
    · rw [List.getD_eq_getElem?_getD, List.getElem?_eq_none (by show 64 ≤ n; omega)]; simp
def szOf (z : Int) : Int := tzOf (wd64 z)
def lfOf (a : Bool) (z : Int) : Int := if a then szOf z else szOf z + 4
def rszOf (z : Int) : Int := if z = 1 then 0 else if z = 2 then 1 else if z = 4 then 2 else if z = 8 then 3 else -1
def rlfOf (a : Bool) (z : Int) : Int := if a = false ∧ 0 ≤ rszOf z then rszOf z + 4 else rszOf z
theorem sz_1 : szOf 1 = 0 := by decide +kernel
theorem sz_2 : szOf 2 = 1 := by decide +kernel
theorem sz_4 : szOf 4 = 2 := by decide +kernel
theorem sz_8 : szOf 8 = 3 := by decide +kernel
/-- the word and the error are those that the instruction asks for -/
def Right (i : Ins) (v : BitVec 32) (n : Int) : Prop := (i.op = 0 → n ≠ 0) ∧ ∀ x, decOf x = i → i.op ≠ 0 → v = clr x ∧ n = 0
theorem right_of {i : Ins} {v : BitVec 32} {n : Int} (h0 : i.op ≠ 0) (h : ∀ x, decOf x = i → v = clr x ∧ n = 0) : Right i v n := ⟨fun e => absurd e h0, fun x hx _ => h x hx⟩
theorem right_none {i : Ins} {v : BitVec 32} {n : Int} (hn : n ≠ 0) (h : ∀ x, decOf x = i → i.op ≠ 0 → False) : Right i v n := ⟨fun _ => hn, fun x hx h0 => (h x hx h0).elim⟩
theorem right_other {i : Ins} {v : BitVec 32} {n : Int} (hn : n ≠ 0) (h : i.op < 1 ∨ 22 < i.op) : Right i v n := by
  refine right_none hn (fun x hx h0 => ?_)
  rcases dec_ins x with e | ⟨g1, g2, -⟩
  · rw [← hx, e] at h0; exact h0 rfl
  · rw [hx] at g1 g2; omega
theorem right_1 (i : Ins) (h : i.op = 1) : Right i (asmW 55 i.rd 0 0 0 0 (sg i.imm) LU) (asmE 55 i.rd 0 0 0 0 (sg i.imm) LU) := by
  refine right_of (by omega) (fun x hx => ?_)
  subst hx
  have h1 := num_ops x false
  have h2 := num_ops x true
  have h3 := reg_ops x false
  have h4 := reg_ops x true
  have h5 := amo_ops x
  have h6 := sys_ops x
  revert h
  refine dec_elim (P := fun i => i.op = 1 → asmW 55 i.rd 0 0 0 0 (sg i.imm) LU = clr x ∧ asmE 55 i.rd 0 0 0 0 (sg i.imm) LU = 0) x ?_ ?_ ?_ ?_ ?_ ?_ ?_ ?_ ?_ ?_ ?_ ?_ ?_ ?_ ?_
  · intro c h
    have e := word_U x
    rw [c] at e
    rw [clr_same (by omega) (by omega)]
    exact e
  · intro c h; exfalso; revert h; first | omega | ((repeat' split) <;> (dsimp only [Ins.zero]; omega))
  · intro c h; exfalso; revert h; first | omega | ((repeat' split) <;> (dsimp only [Ins.zero]; omega))
  · intro c h; exfalso; revert h; first | omega | ((repeat' split) <;> (dsimp only [Ins.zero]; omega))
  · intro c h; exfalso; revert h; first | omega | ((repeat' split) <;> (dsimp only [Ins.zero]; omega))
  · intro c h; exfalso; revert h; first | omega | ((repeat' split) <;> (dsimp only [Ins.zero]; omega))
  · intro c h; exfalso; revert h; first | omega | ((repeat' split) <;> (dsimp only [Ins.zero]; omega))
  · intro c h; exfalso; revert h; first | omega | ((repeat' split) <;> (dsimp only [Ins.zero]; omega))
  · intro c h; exfalso; revert h; first | omega | ((repeat' split) <;> (dsimp only [Ins.zero]; omega))
  · intro c h; exfalso; revert h; first | omega | ((repeat' split) <;> (dsimp only [Ins.zero]; omega))
  · intro c h; exfalso; revert h; first | omega | ((repeat' split) <;> (dsimp only [Ins.zero]; omega))
  · intro c h; exfalso; revert h; first | omega | ((repeat' split) <;> (dsimp only [Ins.zero]; omega))
  · intro c h; exfalso; revert h; first | omega | ((repeat' split) <;> (dsimp only [Ins.zero]; omega))
  · intro c h; exfalso; revert h; first | omega | ((repeat' split) <;> (dsimp only [Ins.zero]; omega))
  · intro h; exfalso; dsimp only [Ins.zero] at h; omega
theorem right_2 (i : Ins) (h : i.op = 2) : Right i (asmW 23 i.rd 0 0 0 0 (sg i.imm) LU) (asmE 23 i.rd 0 0 0 0 (sg i.imm) LU) := by
  refine right_of (by omega) (fun x hx => ?_)
  subst hx
  have h1 := num_ops x false
  have h2 := num_ops x true
  have h3 := reg_ops x false
  have h4 := reg_ops x true
  have h5 := amo_ops x
  have h6 := sys_ops x
  revert h
  refine dec_elim (P := fun i => i.op = 2 → asmW 23 i.rd 0 0 0 0 (sg i.imm) LU = clr x ∧ asmE 23 i.rd 0 0 0 0 (sg i.imm) LU = 0) x ?_ ?_ ?_ ?_ ?_ ?_ ?_ ?_ ?_ ?_ ?_ ?_ ?_ ?_ ?_
  · intro c h; exfalso; revert h; first | omega | ((repeat' split) <;> (dsimp only [Ins.zero]; omega))
  · intro c h
    have e := word_U x
    rw [c] at e
    rw [clr_same (by omega) (by omega)]
    exact e
  · intro c h; exfalso; revert h; first | omega | ((repeat' split) <;> (dsimp only [Ins.zero]; omega))
  · intro c h; exfalso; revert h; first | omega | ((repeat' split) <;> (dsimp only [Ins.zero]; omega))
  · intro c h; exfalso; revert h; first | omega | ((repeat' split) <;> (dsimp only [Ins.zero]; omega))
  · intro c h; exfalso; revert h; first | omega | ((repeat' split) <;> (dsimp only [Ins.zero]; omega))
  · intro c h; exfalso; revert h; first | omega | ((repeat' split) <;> (dsimp only [Ins.zero]; omega))
  · intro c h; exfalso; revert h; first | omega | ((repeat' split) <;> (dsimp only [Ins.zero]; omega))
  · intro c h; exfalso; revert h; first | omega | ((repeat' split) <;> (dsimp only [Ins.zero]; omega))
  · intro c h; exfalso; revert h; first | omega | ((repeat' split) <;> (dsimp only [Ins.zero]; omega))
  · intro c h; exfalso; revert h; first | omega | ((repeat' split) <;> (dsimp only [Ins.zero]; omega))
  · intro c h; exfalso; revert h; first | omega | ((repeat' split) <;> (dsimp only [Ins.zero]; omega))
  · intro c h; exfalso; revert h; first | omega | ((repeat' split) <;> (dsimp only [Ins.zero]; omega))
  · intro c h; exfalso; revert h; first | omega | ((repeat' split) <;> (dsimp only [Ins.zero]; omega))
  · intro h; exfalso; dsimp only [Ins.zero] at h; omega
theorem right_3 (i : Ins) (h : i.op = 3) : Right i (asmW 111 i.rd 0 0 0 0 (sg i.imm) LJ) (asmE 111 i.rd 0 0 0 0 (sg i.imm) LJ) := by
  refine right_of (by omega) (fun x hx => ?_)
  subst hx
  have h1 := num_ops x false
  have h2 := num_ops x true
  have h3 := reg_ops x false
  have h4 := reg_ops x true
  have h5 := amo_ops x
  have h6 := sys_ops x
  revert h
  refine dec_elim (P := fun i => i.op = 3 → asmW 111 i.rd 0 0 0 0 (sg i.imm) LJ = clr x ∧ asmE 111 i.rd 0 0 0 0 (sg i.imm) LJ = 0) x ?_ ?_ ?_ ?_ ?_ ?_ ?_ ?_ ?_ ?_ ?_ ?_ ?_ ?_ ?_
  · intro c h; exfalso; revert h; first | omega | ((repeat' split) <;> (dsimp only [Ins.zero]; omega))
  · intro c h; exfalso; revert h; first | omega | ((repeat' split) <;> (dsimp only [Ins.zero]; omega))
  · intro c h
    have e := word_J x
    rw [c] at e
    rw [clr_same (by omega) (by omega)]
    exact e
  · intro c h; exfalso; revert h; first | omega | ((repeat' split) <;> (dsimp only [Ins.zero]; omega))
  · intro c h; exfalso; revert h; first | omega | ((repeat' split) <;> (dsimp only [Ins.zero]; omega))
  · intro c h; exfalso; revert h; first | omega | ((repeat' split) <;> (dsimp only [Ins.zero]; omega))
  · intro c h; exfalso; revert h; first | omega | ((repeat' split) <;> (dsimp only [Ins.zero]; omega))
  · intro c h; exfalso; revert h; first | omega | ((repeat' split) <;> (dsimp only [Ins.zero]; omega))
  · intro c h; exfalso; revert h; first | omega | ((repeat' split) <;> (dsimp only [Ins.zero]; omega))
  · intro c h; exfalso; revert h; first | omega | ((repeat' split) <;> (dsimp only [Ins.zero]; omega))
  · intro c h; exfalso; revert h; first | omega | ((repeat' split) <;> (dsimp only [Ins.zero]; omega))
  · intro c h; exfalso; revert h; first | omega | ((repeat' split) <;> (dsimp only [Ins.zero]; omega))
  · intro c h; exfalso; revert h; first | omega | ((repeat' split) <;> (dsimp only [Ins.zero]; omega))
  · intro c h; exfalso; revert h; first | omega | ((repeat' split) <;> (dsimp only [Ins.zero]; omega))
  · intro h; exfalso; dsimp only [Ins.zero] at h; omega
theorem right_4 (i : Ins) (h : i.op = 4) : Right i (asmW 103 i.rd 0 i.rs1 0 0 (sg i.imm) LI) (asmE 103 i.rd 0 i.rs1 0 0 (sg i.imm) LI) := by
  refine right_of (by omega) (fun x hx => ?_)
  subst hx
  have h1 := num_ops x false
  have h2 := num_ops x true
  have h3 := reg_ops x false
  have h4 := reg_ops x true
  have h5 := amo_ops x
  have h6 := sys_ops x
  revert h
  refine dec_elim (P := fun i => i.op = 4 → asmW 103 i.rd 0 i.rs1 0 0 (sg i.imm) LI = clr x ∧ asmE 103 i.rd 0 i.rs1 0 0 (sg i.imm) LI = 0) x ?_ ?_ ?_ ?_ ?_ ?_ ?_ ?_ ?_ ?_ ?_ ?_ ?_ ?_ ?_
  · intro c h; exfalso; revert h; first | omega | ((repeat' split) <;> (dsimp only [Ins.zero]; omega))
  · intro c h; exfalso; revert h; first | omega | ((repeat' split) <;> (dsimp only [Ins.zero]; omega))
  · intro c h; exfalso; revert h; first | omega | ((repeat' split) <;> (dsimp only [Ins.zero]; omega))
  · intro c h
    by_cases d : fi x 14 12 = 0
    · rw [if_pos d]
      have e := word_I x
      rw [c, d] at e
      rw [clr_same (by omega) (by omega)]
      exact e
    · rw [if_neg d] at h; exfalso; dsimp only [Ins.zero] at h; omega
  · intro c h; exfalso; revert h; first | omega | ((repeat' split) <;> (dsimp only [Ins.zero]; omega))
  · intro c h; exfalso; revert h; first | omega | ((repeat' split) <;> (dsimp only [Ins.zero]; omega))
  · intro c h; exfalso; revert h; first | omega | ((repeat' split) <;> (dsimp only [Ins.zero]; omega))
  · intro c h; exfalso; revert h; first | omega | ((repeat' split) <;> (dsimp only [Ins.zero]; omega))
  · intro c h; exfalso; revert h; first | omega | ((repeat' split) <;> (dsimp only [Ins.zero]; omega))
  · intro c h; exfalso; revert h; first | omega | ((repeat' split) <;> (dsimp only [Ins.zero]; omega))
  · intro c h; exfalso; revert h; first | omega | ((repeat' split) <;> (dsimp only [Ins.zero]; omega))
  · intro c h; exfalso; revert h; first | omega | ((repeat' split) <;> (dsimp only [Ins.zero]; omega))
  · intro c h; exfalso; revert h; first | omega | ((repeat' split) <;> (dsimp only [Ins.zero]; omega))
  · intro c h; exfalso; revert h; first | omega | ((repeat' split) <;> (dsimp only [Ins.zero]; omega))
  · intro h; exfalso; dsimp only [Ins.zero] at h; omega
theorem right_5 (i : Ins) (h : i.op = 5) : Right i (asmW 99 0 i.fn i.rs1 i.rs2 0 (sg i.imm) LB) (asmE 99 0 i.fn i.rs1 i.rs2 0 (sg i.imm) LB) := by
  refine right_of (by omega) (fun x hx => ?_)
  subst hx
  have h1 := num_ops x false
  have h2 := num_ops x true
  have h3 := reg_ops x false
  have h4 := reg_ops x true
  have h5 := amo_ops x
  have h6 := sys_ops x
  revert h
  refine dec_elim (P := fun i => i.op = 5 → asmW 99 0 i.fn i.rs1 i.rs2 0 (sg i.imm) LB = clr x ∧ asmE 99 0 i.fn i.rs1 i.rs2 0 (sg i.imm) LB = 0) x ?_ ?_ ?_ ?_ ?_ ?_ ?_ ?_ ?_ ?_ ?_ ?_ ?_ ?_ ?_
  · intro c h; exfalso; revert h; first | omega | ((repeat' split) <;> (dsimp only [Ins.zero]; omega))
  · intro c h; exfalso; revert h; first | omega | ((repeat' split) <;> (dsimp only [Ins.zero]; omega))
  · intro c h; exfalso; revert h; first | omega | ((repeat' split) <;> (dsimp only [Ins.zero]; omega))
  · intro c h; exfalso; revert h; first | omega | ((repeat' split) <;> (dsimp only [Ins.zero]; omega))
  · intro c h
    by_cases d : fi x 14 12 = 2 ∨ fi x 14 12 = 3
    · rw [if_pos d] at h; exfalso; dsimp only [Ins.zero] at h; omega
    · rw [if_neg d]
      have e := word_B x
      rw [c] at e
      rw [clr_same (by omega) (by omega)]
      exact e
  · intro c h; exfalso; revert h; first | omega | ((repeat' split) <;> (dsimp only [Ins.zero]; omega))
  · intro c h; exfalso; revert h; first | omega | ((repeat' split) <;> (dsimp only [Ins.zero]; omega))
  · intro c h; exfalso; revert h; first | omega | ((repeat' split) <;> (dsimp only [Ins.zero]; omega))
  · intro c h; exfalso; revert h; first | omega | ((repeat' split) <;> (dsimp only [Ins.zero]; omega))
  · intro c h; exfalso; revert h; first | omega | ((repeat' split) <;> (dsimp only [Ins.zero]; omega))
  · intro c h; exfalso; revert h; first | omega | ((repeat' split) <;> (dsimp only [Ins.zero]; omega))
  · intro c h; exfalso; revert h; first | omega | ((repeat' split) <;> (dsimp only [Ins.zero]; omega))
  · intro c h; exfalso; revert h; first | omega | ((repeat' split) <;> (dsimp only [Ins.zero]; omega))
  · intro c h; exfalso; revert h; first | omega | ((repeat' split) <;> (dsimp only [Ins.zero]; omega))
  · intro h; exfalso; dsimp only [Ins.zero] at h; omega
theorem load_f3 (f : Int) (h : 0 ≤ f ∧ f < 7) : lfOf (decide (f < 4)) (if f = 0 ∨ f = 4 then 1 else if f = 1 ∨ f = 5 then 2 else if f = 2 ∨ f = 6 then 4 else 8) = f ∧ rlfOf (decide (f < 4)) (if f = 0 ∨ f = 4 then 1 else if f = 1 ∨ f = 5 then 2 else if f = 2 ∨ f = 6 then 4 else 8) = f := by
  have hf : f = 0 ∨ f = 1 ∨ f = 2 ∨ f = 3 ∨ f = 4 ∨ f = 5 ∨ f = 6 := by omega
  rcases hf with rfl | rfl | rfl | rfl | rfl | rfl | rfl <;> decide +kernel
theorem store_f3 (f : Int) (h : 0 ≤ f ∧ f < 4) : szOf (if f = 0 then 1 else if f = 1 then 2 else if f = 2 then 4 else 8) = f ∧ rszOf (if f = 0 then 1 else if f = 1 then 2 else if f = 2 then 4 else 8) = f := by
  have hf : f = 0 ∨ f = 1 ∨ f = 2 ∨ f = 3 := by omega
  rcases hf with rfl | rfl | rfl | rfl <;> decide +kernel
theorem amo_f3 (f : Int) (h : f = 2 ∨ f = 3) : szOf (if f = 2 then 4 else 8) = f ∧ rszOf (if f = 2 then 4 else 8) = f := by
  rcases h with rfl | rfl <;> decide +kernel
theorem right_6 (i : Ins) (h : i.op = 6) : Right i (asmW 3 i.rd (lfOf i.sg i.size) i.rs1 0 0 (sg i.imm) LI) (asmE 3 i.rd (lfOf i.sg i.size) i.rs1 0 0 (sg i.imm) LI) := by
  refine right_of (by omega) (fun x hx => ?_)
  subst hx
  have h1 := num_ops x false
  have h2 := num_ops x true
  have h3 := reg_ops x false
  have h4 := reg_ops x true
  have h5 := amo_ops x
  have h6 := sys_ops x
  revert h
  refine dec_elim (P := fun i => i.op = 6 → asmW 3 i.rd (lfOf i.sg i.size) i.rs1 0 0 (sg i.imm) LI = clr x ∧ asmE 3 i.rd (lfOf i.sg i.size) i.rs1 0 0 (sg i.imm) LI = 0) x ?_ ?_ ?_ ?_ ?_ ?_ ?_ ?_ ?_ ?_ ?_ ?_ ?_ ?_ ?_
  · intro c h; exfalso; revert h; first | omega | ((repeat' split) <;> (dsimp only [Ins.zero]; omega))
  · intro c h; exfalso; revert h; first | omega | ((repeat' split) <;> (dsimp only [Ins.zero]; omega))
  · intro c h; exfalso; revert h; first | omega | ((repeat' split) <;> (dsimp only [Ins.zero]; omega))
  · intro c h; exfalso; revert h; first | omega | ((repeat' split) <;> (dsimp only [Ins.zero]; omega))
  · intro c h; exfalso; revert h; first | omega | ((repeat' split) <;> (dsimp only [Ins.zero]; omega))
  · intro c h
    by_cases d : fi x 14 12 = 7
    · rw [if_pos d] at h; exfalso; dsimp only [Ins.zero] at h; omega
    · rw [if_neg d]
      have e := word_I x
      have l := (load_f3 (fi x 14 12) (by have := f3_cases x; omega)).1
      rw [c] at e
      rw [clr_same (by omega) (by omega)]
      dsimp only
      rw [l]
      exact e
  · intro c h; exfalso; revert h; first | omega | ((repeat' split) <;> (dsimp only [Ins.zero]; omega))
  · intro c h; exfalso; revert h; first | omega | ((repeat' split) <;> (dsimp only [Ins.zero]; omega))
  · intro c h; exfalso; revert h; first | omega | ((repeat' split) <;> (dsimp only [Ins.zero]; omega))
  · intro c h; exfalso; revert h; first | omega | ((repeat' split) <;> (dsimp only [Ins.zero]; omega))
  · intro c h; exfalso; revert h; first | omega | ((repeat' split) <;> (dsimp only [Ins.zero]; omega))
  · intro c h; exfalso; revert h; first | omega | ((repeat' split) <;> (dsimp only [Ins.zero]; omega))
  · intro c h; exfalso; revert h; first | omega | ((repeat' split) <;> (dsimp only [Ins.zero]; omega))
  · intro c h; exfalso; revert h; first | omega | ((repeat' split) <;> (dsimp only [Ins.zero]; omega))
  · intro h; exfalso; dsimp only [Ins.zero] at h; omega
theorem rright_6 (i : Ins) (h : i.op = 6) : Right i (asmW 3 i.rd (rlfOf i.sg i.size) i.rs1 0 0 (sg i.imm) LI) (asmE 3 i.rd (rlfOf i.sg i.size) i.rs1 0 0 (sg i.imm) LI) := by
  refine right_of (by omega) (fun x hx => ?_)
  subst hx
  have h1 := num_ops x false
  have h2 := num_ops x true
  have h3 := reg_ops x false
  have h4 := reg_ops x true
  have h5 := amo_ops x
  have h6 := sys_ops x
  revert h
  refine dec_elim (P := fun i => i.op = 6 → asmW 3 i.rd (rlfOf i.sg i.size) i.rs1 0 0 (sg i.imm) LI = clr x ∧ asmE 3 i.rd (rlfOf i.sg i.size) i.rs1 0 0 (sg i.imm) LI = 0) x ?_ ?_ ?_ ?_ ?_ ?_ ?_ ?_ ?_ ?_ ?_ ?_ ?_ ?_ ?_
  · intro c h; exfalso; revert h; first | omega | ((repeat' split) <;> (dsimp only [Ins.zero]; omega))
  · intro c h; exfalso; revert h; first | omega | ((repeat' split) <;> (dsimp only [Ins.zero]; omega))
  · intro c h; exfalso; revert h; first | omega | ((repeat' split) <;> (dsimp only [Ins.zero]; omega))
  · intro c h; exfalso; revert h; first | omega | ((repeat' split) <;> (dsimp only [Ins.zero]; omega))
  · intro c h; exfalso; revert h; first | omega | ((repeat' split) <;> (dsimp only [Ins.zero]; omega))
  · intro c h
    by_cases d : fi x 14 12 = 7
    · rw [if_pos d] at h; exfalso; dsimp only [Ins.zero] at h; omega
    · rw [if_neg d]
      have e := word_I x
      have l := (load_f3 (fi x 14 12) (by have := f3_cases x; omega)).2
      rw [c] at e
      rw [clr_same (by omega) (by omega)]
      dsimp only
      rw [l]
      exact e
  · intro c h; exfalso; revert h; first | omega | ((repeat' split) <;> (dsimp only [Ins.zero]; omega))
  · intro c h; exfalso; revert h; first | omega | ((repeat' split) <;> (dsimp only [Ins.zero]; omega))
  · intro c h; exfalso; revert h; first | omega | ((repeat' split) <;> (dsimp only [Ins.zero]; omega))
  · intro c h; exfalso; revert h; first | omega | ((repeat' split) <;> (dsimp only [Ins.zero]; omega))
  · intro c h; exfalso; revert h; first | omega | ((repeat' split) <;> (dsimp only [Ins.zero]; omega))
  · intro c h; exfalso; revert h; first | omega | ((repeat' split) <;> (dsimp only [Ins.zero]; omega))
  · intro c h; exfalso; revert h; first | omega | ((repeat' split) <;> (dsimp only [Ins.zero]; omega))
  · intro c h; exfalso; revert h; first | omega | ((repeat' split) <;> (dsimp only [Ins.zero]; omega))
  · intro h; exfalso; dsimp only [Ins.zero] at h; omega
theorem right_7 (i : Ins) (h : i.op = 7) : Right i (asmW 35 0 (szOf i.size) i.rs1 i.rs2 0 (sg i.imm) LS) (asmE 35 0 (szOf i.size) i.rs1 i.rs2 0 (sg i.imm) LS) := by
  refine right_of (by omega) (fun x hx => ?_)
  subst hx
  have h1 := num_ops x false
  have h2 := num_ops x true
  have h3 := reg_ops x false
  have h4 := reg_ops x true
  have h5 := amo_ops x
  have h6 := sys_ops x
  revert h
  refine dec_elim (P := fun i => i.op = 7 → asmW 35 0 (szOf i.size) i.rs1 i.rs2 0 (sg i.imm) LS = clr x ∧ asmE 35 0 (szOf i.size) i.rs1 i.rs2 0 (sg i.imm) LS = 0) x ?_ ?_ ?_ ?_ ?_ ?_ ?_ ?_ ?_ ?_ ?_ ?_ ?_ ?_ ?_
  · intro c h; exfalso; revert h; first | omega | ((repeat' split) <;> (dsimp only [Ins.zero]; omega))
  · intro c h; exfalso; revert h; first | omega | ((repeat' split) <;> (dsimp only [Ins.zero]; omega))
  · intro c h; exfalso; revert h; first | omega | ((repeat' split) <;> (dsimp only [Ins.zero]; omega))
  · intro c h; exfalso; revert h; first | omega | ((repeat' split) <;> (dsimp only [Ins.zero]; omega))
  · intro c h; exfalso; revert h; first | omega | ((repeat' split) <;> (dsimp only [Ins.zero]; omega))
  · intro c h; exfalso; revert h; first | omega | ((repeat' split) <;> (dsimp only [Ins.zero]; omega))
  · intro c h
    by_cases d : fi x 14 12 < 4
    · rw [if_pos d]
      have e := word_S x
      have l := (store_f3 (fi x 14 12) (by have := f3_cases x; omega)).1
      rw [c] at e
      rw [clr_same (by omega) (by omega)]
      dsimp only
      rw [l]
      exact e
    · rw [if_neg d] at h; exfalso; dsimp only [Ins.zero] at h; omega
  · intro c h; exfalso; revert h; first | omega | ((repeat' split) <;> (dsimp only [Ins.zero]; omega))
  · intro c h; exfalso; revert h; first | omega | ((repeat' split) <;> (dsimp only [Ins.zero]; omega))
  · intro c h; exfalso; revert h; first | omega | ((repeat' split) <;> (dsimp only [Ins.zero]; omega))
  · intro c h; exfalso; revert h; first | omega | ((repeat' split) <;> (dsimp only [Ins.zero]; omega))
  · intro c h; exfalso; revert h; first | omega | ((repeat' split) <;> (dsimp only [Ins.zero]; omega))
  · intro c h; exfalso; revert h; first | omega | ((repeat' split) <;> (dsimp only [Ins.zero]; omega))
  · intro c h; exfalso; revert h; first | omega | ((repeat' split) <;> (dsimp only [Ins.zero]; omega))
  · intro h; exfalso; dsimp only [Ins.zero] at h; omega
theorem rright_7 (i : Ins) (h : i.op = 7) : Right i (asmW 35 0 (rszOf i.size) i.rs1 i.rs2 0 (sg i.imm) LS) (asmE 35 0 (rszOf i.size) i.rs1 i.rs2 0 (sg i.imm) LS) := by
  refine right_of (by omega) (fun x hx => ?_)
  subst hx
  have h1 := num_ops x false
  have h2 := num_ops x true
  have h3 := reg_ops x false
  have h4 := reg_ops x true
  have h5 := amo_ops x
  have h6 := sys_ops x
  revert h
  refine dec_elim (P := fun i => i.op = 7 → asmW 35 0 (rszOf i.size) i.rs1 i.rs2 0 (sg i.imm) LS = clr x ∧ asmE 35 0 (rszOf i.size) i.rs1 i.rs2 0 (sg i.imm) LS = 0) x ?_ ?_ ?_ ?_ ?_ ?_ ?_ ?_ ?_ ?_ ?_ ?_ ?_ ?_ ?_
  · intro c h; exfalso; revert h; first | omega | ((repeat' split) <;> (dsimp only [Ins.zero]; omega))
  · intro c h; exfalso; revert h; first | omega | ((repeat' split) <;> (dsimp only [Ins.zero]; omega))
  · intro c h; exfalso; revert h; first | omega | ((repeat' split) <;> (dsimp only [Ins.zero]; omega))
  · intro c h; exfalso; revert h; first | omega | ((repeat' split) <;> (dsimp only [Ins.zero]; omega))
  · intro c h; exfalso; revert h; first | omega | ((repeat' split) <;> (dsimp only [Ins.zero]; omega))
  · intro c h; exfalso; revert h; first | omega | ((repeat' split) <;> (dsimp only [Ins.zero]; omega))
  · intro c h
    by_cases d : fi x 14 12 < 4
    · rw [if_pos d]
      have e := word_S x
      have l := (store_f3 (fi x 14 12) (by have := f3_cases x; omega)).2
      rw [c] at e
      rw [clr_same (by omega) (by omega)]
      dsimp only
      rw [l]
      exact e
    · rw [if_neg d] at h; exfalso; dsimp only [Ins.zero] at h; omega
  · intro c h; exfalso; revert h; first | omega | ((repeat' split) <;> (dsimp only [Ins.zero]; omega))
  · intro c h; exfalso; revert h; first | omega | ((repeat' split) <;> (dsimp only [Ins.zero]; omega))
  · intro c h; exfalso; revert h; first | omega | ((repeat' split) <;> (dsimp only [Ins.zero]; omega))
  · intro c h; exfalso; revert h; first | omega | ((repeat' split) <;> (dsimp only [Ins.zero]; omega))
  · intro c h; exfalso; revert h; first | omega | ((repeat' split) <;> (dsimp only [Ins.zero]; omega))
  · intro c h; exfalso; revert h; first | omega | ((repeat' split) <;> (dsimp only [Ins.zero]; omega))
  · intro c h; exfalso; revert h; first | omega | ((repeat' split) <;> (dsimp only [Ins.zero]; omega))
  · intro h; exfalso; dsimp only [Ins.zero] at h; omega
end Go.Proofs.YtjnalgilkdoalaaDoor
