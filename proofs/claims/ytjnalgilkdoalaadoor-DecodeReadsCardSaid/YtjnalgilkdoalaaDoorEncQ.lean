/- Which word an instruction is: immediates, registers, the system's, atomic operations. Plain lemmas. Conditions: none. -/
import Derived.Test.YtjnalgilkdoalaaDoorEncP
namespace Go.Proofs.YtjnalgilkdoalaaDoor
open Go.RowKit
set_option linter.unusedSimpArgs false
set_option linter.unusedVariables false

def pf3 (f : Int) : Int := if f = 8 then 0 else if f = 13 then 5 else f
def pf7 (f : Int) : Int := if f = 8 ∨ f = 13 then 32 else 0
theorem or_zero (v : BitVec 64) : bits .or .i64 (sg v) 0 = sg v := by
  show IntKind.i64.wrap (u (BitVec.ofInt 64 (sg v) ||| BitVec.ofInt 64 0)) = _
  have e : BitVec.ofInt 64 (sg v) = v := wd_sg v
  rw [e, show BitVec.ofInt 64 0 = 0#64 by rfl, BitVec.or_zero, wrap_sg]
theorem or_1024 (n : Nat) (h : n < 64) : bits .or .i64 (n : Int) 1024 = (n : Int) + 1024 := by
  have hall : ∀ n : Fin 64, bits .or .i64 ((n.val : Nat) : Int) 1024 = ((n.val : Nat) : Int) + 1024 := by decide +kernel
  exact hall ⟨n, h⟩
theorem sg_sh (x : BitVec 32) : sg (shOf x) = fi x 31 20 % 64 := by
  have h := shOf_u x
  rw [sg_small _ (by omega), h]
/-- a small immediate is the field itself -/
theorem imm_small (x : BitVec 32) (h : fi x 31 20 < 2048) : sg (immOf (zx x) LI) = fi x 31 20 := by
  have b31 : x.getLsbD 31 = false := by
    cases b : x.getLsbD 31
    · rfl
    · exfalso
      have h1 := fi_bit x (hi := 31) (lo := 20) (by omega) (by omega) 11 (by omega)
      rw [show ((31 : Nat) : Int) = 31 by rfl, show ((20 : Nat) : Int) = 20 by rfl, b] at h1
      obtain ⟨h0, -, p1, p2, p3, p4, -⟩ := f7_parts x
      obtain ⟨n, hn⟩ : ∃ n : Nat, fi x 31 20 = n := ⟨(fi x 31 20).toNat, by omega⟩
      rw [hn] at h h1
      have hz : (wd64 (n : Int)).getLsbD 11 = false := by
        unfold wd64
        rw [BitVec.ofInt_natCast, BitVec.getLsbD_ofNat, Nat.testBit_lt_two_pow (show n < 2 ^ 11 by omega)]; simp
      rw [hz] at h1
      cases h1
  have e : immOf (zx x) LI = fld (zx x) 31 20 := by
    apply BitVec.eq_of_getLsbD_eq; intro i hi
    have hF : ((31 : Int) - 20) = 11 := by rfl
    rw [immOf_ref sameI, sxt_bit _ _ i hi, fld_bit]
    by_cases c : (i : Int) < 12
    · rw [if_pos (show (i : Int) < ((FI.length : Nat) : Int) from c), decide_eq_true (show Ends 31 20 ∧ (i : Int) ≤ 31 - 20 from ⟨by decide, by omega⟩), imm_bit _ _ _ _ (by decide)]
      have h6 : i = 0 ∨ i = 1 ∨ i = 2 ∨ i = 3 ∨ i = 4 ∨ i = 5 ∨ i = 6 ∨ i = 7 ∨ i = 8 ∨ i = 9 ∨ i = 10 ∨ i = 11 := by omega
      rcases h6 with rfl | rfl | rfl | rfl | rfl | rfl | rfl | rfl | rfl | rfl | rfl | rfl <;> simp [FI]
    · rw [if_neg (show ¬ (i : Int) < ((FI.length : Nat) : Int) from c), decide_eq_false (show ¬ (Ends 31 20 ∧ (i : Int) ≤ 31 - 20) from fun h => by omega), imm_bit _ _ _ _ (by decide)]
      have z31 : (zx x).getLsbD 31 = false := (zx_bit x 31).trans b31
      have z' := z31
      simp at z'
      simp [FI, z']
  rw [e]
  exact sg_small _ (fi_lt x 31 20 |> fun h => by show fi x 31 20 < _; omega)
theorem num_word (x : BitVec 32) {n : Int} (h : n = sg (immOf (zx x) LI)) : asmW (fi x 6 0) (fi x 11 7) (fi x 14 12) (fi x 19 15) 0 0 n LI = x ∧ asmE (fi x 6 0) (fi x 11 7) (fi x 14 12) (fi x 19 15) 0 0 n LI = 0 := by
  rw [h]; exact word_I x
theorem num_imm (x : BitVec 32) (wd : Bool) (h : (numOf x wd).op = 8) :
    pf3 (numOf x wd).fn = fi x 14 12 ∧ bits .or .i64 (sg (numOf x wd).imm) (pf7 (numOf x wd).fn * 32) = sg (immOf (zx x) LI) ∧ (numOf x wd).rd = fi x 11 7 ∧ (numOf x wd).rs1 = fi x 19 15 ∧ (numOf x wd).wd = wd := by
  obtain ⟨h0, -, p1, p2, p3, p4, -⟩ := f7_parts x
  have hk : kindOf x wd = 0 → fi x 31 20 < 64 := by unfold kindOf; split <;> omega
  have hk2 : kindOf x wd = 32 → 1024 ≤ fi x 31 20 ∧ fi x 31 20 < 1088 := by unfold kindOf; split <;> omega
  have hs := sg_sh x
  have f3 := f3_cases x
  revert h
  unfold numOf
  by_cases a : fi x 14 12 = 1
  · rw [if_pos a]
    by_cases b : kindOf x wd = 0
    · rw [if_pos b]; intro _
      have := hk b
      refine ⟨by rw [a]; rfl, ?_, rfl, rfl, rfl⟩
      show bits .or .i64 (sg (shOf x)) 0 = _
      rw [or_zero, imm_small x (by omega), hs]; omega
    · rw [if_neg b]; intro h; exact absurd h (by decide)
  · rw [if_neg a]
    by_cases c : fi x 14 12 = 5
    · rw [if_pos c]
      by_cases b : kindOf x wd = 0
      · rw [if_pos b]; intro _
        have := hk b
        refine ⟨by rw [c]; rfl, ?_, rfl, rfl, rfl⟩
        show bits .or .i64 (sg (shOf x)) 0 = _
        rw [or_zero, imm_small x (by omega), hs]; omega
      · rw [if_neg b]
        by_cases d : kindOf x wd = 32
        · rw [if_pos d]; intro _
          have := hk2 d
          refine ⟨by rw [c]; rfl, ?_, rfl, rfl, rfl⟩
          show bits .or .i64 (sg (shOf x)) 1024 = _
          obtain ⟨n, hn⟩ : ∃ n : Nat, fi x 31 20 % 64 = n := ⟨(fi x 31 20 % 64).toNat, by omega⟩
          rw [hs, hn, or_1024 n (by omega), imm_small x (by omega)]; omega
        · rw [if_neg d]; intro h; exact absurd h (by decide)
    · rw [if_neg c]
      by_cases e : fi x 14 12 = 0
      · rw [if_pos e]; intro _; exact ⟨by rw [e]; rfl, or_zero _, rfl, rfl, rfl⟩
      · rw [if_neg e]
        by_cases g : wd = true
        · rw [if_pos g]; intro h; exact absurd h (by decide)
        · rw [if_neg g]; intro _
          have n1 : ¬ fi x 14 12 = 8 := by omega
          have n2 : ¬ fi x 14 12 = 13 := by omega
          refine ⟨by show pf3 (fi x 14 12) = _; unfold pf3; rw [if_neg n1, if_neg n2], ?_, rfl, rfl, rfl⟩
          show bits .or .i64 (sg (immOf (zx x) LI)) (pf7 (fi x 14 12) * 32) = _
          unfold pf7; rw [if_neg (by omega)]; exact or_zero _
theorem right_8 (i : Ins) (h : i.op = 8) : Right i (asmW (if i.wd = true then 27 else 19) i.rd (pf3 i.fn) i.rs1 0 0 (bits .or .i64 (sg i.imm) (pf7 i.fn * 32)) LI) (asmE (if i.wd = true then 27 else 19) i.rd (pf3 i.fn) i.rs1 0 0 (bits .or .i64 (sg i.imm) (pf7 i.fn * 32)) LI) := by
  refine right_of (by omega) (fun x hx => ?_)
  subst hx
  have h1 := num_ops x false
  have h2 := num_ops x true
  have h3 := reg_ops x false
  have h4 := reg_ops x true
  have h5 := amo_ops x
  have h6 := sys_ops x
  revert h
  refine dec_elim (P := fun i => i.op = 8 → asmW (if i.wd = true then 27 else 19) i.rd (pf3 i.fn) i.rs1 0 0 (bits .or .i64 (sg i.imm) (pf7 i.fn * 32)) LI = clr x ∧ asmE (if i.wd = true then 27 else 19) i.rd (pf3 i.fn) i.rs1 0 0 (bits .or .i64 (sg i.imm) (pf7 i.fn * 32)) LI = 0) x ?_ ?_ ?_ ?_ ?_ ?_ ?_ ?_ ?_ ?_ ?_ ?_ ?_ ?_ ?_
  · intro c h; exfalso; revert h; first | omega | ((repeat' split) <;> (dsimp only [Ins.zero]; omega))
  · intro c h; exfalso; revert h; first | omega | ((repeat' split) <;> (dsimp only [Ins.zero]; omega))
  · intro c h; exfalso; revert h; first | omega | ((repeat' split) <;> (dsimp only [Ins.zero]; omega))
  · intro c h; exfalso; revert h; first | omega | ((repeat' split) <;> (dsimp only [Ins.zero]; omega))
  · intro c h; exfalso; revert h; first | omega | ((repeat' split) <;> (dsimp only [Ins.zero]; omega))
  · intro c h; exfalso; revert h; first | omega | ((repeat' split) <;> (dsimp only [Ins.zero]; omega))
  · intro c h; exfalso; revert h; first | omega | ((repeat' split) <;> (dsimp only [Ins.zero]; omega))
  · intro c h; exfalso; revert h; first | omega | ((repeat' split) <;> (dsimp only [Ins.zero]; omega))
  · intro c h
    obtain ⟨n1, n2, n3, n4, n5⟩ := num_imm x false h
    have e := num_word x n2
    rw [n1, n3, n4, n5, clr_same (by omega) (by omega)]
    rw [c] at e
    exact e
  · intro c h
    obtain ⟨n1, n2, n3, n4, n5⟩ := num_imm x true h
    have e := num_word x n2
    rw [n1, n3, n4, n5, clr_same (by omega) (by omega)]
    rw [c] at e
    exact e
  · intro c h; exfalso; revert h; first | omega | ((repeat' split) <;> (dsimp only [Ins.zero]; omega))
  · intro c h; exfalso; revert h; first | omega | ((repeat' split) <;> (dsimp only [Ins.zero]; omega))
  · intro c h; exfalso; revert h; first | omega | ((repeat' split) <;> (dsimp only [Ins.zero]; omega))
  · intro c h; exfalso; revert h; first | omega | ((repeat' split) <;> (dsimp only [Ins.zero]; omega))
  · intro h; exfalso; dsimp only [Ins.zero] at h; omega
theorem reg_imm (x : BitVec 32) (wd : Bool) (h : (regOf x wd).op = 9 ∨ (regOf x wd).op = 10) :
    (if (regOf x wd).op = 10 then (regOf x wd).fn else pf3 (regOf x wd).fn) = fi x 14 12 ∧ (if (regOf x wd).op = 10 then 1 else pf7 (regOf x wd).fn) = fi x 31 25 ∧ (regOf x wd).rd = fi x 11 7 ∧ (regOf x wd).rs1 = fi x 19 15 ∧ (regOf x wd).rs2 = fi x 24 20 ∧ (regOf x wd).wd = wd := by
  have f3 := f3_cases x
  have n1 : ¬ fi x 14 12 = 8 := by omega
  have n2 : ¬ fi x 14 12 = 13 := by omega
  have p3 : pf3 (fi x 14 12) = fi x 14 12 := by unfold pf3; rw [if_neg n1, if_neg n2]
  have p7 : pf7 (fi x 14 12) = 0 := by unfold pf7; rw [if_neg (by omega)]
  revert h
  unfold regOf
  by_cases a : fi x 31 25 = 0
  · rw [if_pos a]
    by_cases g : wd = true ∧ (fi x 14 12 = 2 ∨ fi x 14 12 = 3 ∨ fi x 14 12 = 4 ∨ fi x 14 12 = 6 ∨ fi x 14 12 = 7)
    · rw [if_pos g]; intro h; exfalso; dsimp only [Ins.zero] at h; omega
    · rw [if_neg g]; intro _; exact ⟨p3, p7.trans a.symm, rfl, rfl, rfl, rfl⟩
  · rw [if_neg a]
    by_cases b : fi x 31 25 = 32
    · rw [if_pos b]
      by_cases c : fi x 14 12 = 0
      · rw [if_pos c]; intro _; exact ⟨c.symm, b.symm, rfl, rfl, rfl, rfl⟩
      · rw [if_neg c]
        by_cases d : fi x 14 12 = 5
        · rw [if_pos d]; intro _; exact ⟨d.symm, b.symm, rfl, rfl, rfl, rfl⟩
        · rw [if_neg d]; intro h; exfalso; dsimp only [Ins.zero] at h; omega
    · rw [if_neg b]
      by_cases d : fi x 31 25 = 1
      · rw [if_pos d]
        by_cases g : wd = true ∧ (fi x 14 12 = 1 ∨ fi x 14 12 = 2 ∨ fi x 14 12 = 3)
        · rw [if_pos g]; intro h; exfalso; dsimp only [Ins.zero] at h; omega
        · rw [if_neg g]; intro _; exact ⟨rfl, d.symm, rfl, rfl, rfl, rfl⟩
      · rw [if_neg d]; intro h; exfalso; dsimp only [Ins.zero] at h; omega
theorem right_9 (i : Ins) (h : i.op = 9) : Right i (asmW (if i.wd = true then 59 else 51) i.rd (pf3 i.fn) i.rs1 i.rs2 (pf7 i.fn) 0 []) (asmE (if i.wd = true then 59 else 51) i.rd (pf3 i.fn) i.rs1 i.rs2 (pf7 i.fn) 0 []) := by
  refine right_of (by omega) (fun x hx => ?_)
  subst hx
  have h1 := num_ops x false
  have h2 := num_ops x true
  have h3 := reg_ops x false
  have h4 := reg_ops x true
  have h5 := amo_ops x
  have h6 := sys_ops x
  revert h
  refine dec_elim (P := fun i => i.op = 9 → asmW (if i.wd = true then 59 else 51) i.rd (pf3 i.fn) i.rs1 i.rs2 (pf7 i.fn) 0 [] = clr x ∧ asmE (if i.wd = true then 59 else 51) i.rd (pf3 i.fn) i.rs1 i.rs2 (pf7 i.fn) 0 [] = 0) x ?_ ?_ ?_ ?_ ?_ ?_ ?_ ?_ ?_ ?_ ?_ ?_ ?_ ?_ ?_
  · intro c h; exfalso; revert h; first | omega | ((repeat' split) <;> (dsimp only [Ins.zero]; omega))
  · intro c h; exfalso; revert h; first | omega | ((repeat' split) <;> (dsimp only [Ins.zero]; omega))
  · intro c h; exfalso; revert h; first | omega | ((repeat' split) <;> (dsimp only [Ins.zero]; omega))
  · intro c h; exfalso; revert h; first | omega | ((repeat' split) <;> (dsimp only [Ins.zero]; omega))
  · intro c h; exfalso; revert h; first | omega | ((repeat' split) <;> (dsimp only [Ins.zero]; omega))
  · intro c h; exfalso; revert h; first | omega | ((repeat' split) <;> (dsimp only [Ins.zero]; omega))
  · intro c h; exfalso; revert h; first | omega | ((repeat' split) <;> (dsimp only [Ins.zero]; omega))
  · intro c h; exfalso; revert h; first | omega | ((repeat' split) <;> (dsimp only [Ins.zero]; omega))
  · intro c h; exfalso; revert h; first | omega | ((repeat' split) <;> (dsimp only [Ins.zero]; omega))
  · intro c h; exfalso; revert h; first | omega | ((repeat' split) <;> (dsimp only [Ins.zero]; omega))
  · intro c h
    obtain ⟨n1, n2, n3, n4, n5, n6⟩ := reg_imm x false (by omega)
    have e := word_R x
    rw [h] at n1 n2
    rw [n3, n4, n5, n6, clr_same (by omega) (by omega)]
    rw [c, ← n1, ← n2] at e
    exact e
  · intro c h
    obtain ⟨n1, n2, n3, n4, n5, n6⟩ := reg_imm x true (by omega)
    have e := word_R x
    rw [h] at n1 n2
    rw [n3, n4, n5, n6, clr_same (by omega) (by omega)]
    rw [c, ← n1, ← n2] at e
    exact e
  · intro c h; exfalso; revert h; first | omega | ((repeat' split) <;> (dsimp only [Ins.zero]; omega))
  · intro c h; exfalso; revert h; first | omega | ((repeat' split) <;> (dsimp only [Ins.zero]; omega))
  · intro h; exfalso; dsimp only [Ins.zero] at h; omega
theorem right_10 (i : Ins) (h : i.op = 10) : Right i (asmW (if i.wd = true then 59 else 51) i.rd i.fn i.rs1 i.rs2 1 0 []) (asmE (if i.wd = true then 59 else 51) i.rd i.fn i.rs1 i.rs2 1 0 []) := by
  refine right_of (by omega) (fun x hx => ?_)
  subst hx
  have h1 := num_ops x false
  have h2 := num_ops x true
  have h3 := reg_ops x false
  have h4 := reg_ops x true
  have h5 := amo_ops x
  have h6 := sys_ops x
  revert h
  refine dec_elim (P := fun i => i.op = 10 → asmW (if i.wd = true then 59 else 51) i.rd i.fn i.rs1 i.rs2 1 0 [] = clr x ∧ asmE (if i.wd = true then 59 else 51) i.rd i.fn i.rs1 i.rs2 1 0 [] = 0) x ?_ ?_ ?_ ?_ ?_ ?_ ?_ ?_ ?_ ?_ ?_ ?_ ?_ ?_ ?_
  · intro c h; exfalso; revert h; first | omega | ((repeat' split) <;> (dsimp only [Ins.zero]; omega))
  · intro c h; exfalso; revert h; first | omega | ((repeat' split) <;> (dsimp only [Ins.zero]; omega))
  · intro c h; exfalso; revert h; first | omega | ((repeat' split) <;> (dsimp only [Ins.zero]; omega))
  · intro c h; exfalso; revert h; first | omega | ((repeat' split) <;> (dsimp only [Ins.zero]; omega))
  · intro c h; exfalso; revert h; first | omega | ((repeat' split) <;> (dsimp only [Ins.zero]; omega))
  · intro c h; exfalso; revert h; first | omega | ((repeat' split) <;> (dsimp only [Ins.zero]; omega))
  · intro c h; exfalso; revert h; first | omega | ((repeat' split) <;> (dsimp only [Ins.zero]; omega))
  · intro c h; exfalso; revert h; first | omega | ((repeat' split) <;> (dsimp only [Ins.zero]; omega))
  · intro c h; exfalso; revert h; first | omega | ((repeat' split) <;> (dsimp only [Ins.zero]; omega))
  · intro c h; exfalso; revert h; first | omega | ((repeat' split) <;> (dsimp only [Ins.zero]; omega))
  · intro c h
    obtain ⟨n1, n2, n3, n4, n5, n6⟩ := reg_imm x false (by omega)
    have e := word_R x
    rw [h] at n1 n2
    rw [n3, n4, n5, n6, clr_same (by omega) (by omega)]
    rw [c, ← n1, ← n2] at e
    exact e
  · intro c h
    obtain ⟨n1, n2, n3, n4, n5, n6⟩ := reg_imm x true (by omega)
    have e := word_R x
    rw [h] at n1 n2
    rw [n3, n4, n5, n6, clr_same (by omega) (by omega)]
    rw [c, ← n1, ← n2] at e
    exact e
  · intro c h; exfalso; revert h; first | omega | ((repeat' split) <;> (dsimp only [Ins.zero]; omega))
  · intro c h; exfalso; revert h; first | omega | ((repeat' split) <;> (dsimp only [Ins.zero]; omega))
  · intro h; exfalso; dsimp only [Ins.zero] at h; omega
theorem right_11 (i : Ins) (h : i.op = 11) : Right i 15#32 0 := by
  refine right_of (by omega) (fun x hx => ⟨?_, rfl⟩)
  subst hx
  have ho := (op_code x).2 (by omega)
  rw [dec_fence ho] at h
  unfold clr
  rw [if_pos ho]
  by_cases d : fi x 14 12 = 0
  · rw [if_pos d] at h ⊢ <;> first | rfl | (exfalso; dsimp only at h; omega)
  · rw [if_neg d] at h ⊢ <;> first | rfl | (exfalso; revert h; split <;> (dsimp only [Ins.zero]; omega))
theorem right_12 (i : Ins) (h : i.op = 12) : Right i 4111#32 0 := by
  refine right_of (by omega) (fun x hx => ⟨?_, rfl⟩)
  subst hx
  have ho := (op_code x).2 (by omega)
  rw [dec_fence ho] at h
  unfold clr
  rw [if_pos ho]
  by_cases d : fi x 14 12 = 0
  · rw [if_pos d] at h ⊢ <;> first | rfl | (exfalso; dsimp only at h; omega)
  · rw [if_neg d] at h ⊢ <;> first | rfl | (exfalso; revert h; split <;> (dsimp only [Ins.zero]; omega))
theorem right_13 (i : Ins) (h : i.op = 13) : Right i 115#32 0 := by
  refine right_of (by omega) (fun x hx => ⟨?_, rfl⟩)
  subst hx
  have h1 := num_ops x false
  have h2 := num_ops x true
  have h3 := reg_ops x false
  have h4 := reg_ops x true
  have h5 := amo_ops x
  revert h
  refine dec_elim (P := fun i => i.op = 13 → 115#32 = clr x) x ?_ ?_ ?_ ?_ ?_ ?_ ?_ ?_ ?_ ?_ ?_ ?_ ?_ ?_ ?_
  · intro c h; exfalso; revert h; first | omega | ((repeat' split) <;> (dsimp only [Ins.zero]; omega))
  · intro c h; exfalso; revert h; first | omega | ((repeat' split) <;> (dsimp only [Ins.zero]; omega))
  · intro c h; exfalso; revert h; first | omega | ((repeat' split) <;> (dsimp only [Ins.zero]; omega))
  · intro c h; exfalso; revert h; first | omega | ((repeat' split) <;> (dsimp only [Ins.zero]; omega))
  · intro c h; exfalso; revert h; first | omega | ((repeat' split) <;> (dsimp only [Ins.zero]; omega))
  · intro c h; exfalso; revert h; first | omega | ((repeat' split) <;> (dsimp only [Ins.zero]; omega))
  · intro c h; exfalso; revert h; first | omega | ((repeat' split) <;> (dsimp only [Ins.zero]; omega))
  · intro c h; exfalso; revert h; first | omega | ((repeat' split) <;> (dsimp only [Ins.zero]; omega))
  · intro c h; exfalso; revert h; first | omega | ((repeat' split) <;> (dsimp only [Ins.zero]; omega))
  · intro c h; exfalso; revert h; first | omega | ((repeat' split) <;> (dsimp only [Ins.zero]; omega))
  · intro c h; exfalso; revert h; first | omega | ((repeat' split) <;> (dsimp only [Ins.zero]; omega))
  · intro c h; exfalso; revert h; first | omega | ((repeat' split) <;> (dsimp only [Ins.zero]; omega))
  · intro c h; exfalso; revert h; first | omega | ((repeat' split) <;> (dsimp only [Ins.zero]; omega))
  · intro c h
    rw [clr_same (by omega) (by omega)]
    revert h
    unfold sysOf
    (repeat' split) <;> intro h
    all_goals first | (exfalso; dsimp only [Ins.zero] at h; omega) | (apply q_inj.1; simp [*]; done) | (apply q_inj.1; rw [‹q x = _›]; rfl)
  · intro h; exfalso; dsimp only [Ins.zero] at h; omega
theorem right_14 (i : Ins) (h : i.op = 14) : Right i 1048691#32 0 := by
  refine right_of (by omega) (fun x hx => ⟨?_, rfl⟩)
  subst hx
  have h1 := num_ops x false
  have h2 := num_ops x true
  have h3 := reg_ops x false
  have h4 := reg_ops x true
  have h5 := amo_ops x
  revert h
  refine dec_elim (P := fun i => i.op = 14 → 1048691#32 = clr x) x ?_ ?_ ?_ ?_ ?_ ?_ ?_ ?_ ?_ ?_ ?_ ?_ ?_ ?_ ?_
  · intro c h; exfalso; revert h; first | omega | ((repeat' split) <;> (dsimp only [Ins.zero]; omega))
  · intro c h; exfalso; revert h; first | omega | ((repeat' split) <;> (dsimp only [Ins.zero]; omega))
  · intro c h; exfalso; revert h; first | omega | ((repeat' split) <;> (dsimp only [Ins.zero]; omega))
  · intro c h; exfalso; revert h; first | omega | ((repeat' split) <;> (dsimp only [Ins.zero]; omega))
  · intro c h; exfalso; revert h; first | omega | ((repeat' split) <;> (dsimp only [Ins.zero]; omega))
  · intro c h; exfalso; revert h; first | omega | ((repeat' split) <;> (dsimp only [Ins.zero]; omega))
  · intro c h; exfalso; revert h; first | omega | ((repeat' split) <;> (dsimp only [Ins.zero]; omega))
  · intro c h; exfalso; revert h; first | omega | ((repeat' split) <;> (dsimp only [Ins.zero]; omega))
  · intro c h; exfalso; revert h; first | omega | ((repeat' split) <;> (dsimp only [Ins.zero]; omega))
  · intro c h; exfalso; revert h; first | omega | ((repeat' split) <;> (dsimp only [Ins.zero]; omega))
  · intro c h; exfalso; revert h; first | omega | ((repeat' split) <;> (dsimp only [Ins.zero]; omega))
  · intro c h; exfalso; revert h; first | omega | ((repeat' split) <;> (dsimp only [Ins.zero]; omega))
  · intro c h; exfalso; revert h; first | omega | ((repeat' split) <;> (dsimp only [Ins.zero]; omega))
  · intro c h
    rw [clr_same (by omega) (by omega)]
    revert h
    unfold sysOf
    (repeat' split) <;> intro h
    all_goals first | (exfalso; dsimp only [Ins.zero] at h; omega) | (apply q_inj.1; simp [*]; done) | (apply q_inj.1; rw [‹q x = _›]; rfl)
  · intro h; exfalso; dsimp only [Ins.zero] at h; omega
theorem right_15 (i : Ins) (h : i.op = 15) : Right i 807403635#32 0 := by
  refine right_of (by omega) (fun x hx => ⟨?_, rfl⟩)
  subst hx
  have h1 := num_ops x false
  have h2 := num_ops x true
  have h3 := reg_ops x false
  have h4 := reg_ops x true
  have h5 := amo_ops x
  revert h
  refine dec_elim (P := fun i => i.op = 15 → 807403635#32 = clr x) x ?_ ?_ ?_ ?_ ?_ ?_ ?_ ?_ ?_ ?_ ?_ ?_ ?_ ?_ ?_
  · intro c h; exfalso; revert h; first | omega | ((repeat' split) <;> (dsimp only [Ins.zero]; omega))
  · intro c h; exfalso; revert h; first | omega | ((repeat' split) <;> (dsimp only [Ins.zero]; omega))
  · intro c h; exfalso; revert h; first | omega | ((repeat' split) <;> (dsimp only [Ins.zero]; omega))
  · intro c h; exfalso; revert h; first | omega | ((repeat' split) <;> (dsimp only [Ins.zero]; omega))
  · intro c h; exfalso; revert h; first | omega | ((repeat' split) <;> (dsimp only [Ins.zero]; omega))
  · intro c h; exfalso; revert h; first | omega | ((repeat' split) <;> (dsimp only [Ins.zero]; omega))
  · intro c h; exfalso; revert h; first | omega | ((repeat' split) <;> (dsimp only [Ins.zero]; omega))
  · intro c h; exfalso; revert h; first | omega | ((repeat' split) <;> (dsimp only [Ins.zero]; omega))
  · intro c h; exfalso; revert h; first | omega | ((repeat' split) <;> (dsimp only [Ins.zero]; omega))
  · intro c h; exfalso; revert h; first | omega | ((repeat' split) <;> (dsimp only [Ins.zero]; omega))
  · intro c h; exfalso; revert h; first | omega | ((repeat' split) <;> (dsimp only [Ins.zero]; omega))
  · intro c h; exfalso; revert h; first | omega | ((repeat' split) <;> (dsimp only [Ins.zero]; omega))
  · intro c h; exfalso; revert h; first | omega | ((repeat' split) <;> (dsimp only [Ins.zero]; omega))
  · intro c h
    rw [clr_same (by omega) (by omega)]
    revert h
    unfold sysOf
    (repeat' split) <;> intro h
    all_goals first | (exfalso; dsimp only [Ins.zero] at h; omega) | (apply q_inj.1; simp [*]; done) | (apply q_inj.1; rw [‹q x = _›]; rfl)
  · intro h; exfalso; dsimp only [Ins.zero] at h; omega
theorem right_16 (i : Ins) (h : i.op = 16) : Right i 270532723#32 0 := by
  refine right_of (by omega) (fun x hx => ⟨?_, rfl⟩)
  subst hx
  have h1 := num_ops x false
  have h2 := num_ops x true
  have h3 := reg_ops x false
  have h4 := reg_ops x true
  have h5 := amo_ops x
  revert h
  refine dec_elim (P := fun i => i.op = 16 → 270532723#32 = clr x) x ?_ ?_ ?_ ?_ ?_ ?_ ?_ ?_ ?_ ?_ ?_ ?_ ?_ ?_ ?_
  · intro c h; exfalso; revert h; first | omega | ((repeat' split) <;> (dsimp only [Ins.zero]; omega))
  · intro c h; exfalso; revert h; first | omega | ((repeat' split) <;> (dsimp only [Ins.zero]; omega))
  · intro c h; exfalso; revert h; first | omega | ((repeat' split) <;> (dsimp only [Ins.zero]; omega))
  · intro c h; exfalso; revert h; first | omega | ((repeat' split) <;> (dsimp only [Ins.zero]; omega))
  · intro c h; exfalso; revert h; first | omega | ((repeat' split) <;> (dsimp only [Ins.zero]; omega))
  · intro c h; exfalso; revert h; first | omega | ((repeat' split) <;> (dsimp only [Ins.zero]; omega))
  · intro c h; exfalso; revert h; first | omega | ((repeat' split) <;> (dsimp only [Ins.zero]; omega))
  · intro c h; exfalso; revert h; first | omega | ((repeat' split) <;> (dsimp only [Ins.zero]; omega))
  · intro c h; exfalso; revert h; first | omega | ((repeat' split) <;> (dsimp only [Ins.zero]; omega))
  · intro c h; exfalso; revert h; first | omega | ((repeat' split) <;> (dsimp only [Ins.zero]; omega))
  · intro c h; exfalso; revert h; first | omega | ((repeat' split) <;> (dsimp only [Ins.zero]; omega))
  · intro c h; exfalso; revert h; first | omega | ((repeat' split) <;> (dsimp only [Ins.zero]; omega))
  · intro c h; exfalso; revert h; first | omega | ((repeat' split) <;> (dsimp only [Ins.zero]; omega))
  · intro c h
    rw [clr_same (by omega) (by omega)]
    revert h
    unfold sysOf
    (repeat' split) <;> intro h
    all_goals first | (exfalso; dsimp only [Ins.zero] at h; omega) | (apply q_inj.1; simp [*]; done) | (apply q_inj.1; rw [‹q x = _›]; rfl)
  · intro h; exfalso; dsimp only [Ins.zero] at h; omega
theorem right_17 (i : Ins) (h : i.op = 17) : Right i 273678451#32 0 := by
  refine right_of (by omega) (fun x hx => ⟨?_, rfl⟩)
  subst hx
  have h1 := num_ops x false
  have h2 := num_ops x true
  have h3 := reg_ops x false
  have h4 := reg_ops x true
  have h5 := amo_ops x
  revert h
  refine dec_elim (P := fun i => i.op = 17 → 273678451#32 = clr x) x ?_ ?_ ?_ ?_ ?_ ?_ ?_ ?_ ?_ ?_ ?_ ?_ ?_ ?_ ?_
  · intro c h; exfalso; revert h; first | omega | ((repeat' split) <;> (dsimp only [Ins.zero]; omega))
  · intro c h; exfalso; revert h; first | omega | ((repeat' split) <;> (dsimp only [Ins.zero]; omega))
  · intro c h; exfalso; revert h; first | omega | ((repeat' split) <;> (dsimp only [Ins.zero]; omega))
  · intro c h; exfalso; revert h; first | omega | ((repeat' split) <;> (dsimp only [Ins.zero]; omega))
  · intro c h; exfalso; revert h; first | omega | ((repeat' split) <;> (dsimp only [Ins.zero]; omega))
  · intro c h; exfalso; revert h; first | omega | ((repeat' split) <;> (dsimp only [Ins.zero]; omega))
  · intro c h; exfalso; revert h; first | omega | ((repeat' split) <;> (dsimp only [Ins.zero]; omega))
  · intro c h; exfalso; revert h; first | omega | ((repeat' split) <;> (dsimp only [Ins.zero]; omega))
  · intro c h; exfalso; revert h; first | omega | ((repeat' split) <;> (dsimp only [Ins.zero]; omega))
  · intro c h; exfalso; revert h; first | omega | ((repeat' split) <;> (dsimp only [Ins.zero]; omega))
  · intro c h; exfalso; revert h; first | omega | ((repeat' split) <;> (dsimp only [Ins.zero]; omega))
  · intro c h; exfalso; revert h; first | omega | ((repeat' split) <;> (dsimp only [Ins.zero]; omega))
  · intro c h; exfalso; revert h; first | omega | ((repeat' split) <;> (dsimp only [Ins.zero]; omega))
  · intro c h
    rw [clr_same (by omega) (by omega)]
    revert h
    unfold sysOf
    (repeat' split) <;> intro h
    all_goals first | (exfalso; dsimp only [Ins.zero] at h; omega) | (apply q_inj.1; simp [*]; done) | (apply q_inj.1; rw [‹q x = _›]; rfl)
  · intro h; exfalso; dsimp only [Ins.zero] at h; omega
theorem right_18 (i : Ins) (h : i.op = 18) : Right i (asmW 115 0 0 i.rs1 i.rs2 9 0 []) (asmE 115 0 0 i.rs1 i.rs2 9 0 []) := by
  refine right_of (by omega) (fun x hx => ?_)
  subst hx
  have h1 := num_ops x false
  have h2 := num_ops x true
  have h3 := reg_ops x false
  have h4 := reg_ops x true
  have h5 := amo_ops x
  have h6 := sys_ops x
  revert h
  refine dec_elim (P := fun i => i.op = 18 → asmW 115 0 0 i.rs1 i.rs2 9 0 [] = clr x ∧ asmE 115 0 0 i.rs1 i.rs2 9 0 [] = 0) x ?_ ?_ ?_ ?_ ?_ ?_ ?_ ?_ ?_ ?_ ?_ ?_ ?_ ?_ ?_
  · intro c h; exfalso; revert h; first | omega | ((repeat' split) <;> (dsimp only [Ins.zero]; omega))
  · intro c h; exfalso; revert h; first | omega | ((repeat' split) <;> (dsimp only [Ins.zero]; omega))
  · intro c h; exfalso; revert h; first | omega | ((repeat' split) <;> (dsimp only [Ins.zero]; omega))
  · intro c h; exfalso; revert h; first | omega | ((repeat' split) <;> (dsimp only [Ins.zero]; omega))
  · intro c h; exfalso; revert h; first | omega | ((repeat' split) <;> (dsimp only [Ins.zero]; omega))
  · intro c h; exfalso; revert h; first | omega | ((repeat' split) <;> (dsimp only [Ins.zero]; omega))
  · intro c h; exfalso; revert h; first | omega | ((repeat' split) <;> (dsimp only [Ins.zero]; omega))
  · intro c h; exfalso; revert h; first | omega | ((repeat' split) <;> (dsimp only [Ins.zero]; omega))
  · intro c h; exfalso; revert h; first | omega | ((repeat' split) <;> (dsimp only [Ins.zero]; omega))
  · intro c h; exfalso; revert h; first | omega | ((repeat' split) <;> (dsimp only [Ins.zero]; omega))
  · intro c h; exfalso; revert h; first | omega | ((repeat' split) <;> (dsimp only [Ins.zero]; omega))
  · intro c h; exfalso; revert h; first | omega | ((repeat' split) <;> (dsimp only [Ins.zero]; omega))
  · intro c h; exfalso; revert h; first | omega | ((repeat' split) <;> (dsimp only [Ins.zero]; omega))
  · intro c h
    rw [clr_same (by omega) (by omega)]
    have e := word_R x
    rw [c] at e
    revert h
    unfold sysOf
    (repeat' split) <;> intro h
    all_goals first | (exfalso; dsimp only [Ins.zero] at h; omega) | skip
    rename_i d _ _ _ _ _ g
    rw [d, g.1, g.2] at e
    exact e
  · intro h; exfalso; dsimp only [Ins.zero] at h; omega
theorem csr_low (x : BitVec 32) : bits .and .i64 (fi x 31 20) 31 = fi x 24 20 := by
  obtain ⟨h0, -, p1, p2, p3, p4, -⟩ := f7_parts x
  obtain ⟨n, hn⟩ : ∃ n : Nat, fi x 31 20 = n := ⟨(fi x 31 20).toNat, by omega⟩
  rw [hn, bits_31 n (by omega)]; omega
theorem csr_high (x : BitVec 32) : fi x 31 20 / 32 = fi x 31 25 := by
  obtain ⟨h0, -, p1, p2, p3, p4, -⟩ := f7_parts x
  omega
theorem right_19 (i : Ins) (h : i.op = 19) : Right i (asmW 115 i.rd (if i.ui = true then i.fn + 4 else i.fn) i.rs1 (bits .and .i64 i.csr 31) (i.csr / 32) 0 []) (asmE 115 i.rd (if i.ui = true then i.fn + 4 else i.fn) i.rs1 (bits .and .i64 i.csr 31) (i.csr / 32) 0 []) := by
  refine right_of (by omega) (fun x hx => ?_)
  subst hx
  have h1 := num_ops x false
  have h2 := num_ops x true
  have h3 := reg_ops x false
  have h4 := reg_ops x true
  have h5 := amo_ops x
  have h6 := sys_ops x
  revert h
  refine dec_elim (P := fun i => i.op = 19 → asmW 115 i.rd (if i.ui = true then i.fn + 4 else i.fn) i.rs1 (bits .and .i64 i.csr 31) (i.csr / 32) 0 [] = clr x ∧ asmE 115 i.rd (if i.ui = true then i.fn + 4 else i.fn) i.rs1 (bits .and .i64 i.csr 31) (i.csr / 32) 0 [] = 0) x ?_ ?_ ?_ ?_ ?_ ?_ ?_ ?_ ?_ ?_ ?_ ?_ ?_ ?_ ?_
  · intro c h; exfalso; revert h; first | omega | ((repeat' split) <;> (dsimp only [Ins.zero]; omega))
  · intro c h; exfalso; revert h; first | omega | ((repeat' split) <;> (dsimp only [Ins.zero]; omega))
  · intro c h; exfalso; revert h; first | omega | ((repeat' split) <;> (dsimp only [Ins.zero]; omega))
  · intro c h; exfalso; revert h; first | omega | ((repeat' split) <;> (dsimp only [Ins.zero]; omega))
  · intro c h; exfalso; revert h; first | omega | ((repeat' split) <;> (dsimp only [Ins.zero]; omega))
  · intro c h; exfalso; revert h; first | omega | ((repeat' split) <;> (dsimp only [Ins.zero]; omega))
  · intro c h; exfalso; revert h; first | omega | ((repeat' split) <;> (dsimp only [Ins.zero]; omega))
  · intro c h; exfalso; revert h; first | omega | ((repeat' split) <;> (dsimp only [Ins.zero]; omega))
  · intro c h; exfalso; revert h; first | omega | ((repeat' split) <;> (dsimp only [Ins.zero]; omega))
  · intro c h; exfalso; revert h; first | omega | ((repeat' split) <;> (dsimp only [Ins.zero]; omega))
  · intro c h; exfalso; revert h; first | omega | ((repeat' split) <;> (dsimp only [Ins.zero]; omega))
  · intro c h; exfalso; revert h; first | omega | ((repeat' split) <;> (dsimp only [Ins.zero]; omega))
  · intro c h; exfalso; revert h; first | omega | ((repeat' split) <;> (dsimp only [Ins.zero]; omega))
  · intro c h
    rw [clr_same (by omega) (by omega)]
    have e := word_R x
    have k1 := csr_low x
    have k2 := csr_high x
    have f3 := f3_cases x
    rw [c] at e
    revert h
    unfold sysOf
    (repeat' split) <;> intro h
    all_goals first | (exfalso; dsimp only [Ins.zero] at h; omega) | skip
    all_goals first | exact absurd ‹false = true› (by decide) | exact absurd rfl ‹¬ true = true› | (dsimp only; rw [k1, k2]; first | exact e | (rw [show fi x 14 12 - 4 + 4 = fi x 14 12 by omega]; exact e) | (simpa using e))
  · intro h; exfalso; dsimp only [Ins.zero] at h; omega
theorem right_20 (i : Ins) (h : i.op = 20) : Right i (asmW 47 i.rd (szOf i.size) i.rs1 i.rs2 (8) 0 []) (asmE 47 i.rd (szOf i.size) i.rs1 i.rs2 (8) 0 []) := by
  refine right_of (by omega) (fun x hx => ?_)
  subst hx
  have h1 := num_ops x false
  have h2 := num_ops x true
  have h3 := reg_ops x false
  have h4 := reg_ops x true
  have h5 := amo_ops x
  have h6 := sys_ops x
  revert h
  refine dec_elim (P := fun i => i.op = 20 → asmW 47 i.rd (szOf i.size) i.rs1 i.rs2 (8) 0 [] = clr x ∧ asmE 47 i.rd (szOf i.size) i.rs1 i.rs2 (8) 0 [] = 0) x ?_ ?_ ?_ ?_ ?_ ?_ ?_ ?_ ?_ ?_ ?_ ?_ ?_ ?_ ?_
  · intro c h; exfalso; revert h; first | omega | ((repeat' split) <;> (dsimp only [Ins.zero]; omega))
  · intro c h; exfalso; revert h; first | omega | ((repeat' split) <;> (dsimp only [Ins.zero]; omega))
  · intro c h; exfalso; revert h; first | omega | ((repeat' split) <;> (dsimp only [Ins.zero]; omega))
  · intro c h; exfalso; revert h; first | omega | ((repeat' split) <;> (dsimp only [Ins.zero]; omega))
  · intro c h; exfalso; revert h; first | omega | ((repeat' split) <;> (dsimp only [Ins.zero]; omega))
  · intro c h; exfalso; revert h; first | omega | ((repeat' split) <;> (dsimp only [Ins.zero]; omega))
  · intro c h; exfalso; revert h; first | omega | ((repeat' split) <;> (dsimp only [Ins.zero]; omega))
  · intro c h; exfalso; revert h; first | omega | ((repeat' split) <;> (dsimp only [Ins.zero]; omega))
  · intro c h; exfalso; revert h; first | omega | ((repeat' split) <;> (dsimp only [Ins.zero]; omega))
  · intro c h; exfalso; revert h; first | omega | ((repeat' split) <;> (dsimp only [Ins.zero]; omega))
  · intro c h; exfalso; revert h; first | omega | ((repeat' split) <;> (dsimp only [Ins.zero]; omega))
  · intro c h; exfalso; revert h; first | omega | ((repeat' split) <;> (dsimp only [Ins.zero]; omega))
  · intro c h
    have e := word_amo c
    revert h
    unfold amoOf
    by_cases d : fi x 14 12 = 2 ∨ fi x 14 12 = 3
    · rw [if_pos d]
      have l := (amo_f3 (fi x 14 12) d).1
      generalize (if fi x 14 12 = 2 then (4 : Int) else 8) = sz at l ⊢
      (repeat' split) <;> intro h
      all_goals first | (exfalso; dsimp only [Ins.zero] at h; omega) | skip
      all_goals (dsimp only; rw [l])
      all_goals first | (rw [‹fi x 31 27 = 2›, ‹fi x 24 20 = 0›] at e; exact e) | (rw [‹fi x 31 27 = 3›] at e; exact e) | exact e
    · rw [if_neg d]; intro h; exfalso; dsimp only [Ins.zero] at h; omega
  · intro c h; exfalso; revert h; first | omega | ((repeat' split) <;> (dsimp only [Ins.zero]; omega))
  · intro h; exfalso; dsimp only [Ins.zero] at h; omega
theorem right_21 (i : Ins) (h : i.op = 21) : Right i (asmW 47 i.rd (szOf i.size) i.rs1 i.rs2 (12) 0 []) (asmE 47 i.rd (szOf i.size) i.rs1 i.rs2 (12) 0 []) := by
  refine right_of (by omega) (fun x hx => ?_)
  subst hx
  have h1 := num_ops x false
  have h2 := num_ops x true
  have h3 := reg_ops x false
  have h4 := reg_ops x true
  have h5 := amo_ops x
  have h6 := sys_ops x
  revert h
  refine dec_elim (P := fun i => i.op = 21 → asmW 47 i.rd (szOf i.size) i.rs1 i.rs2 (12) 0 [] = clr x ∧ asmE 47 i.rd (szOf i.size) i.rs1 i.rs2 (12) 0 [] = 0) x ?_ ?_ ?_ ?_ ?_ ?_ ?_ ?_ ?_ ?_ ?_ ?_ ?_ ?_ ?_
  · intro c h; exfalso; revert h; first | omega | ((repeat' split) <;> (dsimp only [Ins.zero]; omega))
  · intro c h; exfalso; revert h; first | omega | ((repeat' split) <;> (dsimp only [Ins.zero]; omega))
  · intro c h; exfalso; revert h; first | omega | ((repeat' split) <;> (dsimp only [Ins.zero]; omega))
  · intro c h; exfalso; revert h; first | omega | ((repeat' split) <;> (dsimp only [Ins.zero]; omega))
  · intro c h; exfalso; revert h; first | omega | ((repeat' split) <;> (dsimp only [Ins.zero]; omega))
  · intro c h; exfalso; revert h; first | omega | ((repeat' split) <;> (dsimp only [Ins.zero]; omega))
  · intro c h; exfalso; revert h; first | omega | ((repeat' split) <;> (dsimp only [Ins.zero]; omega))
  · intro c h; exfalso; revert h; first | omega | ((repeat' split) <;> (dsimp only [Ins.zero]; omega))
  · intro c h; exfalso; revert h; first | omega | ((repeat' split) <;> (dsimp only [Ins.zero]; omega))
  · intro c h; exfalso; revert h; first | omega | ((repeat' split) <;> (dsimp only [Ins.zero]; omega))
  · intro c h; exfalso; revert h; first | omega | ((repeat' split) <;> (dsimp only [Ins.zero]; omega))
  · intro c h; exfalso; revert h; first | omega | ((repeat' split) <;> (dsimp only [Ins.zero]; omega))
  · intro c h
    have e := word_amo c
    revert h
    unfold amoOf
    by_cases d : fi x 14 12 = 2 ∨ fi x 14 12 = 3
    · rw [if_pos d]
      have l := (amo_f3 (fi x 14 12) d).1
      generalize (if fi x 14 12 = 2 then (4 : Int) else 8) = sz at l ⊢
      (repeat' split) <;> intro h
      all_goals first | (exfalso; dsimp only [Ins.zero] at h; omega) | skip
      all_goals (dsimp only; rw [l])
      all_goals first | (rw [‹fi x 31 27 = 2›, ‹fi x 24 20 = 0›] at e; exact e) | (rw [‹fi x 31 27 = 3›] at e; exact e) | exact e
    · rw [if_neg d]; intro h; exfalso; dsimp only [Ins.zero] at h; omega
  · intro c h; exfalso; revert h; first | omega | ((repeat' split) <;> (dsimp only [Ins.zero]; omega))
  · intro h; exfalso; dsimp only [Ins.zero] at h; omega
theorem right_22 (i : Ins) (h : i.op = 22) : Right i (asmW 47 i.rd (szOf i.size) i.rs1 i.rs2 (i.fn * 4) 0 []) (asmE 47 i.rd (szOf i.size) i.rs1 i.rs2 (i.fn * 4) 0 []) := by
  refine right_of (by omega) (fun x hx => ?_)
  subst hx
  have h1 := num_ops x false
  have h2 := num_ops x true
  have h3 := reg_ops x false
  have h4 := reg_ops x true
  have h5 := amo_ops x
  have h6 := sys_ops x
  revert h
  refine dec_elim (P := fun i => i.op = 22 → asmW 47 i.rd (szOf i.size) i.rs1 i.rs2 (i.fn * 4) 0 [] = clr x ∧ asmE 47 i.rd (szOf i.size) i.rs1 i.rs2 (i.fn * 4) 0 [] = 0) x ?_ ?_ ?_ ?_ ?_ ?_ ?_ ?_ ?_ ?_ ?_ ?_ ?_ ?_ ?_
  · intro c h; exfalso; revert h; first | omega | ((repeat' split) <;> (dsimp only [Ins.zero]; omega))
  · intro c h; exfalso; revert h; first | omega | ((repeat' split) <;> (dsimp only [Ins.zero]; omega))
  · intro c h; exfalso; revert h; first | omega | ((repeat' split) <;> (dsimp only [Ins.zero]; omega))
  · intro c h; exfalso; revert h; first | omega | ((repeat' split) <;> (dsimp only [Ins.zero]; omega))
  · intro c h; exfalso; revert h; first | omega | ((repeat' split) <;> (dsimp only [Ins.zero]; omega))
  · intro c h; exfalso; revert h; first | omega | ((repeat' split) <;> (dsimp only [Ins.zero]; omega))
  · intro c h; exfalso; revert h; first | omega | ((repeat' split) <;> (dsimp only [Ins.zero]; omega))
  · intro c h; exfalso; revert h; first | omega | ((repeat' split) <;> (dsimp only [Ins.zero]; omega))
  · intro c h; exfalso; revert h; first | omega | ((repeat' split) <;> (dsimp only [Ins.zero]; omega))
  · intro c h; exfalso; revert h; first | omega | ((repeat' split) <;> (dsimp only [Ins.zero]; omega))
  · intro c h; exfalso; revert h; first | omega | ((repeat' split) <;> (dsimp only [Ins.zero]; omega))
  · intro c h; exfalso; revert h; first | omega | ((repeat' split) <;> (dsimp only [Ins.zero]; omega))
  · intro c h
    have e := word_amo c
    revert h
    unfold amoOf
    by_cases d : fi x 14 12 = 2 ∨ fi x 14 12 = 3
    · rw [if_pos d]
      have l := (amo_f3 (fi x 14 12) d).1
      generalize (if fi x 14 12 = 2 then (4 : Int) else 8) = sz at l ⊢
      (repeat' split) <;> intro h
      all_goals first | (exfalso; dsimp only [Ins.zero] at h; omega) | skip
      all_goals (dsimp only; rw [l])
      all_goals first | (rw [‹fi x 31 27 = 2›, ‹fi x 24 20 = 0›] at e; exact e) | (rw [‹fi x 31 27 = 3›] at e; exact e) | exact e
    · rw [if_neg d]; intro h; exfalso; dsimp only [Ins.zero] at h; omega
  · intro c h; exfalso; revert h; first | omega | ((repeat' split) <;> (dsimp only [Ins.zero]; omega))
  · intro h; exfalso; dsimp only [Ins.zero] at h; omega
theorem rright_20 (i : Ins) (h : i.op = 20) : Right i (asmW 47 i.rd (rszOf i.size) i.rs1 0 (8) 0 []) (asmE 47 i.rd (rszOf i.size) i.rs1 0 (8) 0 []) := by
  refine right_of (by omega) (fun x hx => ?_)
  subst hx
  have h1 := num_ops x false
  have h2 := num_ops x true
  have h3 := reg_ops x false
  have h4 := reg_ops x true
  have h5 := amo_ops x
  have h6 := sys_ops x
  revert h
  refine dec_elim (P := fun i => i.op = 20 → asmW 47 i.rd (rszOf i.size) i.rs1 0 (8) 0 [] = clr x ∧ asmE 47 i.rd (rszOf i.size) i.rs1 0 (8) 0 [] = 0) x ?_ ?_ ?_ ?_ ?_ ?_ ?_ ?_ ?_ ?_ ?_ ?_ ?_ ?_ ?_
  · intro c h; exfalso; revert h; first | omega | ((repeat' split) <;> (dsimp only [Ins.zero]; omega))
  · intro c h; exfalso; revert h; first | omega | ((repeat' split) <;> (dsimp only [Ins.zero]; omega))
  · intro c h; exfalso; revert h; first | omega | ((repeat' split) <;> (dsimp only [Ins.zero]; omega))
  · intro c h; exfalso; revert h; first | omega | ((repeat' split) <;> (dsimp only [Ins.zero]; omega))
  · intro c h; exfalso; revert h; first | omega | ((repeat' split) <;> (dsimp only [Ins.zero]; omega))
  · intro c h; exfalso; revert h; first | omega | ((repeat' split) <;> (dsimp only [Ins.zero]; omega))
  · intro c h; exfalso; revert h; first | omega | ((repeat' split) <;> (dsimp only [Ins.zero]; omega))
  · intro c h; exfalso; revert h; first | omega | ((repeat' split) <;> (dsimp only [Ins.zero]; omega))
  · intro c h; exfalso; revert h; first | omega | ((repeat' split) <;> (dsimp only [Ins.zero]; omega))
  · intro c h; exfalso; revert h; first | omega | ((repeat' split) <;> (dsimp only [Ins.zero]; omega))
  · intro c h; exfalso; revert h; first | omega | ((repeat' split) <;> (dsimp only [Ins.zero]; omega))
  · intro c h; exfalso; revert h; first | omega | ((repeat' split) <;> (dsimp only [Ins.zero]; omega))
  · intro c h
    have e := word_amo c
    revert h
    unfold amoOf
    by_cases d : fi x 14 12 = 2 ∨ fi x 14 12 = 3
    · rw [if_pos d]
      have l := (amo_f3 (fi x 14 12) d).2
      generalize (if fi x 14 12 = 2 then (4 : Int) else 8) = sz at l ⊢
      (repeat' split) <;> intro h
      all_goals first | (exfalso; dsimp only [Ins.zero] at h; omega) | skip
      all_goals (dsimp only; rw [l])
      all_goals first | (rw [‹fi x 31 27 = 2›, ‹fi x 24 20 = 0›] at e; exact e) | (rw [‹fi x 31 27 = 3›] at e; exact e) | exact e
    · rw [if_neg d]; intro h; exfalso; dsimp only [Ins.zero] at h; omega
  · intro c h; exfalso; revert h; first | omega | ((repeat' split) <;> (dsimp only [Ins.zero]; omega))
  · intro h; exfalso; dsimp only [Ins.zero] at h; omega
theorem rright_21 (i : Ins) (h : i.op = 21) : Right i (asmW 47 i.rd (rszOf i.size) i.rs1 i.rs2 (12) 0 []) (asmE 47 i.rd (rszOf i.size) i.rs1 i.rs2 (12) 0 []) := by
  refine right_of (by omega) (fun x hx => ?_)
  subst hx
  have h1 := num_ops x false
  have h2 := num_ops x true
  have h3 := reg_ops x false
  have h4 := reg_ops x true
  have h5 := amo_ops x
  have h6 := sys_ops x
  revert h
  refine dec_elim (P := fun i => i.op = 21 → asmW 47 i.rd (rszOf i.size) i.rs1 i.rs2 (12) 0 [] = clr x ∧ asmE 47 i.rd (rszOf i.size) i.rs1 i.rs2 (12) 0 [] = 0) x ?_ ?_ ?_ ?_ ?_ ?_ ?_ ?_ ?_ ?_ ?_ ?_ ?_ ?_ ?_
  · intro c h; exfalso; revert h; first | omega | ((repeat' split) <;> (dsimp only [Ins.zero]; omega))
  · intro c h; exfalso; revert h; first | omega | ((repeat' split) <;> (dsimp only [Ins.zero]; omega))
  · intro c h; exfalso; revert h; first | omega | ((repeat' split) <;> (dsimp only [Ins.zero]; omega))
  · intro c h; exfalso; revert h; first | omega | ((repeat' split) <;> (dsimp only [Ins.zero]; omega))
  · intro c h; exfalso; revert h; first | omega | ((repeat' split) <;> (dsimp only [Ins.zero]; omega))
  · intro c h; exfalso; revert h; first | omega | ((repeat' split) <;> (dsimp only [Ins.zero]; omega))
  · intro c h; exfalso; revert h; first | omega | ((repeat' split) <;> (dsimp only [Ins.zero]; omega))
  · intro c h; exfalso; revert h; first | omega | ((repeat' split) <;> (dsimp only [Ins.zero]; omega))
  · intro c h; exfalso; revert h; first | omega | ((repeat' split) <;> (dsimp only [Ins.zero]; omega))
  · intro c h; exfalso; revert h; first | omega | ((repeat' split) <;> (dsimp only [Ins.zero]; omega))
  · intro c h; exfalso; revert h; first | omega | ((repeat' split) <;> (dsimp only [Ins.zero]; omega))
  · intro c h; exfalso; revert h; first | omega | ((repeat' split) <;> (dsimp only [Ins.zero]; omega))
  · intro c h
    have e := word_amo c
    revert h
    unfold amoOf
    by_cases d : fi x 14 12 = 2 ∨ fi x 14 12 = 3
    · rw [if_pos d]
      have l := (amo_f3 (fi x 14 12) d).2
      generalize (if fi x 14 12 = 2 then (4 : Int) else 8) = sz at l ⊢
      (repeat' split) <;> intro h
      all_goals first | (exfalso; dsimp only [Ins.zero] at h; omega) | skip
      all_goals (dsimp only; rw [l])
      all_goals first | (rw [‹fi x 31 27 = 2›, ‹fi x 24 20 = 0›] at e; exact e) | (rw [‹fi x 31 27 = 3›] at e; exact e) | exact e
    · rw [if_neg d]; intro h; exfalso; dsimp only [Ins.zero] at h; omega
  · intro c h; exfalso; revert h; first | omega | ((repeat' split) <;> (dsimp only [Ins.zero]; omega))
  · intro h; exfalso; dsimp only [Ins.zero] at h; omega
theorem rright_22 (i : Ins) (h : i.op = 22) : Right i (asmW 47 i.rd (rszOf i.size) i.rs1 i.rs2 (i.fn * 4) 0 []) (asmE 47 i.rd (rszOf i.size) i.rs1 i.rs2 (i.fn * 4) 0 []) := by
  refine right_of (by omega) (fun x hx => ?_)
  subst hx
  have h1 := num_ops x false
  have h2 := num_ops x true
  have h3 := reg_ops x false
  have h4 := reg_ops x true
  have h5 := amo_ops x
  have h6 := sys_ops x
  revert h
  refine dec_elim (P := fun i => i.op = 22 → asmW 47 i.rd (rszOf i.size) i.rs1 i.rs2 (i.fn * 4) 0 [] = clr x ∧ asmE 47 i.rd (rszOf i.size) i.rs1 i.rs2 (i.fn * 4) 0 [] = 0) x ?_ ?_ ?_ ?_ ?_ ?_ ?_ ?_ ?_ ?_ ?_ ?_ ?_ ?_ ?_
  · intro c h; exfalso; revert h; first | omega | ((repeat' split) <;> (dsimp only [Ins.zero]; omega))
  · intro c h; exfalso; revert h; first | omega | ((repeat' split) <;> (dsimp only [Ins.zero]; omega))
  · intro c h; exfalso; revert h; first | omega | ((repeat' split) <;> (dsimp only [Ins.zero]; omega))
  · intro c h; exfalso; revert h; first | omega | ((repeat' split) <;> (dsimp only [Ins.zero]; omega))
  · intro c h; exfalso; revert h; first | omega | ((repeat' split) <;> (dsimp only [Ins.zero]; omega))
  · intro c h; exfalso; revert h; first | omega | ((repeat' split) <;> (dsimp only [Ins.zero]; omega))
  · intro c h; exfalso; revert h; first | omega | ((repeat' split) <;> (dsimp only [Ins.zero]; omega))
  · intro c h; exfalso; revert h; first | omega | ((repeat' split) <;> (dsimp only [Ins.zero]; omega))
  · intro c h; exfalso; revert h; first | omega | ((repeat' split) <;> (dsimp only [Ins.zero]; omega))
  · intro c h; exfalso; revert h; first | omega | ((repeat' split) <;> (dsimp only [Ins.zero]; omega))
  · intro c h; exfalso; revert h; first | omega | ((repeat' split) <;> (dsimp only [Ins.zero]; omega))
  · intro c h; exfalso; revert h; first | omega | ((repeat' split) <;> (dsimp only [Ins.zero]; omega))
  · intro c h
    have e := word_amo c
    revert h
    unfold amoOf
    by_cases d : fi x 14 12 = 2 ∨ fi x 14 12 = 3
    · rw [if_pos d]
      have l := (amo_f3 (fi x 14 12) d).2
      generalize (if fi x 14 12 = 2 then (4 : Int) else 8) = sz at l ⊢
      (repeat' split) <;> intro h
      all_goals first | (exfalso; dsimp only [Ins.zero] at h; omega) | skip
      all_goals (dsimp only; rw [l])
      all_goals first | (rw [‹fi x 31 27 = 2›, ‹fi x 24 20 = 0›] at e; exact e) | (rw [‹fi x 31 27 = 3›] at e; exact e) | exact e
    · rw [if_neg d]; intro h; exfalso; dsimp only [Ins.zero] at h; omega
  · intro c h; exfalso; revert h; first | omega | ((repeat' split) <;> (dsimp only [Ins.zero]; omega))
  · intro h; exfalso; dsimp only [Ins.zero] at h; omega
theorem and_7 (n : Nat) (h : n < 16) : bits .and .i64 (n : Int) 7 = (n : Int) % 8 := by
  have hall : ∀ n : Fin 16, bits .and .i64 ((n.val : Nat) : Int) 7 = ((n.val : Nat) : Int) % 8 := by decide +kernel
  exact hall ⟨n, h⟩
/-- what the reference lays out of an instruction with an immediate -/
theorem num_ref (x : BitVec 32) (wd : Bool) (h : (numOf x wd).op = 8) :
    (((numOf x wd).fn = 1 ∨ (numOf x wd).fn = 5 ∨ (numOf x wd).fn = 13) → u (numOf x wd).imm ≤ 63) ∧
    ((numOf x wd).fn = 13 → sg (numOf x wd).imm + 1024 = sg (immOf (zx x) LI) ∧ fi x 14 12 = 5) ∧ ((numOf x wd).fn ≠ 13 → sg (numOf x wd).imm = sg (immOf (zx x) LI) ∧ fi x 14 12 = (numOf x wd).fn) := by
  obtain ⟨h0, -, p1, p2, p3, p4, -⟩ := f7_parts x
  have hk : kindOf x wd = 0 → fi x 31 20 < 64 := by unfold kindOf; split <;> omega
  have hk2 : kindOf x wd = 32 → 1024 ≤ fi x 31 20 ∧ fi x 31 20 < 1088 := by unfold kindOf; split <;> omega
  have hs := sg_sh x
  have hu := shOf_u x
  have f3 := f3_cases x
  revert h
  unfold numOf
  by_cases a : fi x 14 12 = 1
  · rw [if_pos a]
    by_cases b : kindOf x wd = 0
    · rw [if_pos b]; intro _
      have := hk b
      refine ⟨fun _ => by show u (shOf x) ≤ 63; omega, fun h => absurd h (by show ¬ (1 : Int) = 13; decide), fun _ => ⟨?_, a⟩⟩
      show sg (shOf x) = _
      rw [imm_small x (by omega), hs]; omega
    · rw [if_neg b]; intro h; exact absurd h (by decide)
  · rw [if_neg a]
    by_cases c : fi x 14 12 = 5
    · rw [if_pos c]
      by_cases b : kindOf x wd = 0
      · rw [if_pos b]; intro _
        have := hk b
        refine ⟨fun _ => by show u (shOf x) ≤ 63; omega, fun h => absurd h (by show ¬ (5 : Int) = 13; decide), fun _ => ⟨?_, c⟩⟩
        show sg (shOf x) = _
        rw [imm_small x (by omega), hs]; omega
      · rw [if_neg b]
        by_cases d : kindOf x wd = 32
        · rw [if_pos d]; intro _
          have := hk2 d
          refine ⟨fun _ => by show u (shOf x) ≤ 63; omega, fun _ => ⟨?_, c⟩, fun h => absurd rfl h⟩
          show sg (shOf x) + 1024 = _
          rw [imm_small x (by omega), hs]; omega
        · rw [if_neg d]; intro h; exact absurd h (by decide)
    · rw [if_neg c]
      by_cases e : fi x 14 12 = 0
      · rw [if_pos e]; intro _; exact ⟨fun h => by dsimp only at h; omega, fun h => by dsimp only at h; omega, fun _ => ⟨rfl, e⟩⟩
      · rw [if_neg e]
        by_cases g : wd = true
        · rw [if_pos g]; intro h; exact absurd h (by decide)
        · rw [if_neg g]; intro _
          exact ⟨fun h => by dsimp only at h; omega, fun h => by dsimp only at h; omega, fun _ => ⟨rfl, rfl⟩⟩
theorem rright_8 (i : Ins) (h : i.op = 8) : Right i (asmW (if i.wd = true then 27 else 19) i.rd (if i.fn = 13 then 5 else i.fn) i.rs1 0 0 (if i.fn = 13 then sg i.imm + 1024 else sg i.imm) LI) (asmE (if i.wd = true then 27 else 19) i.rd (if i.fn = 13 then 5 else i.fn) i.rs1 0 0 (if i.fn = 13 then sg i.imm + 1024 else sg i.imm) LI) := by
  refine right_of (by omega) (fun x hx => ?_)
  subst hx
  have h1 := num_ops x false
  have h2 := num_ops x true
  have h3 := reg_ops x false
  have h4 := reg_ops x true
  have h5 := amo_ops x
  have h6 := sys_ops x
  revert h
  refine dec_elim (P := fun i => i.op = 8 → asmW (if i.wd = true then 27 else 19) i.rd (if i.fn = 13 then 5 else i.fn) i.rs1 0 0 (if i.fn = 13 then sg i.imm + 1024 else sg i.imm) LI = clr x ∧ asmE (if i.wd = true then 27 else 19) i.rd (if i.fn = 13 then 5 else i.fn) i.rs1 0 0 (if i.fn = 13 then sg i.imm + 1024 else sg i.imm) LI = 0) x ?_ ?_ ?_ ?_ ?_ ?_ ?_ ?_ ?_ ?_ ?_ ?_ ?_ ?_ ?_
  · intro c h; exfalso; revert h; first | omega | ((repeat' split) <;> (dsimp only [Ins.zero]; omega))
  · intro c h; exfalso; revert h; first | omega | ((repeat' split) <;> (dsimp only [Ins.zero]; omega))
  · intro c h; exfalso; revert h; first | omega | ((repeat' split) <;> (dsimp only [Ins.zero]; omega))
  · intro c h; exfalso; revert h; first | omega | ((repeat' split) <;> (dsimp only [Ins.zero]; omega))
  · intro c h; exfalso; revert h; first | omega | ((repeat' split) <;> (dsimp only [Ins.zero]; omega))
  · intro c h; exfalso; revert h; first | omega | ((repeat' split) <;> (dsimp only [Ins.zero]; omega))
  · intro c h; exfalso; revert h; first | omega | ((repeat' split) <;> (dsimp only [Ins.zero]; omega))
  · intro c h; exfalso; revert h; first | omega | ((repeat' split) <;> (dsimp only [Ins.zero]; omega))
  · intro c h
    obtain ⟨n1, n2, n3, n4, n5⟩ := num_imm x false h
    obtain ⟨m1, m2, m3⟩ := num_ref x false h
    by_cases g : (numOf x false).fn = 13
    · have e := num_word x (m2 g).1
      rw [g, n3, n4, n5, clr_same (by omega) (by omega)]
      rw [c, (m2 g).2] at e
      exact e
    · have e := num_word x (m3 g).1
      rw [if_neg g, if_neg g, n3, n4, n5, clr_same (by omega) (by omega)]
      rw [c, (m3 g).2] at e
      exact e
  · intro c h
    obtain ⟨n1, n2, n3, n4, n5⟩ := num_imm x true h
    obtain ⟨m1, m2, m3⟩ := num_ref x true h
    by_cases g : (numOf x true).fn = 13
    · have e := num_word x (m2 g).1
      rw [g, n3, n4, n5, clr_same (by omega) (by omega)]
      rw [c, (m2 g).2] at e
      exact e
    · have e := num_word x (m3 g).1
      rw [if_neg g, if_neg g, n3, n4, n5, clr_same (by omega) (by omega)]
      rw [c, (m3 g).2] at e
      exact e
  · intro c h; exfalso; revert h; first | omega | ((repeat' split) <;> (dsimp only [Ins.zero]; omega))
  · intro c h; exfalso; revert h; first | omega | ((repeat' split) <;> (dsimp only [Ins.zero]; omega))
  · intro c h; exfalso; revert h; first | omega | ((repeat' split) <;> (dsimp only [Ins.zero]; omega))
  · intro c h; exfalso; revert h; first | omega | ((repeat' split) <;> (dsimp only [Ins.zero]; omega))
  · intro h; exfalso; dsimp only [Ins.zero] at h; omega
theorem rnum_max (x : BitVec 32) (h : (decOf x).op = 8) : ((decOf x).fn = 1 ∨ (decOf x).fn = 5 ∨ (decOf x).fn = 13) → u (decOf x).imm ≤ 63 := by
  have h3 := reg_ops x false
  have h4 := reg_ops x true
  have h5 := amo_ops x
  have h6 := sys_ops x
  revert h
  refine dec_elim (P := fun i => i.op = 8 → (i.fn = 1 ∨ i.fn = 5 ∨ i.fn = 13) → u i.imm ≤ 63) x ?_ ?_ ?_ ?_ ?_ ?_ ?_ ?_ ?_ ?_ ?_ ?_ ?_ ?_ ?_
  all_goals first | (intro c h; exact (num_ref x _ h).1) | (intro c h; exfalso; revert h; first | omega | ((repeat' split) <;> (dsimp only [Ins.zero]; omega))) | (intro h; exfalso; dsimp only [Ins.zero] at h; omega)
theorem reg_fn (x : BitVec 32) (wd : Bool) (h : (regOf x wd).op = 9 ∨ (regOf x wd).op = 10) : bits .and .i64 (regOf x wd).fn 7 = fi x 14 12 ∧ (if (regOf x wd).op = 10 then 1 else if 7 < (regOf x wd).fn then 32 else 0) = fi x 31 25 := by
  have f3 := f3_cases x
  obtain ⟨n, hn⟩ : ∃ n : Nat, fi x 14 12 = n := ⟨(fi x 14 12).toNat, by omega⟩
  have hb : bits .and .i64 (fi x 14 12) 7 = fi x 14 12 := by rw [hn, and_7 n (by omega)]; omega
  have hg : ¬ 7 < fi x 14 12 := by omega
  revert h
  unfold regOf
  by_cases a : fi x 31 25 = 0
  · rw [if_pos a]
    by_cases g : wd = true ∧ (fi x 14 12 = 2 ∨ fi x 14 12 = 3 ∨ fi x 14 12 = 4 ∨ fi x 14 12 = 6 ∨ fi x 14 12 = 7)
    · rw [if_pos g]; intro h; exfalso; dsimp only [Ins.zero] at h; omega
    · rw [if_neg g]; intro _; exact ⟨hb, by show (if 7 < fi x 14 12 then (32 : Int) else 0) = _; rw [if_neg hg, a]⟩
  · rw [if_neg a]
    by_cases b : fi x 31 25 = 32
    · rw [if_pos b]
      by_cases c : fi x 14 12 = 0
      · rw [if_pos c]; intro _; exact ⟨by rw [c]; show bits .and .i64 8 7 = 0; decide +kernel, by rw [b]; show (if (9 : Int) = 10 then (1 : Int) else if (7 : Int) < 8 then 32 else 0) = 32; decide +kernel⟩
      · rw [if_neg c]
        by_cases d : fi x 14 12 = 5
        · rw [if_pos d]; intro _; exact ⟨by rw [d]; show bits .and .i64 13 7 = 5; decide +kernel, by rw [b]; show (if (9 : Int) = 10 then (1 : Int) else if (7 : Int) < 13 then 32 else 0) = 32; decide +kernel⟩
        · rw [if_neg d]; intro h; exfalso; dsimp only [Ins.zero] at h; omega
    · rw [if_neg b]
      by_cases d : fi x 31 25 = 1
      · rw [if_pos d]
        by_cases g : wd = true ∧ (fi x 14 12 = 1 ∨ fi x 14 12 = 2 ∨ fi x 14 12 = 3)
        · rw [if_pos g]; intro h; exfalso; dsimp only [Ins.zero] at h; omega
        · rw [if_neg g]; intro _; exact ⟨hb, d.symm⟩
      · rw [if_neg d]; intro h; exfalso; dsimp only [Ins.zero] at h; omega
theorem rright_9 (i : Ins) (h : i.op = 9) : Right i (asmW (if i.wd = true then 59 else 51) i.rd (bits .and .i64 i.fn 7) i.rs1 i.rs2 (if 7 < i.fn then 32 else 0) 0 []) (asmE (if i.wd = true then 59 else 51) i.rd (bits .and .i64 i.fn 7) i.rs1 i.rs2 (if 7 < i.fn then 32 else 0) 0 []) := by
  refine right_of (by omega) (fun x hx => ?_)
  subst hx
  have h1 := num_ops x false
  have h2 := num_ops x true
  have h3 := reg_ops x false
  have h4 := reg_ops x true
  have h5 := amo_ops x
  have h6 := sys_ops x
  revert h
  refine dec_elim (P := fun i => i.op = 9 → asmW (if i.wd = true then 59 else 51) i.rd (bits .and .i64 i.fn 7) i.rs1 i.rs2 (if 7 < i.fn then 32 else 0) 0 [] = clr x ∧ asmE (if i.wd = true then 59 else 51) i.rd (bits .and .i64 i.fn 7) i.rs1 i.rs2 (if 7 < i.fn then 32 else 0) 0 [] = 0) x ?_ ?_ ?_ ?_ ?_ ?_ ?_ ?_ ?_ ?_ ?_ ?_ ?_ ?_ ?_
  · intro c h; exfalso; revert h; first | omega | ((repeat' split) <;> (dsimp only [Ins.zero]; omega))
  · intro c h; exfalso; revert h; first | omega | ((repeat' split) <;> (dsimp only [Ins.zero]; omega))
  · intro c h; exfalso; revert h; first | omega | ((repeat' split) <;> (dsimp only [Ins.zero]; omega))
  · intro c h; exfalso; revert h; first | omega | ((repeat' split) <;> (dsimp only [Ins.zero]; omega))
  · intro c h; exfalso; revert h; first | omega | ((repeat' split) <;> (dsimp only [Ins.zero]; omega))
  · intro c h; exfalso; revert h; first | omega | ((repeat' split) <;> (dsimp only [Ins.zero]; omega))
  · intro c h; exfalso; revert h; first | omega | ((repeat' split) <;> (dsimp only [Ins.zero]; omega))
  · intro c h; exfalso; revert h; first | omega | ((repeat' split) <;> (dsimp only [Ins.zero]; omega))
  · intro c h; exfalso; revert h; first | omega | ((repeat' split) <;> (dsimp only [Ins.zero]; omega))
  · intro c h; exfalso; revert h; first | omega | ((repeat' split) <;> (dsimp only [Ins.zero]; omega))
  · intro c h
    obtain ⟨-, -, n3, n4, n5, n6⟩ := reg_imm x false (by omega)
    obtain ⟨n1, n2⟩ := reg_fn x false (by omega)
    have e := word_R x
    rw [h] at n2
    rw [n1, n3, n4, n5, n6, clr_same (by omega) (by omega)]
    rw [c, ← n2] at e
    exact e
  · intro c h
    obtain ⟨-, -, n3, n4, n5, n6⟩ := reg_imm x true (by omega)
    obtain ⟨n1, n2⟩ := reg_fn x true (by omega)
    have e := word_R x
    rw [h] at n2
    rw [n1, n3, n4, n5, n6, clr_same (by omega) (by omega)]
    rw [c, ← n2] at e
    exact e
  · intro c h; exfalso; revert h; first | omega | ((repeat' split) <;> (dsimp only [Ins.zero]; omega))
  · intro c h; exfalso; revert h; first | omega | ((repeat' split) <;> (dsimp only [Ins.zero]; omega))
  · intro h; exfalso; dsimp only [Ins.zero] at h; omega
theorem rright_10 (i : Ins) (h : i.op = 10) : Right i (asmW (if i.wd = true then 59 else 51) i.rd (bits .and .i64 i.fn 7) i.rs1 i.rs2 1 0 []) (asmE (if i.wd = true then 59 else 51) i.rd (bits .and .i64 i.fn 7) i.rs1 i.rs2 1 0 []) := by
  refine right_of (by omega) (fun x hx => ?_)
  subst hx
  have h1 := num_ops x false
  have h2 := num_ops x true
  have h3 := reg_ops x false
  have h4 := reg_ops x true
  have h5 := amo_ops x
  have h6 := sys_ops x
  revert h
  refine dec_elim (P := fun i => i.op = 10 → asmW (if i.wd = true then 59 else 51) i.rd (bits .and .i64 i.fn 7) i.rs1 i.rs2 1 0 [] = clr x ∧ asmE (if i.wd = true then 59 else 51) i.rd (bits .and .i64 i.fn 7) i.rs1 i.rs2 1 0 [] = 0) x ?_ ?_ ?_ ?_ ?_ ?_ ?_ ?_ ?_ ?_ ?_ ?_ ?_ ?_ ?_
  · intro c h; exfalso; revert h; first | omega | ((repeat' split) <;> (dsimp only [Ins.zero]; omega))
  · intro c h; exfalso; revert h; first | omega | ((repeat' split) <;> (dsimp only [Ins.zero]; omega))
  · intro c h; exfalso; revert h; first | omega | ((repeat' split) <;> (dsimp only [Ins.zero]; omega))
  · intro c h; exfalso; revert h; first | omega | ((repeat' split) <;> (dsimp only [Ins.zero]; omega))
  · intro c h; exfalso; revert h; first | omega | ((repeat' split) <;> (dsimp only [Ins.zero]; omega))
  · intro c h; exfalso; revert h; first | omega | ((repeat' split) <;> (dsimp only [Ins.zero]; omega))
  · intro c h; exfalso; revert h; first | omega | ((repeat' split) <;> (dsimp only [Ins.zero]; omega))
  · intro c h; exfalso; revert h; first | omega | ((repeat' split) <;> (dsimp only [Ins.zero]; omega))
  · intro c h; exfalso; revert h; first | omega | ((repeat' split) <;> (dsimp only [Ins.zero]; omega))
  · intro c h; exfalso; revert h; first | omega | ((repeat' split) <;> (dsimp only [Ins.zero]; omega))
  · intro c h
    obtain ⟨-, -, n3, n4, n5, n6⟩ := reg_imm x false (by omega)
    obtain ⟨n1, n2⟩ := reg_fn x false (by omega)
    have e := word_R x
    rw [h] at n2
    rw [n1, n3, n4, n5, n6, clr_same (by omega) (by omega)]
    rw [c, ← n2] at e
    exact e
  · intro c h
    obtain ⟨-, -, n3, n4, n5, n6⟩ := reg_imm x true (by omega)
    obtain ⟨n1, n2⟩ := reg_fn x true (by omega)
    have e := word_R x
    rw [h] at n2
    rw [n1, n3, n4, n5, n6, clr_same (by omega) (by omega)]
    rw [c, ← n2] at e
    exact e
  · intro c h; exfalso; revert h; first | omega | ((repeat' split) <;> (dsimp only [Ins.zero]; omega))
  · intro c h; exfalso; revert h; first | omega | ((repeat' split) <;> (dsimp only [Ins.zero]; omega))
  · intro h; exfalso; dsimp only [Ins.zero] at h; omega
/-- a CSR's number laid over the word without it -/
theorem csr_word (x : BitVec 32) (h : fi x 6 0 = 115) : asmW 115 (fi x 11 7) (fi x 14 12) (fi x 19 15) 0 0 0 LI ||| (BitVec.ofInt 32 (fi x 31 20)) <<< 20 = x ∧ asmE 115 (fi x 11 7) (fi x 14 12) (fi x 19 15) 0 0 0 LI = 0 := by
  have hf := fitsI x
  rw [h] at hf
  have e := asm_good hf (imm := 0) (L := LI) (by decide +kernel) (by decide +kernel)
  have z : lo32 (spreadAcc (wd64 0) LI) = 0#32 := by decide +kernel
  rw [z, BitVec.or_zero] at e
  refine ⟨?_, e.2⟩
  rw [e.1]
  apply BitVec.eq_of_getLsbD_eq; intro i hi
  obtain ⟨h0, -, p1, p2, p3, p4, -⟩ := f7_parts x
  have hl : ∀ j, (BitVec.ofInt 32 (fi x 31 20)).getLsbD j = (decide (j < 12) && x.getLsbD (20 + j)) := by
    intro j
    obtain ⟨n, hn⟩ : ∃ n : Nat, fi x 31 20 = n := ⟨(fi x 31 20).toNat, by omega⟩
    have hb : j < 12 → (wd64 (fi x 31 20)).getLsbD j = x.getLsbD (20 + j) := fun hj => fi_bit x (hi := 31) (lo := 20) (by omega) (by omega) j (by omega)
    rw [hn] at hb ⊢
    rw [BitVec.ofInt_natCast, BitVec.getLsbD_ofNat]
    by_cases c : j < 12
    · rw [decide_eq_true c, decide_eq_true (show j < 32 by omega), ← hb c]
      unfold wd64
      rw [BitVec.ofInt_natCast, BitVec.getLsbD_ofNat, decide_eq_true (show j < 64 by omega)]; rfl
    · rw [decide_eq_false c, Nat.testBit_lt_two_pow (show n < 2 ^ j from Nat.lt_of_lt_of_le (show n < 2 ^ 12 by omega) (Nat.pow_le_pow_right (by omega) (by omega)))]; simp
  have hw := lb_word x i hi
  rw [h] at hw
  rw [BitVec.getLsbD_or, lay_bit hf i hi, BitVec.getLsbD_shiftLeft, hl, decide_eq_true hi, Bool.true_and]
  by_cases c : i < 20
  · rw [← hw, decide_eq_true c]
    simp only [Bool.not_true, Bool.false_and, Bool.or_false]
    unfold lb
    repeat' split
    all_goals first | rfl | omega
  · rw [decide_eq_false c, decide_eq_true (show i - 20 < 12 by omega), show 20 + (i - 20) = i by omega]
    have z0 : lb 115 (fi x 11 7) (fi x 14 12) (fi x 19 15) 0 0 i = false := by
      unfold lb
      have w0 : ∀ k, (wd64 0).getLsbD k = false := fun k => by rw [show wd64 0 = 0 from rfl]; simp
      simp only [w0]
      repeat' split
      all_goals first | rfl | omega
    rw [z0]; simp
theorem rright_19 (i : Ins) (h : i.op = 19) : Right i (asmW 115 i.rd (if i.ui = true then i.fn + 4 else i.fn) i.rs1 0 0 0 LI ||| (BitVec.ofInt 32 i.csr) <<< 20) (asmE 115 i.rd (if i.ui = true then i.fn + 4 else i.fn) i.rs1 0 0 0 LI) := by
  refine right_of (by omega) (fun x hx => ?_)
  subst hx
  have h1 := num_ops x false
  have h2 := num_ops x true
  have h3 := reg_ops x false
  have h4 := reg_ops x true
  have h5 := amo_ops x
  revert h
  refine dec_elim (P := fun i => i.op = 19 → asmW 115 i.rd (if i.ui = true then i.fn + 4 else i.fn) i.rs1 0 0 0 LI ||| (BitVec.ofInt 32 i.csr) <<< 20 = clr x ∧ asmE 115 i.rd (if i.ui = true then i.fn + 4 else i.fn) i.rs1 0 0 0 LI = 0) x ?_ ?_ ?_ ?_ ?_ ?_ ?_ ?_ ?_ ?_ ?_ ?_ ?_ ?_ ?_
  · intro c h; exfalso; revert h; first | omega | ((repeat' split) <;> (dsimp only [Ins.zero]; omega))
  · intro c h; exfalso; revert h; first | omega | ((repeat' split) <;> (dsimp only [Ins.zero]; omega))
  · intro c h; exfalso; revert h; first | omega | ((repeat' split) <;> (dsimp only [Ins.zero]; omega))
  · intro c h; exfalso; revert h; first | omega | ((repeat' split) <;> (dsimp only [Ins.zero]; omega))
  · intro c h; exfalso; revert h; first | omega | ((repeat' split) <;> (dsimp only [Ins.zero]; omega))
  · intro c h; exfalso; revert h; first | omega | ((repeat' split) <;> (dsimp only [Ins.zero]; omega))
  · intro c h; exfalso; revert h; first | omega | ((repeat' split) <;> (dsimp only [Ins.zero]; omega))
  · intro c h; exfalso; revert h; first | omega | ((repeat' split) <;> (dsimp only [Ins.zero]; omega))
  · intro c h; exfalso; revert h; first | omega | ((repeat' split) <;> (dsimp only [Ins.zero]; omega))
  · intro c h; exfalso; revert h; first | omega | ((repeat' split) <;> (dsimp only [Ins.zero]; omega))
  · intro c h; exfalso; revert h; first | omega | ((repeat' split) <;> (dsimp only [Ins.zero]; omega))
  · intro c h; exfalso; revert h; first | omega | ((repeat' split) <;> (dsimp only [Ins.zero]; omega))
  · intro c h; exfalso; revert h; first | omega | ((repeat' split) <;> (dsimp only [Ins.zero]; omega))
  · intro c h
    rw [clr_same (by omega) (by omega)]
    have e := csr_word x c
    revert h
    unfold sysOf
    (repeat' split) <;> intro h
    all_goals first | (exfalso; dsimp only [Ins.zero] at h; omega) | skip
    all_goals first | exact absurd ‹false = true› (by decide) | exact absurd rfl ‹¬ true = true› | (dsimp only; first | exact e | (rw [show fi x 14 12 - 4 + 4 = fi x 14 12 by omega]; exact e) | (simpa using e))
  · intro h; exfalso; dsimp only [Ins.zero] at h; omega
theorem csr_in (x : BitVec 32) (h : (decOf x).op = 19) : 0 ≤ (decOf x).csr ∧ (decOf x).csr ≤ 4095 ∧ 1 ≤ (decOf x).fn ∧ (decOf x).fn ≤ 3 := by
  have h1 := num_ops x false
  have h2 := num_ops x true
  have h3 := reg_ops x false
  have h4 := reg_ops x true
  have h5 := amo_ops x
  obtain ⟨h0, -, p1, p2, p3, p4, -⟩ := f7_parts x
  have f3 := f3_cases x
  revert h
  refine dec_elim (P := fun i => i.op = 19 → 0 ≤ i.csr ∧ i.csr ≤ 4095 ∧ 1 ≤ i.fn ∧ i.fn ≤ 3) x ?_ ?_ ?_ ?_ ?_ ?_ ?_ ?_ ?_ ?_ ?_ ?_ ?_ ?_ ?_
  all_goals first | (intro c h; exfalso; revert h; first | omega | ((repeat' split) <;> (dsimp only [Ins.zero]; omega)); done) | (intro h; exfalso; dsimp only [Ins.zero] at h; omega) | skip
  intro c
  unfold sysOf
  (repeat' split) <;> intro h
  all_goals first | (exfalso; dsimp only [Ins.zero] at h; omega) | (dsimp only; omega)
theorem amo_in (x : BitVec 32) (h : (decOf x).op = 22) : 0 ≤ (decOf x).fn ∧ (decOf x).fn ≤ 31 := by
  have h1 := num_ops x false
  have h2 := num_ops x true
  have h3 := reg_ops x false
  have h4 := reg_ops x true
  have h6 := sys_ops x
  obtain ⟨h0, h00, p1, p2, p3, p4, p5, p6⟩ := f7_parts x
  revert h
  refine dec_elim (P := fun i => i.op = 22 → 0 ≤ i.fn ∧ i.fn ≤ 31) x ?_ ?_ ?_ ?_ ?_ ?_ ?_ ?_ ?_ ?_ ?_ ?_ ?_ ?_ ?_
  all_goals first | (intro c h; exfalso; revert h; first | omega | ((repeat' split) <;> (dsimp only [Ins.zero]; omega)); done) | (intro h; exfalso; dsimp only [Ins.zero] at h; omega) | skip
  intro c
  unfold amoOf
  (repeat' split) <;> intro h
  all_goals first | (exfalso; dsimp only [Ins.zero] at h; omega) | (dsimp only; omega)
end Go.Proofs.YtjnalgilkdoalaaDoor
