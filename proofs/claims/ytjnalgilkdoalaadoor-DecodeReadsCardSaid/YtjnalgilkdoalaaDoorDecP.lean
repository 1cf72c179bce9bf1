/- The table of package decode, looked at: what each instruction is, and which bits play no part. Plain lemmas. Conditions: none. -/
import Derived.Test.YtjnalgilkdoalaaDoorKinds
namespace Go.Proofs.YtjnalgilkdoalaaDoor
open Go.RowKit
set_option linter.unusedSimpArgs false

theorem fi_same {x y : BitVec 32} (hi lo : Nat) (h : ∀ i, lo ≤ i → i ≤ hi → y.getLsbD i = x.getLsbD i) : fi y hi lo = fi x hi lo := by
  unfold fi
  congr 1
  apply BitVec.eq_of_getLsbD_eq; intro i hi'
  rw [fld_bit, fld_bit, zx_bit, zx_bit]
  by_cases c : Ends (hi : Int) (lo : Int) ∧ (i : Int) ≤ (hi : Int) - lo
  · rw [decide_eq_true c, Int.toNat_natCast, h (lo + i) (by omega) (by have := c.2; omega)]
  · rw [decide_eq_false c]; rfl
/-- what plays no part in an atomic operation -/
theorem amo_same {x y : BitVec 32} (h : ∀ i, i < 25 ∨ 27 ≤ i → y.getLsbD i = x.getLsbD i) : amoOf y = amoOf x := by
  have e3 : fi y 14 12 = fi x 14 12 := fi_same 14 12 (fun i _ _ => h i (by omega))
  have e5 : fi y 31 27 = fi x 31 27 := fi_same 31 27 (fun i _ _ => h i (by omega))
  have e2 : fi y 24 20 = fi x 24 20 := fi_same 24 20 (fun i _ _ => h i (by omega))
  have e1 : fi y 19 15 = fi x 19 15 := fi_same 19 15 (fun i _ _ => h i (by omega))
  have e0 : fi y 11 7 = fi x 11 7 := fi_same 11 7 (fun i _ _ => h i (by omega))
  unfold amoOf
  rw [e3, e5, e2, e1, e0]
/-- the table, row for row -/
theorem dec_elim {P : Ins → Prop} (x : BitVec 32)
    (h55 : fi x 6 0 = 55 → P (⟨1, 0, fi x 11 7, 0, 0, immOf (zx x) LU, 0, false, false, false, 0⟩))
    (h23 : fi x 6 0 = 23 → P (⟨2, 0, fi x 11 7, 0, 0, immOf (zx x) LU, 0, false, false, false, 0⟩))
    (h111 : fi x 6 0 = 111 → P (⟨3, 0, fi x 11 7, 0, 0, immOf (zx x) LJ, 0, false, false, false, 0⟩))
    (h103 : fi x 6 0 = 103 → P ((if fi x 14 12 = 0 then ⟨4, 0, fi x 11 7, fi x 19 15, 0, immOf (zx x) LI, 0, false, false, false, 0⟩ else Ins.zero)))
    (h99 : fi x 6 0 = 99 → P ((if fi x 14 12 = 2 ∨ fi x 14 12 = 3 then Ins.zero else ⟨5, fi x 14 12, 0, fi x 19 15, fi x 24 20, immOf (zx x) LB, 0, false, false, false, 0⟩)))
    (h3 : fi x 6 0 = 3 → P ((if fi x 14 12 = 7 then Ins.zero else ⟨6, 0, fi x 11 7, fi x 19 15, 0, immOf (zx x) LI, if fi x 14 12 = 0 ∨ fi x 14 12 = 4 then 1 else if fi x 14 12 = 1 ∨ fi x 14 12 = 5 then 2 else if fi x 14 12 = 2 ∨ fi x 14 12 = 6 then 4 else 8, decide (fi x 14 12 < 4), false, false, 0⟩)))
    (h35 : fi x 6 0 = 35 → P ((if fi x 14 12 < 4 then ⟨7, 0, 0, fi x 19 15, fi x 24 20, immOf (zx x) LS, if fi x 14 12 = 0 then 1 else if fi x 14 12 = 1 then 2 else if fi x 14 12 = 2 then 4 else 8, false, false, false, 0⟩ else Ins.zero)))
    (h15 : fi x 6 0 = 15 → P ((if fi x 14 12 = 0 then ⟨11, 0, 0, 0, 0, 0, 0, false, false, false, 0⟩ else if fi x 14 12 = 1 then ⟨12, 0, 0, 0, 0, 0, 0, false, false, false, 0⟩ else Ins.zero)))
    (h19 : fi x 6 0 = 19 → P (numOf x false))
    (h27 : fi x 6 0 = 27 → P (numOf x true))
    (h51 : fi x 6 0 = 51 → P (regOf x false))
    (h59 : fi x 6 0 = 59 → P (regOf x true))
    (h47 : fi x 6 0 = 47 → P (amoOf x))
    (h115 : fi x 6 0 = 115 → P (sysOf x))
    (hn : P Ins.zero) : P (decOf x) := by
  unfold decOf
  by_cases c55 : fi x 6 0 = 55
  · rw [if_pos c55]; exact h55 c55
  rw [if_neg c55]
  by_cases c23 : fi x 6 0 = 23
  · rw [if_pos c23]; exact h23 c23
  rw [if_neg c23]
  by_cases c111 : fi x 6 0 = 111
  · rw [if_pos c111]; exact h111 c111
  rw [if_neg c111]
  by_cases c103 : fi x 6 0 = 103
  · rw [if_pos c103]; exact h103 c103
  rw [if_neg c103]
  by_cases c99 : fi x 6 0 = 99
  · rw [if_pos c99]; exact h99 c99
  rw [if_neg c99]
  by_cases c3 : fi x 6 0 = 3
  · rw [if_pos c3]; exact h3 c3
  rw [if_neg c3]
  by_cases c35 : fi x 6 0 = 35
  · rw [if_pos c35]; exact h35 c35
  rw [if_neg c35]
  by_cases c15 : fi x 6 0 = 15
  · rw [if_pos c15]; exact h15 c15
  rw [if_neg c15]
  by_cases c19 : fi x 6 0 = 19
  · rw [if_pos c19]; exact h19 c19
  rw [if_neg c19]
  by_cases c27 : fi x 6 0 = 27
  · rw [if_pos c27]; exact h27 c27
  rw [if_neg c27]
  by_cases c51 : fi x 6 0 = 51
  · rw [if_pos c51]; exact h51 c51
  rw [if_neg c51]
  by_cases c59 : fi x 6 0 = 59
  · rw [if_pos c59]; exact h59 c59
  rw [if_neg c59]
  by_cases c47 : fi x 6 0 = 47
  · rw [if_pos c47]; exact h47 c47
  rw [if_neg c47]
  by_cases c115 : fi x 6 0 = 115
  · rw [if_pos c115]; exact h115 c115
  rw [if_neg c115]
  exact hn
theorem dec_amo {x : BitVec 32} (h : fi x 6 0 = 47) : decOf x = amoOf x := by unfold decOf; simp [h]
theorem dec_fence {x : BitVec 32} (h : fi x 6 0 = 15) : decOf x = (if fi x 14 12 = 0 then ⟨11, 0, 0, 0, 0, 0, 0, false, false, false, 0⟩ else if fi x 14 12 = 1 then ⟨12, 0, 0, 0, 0, 0, 0, false, false, false, 0⟩ else Ins.zero) := by unfold decOf; simp [h]
theorem num_ops (x : BitVec 32) (wd : Bool) : (numOf x wd).op = 0 ∨ (numOf x wd).op = 8 := by
  unfold numOf; repeat' split
  all_goals first | exact .inl rfl | exact .inr rfl
theorem reg_ops (x : BitVec 32) (wd : Bool) : (regOf x wd).op = 0 ∨ (regOf x wd).op = 9 ∨ (regOf x wd).op = 10 := by
  unfold regOf; repeat' split
  all_goals first | exact .inl rfl | exact .inr (.inl rfl) | exact .inr (.inr rfl)
theorem amo_ops (x : BitVec 32) : (amoOf x).op = 0 ∨ (amoOf x).op = 20 ∨ (amoOf x).op = 21 ∨ (amoOf x).op = 22 := by
  unfold amoOf; repeat' split
  all_goals first | exact .inl rfl | exact .inr (.inl rfl) | exact .inr (.inr (.inl rfl)) | exact .inr (.inr (.inr rfl))
theorem sys_ops (x : BitVec 32) : (sysOf x).op = 0 ∨ (sysOf x).op = 13 ∨ (sysOf x).op = 14 ∨ (sysOf x).op = 15 ∨ (sysOf x).op = 16 ∨ (sysOf x).op = 17 ∨ (sysOf x).op = 18 ∨ (sysOf x).op = 19 := by
  unfold sysOf; repeat' split
  all_goals first | exact .inl rfl | simp
/-- the opcode of what an instruction is -/
theorem op_code (x : BitVec 32) :
    ((decOf x).op = 20 ∨ (decOf x).op = 21 ∨ (decOf x).op = 22 → fi x 6 0 = 47) ∧ ((decOf x).op = 11 ∨ (decOf x).op = 12 → fi x 6 0 = 15) := by
  have h1 := num_ops x false
  have h2 := num_ops x true
  have h3 := reg_ops x false
  have h4 := reg_ops x true
  have h5 := amo_ops x
  have h6 := sys_ops x
  refine dec_elim (P := fun i => (i.op = 20 ∨ i.op = 21 ∨ i.op = 22 → fi x 6 0 = 47) ∧ (i.op = 11 ∨ i.op = 12 → fi x 6 0 = 15)) x ?_ ?_ ?_ ?_ ?_ ?_ ?_ ?_ ?_ ?_ ?_ ?_ ?_ ?_ ?_
  all_goals (try intro c)
  all_goals (repeat' split)
  all_goals first | omega | (dsimp only [Ins.zero]; omega)
theorem xor_bit (x b : BitVec 32) (m i : Nat) (h : (BitVec.ofNat 32 m).getLsbD i = false) : (x ^^^ (b &&& BitVec.ofNat 32 m)).getLsbD i = x.getLsbD i := by
  rw [BitVec.getLsbD_xor, BitVec.getLsbD_and, h]; simp
theorem order_amo (x b : BitVec 32) (h : (decOf x).op = 20 ∨ (decOf x).op = 21 ∨ (decOf x).op = 22) : decOf (x ^^^ (b &&& 0x06000000#32)) = decOf x := by
  have ho := (op_code x).1 h
  have hs : ∀ i, i < 25 ∨ 27 ≤ i → (x ^^^ (b &&& 0x06000000#32)).getLsbD i = x.getLsbD i := by
    intro i hi
    refine xor_bit x b 0x06000000 i ?_
    by_cases c : i < 32
    · have hall : ∀ i : Fin 32, (i.val < 25 ∨ 27 ≤ i.val) → (BitVec.ofNat 32 0x06000000).getLsbD i.val = false := by decide +kernel
      exact hall ⟨i, c⟩ hi
    · exact BitVec.getLsbD_of_ge _ _ (by omega)
  have e : fi (x ^^^ (b &&& 0x06000000#32)) 6 0 = fi x 6 0 := fi_same 6 0 (fun i _ _ => hs i (by omega))
  rw [dec_amo ho, dec_amo (e.trans ho), amo_same hs]
theorem order_fence (x b : BitVec 32) (h : (decOf x).op = 11 ∨ (decOf x).op = 12) : decOf (x ^^^ (b &&& ~~~28799#32)) = decOf x := by
  have ho := (op_code x).2 h
  have hs : ∀ i, i < 7 ∨ (12 ≤ i ∧ i < 15) → (x ^^^ (b &&& ~~~28799#32)).getLsbD i = x.getLsbD i := by
    intro i hi
    rw [BitVec.getLsbD_xor, BitVec.getLsbD_and]
    have hall : ∀ i : Fin 32, (i.val < 7 ∨ (12 ≤ i.val ∧ i.val < 15)) → (~~~28799#32).getLsbD i.val = false := by decide +kernel
    rw [hall ⟨i, by omega⟩ hi]; simp
  have e : fi (x ^^^ (b &&& ~~~28799#32)) 6 0 = fi x 6 0 := fi_same 6 0 (fun i _ _ => hs i (by omega))
  have e3 : fi (x ^^^ (b &&& ~~~28799#32)) 14 12 = fi x 14 12 := fi_same 14 12 (fun i _ _ => hs i (by omega))
  rw [dec_fence ho, dec_fence (e.trans ho), e3]

theorem low2_test {x : BitVec 32} (h : x.toNat % 4 = 3) : (bits .and .u32 (q x) 3 == 3) = true := by
  have e : x &&& 3#32 = 3#32 := by
    apply BitVec.eq_of_toNat_eq
    rw [BitVec.toNat_and, show (3#32).toNat = 2 ^ 2 - 1 by rfl, Nat.and_two_pow_sub_one_eq_mod]
    exact h
  rw [show (3 : Int) = q 3#32 by rfl, q_and, q_beq, e]; rfl
/-- what holds of an instruction -/
def Good (i : Ins) : Prop :=
  0 < i.op ∧ i.op ≤ 22 ∧ (i.size = 0 ∨ i.size = 1 ∨ i.size = 2 ∨ i.size = 4 ∨ i.size = 8) ∧ (0 ≤ i.rd ∧ i.rd < 32) ∧ (0 ≤ i.rs1 ∧ i.rs1 < 32) ∧ (0 ≤ i.rs2 ∧ i.rs2 < 32) ∧ decide (0 < i.size) = memOf i.op
theorem regs_in (x : BitVec 32) : (0 ≤ fi x 11 7 ∧ fi x 11 7 < 32) ∧ (0 ≤ fi x 19 15 ∧ fi x 19 15 < 32) ∧ (0 ≤ fi x 24 20 ∧ fi x 24 20 < 32) := by
  have h1 : fi x 11 7 = ((x.toNat / 2 ^ 7 % 2 ^ 5 : Nat) : Int) := fi_nat x 11 7 (by omega) (by omega)
  have h2 : fi x 19 15 = ((x.toNat / 2 ^ 15 % 2 ^ 5 : Nat) : Int) := fi_nat x 19 15 (by omega) (by omega)
  have h3 : fi x 24 20 = ((x.toNat / 2 ^ 20 % 2 ^ 5 : Nat) : Int) := fi_nat x 24 20 (by omega) (by omega)
  omega
theorem zero_in : (0 : Int) ≤ 0 ∧ (0 : Int) < 32 := by omega
theorem num_good (x : BitVec 32) (wd : Bool) : numOf x wd = Ins.zero ∨ Good (numOf x wd) := by
  obtain ⟨h1, h2, h3⟩ := regs_in x
  unfold numOf; repeat' split
  all_goals first | exact .inl rfl | exact .inr ⟨by simp, by simp, by simp, h1, h2, zero_in, rfl⟩
theorem reg_good (x : BitVec 32) (wd : Bool) : regOf x wd = Ins.zero ∨ Good (regOf x wd) := by
  obtain ⟨h1, h2, h3⟩ := regs_in x
  unfold regOf; repeat' split
  all_goals first | exact .inl rfl | exact .inr ⟨by simp, by simp, by simp, h1, h2, h3, rfl⟩
theorem amo_good (x : BitVec 32) : amoOf x = Ins.zero ∨ Good (amoOf x) := by
  obtain ⟨h1, h2, h3⟩ := regs_in x
  unfold amoOf; repeat' split
  all_goals first | exact .inl rfl | exact .inr ⟨by simp, by simp, by simp, h1, h2, h3, rfl⟩ | exact .inr ⟨by simp, by simp, by simp, h1, h2, zero_in, rfl⟩
theorem sys_good (x : BitVec 32) : sysOf x = Ins.zero ∨ Good (sysOf x) := by
  obtain ⟨h1, h2, h3⟩ := regs_in x
  unfold sysOf; repeat' split
  all_goals first | exact .inl rfl | exact .inr ⟨by simp, by simp, by simp, zero_in, zero_in, zero_in, rfl⟩ | exact .inr ⟨by simp, by simp, by simp, zero_in, h2, h3, rfl⟩ | exact .inr ⟨by simp, by simp, by simp, h1, h2, zero_in, rfl⟩
theorem dec_ins (x : BitVec 32) : decOf x = Ins.zero ∨ Good (decOf x) := by
  obtain ⟨h1, h2, h3⟩ := regs_in x
  refine dec_elim (P := fun i => i = Ins.zero ∨ Good i) x ?_ ?_ ?_ ?_ ?_ ?_ ?_ ?_ ?_ ?_ ?_ ?_ ?_ ?_ ?_
  all_goals (try intro c)
  all_goals (repeat' split)
  all_goals first | exact .inl rfl | exact num_good x _ | exact reg_good x _ | exact amo_good x | exact sys_good x | exact .inr ⟨by simp, by simp, by simp, h1, zero_in, zero_in, rfl⟩ | exact .inr ⟨by simp, by simp, by simp, h1, h2, zero_in, rfl⟩ | exact .inr ⟨by simp, by simp, by simp, zero_in, h2, h3, rfl⟩ | exact .inr ⟨by simp, by simp, by simp, zero_in, zero_in, zero_in, rfl⟩
theorem dec_low (x : BitVec 32) : decOf x = Ins.zero ∨ x.toNat % 4 = 3 := by
  by_cases c : x.toNat % 4 = 3
  · exact .inr c
  · have hop : fi x 6 0 = ((x.toNat / 2 ^ 0 % 2 ^ 7 : Nat) : Int) := fi_nat x 6 0 (by omega) (by omega)
    left
    unfold decOf
    repeat rw [if_neg (by omega)]
theorem dec_good (x : BitVec 32) : decOf x = Ins.zero ∨ (Good (decOf x) ∧ x.toNat % 4 = 3) := by
  rcases dec_ins x with h | h
  · exact .inl h
  · rcases dec_low x with h' | h'
    · exact .inl h'
    · exact .inr ⟨h, h'⟩
end Go.Proofs.YtjnalgilkdoalaaDoor
