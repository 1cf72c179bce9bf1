/- What instructions hold: bounds, and which registers play a part. Plain lemmas. Conditions: none. -/
import Derived.Test.YtjnalgilkdoalaaDoorEncQ
namespace Go.Proofs.YtjnalgilkdoalaaDoor
open Go.RowKit
set_option linter.unusedSimpArgs false
set_option linter.unusedVariables false

theorem block_in {w : World} {i : Nat} {v : Value} (h : w.cell? ⟨0, i, none⟩ = some v) : 0 < w.heap.size := by
  rcases Nat.eq_zero_or_pos w.heap.size with h0 | h0
  · have e : w.heap[0]? = none := Array.getElem?_eq_none (by omega)
    simp [World.cell?, e] at h
  · exact h0
/-- which fields an instruction may hold -/
def Roles (i : Ins) : Prop :=
  (0 ≤ i.fn ∧ i.fn ≤ 31) ∧ (0 ≤ i.csr ∧ i.csr ≤ 4095) ∧ (i.ui = true → i.op = 19) ∧
  (i.rs1 = 0 ∨ i.op = 4 ∨ i.op = 5 ∨ i.op = 6 ∨ i.op = 7 ∨ i.op = 8 ∨ i.op = 9 ∨ i.op = 10 ∨ i.op = 18 ∨ i.op = 19 ∨ i.op = 20 ∨ i.op = 21 ∨ i.op = 22) ∧
  (i.rs2 = 0 ∨ i.op = 5 ∨ i.op = 7 ∨ i.op = 9 ∨ i.op = 10 ∨ i.op = 18 ∨ i.op = 21 ∨ i.op = 22) ∧
  (i.rd = 0 ∨ (i.op ≠ 5 ∧ i.op ≠ 7 ∧ (i.op = 19 ∨ serOf i.op = false)))
theorem zero_roles : Roles Ins.zero := ⟨by decide, by decide, by simp [Ins.zero], .inl rfl, .inl rfl, .inl rfl⟩
theorem num_roles (x : BitVec 32) (wd : Bool) : Roles (numOf x wd) := by
  obtain ⟨q0, q00, p1, p2, p3, p4, p5, p6⟩ := f7_parts x
  have f3 := f3_cases x
  unfold numOf; (repeat' split)
  all_goals first | exact zero_roles | (refine ⟨by dsimp only; omega, by dsimp only; omega, ?_, ?_, ?_, ?_⟩ <;> first | (intro h; cases h; done) | exact .inl rfl | exact .inr ⟨by dsimp only; decide, by dsimp only; decide, by first | exact .inl rfl | exact .inr rfl⟩ | (dsimp only; simp; done))
theorem reg_roles (x : BitVec 32) (wd : Bool) : Roles (regOf x wd) := by
  obtain ⟨q0, q00, p1, p2, p3, p4, p5, p6⟩ := f7_parts x
  have f3 := f3_cases x
  unfold regOf; (repeat' split)
  all_goals first | exact zero_roles | (refine ⟨by dsimp only; omega, by dsimp only; omega, ?_, ?_, ?_, ?_⟩ <;> first | (intro h; cases h; done) | exact .inl rfl | exact .inr ⟨by dsimp only; decide, by dsimp only; decide, by first | exact .inl rfl | exact .inr rfl⟩ | (dsimp only; simp; done))
theorem amo_roles (x : BitVec 32) : Roles (amoOf x) := by
  obtain ⟨q0, q00, p1, p2, p3, p4, p5, p6⟩ := f7_parts x
  have f3 := f3_cases x
  unfold amoOf; (repeat' split)
  all_goals first | exact zero_roles | (refine ⟨by dsimp only; omega, by dsimp only; omega, ?_, ?_, ?_, ?_⟩ <;> first | (intro h; cases h; done) | exact .inl rfl | exact .inr ⟨by dsimp only; decide, by dsimp only; decide, by first | exact .inl rfl | exact .inr rfl⟩ | (dsimp only; simp; done))
theorem sys_roles (x : BitVec 32) : Roles (sysOf x) := by
  obtain ⟨q0, q00, p1, p2, p3, p4, p5, p6⟩ := f7_parts x
  have f3 := f3_cases x
  unfold sysOf; (repeat' split)
  all_goals first | exact zero_roles | (refine ⟨by dsimp only; omega, by dsimp only; omega, ?_, ?_, ?_, ?_⟩ <;> first | (intro h; cases h; done) | exact .inl rfl | exact .inr ⟨by dsimp only; decide, by dsimp only; decide, by first | exact .inl rfl | exact .inr rfl⟩ | (dsimp only; simp; done))
theorem dec_roles (x : BitVec 32) : Roles (decOf x) := by
  have f3 := f3_cases x
  refine dec_elim (P := Roles) x ?_ ?_ ?_ ?_ ?_ ?_ ?_ ?_ ?_ ?_ ?_ ?_ ?_ ?_ ?_
  all_goals (try intro c)
  all_goals (repeat' split)
  all_goals first | exact num_roles x _ | exact reg_roles x _ | exact amo_roles x | exact sys_roles x | skip
  all_goals first | exact zero_roles | (refine ⟨by dsimp only; omega, by dsimp only; omega, ?_, ?_, ?_, ?_⟩ <;> first | (intro h; cases h; done) | exact .inl rfl | exact .inr ⟨by dsimp only; decide, by dsimp only; decide, by first | exact .inl rfl | exact .inr rfl⟩ | (dsimp only; simp; done))
theorem dec_i64 (x : BitVec 32) : I64 (decOf x).op ∧ I64 (decOf x).fn ∧ I64 (decOf x).rd ∧ I64 (decOf x).rs1 ∧ I64 (decOf x).rs2 ∧ I64 (decOf x).size ∧ I64 (decOf x).csr := by
  obtain ⟨⟨f1, f2⟩, ⟨k1, k2⟩, -⟩ := dec_roles x
  rcases dec_ins x with e | ⟨g1, g2, g3, ⟨g4, g5⟩, ⟨g6, g7⟩, ⟨g8, g9⟩, -⟩
  · rw [e]; unfold Ins.zero I64; dsimp only; omega
  · unfold I64; omega
/-- when what is written is there -/
def whenOf (o d : Int) : Int := if d = 0 then 0 else if o = 6 ∨ o = 19 ∨ o = 20 ∨ o = 21 ∨ o = 22 then 2 else 1
end Go.Proofs.YtjnalgilkdoalaaDoor
