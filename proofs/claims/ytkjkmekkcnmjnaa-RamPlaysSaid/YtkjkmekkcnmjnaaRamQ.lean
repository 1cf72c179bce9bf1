/- Copies with room behind them: bytes and bools; operations that are guarded. Conditions: named at each. -/
import Derived.Test.YtkjkmekkcnmjnaaRamPu
namespace Go.Proofs.Ytkjkmekkcnmjnaa
open Go.RowKit
set_option linter.unusedVariables false
set_option maxRecDepth 100000

section
variable {P : Program} {ops : Array Oper} {Q : Exit → Act → World → Prop}
theorem wpOp_if {i : Nat} {o : Oper} {a : Act} {w : World} {K : Act → World → Prop} (hi : ops[i]? = some o) (hg : Region.wanted o (yielded ops a.tmps) = true) (h : o.wp P a w K Q) : wpOp P ops Q i K a w := by
  unfold wpOp
  rw [hi]
  simp only
  rw [if_pos hg]
  exact .inl h
theorem wanted_of {o oj : Oper} {a : Act} {j d : Nat} {b : Bool} (hg : o.guard = some (j, b)) (hj : ops[j]? = some oj) (hd : oj.dst = some d) (hv : a.eval (.tmp d) = .bool b) : Region.wanted o (yielded ops a.tmps) = true := by
  have h1 : a.tmps[d]? = some (.bool b) := by
    have h2 : a.tmps.getD d undef = .bool b := hv
    rw [Array.getD_eq_getD_getElem?] at h2
    cases h3 : a.tmps[d]? with
    | none => rw [h3] at h2; cases h2
    | some x => rw [h3] at h2; exact congrArg some h2
  unfold Region.wanted yielded
  rw [hg]
  simp only [hj, hd, Option.bind_some, h1, beq_self_eq_true]
theorem wp_pick_at {o : Oper} {a : Act} {w : World} {K : Act → World → Prop} {x y z : Operand} {v : Value} (ho : o.op = .pick x y z) (hx : a.eval x = .bool true) (hy : a.eval y = v) (hk : K (a.put o.dst v) w) : o.wp P a w K Q :=
  wp_val (by unfold execOp; simp only [ho, hx, hy]; go_simp) hk
end
theorem On.but_new {B : Nat} {a b c : World} (h : On a b) (hB : a.heap.size ≤ B) (k : But B b c) : On a c :=
  ⟨k.os.trans h.os, k.tape.trans h.tape, k.output.trans h.output, Nat.le_trans h.size k.size, fun i hi => (k.block i (Nat.lt_of_lt_of_le hi h.size) (by omega)).trans (h.block i hi)⟩
/-- bytes of its own, with three more behind -/
def OwnC (g : Nat) (zs : List Int) (w : World) : Prop := ∃ cur : Array Value, w.heap[g]? = some (.cells cur 5 (0, 0)) ∧ (∀ j, j < zs.length → cur[j]? = some (.int .u8 (zs.getD j 0))) ∧ ∀ j, zs.length ≤ j → j < zs.length + 3 → cur[j]? = some (.int .u8 71)
/-- bools of its own, with three more behind -/
def OwnD (g : Nat) (zs : List Bool) (w : World) : Prop := ∃ cur : Array Value, w.heap[g]? = some (.cells cur 4 (0, 0)) ∧ (∀ j, j < zs.length → cur[j]? = some (.bool (zs.getD j false))) ∧ ∀ j, zs.length ≤ j → j < zs.length + 3 → cur[j]? = some (.bool true)
section
variable {g n m len : Nat} {zs : List Int} {bs : List Bool} {w w' w0 : World} {s t : Value}
theorem OwnC.on (h : OwnC g zs w) (k : On w w') : OwnC g zs w' := by obtain ⟨c, h1, h2⟩ := h; exact ⟨c, k.keep h1, h2⟩
theorem OwnC.kp (h : OwnC g zs w) (k : Kp 64 n w w') : OwnC g zs w' := by obtain ⟨c, h1, h2⟩ := h; exact ⟨c, k.keep h1 (by decide), h2⟩
theorem OwnC.kr (h : OwnC g zs w) (k : Kr m w w') : OwnC g zs w' := by obtain ⟨c, h1, h2⟩ := h; exact ⟨c, k.keep h1 (by decide) (by decide), h2⟩
theorem OwnD.on (h : OwnD g bs w) (k : On w w') : OwnD g bs w' := by obtain ⟨c, h1, h2⟩ := h; exact ⟨c, k.keep h1, h2⟩
theorem OwnD.kp (h : OwnD g bs w) (k : Kp 64 n w w') : OwnD g bs w' := by obtain ⟨c, h1, h2⟩ := h; exact ⟨c, k.keep h1 (by decide), h2⟩
theorem OwnD.kr (h : OwnD g bs w) (k : Kr m w w') : OwnD g bs w' := by obtain ⟨c, h1, h2⟩ := h; exact ⟨c, k.keep h1 (by decide) (by decide), h2⟩
theorem OwnC.rb (h : OwnC g zs w) (hl : zs.length ≤ 140737488351232) : RB w (.slice (some ⟨g, 0, none⟩) zs.length (zs.length + 3)) zs := by
  obtain ⟨cur, h1, h2, _⟩ := h
  by_cases h0 : zs = []
  · subst h0; exact .inl ⟨_, _, rfl, rfl, fun h => by cases h⟩
  · have hp : 0 < zs.length := List.length_pos_iff.2 h0
    refine .inr ⟨g, 0, _, rfl, hp, by omega, by omega, fun k hk => ?_⟩
    rw [Nat.zero_add, cell_of_row w _ k cur _ _ h1]; exact h2 k hk
theorem OwnD.rb (h : OwnD g bs w) (hl : bs.length ≤ 140737488351232) : Bl.RB w (.slice (some ⟨g, 0, none⟩) bs.length (bs.length + 3)) bs := by
  obtain ⟨cur, h1, h2, _⟩ := h
  by_cases h0 : bs = []
  · subst h0; exact .inl ⟨_, _, rfl, rfl, fun h => by cases h⟩
  · have hp : 0 < bs.length := List.length_pos_iff.2 h0
    refine .inr ⟨g, 0, _, rfl, hp, by omega, by omega, fun k hk => ?_⟩
    rw [Nat.zero_add, cell_of_row w _ k cur _ _ h1]; exact h2 k hk
theorem OwnC.src (h : OwnC g zs w) (hl : zs.length ≤ 140737488351232) : Src n w (.slice (some ⟨g, 0, none⟩) zs.length (zs.length + 3)) zs.length (fun i => zs.getD i 0) := by
  obtain ⟨cur, h1, h2, _⟩ := h
  by_cases h0 : zs.length = 0
  · rw [h0]; exact .inl ⟨_, _, rfl, rfl⟩
  · refine .inr ⟨g, 0, _, rfl, by omega, by omega, by omega, .of_cells h1 (by decide), fun k hk => ?_⟩
    rw [Nat.zero_add, cell_of_row w _ k cur _ _ h1]; exact h2 k hk
theorem OwnD.src (h : OwnD g bs w) (hl : bs.length ≤ 140737488351232) : SrcB n w (.slice (some ⟨g, 0, none⟩) bs.length (bs.length + 3)) bs.length (fun i => bs.getD i false) := by
  obtain ⟨cur, h1, h2, _⟩ := h
  by_cases h0 : bs.length = 0
  · rw [h0]; exact .inl ⟨_, _, rfl, rfl⟩
  · refine .inr ⟨g, 0, _, rfl, by omega, by omega, .of_cells h1 (by decide), fun k hk => ?_⟩
    rw [Nat.zero_add, cell_of_row w _ k cur _ _ h1]; exact h2 k hk
theorem RB.on0 (h : RB w s zs) (k : On w w') : RB w' s zs := RB.below h k
theorem RB.srcR (h : RB w0 s zs) (k : On w0 w) (hm : w0.heap.size ≤ m) : SrcR m w s zs.length (fun i => zs.getD i 0) := by
  rcases h with ⟨a, c, rfl, rfl, _⟩ | ⟨b, off, c, rfl, h1, h2, h3, h4⟩
  · exact .inl ⟨_, _, rfl, rfl⟩
  · have hb := block_of_cell (h4 0 h1)
    simp only at hb
    exact .inr ⟨b, off, c, rfl, h1, ⟨by have := k.size; omega, .inl (by omega)⟩, fun i hi => (Below.cell k (p := ⟨b, off + i, none⟩) hb).trans (h4 i hi)⟩
theorem RB.srcRB (h : Bl.RB w0 s bs) (k : On w0 w) (hm : w0.heap.size ≤ m) : SrcRB m w s bs.length (fun i => bs.getD i false) := by
  rcases h with ⟨a, c, rfl, rfl, _⟩ | ⟨b, off, c, rfl, h1, h2, h3, h4⟩
  · exact .inl ⟨_, _, rfl, rfl⟩
  · have hb := block_of_cell (h4 0 h1)
    simp only at hb
    exact .inr ⟨b, off, c, rfl, h1, ⟨by have := k.size; omega, .inl (by omega)⟩, fun i hi => (Below.cell k (p := ⟨b, off + i, none⟩) hb).trans (h4 i hi)⟩
theorem own_c (hs : RB w s zs) (hlen : zs.length ≤ 140737488351232) :
    Calls Try.prog 28 #[s, .int .u8 71] w fun e w' => ∃ g, w.heap.size ≤ g ∧ e = .returned (.slice (some ⟨g, 0, none⟩) zs.length (zs.length + 3)) ∧ On w w' ∧ OwnC g zs w' := by
  refine (own_any s zs 71 w hs hlen).mono ?_
  rintro e w' ⟨rfl, hb, cur, h1, h2, h3, h4⟩
  exact ⟨w.heap.size, Nat.le_refl _, rfl, hb, cur, h1, h3, h4⟩
theorem own_d (hs : Bl.RB w s bs) (hlen : bs.length ≤ 140737488351232) :
    Calls Try.prog 29 #[s, .bool true] w fun e w' => ∃ g, w.heap.size ≤ g ∧ e = .returned (.slice (some ⟨g, 0, none⟩) bs.length (bs.length + 3)) ∧ On w w' ∧ OwnD g bs w' := by
  refine (Bl.own_any s bs true w hs hlen).mono ?_
  rintro e w' ⟨rfl, hb, cur, h1, h2, h3, h4⟩
  exact ⟨w.heap.size, Nat.le_refl _, rfl, hb, cur, h1, h3, h4⟩
theorem kept_c (h : OwnC g zs w) (ht : RB w t zs) (hlen : zs.length ≤ 140737488351232) :
    Calls Try.prog 31 #[.slice (some ⟨g, 0, none⟩) zs.length (zs.length + 3), t, .int .u8 71] w fun e w' => e = .returned (.bool true) ∧ On w w' := by
  have h0 := h
  obtain ⟨cur, h1, _, h3⟩ := h0
  refine (kept_yes (h.rb hlen) ht hlen (fun j hj hk => by rw [cell_of_row w _ j cur _ _ h1]; exact h3 j hj hk)).mono ?_
  rintro e w' ⟨rfl, k, rfl⟩
  exact ⟨rfl, (On.refl w).drewN k⟩
theorem kept_d (h : OwnD g bs w) (ht : Bl.RB w t bs) (hlen : bs.length ≤ 140737488351232) :
    Calls Try.prog 32 #[.slice (some ⟨g, 0, none⟩) bs.length (bs.length + 3), t, .bool true] w fun e w' => e = .returned (.bool true) ∧ On w w' := by
  have h0 := h
  obtain ⟨cur, h1, _, h3⟩ := h0
  refine (Bl.kept_yes (h.rb hlen) ht hlen (fun j hj hk => by rw [cell_of_row w _ j cur _ _ h1]; exact h3 j hj hk)).mono ?_
  rintro e w' ⟨rfl, k, rfl⟩
  exact ⟨rfl, (On.refl w).drewN k⟩
theorem spoil_c (h : OwnC g zs w) (hz : Byte zs) (hlen : zs.length ≤ 140737488351232) :
    Calls Try.prog 33 #[.slice (some ⟨g, 0, none⟩) zs.length (zs.length + 3)] w fun e w' => e = .returned (.tuple #[]) ∧ But g w w' := by
  obtain ⟨cur, h1, h2, _⟩ := h
  exact spoil_row (by omega) h1 fun j hj => ⟨_, (hz j).1, (hz j).2, h2 j hj⟩
end
end Go.Proofs.Ytkjkmekkcnmjnaa
