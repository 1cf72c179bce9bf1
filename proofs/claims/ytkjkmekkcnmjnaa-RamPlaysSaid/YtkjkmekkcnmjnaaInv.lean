/- Regions that draw their order: an invariant over what is done already, an operation at a time. Plain lemmas, no program. Conditions: none. -/
import Derived.Test.YtkjkmekkcnmjnaaOn
import Derived.Orders
import Derived.WalkKit
import Derived.BigFrame
namespace Go.Proofs.Ytkjkmekkcnmjnaa
open Go.RowKit

section
variable {P : Program} {ops : Array Oper} {Q : Exit → Act → World → Prop} {md : Region.Mode}
/-- how many are still to be done -/
def todo (l : Array Bool) : Nat := l.toList.countP (· == false)
theorem todo_set (l : Array Bool) (i : Nat) (h : l.getD i true = false) : todo (l.setIfInBounds i true) + 1 = todo l := by
  have hi : i < l.size := by
    rcases Nat.lt_or_ge i l.size with h1 | h1
    · exact h1
    · rw [Array.getD_eq_getD_getElem?, Array.getElem?_eq_none h1] at h; cases h
  have hv : l.toList[i]'(by simpa using hi) = false := by
    rw [Array.getD_eq_getD_getElem?, Array.getElem?_eq_getElem hi] at h; simpa using h
  unfold todo
  rw [Array.toList_setIfInBounds]
  have e : l.toList = l.toList.take i ++ false :: l.toList.drop (i + 1) := by
    rw [← hv, ← List.drop_eq_getElem_cons, List.take_append_drop]
  have e2 : l.toList.set i true = l.toList.take i ++ true :: l.toList.drop (i + 1) := by
    rw [List.set_eq_take_append_cons_drop, if_pos (by simpa using hi)]
  rw [e2]
  conv => rhs; rw [e]
  simp [List.countP_append]
  omega
theorem ready_none {l : Array Bool} (hlex : ∀ (i : Nat) (o : Oper), ops[i]? = some o → ∀ e ∈ o.after, Region.binds md e = true → e.on < i) (hs : l.size = ops.size) (h : Region.ready md ops l = []) : ∀ i, i < ops.size → l.getD i true = true := by
  intro i
  induction i using Nat.strongRecOn with
  | ind i ih =>
    intro hi
    cases hl : l.getD i true with
    | true => rfl
    | false =>
      exfalso
      have hm : i ∈ Region.ready md ops l := by
        unfold Region.ready
        rw [List.mem_filter]
        refine ⟨List.mem_range.2 hi, ?_⟩
        rw [hl, Array.getElem?_eq_getElem hi]
        simp only [Bool.not_false, Bool.true_and, Option.map_some, Option.getD_some, Array.all_eq_true_iff_forall_mem]
        intro e he
        cases hb : Region.binds md e with
        | false => rfl
        | true =>
          have hlt := hlex i ops[i] (Array.getElem?_eq_getElem hi) e he hb
          have := ih e.on hlt (by omega)
          have h2 : l.getD e.on false = true := by
            rw [Array.getD_eq_getD_getElem?, Array.getElem?_eq_getElem (by omega)] at this ⊢
            simpa using this
          rw [h2]; rfl
      rw [h] at hm
      cases hm
theorem ready_spec {l : Array Bool} {i : Nat} (h : i ∈ Region.ready md ops l) : i < ops.size ∧ l.getD i true = false ∧ ∀ o, ops[i]? = some o → ∀ e ∈ o.after, Region.binds md e = true → l.getD e.on false = true := by
  unfold Region.ready at h
  rw [List.mem_filter] at h
  obtain ⟨h1, h2⟩ := h
  rw [Bool.and_eq_true] at h2
  refine ⟨List.mem_range.1 h1, by simpa using h2.1, ?_⟩
  intro o ho e he hb
  have h3 := h2.2
  rw [ho] at h3
  simp only [Option.map_some, Option.getD_some, Array.all_eq_true_iff_forall_mem] at h3
  have := h3 e he
  rw [hb] at this
  simpa using this
/-- the invariant I, of what is done, the frame and the world -/
theorem wpAny_inv (I : Array Bool → Act → World → Prop) (hlex : ∀ (i : Nat) (o : Oper), ops[i]? = some o → ∀ e ∈ o.after, Region.binds md e = true → e.on < i) (hsz : ∀ l a w, I l a w → l.size = ops.size)
    (hdone : ∀ l a w, I l a w → (∀ i, i < ops.size → l.getD i true = true) → Q .normal a w)
    (hstep : ∀ (i : Nat) (o : Oper), ops[i]? = some o → ∀ l a w, I l a w → l.getD i true = false → (∀ e ∈ o.after, Region.binds md e = true → l.getD e.on false = true) → wpOp P ops Q i (I (l.setIfInBounds i true)) a w) :
    ∀ (fuel : Nat) (l : Array Bool) (a : Act) (w : World), I l a w → todo l ≤ fuel → wpAny P md ops Q fuel l a w
  | 0, l, a, w, h, ht => by
    have hall : ∀ i, i < ops.size → l.getD i true = true := by
      intro i hi
      cases hl : l.getD i true with
      | true => rfl
      | false => have := todo_set l i hl; omega
    refine ⟨?_, hdone l a w h hall⟩
    cases hr : Region.ready md ops l with
    | nil => rfl
    | cons i rs =>
      have h2 := ready_spec (md := md) (ops := ops) (l := l) (i := i) (by rw [hr]; simp)
      rw [hall i h2.1] at h2
      cases h2.2.1
  | fuel + 1, l, a, w, h, ht => by
    refine ⟨fun hr => hdone l a w h (ready_none hlex (hsz l a w h) hr), ?_⟩
    intro i hi
    obtain ⟨h1, h2, h3⟩ := ready_spec hi
    refine wpOp_mono ?_ (hstep i ops[i] (Array.getElem?_eq_getElem h1) l a w h h2 (h3 _ (Array.getElem?_eq_getElem h1)))
    intro a' w' h'
    exact wpAny_inv I hlex hsz hdone hstep fuel _ a' w' h' (by have := todo_set l i h2; omega)
theorem lex_of (h : ((List.range ops.size).all fun i => (ops[i]?).all fun o => o.after.all fun e => !Region.binds .any e || decide (e.on < i)) = true) : ∀ (i : Nat) (o : Oper), ops[i]? = some o → ∀ e ∈ o.after, Region.binds .any e = true → e.on < i := by
  intro i o hi e he hb
  have hlt : i < ops.size := by
    rcases Nat.lt_or_ge i ops.size with h1 | h1
    · exact h1
    · rw [Array.getElem?_eq_none h1] at hi; cases hi
  have h1 := List.all_eq_true.1 h i (List.mem_range.2 hlt)
  rw [hi] at h1
  simp only [Option.all_some, Array.all_eq_true_iff_forall_mem] at h1
  have := h1 e he
  rw [hb] at this
  simpa using this
theorem todo_new (n : Nat) : todo (Array.replicate n false) ≤ n := by
  unfold todo
  have := List.countP_le_length (p := fun x : Bool => x == false) (l := (Array.replicate n false).toList)
  simpa using this
/-- a region that draws its order, by an invariant -/
theorem wp_region_inv {id : Nat} {a : Act} {w : World} (hm : P.follows .mixedOrders = true) (I : Array Bool → Act → World → Prop) (hlex : ∀ (i : Nat) (o : Oper), ops[i]? = some o → ∀ e ∈ o.after, Region.binds .any e = true → e.on < i) (hsz : ∀ l a w, I l a w → l.size = ops.size)
    (h0 : I (Array.replicate ops.size false) a { w with drawn := w.drawn + 1 })
    (hdone : ∀ l a w, I l a w → (∀ i, i < ops.size → l.getD i true = true) → Q .normal a w)
    (hstep : ∀ (i : Nat) (o : Oper), ops[i]? = some o → ∀ l a w, I l a w → l.getD i true = false → (∀ e ∈ o.after, Region.binds .any e = true → l.getD e.on false = true) → wpOp P ops Q i (I (l.setIfInBounds i true)) a w) :
    (Code.region id ops true).wp P Q a w :=
  wp_region_any hm (wpAny_inv I hlex hsz hdone hstep ops.size _ a _ h0 (todo_new _))
/-- one operation that is not guarded, in such a region -/
theorem wpOp_of {i : Nat} {o : Oper} {a : Act} {w : World} {K : Act → World → Prop} (hi : ops[i]? = some o) (hg : o.guard = none) (h : o.wp P a w K Q) : wpOp P ops Q i K a w := by
  unfold wpOp
  rw [hi]
  simp only
  rw [if_pos (by unfold Region.wanted; rw [hg])]
  exact .inl h
theorem wp_alloc_of {o : Oper} {a : Act} {w : World} {K : Act → World → Prop} {t : TypeId} {z : Array Value} (ho : o.op = .alloc t) (hz : (zeroValue t).run P w = .ok (.agg z) w)
    (h : K (a.put o.dst (.pointer (some ⟨w.heap.size, 0, none⟩))) (w.alloc (.cells z t))) : o.wp P a w K Q := by
  unfold Oper.wp execOp
  simp only [ho, Instr.alloc, Sem.run_bind, hz, Result.andThen_ok, Sem.run_pure]
  simp [newVar, newRow, Value.cells, newObj]
  exact h
end
/-! ### what is done -/
theorem g_self {l : Array Bool} {i : Nat} (h : i < l.size) : (l.setIfInBounds i true).getD i false = true := by
  rw [Array.getD_eq_getD_getElem?, Array.getElem?_setIfInBounds_self_of_lt h]; rfl
theorem g_eq {l : Array Bool} {i j : Nat} (h : i ≠ j) : (l.setIfInBounds i true).getD j false = l.getD j false := by
  rw [Array.getD_eq_getD_getElem?, Array.getElem?_setIfInBounds_ne h, Array.getD_eq_getD_getElem?]
theorem g_ne {l : Array Bool} {i j : Nat} (hne : i ≠ j) (h : (l.setIfInBounds i true).getD j false = true) : l.getD j false = true := by rwa [g_eq hne] at h
theorem g_mono {l : Array Bool} {i j : Nat} (h : l.getD j false = true) : (l.setIfInBounds i true).getD j false = true := by
  by_cases e : i = j
  · subst e
    refine g_self ?_
    rcases Nat.lt_or_ge i l.size with h1 | h1
    · exact h1
    · rw [Array.getD_eq_getD_getElem?, Array.getElem?_eq_none h1] at h; cases h
  · rw [g_eq e]; exact h
theorem g_not {l : Array Bool} {i : Nat} (h : l.getD i true = false) : l.getD i false = false := by
  rcases Nat.lt_or_ge i l.size with h1 | h1
  · rw [Array.getD_eq_getD_getElem?, Array.getElem?_eq_getElem h1] at *; exact h
  · rw [Array.getD_eq_getD_getElem?, Array.getElem?_eq_none h1] at h; cases h
theorem g_all {l : Array Bool} {i : Nat} (hi : i < l.size) (h : l.getD i true = true) : l.getD i false = true := by
  rw [Array.getD_eq_getD_getElem?, Array.getElem?_eq_getElem hi] at *; exact h
/-- what comes behind is not done where what it comes behind isn't -/
theorem g_ahead {l : Array Bool} {i j : Nat} (h : l.getD j false = true → l.getD i false = true) (hi : l.getD i true = false) : l.getD j false = false := by
  cases c : l.getD j false with
  | false => rfl
  | true => have := h c; rw [g_not hi] at this; cases this
end Go.Proofs.Ytkjkmekkcnmjnaa
