/- Regions that draw their order: the slots as a table of what each operation yields, the world by an invariant of its own. Plain lemmas, no program. Conditions: none. -/
import Derived.Test.YtkjkmekkcnmjnaaInv
import Derived.Test.YtkjkmekkcnmjnaaRowT
import Derived.WalkKit
import Derived.ProofKit
namespace Go.Proofs.Ytkjkmekkcnmjnaa
open Go.RowKit

section
variable {P : Program} {ops : Array Oper} {Q : Exit → Act → World → Prop} {vals : Nat → Value} {a0 : Act}
/-- what is done has its value; every other slot is as it was -/
structure SlotInv (ops : Array Oper) (vals : Nat → Value) (a0 : Act) (l : Array Bool) (a : Act) : Prop where
  size : l.size = ops.size
  tsz : a.tmps.size = a0.tmps.size
  df : a.defers = a0.defers
  done : ∀ (i : Nat) (o : Oper) (d : Tmp), ops[i]? = some o → o.dst = some d → l.getD i false = true → a.tmps.getD d undef = vals i
  rest : ∀ d : Tmp, (∀ (i : Nat) (o : Oper), ops[i]? = some o → o.dst = some d → l.getD i false = false) → a.tmps.getD d undef = a0.tmps.getD d undef
/-- each slot is written by one operation at most, and is one -/
structure OneDst (ops : Array Oper) (n : Nat) : Prop where
  inj : ∀ (i j : Nat) (o o' : Oper) (d : Tmp), ops[i]? = some o → ops[j]? = some o' → o.dst = some d → o'.dst = some d → i = j
  lt : ∀ (i : Nat) (o : Oper) (d : Tmp), ops[i]? = some o → o.dst = some d → d < n
def oneDstB (ops : Array Oper) (n : Nat) : Bool :=
  (List.range ops.size).all fun i => (ops[i]?).all fun o => match o.dst with
    | none => true
    | some d => decide (d < n) && (List.range ops.size).all fun j => (ops[j]?).all fun o' => match o'.dst with
      | none => true
      | some d' => decide (d = d' → i = j)
theorem oneDst_of {n : Nat} (h : oneDstB ops n = true) : OneDst ops n := by
  have hin : ∀ i (o : Oper), ops[i]? = some o → i ∈ List.range ops.size := by
    intro i o hi
    rw [List.mem_range]
    rcases Nat.lt_or_ge i ops.size with h1 | h1
    · exact h1
    · rw [Array.getElem?_eq_none h1] at hi; cases hi
  unfold oneDstB at h
  rw [List.all_eq_true] at h
  constructor
  · intro i j o o' d hi hj hd hd'
    have h1 := h i (hin i o hi)
    rw [hi] at h1
    simp only [Option.all_some, hd, Bool.and_eq_true] at h1
    have h2 := List.all_eq_true.1 h1.2 j (hin j o' hj)
    rw [hj] at h2
    simp only [Option.all_some, hd'] at h2
    simpa using h2
  · intro i o d hi hd
    have h1 := h i (hin i o hi)
    rw [hi] at h1
    simp only [Option.all_some, hd, Bool.and_eq_true] at h1
    simpa using h1.1
theorem SlotInv.start : SlotInv ops vals a0 (Array.replicate ops.size false) a0 :=
  ⟨by simp, rfl, rfl, (fun i o d hi _ h => by
    rw [Array.getD_eq_getD_getElem?] at h
    rcases Nat.lt_or_ge i ops.size with h1 | h1
    · rw [Array.getElem?_replicate, if_pos h1] at h; cases h
    · rw [Array.getElem?_eq_none h1] at hi; cases hi), fun _ _ => rfl⟩
theorem SlotInv.put {l : Array Bool} {a : Act} (h : SlotInv ops vals a0 l a) (h1 : OneDst ops a0.tmps.size) {i : Nat} {o : Oper} (hi : ops[i]? = some o) {v : Value} (hv : o.dst ≠ none → v = vals i) :
    SlotInv ops vals a0 (l.setIfInBounds i true) (a.put o.dst v) := by
  have hil : i < l.size := by
    rw [h.size]
    rcases Nat.lt_or_ge i ops.size with h1 | h1
    · exact h1
    · rw [Array.getElem?_eq_none h1] at hi; cases hi
  cases hd : o.dst with
  | none =>
    refine ⟨by simpa using h.size, h.tsz, h.df, ?_, ?_⟩
    · intro j o' d hj hd' hl'
      have hne : i ≠ j := by rintro rfl; rw [hi] at hj; cases hj; rw [hd] at hd'; cases hd'
      exact h.done j o' d hj hd' (by rwa [g_eq hne] at hl')
    · intro d hall
      refine h.rest d fun j o' hj hd' => ?_
      have hne : i ≠ j := by rintro rfl; rw [hi] at hj; cases hj; rw [hd] at hd'; cases hd'
      have := hall j o' hj hd'
      rwa [g_eq hne] at this
  | some d0 =>
    obtain rfl : v = vals i := hv (by rw [hd]; simp)
    have hlt := h1.lt i o d0 hi hd
    have hput : ∀ d, (a.put (some d0) (vals i)).tmps.getD d undef = if d = d0 then vals i else a.tmps.getD d undef := by
      intro d
      show (a.tmps.setIfInBounds d0 (vals i)).getD d undef = _
      rw [Array.getD_eq_getD_getElem?, Array.getD_eq_getD_getElem?]
      by_cases e : d = d0
      · subst e; rw [if_pos rfl, Array.getElem?_setIfInBounds_self_of_lt (by rw [h.tsz]; exact hlt)]; rfl
      · rw [if_neg e, Array.getElem?_setIfInBounds_ne (Ne.symm e)]
    refine ⟨by simpa using h.size, by show (a.tmps.setIfInBounds d0 (vals i)).size = _; simpa using h.tsz, h.df, ?_, ?_⟩
    · intro j o' d hj hd' hl'
      rw [hput]
      by_cases e : d = d0
      · subst e; rw [if_pos rfl, h1.inj i j o o' d hi hj hd hd']
      · rw [if_neg e]
        have hne : i ≠ j := by rintro rfl; rw [hi] at hj; cases hj; rw [hd] at hd'; cases hd'; exact e rfl
        exact h.done j o' d hj hd' (by rwa [g_eq hne] at hl')
    · intro d hall
      rw [hput]
      by_cases e : d = d0
      · subst e; have := hall i o hi hd; rw [g_self hil] at this; cases this
      · rw [if_neg e]
        refine h.rest d fun j o' hj hd' => ?_
        have hne : i ≠ j := by rintro rfl; rw [hi] at hj; cases hj; rw [hd] at hd'; cases hd'; exact e rfl
        have := hall j o' hj hd'
        rwa [g_eq hne] at this
/-- the table tells all -/
theorem SlotInv.uniq {l : Array Bool} {a b : Act} (h : SlotInv ops vals a0 l a) (k : SlotInv ops vals a0 l b) : a = b := by
  have ht : a.tmps = b.tmps := by
    apply Array.ext
    · rw [h.tsz, k.tsz]
    · intro d h1 h2
      have key : a.tmps.getD d undef = b.tmps.getD d undef := by
        by_cases e : ∃ i o, ops[i]? = some o ∧ o.dst = some d ∧ l.getD i false = true
        · obtain ⟨i, o, hi, hd, hl⟩ := e
          rw [h.done i o d hi hd hl, k.done i o d hi hd hl]
        · have hall : ∀ i o, ops[i]? = some o → o.dst = some d → l.getD i false = false := by
            intro i o hi hd
            cases hl : l.getD i false with
            | false => rfl
            | true => exact absurd ⟨i, o, hi, hd, hl⟩ e
          rw [h.rest d hall, k.rest d hall]
      rw [Array.getD_eq_getD_getElem?, Array.getD_eq_getD_getElem?, Array.getElem?_eq_getElem h1, Array.getElem?_eq_getElem h2] at key
      exact key
  cases a; cases b
  have hd := h.df.trans k.df.symm
  simp only at ht hd
  subst ht; subst hd; rfl
theorem all_done {l : Array Bool} {n : Nat} (hs : l.size = n) (h : ∀ i, i < n → l.getD i true = true) : l = Array.replicate n true := by
  apply Array.ext
  · simpa using hs
  · intro i h1 h2
    have := h i (by omega)
    rw [Array.getD_eq_getD_getElem?, Array.getElem?_eq_getElem h1] at this
    rw [Array.getElem_replicate]; exact this
/-- all of it, in the text's order -/
def puts (vals : Nat → Value) : Nat → List Oper → Act → Act
  | _, [], a => a
  | i, o :: os, a => puts vals (i + 1) os (a.put o.dst (vals i))
theorem slot_puts (h1 : OneDst ops a0.tmps.size) : ∀ (k : Nat) (os : List Oper) (i : Nat) (l : Array Bool) (a : Act), os.length = k → ops.toList.drop i = os → i + k = ops.size → SlotInv ops vals a0 l a → (∀ j, j < i → l.getD j false = true) → (∀ j, i ≤ j → j < ops.size → l.getD j true = false) →
    SlotInv ops vals a0 (Array.replicate ops.size true) (puts vals i os a)
  | 0, [], i, l, a, _, _, hk, h, hd, _ => by
    have : l = Array.replicate ops.size true := all_done h.size fun j hj => by
      have h2 := hd j (by omega)
      rw [Array.getD_eq_getD_getElem?, Array.getElem?_eq_getElem (by rw [h.size]; exact hj)] at *
      exact h2
    rw [← this]; exact h
  | 0, _ :: _, _, _, _, h0, _, _, _, _, _ => by cases h0
  | _ + 1, [], _, _, _, h0, _, _, _, _, _ => by cases h0
  | k + 1, o :: os, i, l, a, hlen, hdrop, hk, h, hd, hn => by
    have hi : ops[i]? = some o := by
      have : ops.toList[i]? = some o := by
        have := congrArg (fun x => x[0]?) hdrop
        simpa using this
      simpa using this
    have hdr : ops.toList.drop (i + 1) = os := by
      have := congrArg List.tail hdrop
      simpa using this
    unfold puts
    refine slot_puts h1 k os (i + 1) (l.setIfInBounds i true) _ (by simpa using hlen) hdr (by omega) (h.put h1 hi (fun _ => rfl)) ?_ ?_
    · intro j hj
      rcases Nat.lt_or_ge j i with h2 | h2
      · rw [g_eq (by omega)]; exact hd j h2
      · obtain rfl : j = i := by omega
        exact g_self (by rw [h.size]; omega)
    · intro j h2 h3
      have := hn j (by omega) h3
      rw [Array.getD_eq_getD_getElem?, Array.getElem?_setIfInBounds_ne (by omega), ← Array.getD_eq_getD_getElem?]; exact this
/-- where all is done the frame is this one -/
theorem SlotInv.fin (h1 : OneDst ops a0.tmps.size) {l : Array Bool} {a : Act} (h : SlotInv ops vals a0 l a) (hall : ∀ i, i < ops.size → l.getD i true = true) : a = puts vals 0 ops.toList a0 := by
  obtain rfl := all_done h.size hall
  refine h.uniq (slot_puts h1 ops.size ops.toList 0 (Array.replicate ops.size false) a0 (by simp) (by simp) (by omega) SlotInv.start (fun j hj => by omega) fun j _ hj => ?_)
  rw [Array.getD_eq_getD_getElem?, Array.getElem?_replicate, if_pos hj]; rfl
theorem SlotInv.val {l : Array Bool} {a : Act} (h : SlotInv ops vals a0 l a) {i : Nat} {o : Oper} {d : Tmp} (hi : ops[i]? = some o) (hd : o.dst = some d) (hl : l.getD i false = true) : a.eval (.tmp d) = vals i := h.done i o d hi hd hl
/-- a slot that the region does not write -/
theorem SlotInv.old {l : Array Bool} {a : Act} (h : SlotInv ops vals a0 l a) {d : Tmp} (hd : (ops.all fun o => o.dst != some d) = true) : a.eval (.tmp d) = a0.tmps.getD d undef := by
  refine h.rest d fun i o hi he => ?_
  have hm : o ∈ ops := by
    rcases Nat.lt_or_ge i ops.size with h1 | h1
    · rw [Array.getElem?_eq_getElem h1] at hi; cases hi; exact Array.getElem_mem h1
    · rw [Array.getElem?_eq_none h1] at hi; cases hi
  have := Array.all_eq_true_iff_forall_mem.1 hd o hm
  rw [he] at this
  simp at this
/-- a region that draws its order: a table of what its operations yield, an invariant on the world -/
theorem wp_region_slots {id : Nat} {a : Act} {w : World} (hm : P.follows .mixedOrders = true) (vals : Nat → Value) (WI : Array Bool → World → Prop)
    (hlex : ∀ (i : Nat) (o : Oper), ops[i]? = some o → ∀ e ∈ o.after, Region.binds .any e = true → e.on < i) (h1 : OneDst ops a.tmps.size) (h0 : WI (Array.replicate ops.size false) { w with drawn := w.drawn + 1 })
    (hdone : ∀ wr, WI (Array.replicate ops.size true) wr → Q .normal (puts vals 0 ops.toList a) wr)
    (hstep : ∀ (i : Nat) (o : Oper), ops[i]? = some o → i < ops.size → ∀ l a' wr, SlotInv ops vals a l a' → WI l wr → l.getD i true = false → (∀ e ∈ o.after, Region.binds .any e = true → l.getD e.on false = true) →
      wpOp P ops Q i (fun a'' wr' => SlotInv ops vals a (l.setIfInBounds i true) a'' ∧ WI (l.setIfInBounds i true) wr') a' wr) :
    (Code.region id ops true).wp P Q a w := by
  refine wp_region_inv hm (fun l a' wr => SlotInv ops vals a l a' ∧ WI l wr) hlex (fun l a' wr h => h.1.size) ⟨SlotInv.start, h0⟩ ?_ ?_
  · rintro l a' wr ⟨hS, hW⟩ hall
    obtain rfl := hS.fin h1 hall
    obtain rfl := all_done hS.size hall
    exact hdone wr hW
  · rintro i o hi l a' wr ⟨hS, hW⟩ hl haft
    refine hstep i o hi ?_ l a' wr hS hW hl haft
    rcases Nat.lt_or_ge i ops.size with h1 | h1
    · exact h1
    · rw [Array.getElem?_eq_none h1] at hi; cases hi
theorem SlotInv.swap {vals' : Nat → Value} {l : Array Bool} {a : Act} (h : SlotInv ops vals a0 l a) (hv : ∀ i, l.getD i false = true → vals i = vals' i) : SlotInv ops vals' a0 l a :=
  ⟨h.size, h.tsz, h.df, fun i o d hi hd hl => (h.done i o d hi hd hl).trans (hv i hl), h.rest⟩
/-- .. where a place that is made inside is part of the table -/
theorem wp_region_slotsG {G : Type} {id : Nat} {a : Act} {w : World} (hm : P.follows .mixedOrders = true) (vals : G → Nat → Value) (WI : G → Array Bool → World → Prop)
    (hlex : ∀ (i : Nat) (o : Oper), ops[i]? = some o → ∀ e ∈ o.after, Region.binds .any e = true → e.on < i) (h1 : OneDst ops a.tmps.size) (g0 : G) (h0 : WI g0 (Array.replicate ops.size false) { w with drawn := w.drawn + 1 })
    (hdone : ∀ g wr, WI g (Array.replicate ops.size true) wr → Q .normal (puts (vals g) 0 ops.toList a) wr)
    (hstep : ∀ (i : Nat) (o : Oper), ops[i]? = some o → i < ops.size → ∀ g l a' wr, SlotInv ops (vals g) a l a' → WI g l wr → l.getD i true = false → (∀ e ∈ o.after, Region.binds .any e = true → l.getD e.on false = true) →
      wpOp P ops Q i (fun a'' wr' => ∃ g', SlotInv ops (vals g') a (l.setIfInBounds i true) a'' ∧ WI g' (l.setIfInBounds i true) wr') a' wr) :
    (Code.region id ops true).wp P Q a w := by
  refine wp_region_inv hm (fun l a' wr => ∃ g, SlotInv ops (vals g) a l a' ∧ WI g l wr) hlex (fun l a' wr h => h.elim fun _ h => h.1.size) ⟨g0, SlotInv.start, h0⟩ ?_ ?_
  · rintro l a' wr ⟨g, hS, hW⟩ hall
    obtain rfl := hS.fin h1 hall
    obtain rfl := all_done hS.size hall
    exact hdone g wr hW
  · rintro i o hi l a' wr ⟨g, hS, hW⟩ hl haft
    refine hstep i o hi ?_ g l a' wr hS hW hl haft
    rcases Nat.lt_or_ge i ops.size with h1 | h1
    · exact h1
    · rw [Array.getElem?_eq_none h1] at hi; cases hi
/-! ### operations -/
theorem wp_val {o : Oper} {a : Act} {w w' : World} {K : Act → World → Prop} {v : Value} (h : (execOp a.eval o).run P w = .ok (.value v) w') (hk : K (a.put o.dst v) w') : o.wp P a w K Q := by
  unfold Oper.wp; rw [h]; exact hk
theorem wp_skip {o : Oper} {a : Act} {w w' : World} {K : Act → World → Prop} (h : (execOp a.eval o).run P w = .ok .skip w') (hk : K (a.put o.dst undef) w') : o.wp P a w K Q := by
  unfold Oper.wp; rw [h]; exact hk
theorem wp_load_at {o : Oper} {a : Act} {w : World} {K : Act → World → Prop} {t : TypeId} {x : Operand} {p : Value} {v : Value} (ho : o.op = .load t x) (hx : a.eval x = p) (h : (Instr.loadAt t p).run P w = .ok v w) (hk : K (a.put o.dst v) w) : o.wp P a w K Q :=
  wp_val (by unfold execOp; simp only [ho, hx, Sem.run_bind, h, Result.andThen_ok, Sem.run_pure]) hk
theorem wp_field_at {o : Oper} {a : Act} {w : World} {K : Act → World → Prop} {t : TypeId} {x : Operand} {f : Nat} {p : Value} {v : Value} (ho : o.op = .fieldAddr t x f) (hx : a.eval x = p) (h : (Instr.fieldAt t p f).run P w = .ok v w) (hk : K (a.put o.dst v) w) : o.wp P a w K Q :=
  wp_val (by unfold execOp; simp only [ho, hx, Sem.run_bind, h, Result.andThen_ok, Sem.run_pure]) hk
theorem wp_store_at {o : Oper} {a : Act} {w w' : World} {K : Act → World → Prop} {t : TypeId} {x y : Operand} {p : Value} {v : Value} (ho : o.op = .store t x y) (hx : a.eval x = p) (hy : a.eval y = v) (h : (Instr.storeAt t p v).run P w = .ok () w') (hk : K (a.put o.dst undef) w') : o.wp P a w K Q :=
  wp_skip (by unfold execOp; simp only [ho, hx, hy, Sem.run_bind, h, Result.andThen_ok, Sem.run_pure]) hk
theorem wp_move_at {o : Oper} {a : Act} {w : World} {K : Act → World → Prop} {x : Operand} {v : Value} (ho : o.op = .move x) (hx : a.eval x = v) (hk : K (a.put o.dst v) w) : o.wp P a w K Q :=
  BigFrame.wp_move x ho (by rw [hx]; exact hk)
theorem wp_assign_at {o : Oper} {a : Act} {w : World} {K : Act → World → Prop} {x : Operand} {v : Value} (ho : o.op = .assign x) (hx : a.eval x = v) (hk : K (a.put o.dst v) w) : o.wp P a w K Q :=
  BigFrame.wp_assign x ho (by rw [hx]; exact hk)
theorem wp_call_at {o : Oper} {a : Act} {w : World} {K : Act → World → Prop} {f : FuncId} {xs : Array Operand} {ts : Array TypeId} {vs : Array Value} {v : Value} {R : World → Prop} (ho : o.op = .call { callee := .value (.func f), args := xs, argTypes := ts }) (hx : xs.toList.map a.eval = vs.toList)
    (hc : (callFunc f vs).run P w = .ok (.enter f vs) w) (h : Calls P f vs w fun e w' => e = .returned v ∧ R w') (hk : ∀ w', R w' → K (a.put o.dst v) w') : o.wp P a w K Q := by
  have hx : xs.map a.eval = vs := by rw [← Array.toList_inj, Array.toList_map]; exact hx
  unfold Oper.wp
  have : (execOp a.eval o).run P w = .ok (.enter f vs) w := by
    unfold execOp
    simp only [ho]
    rw [← hx]
    go_simp
  rw [this, Oper.upon_enter]
  refine h.mono ?_
  rintro e w' ⟨rfl, hr⟩
  exact hk w' hr
theorem wp_bin_at {o : Oper} {a : Act} {w : World} {K : Act → World → Prop} {op : BinOp} {t ty : TypeId} {x y : Operand} {vx vy v : Value} (ho : o.op = .binOp op t x y ty) (hx : a.eval x = vx) (hy : a.eval y = vy) (he : (eqGuard op t x y vx vy).run P w = .ok () w) (h : (Go.binOp op t vx vy).run P w = .ok v w) (hk : K (a.put o.dst v) w) : o.wp P a w K Q :=
  wp_val (by unfold execOp; simp only [ho, hx, hy, Sem.run_bind, he, h, Result.andThen_ok, Sem.run_pure]) hk
theorem wp_extract_at {o : Oper} {a : Act} {w : World} {K : Act → World → Prop} {x : Operand} {i : Nat} {vs : Array Value} {v : Value} (ho : o.op = .extract x i) (hx : a.eval x = .tuple vs) (hv : vs[i]? = some v) (hk : K (a.put o.dst v) w) : o.wp P a w K Q :=
  wp_val (by unfold execOp; simp only [ho, hx]; go_simp) hk
theorem wp_alloc_at {o : Oper} {a : Act} {w : World} {K : Act → World → Prop} {t : TypeId} {z : Array Value} (ho : o.op = .alloc t) (hz : (zeroValue t).run P w = .ok (.agg z) w)
    (hk : K (a.put o.dst (.pointer (some ⟨w.heap.size, 0, none⟩))) (w.alloc (.cells z t))) : o.wp P a w K Q := wp_alloc_of ho hz hk
theorem wp_store_row_at {n : Nat} {o : Oper} {a : Act} {w : World} {K : Act → World → Prop} {t : TypeId} {x y : Operand} {g : Nat} {cs old : Array Value} (hT : RowTy P t n) (ho : o.op = .store t x y) (hx : a.eval x = .pointer (some ⟨g, 0, none⟩)) (hy : a.eval y = .agg cs)
    (hg : w.heap[g]? = some (.cells old t (0, 0))) (hold : old.size = n) (hs : cs.size = n) (h1 : cs.all (·.oneCell') = true) (hk : K (a.put o.dst undef) (w.setRow g cs)) : o.wp P a w K Q :=
  wp_store_row t x y ho g cs hx hy t old hg (by rw [hs]; exact hT.size) (by rw [hold, hs]) h1 hk
end
end Go.Proofs.Ytkjkmekkcnmjnaa
