/- Structs of many cells as one value, whatever their type: loaded, stored, told. Plain lemmas, no program. Conditions: none. -/
import Derived.Test.YtkjkmekkcnmjnaaAgg
import Derived.Laws.ResultCell
namespace Go.Proofs.Ytkjkmekkcnmjnaa
open Go.RowKit

/-- a struct or an array of so many cells -/
structure RowTy (P : Program) (t : TypeId) (n : Nat) : Prop where
  size : (P.info? t).map (·.size) = some n
  und : (match P.underlying t with | some (.struct _) | some (.array _ _) => true | _ => false) = true
section
variable {P : Program} {t : TypeId} {n : Nat}
theorem RowTy.desc (h : RowTy P t n) : (∃ fs, P.underlying t = some (.struct fs)) ∨ ∃ m e, P.underlying t = some (.array m e) := by
  have h := h.und
  split at h
  · next he => exact .inl ⟨_, he⟩
  · next he => exact .inr ⟨_, _, he⟩
  · cases h
theorem wpList_wanted {ops : Array Oper} {Q : Exit → Act → World → Prop} {a : Act} {w : World} {rest : List Oper} {o : Oper} (hw : Region.wanted o (yielded ops a.tmps) = true)
    (h : ∀ K : Act → World → Prop, (∀ a w, wpList P ops Q rest a w → K a w) → o.wp P a w K Q) : wpList P ops Q (o :: rest) a w :=
  wpList_step fun K hK => by rw [if_pos hw]; exact h K hK
/-- an operation that is not wanted, whose slot is empty still -/
theorem wpList_skip {ops : Array Oper} {Q : Exit → Act → World → Prop} {a : Act} {w : World} {rest : List Oper} {o : Oper} (hw : Region.wanted o (yielded ops a.tmps) = false) (hu : a.put o.dst undef = a)
    (h : wpList P ops Q rest a w) : wpList P ops Q (o :: rest) a w :=
  wpList_step fun K hK => by rw [if_neg (by rw [hw]; simp), hu]; exact hK _ _ h
theorem row_ld {ops : Array Oper} {rest : List Oper} {o : Oper} {a : Act} {w : World} {Q : Exit → Act → World → Prop} {p : Tmp} {g : Nat} {cs : Array Value} (hT : RowTy P t n) (hgd : Region.wanted o (yielded ops a.tmps) = true) (ho : o.op = .load t (.tmp p))
    (hx : a.eval (.tmp p) = .pointer (some ⟨g, 0, none⟩)) (hg : w.heap[g]? = some (.cells cs t (0, 0))) (hs : cs.size = n) (h : wpList P ops Q rest (a.put o.dst (.agg cs)) w) : wpList P ops Q (o :: rest) a w := by
  rcases hT.desc with ⟨fs, h1⟩ | ⟨m, e, h1⟩
  · exact wpList_wanted hgd fun _ hK => wp_load_row t (.tmp p) ho g hx t cs (0, 0) _ hg h1 rfl (by rw [hs]; exact hT.size) (hK _ _ h)
  · exact wpList_wanted hgd fun _ hK => wp_load_row t (.tmp p) ho g hx t cs (0, 0) _ hg h1 rfl (by rw [hs]; exact hT.size) (hK _ _ h)
theorem row_st {ops : Array Oper} {rest : List Oper} {o : Oper} {a : Act} {w : World} {Q : Exit → Act → World → Prop} {p k : Tmp} {g : Nat} {cs old : Array Value} (hT : RowTy P t n) (hgd : Region.wanted o (yielded ops a.tmps) = true) (ho : o.op = .store t (.tmp p) (.tmp k))
    (hx : a.eval (.tmp p) = .pointer (some ⟨g, 0, none⟩)) (hy : a.eval (.tmp k) = .agg cs) (hg : w.heap[g]? = some (.cells old t (0, 0))) (hold : old.size = n) (hs : cs.size = n) (h1 : cs.all (·.oneCell') = true)
    (h : wpList P ops Q rest (a.put o.dst undef) (w.setRow g cs)) : wpList P ops Q (o :: rest) a w :=
  wpList_wanted hgd fun _ hK => wp_store_row t (.tmp p) (.tmp k) ho g cs hx hy t old hg (by rw [hs]; exact hT.size) (by rw [hold, hs]) h1 (hK _ _ h)
theorem row_var {w : World} {g : Nat} {cs : Array Value} (hT : RowTy P t n) (hg : w.heap[g]? = some (.cells cs t (0, 0))) (hs : cs.size = n) : (loadVar t ⟨g, 0, none⟩).run P w = .ok (.agg cs) w := by
  rcases hT.desc with ⟨fs, h1⟩ | ⟨m, e, h1⟩
  · exact run_loadVar_row w g t t cs (0, 0) _ hg h1 rfl (by rw [hs]; exact hT.size)
  · exact run_loadVar_row w g t t cs (0, 0) _ hg h1 rfl (by rw [hs]; exact hT.size)
theorem row_back {fn : Func} {R : Ending → World → Prop} {a : Act} {w : World} {cs : Array Value} {p : Tmp} {g : Nat} (hT : RowTy P t n) (hr : fn.results = #[.cell p t]) (hp : a.tmps.getD p undef = .pointer (some ⟨g, 0, none⟩))
    (hd : a.defers = []) (hg : w.heap[g]? = some (.cells cs t (0, 0))) (hs : cs.size = n) (hR : R (.returned (.agg cs)) w) : bodyPost P fn R .ret a w := by
  rcases hT.desc with ⟨fs, h1⟩ | ⟨m, e, h1⟩
  · exact bodyPost_ret (results_cell_row hr _ _ g t cs (0, 0) _ hp hg h1 rfl (by rw [hs]; exact hT.size)) hd hR
  · exact bodyPost_ret (results_cell_row hr _ _ g t cs (0, 0) _ hp hg h1 rfl (by rw [hs]; exact hT.size)) hd hR
/-- .. with a second result -/
theorem row_back2 {fn : Func} {R : Ending → World → Prop} {a : Act} {w : World} {cs : Array Value} {p k : Tmp} {g : Nat} {x : Value} (hT : RowTy P t n) (hr : fn.results = #[.cell p t, .tmp k]) (hp : a.tmps.getD p undef = .pointer (some ⟨g, 0, none⟩))
    (hd : a.defers = []) (hg : w.heap[g]? = some (.cells cs t (0, 0))) (hs : cs.size = n) (hx : a.tmps.getD k undef = x) (hR : R (.returned (.tuple #[.agg cs, x])) w) : bodyPost P fn R .ret a w := by
  refine bodyPost_ret ?_ hd hR
  rw [results_cell_tmp hr, hp]
  simp only [asAddr, Sem.run_pure, Result.andThen]
  rw [row_var hT hg hs]
  simp only [hx]
theorem results_tmp_cell_tmp {fn : Func} {k p q : Tmp} {ty : TypeId} (h : fn.results = #[.tmp k, .cell p ty, .tmp q]) (tmps : Array Value) (w : World) :
    (results fn tmps).run P w =
      ((asAddr (tmps.getD p undef)).run P w).andThen fun a w₁ => ((loadVar ty a).run P w₁).andThen fun v w₂ => .ok (.tuple #[tmps.getD k undef, v, tmps.getD q undef]) w₂ := by
  simp only [results, h]
  simp [Sem.run_bind, Result.andThen]
/-- .. as the second one of three -/
theorem row_back3 {fn : Func} {R : Ending → World → Prop} {a : Act} {w : World} {cs : Array Value} {k p q : Tmp} {g : Nat} {x y : Value} (hT : RowTy P t n) (hr : fn.results = #[.tmp k, .cell p t, .tmp q]) (hp : a.tmps.getD p undef = .pointer (some ⟨g, 0, none⟩))
    (hd : a.defers = []) (hg : w.heap[g]? = some (.cells cs t (0, 0))) (hs : cs.size = n) (hx : a.tmps.getD k undef = x) (hy : a.tmps.getD q undef = y) (hR : R (.returned (.tuple #[x, .agg cs, y])) w) : bodyPost P fn R .ret a w := by
  refine bodyPost_ret ?_ hd hR
  rw [results_tmp_cell_tmp hr, hp]
  simp only [asAddr, Sem.run_pure, Result.andThen]
  rw [row_var hT hg hs]
  simp only [hx, hy]
theorem row_at {w : World} {g : Nat} {cs : Array Value} (hT : RowTy P t n) (hg : w.heap[g]? = some (.cells cs t (0, 0))) (hs : cs.size = n) : (Instr.loadAt t (.pointer (some ⟨g, 0, none⟩))).run P w = .ok (.agg cs) w := by
  rcases hT.desc with ⟨fs, h1⟩ | ⟨m, e, h1⟩
  · exact loadAt_row hg h1 rfl (by rw [hs]; exact hT.size)
  · exact loadAt_row hg h1 rfl (by rw [hs]; exact hT.size)
theorem row_lds {w : World} {g : Nat} {cs : Array Value} (hT : RowTy P t n) (hg : w.heap[g]? = some (.cells cs t (0, 0))) (hs : cs.size = n) (d : Nat) (os : Array Obj) :
    (Instr.loadAt t (.pointer (some ⟨g, 0, none⟩))).run P (Sort.grow (redrawn w d) os) = .ok (.agg cs) (Sort.grow (redrawn w d) os) := by
  rcases hT.desc with ⟨fs, h1⟩ | ⟨m, e, h1⟩
  · exact loadAt_row (((On.refl w).grow d os).keep hg) h1 rfl (by rw [hs]; exact hT.size)
  · exact loadAt_row (((On.refl w).grow d os).keep hg) h1 rfl (by rw [hs]; exact hT.size)
/-- such a struct out of a block, in a region that draws its order and makes memory only in its calls -/
theorem row_quiet {o : Oper} {a : Act} {K : Act → Prop} {w : World} {g : Nat} {cs : Array Value} {p : Tmp}
    (hl : ∀ d os, (Instr.loadAt t (.pointer (some ⟨g, 0, none⟩))).run P (Sort.grow (redrawn w d) os) = .ok (.agg cs) (Sort.grow (redrawn w d) os))
    (ho : o.op = .load t (.tmp p)) (hx : a.eval (.tmp p) = .pointer (some ⟨g, 0, none⟩)) (hk : K (a.put o.dst (.agg cs))) :
    o.quiet P a (fun w' => ∃ p : Regrown, w' = Sort.grow (redrawn w p.d) p.os) K := by
  refine ⟨.agg cs, ?_, hk⟩
  rintro w' ⟨q, rfl⟩
  unfold Oper.quietAt execOp
  simp only [ho, hx, Sem.run_bind, hl, Result.andThen_ok, Sem.run_pure]
  exact ⟨rfl, rfl⟩
/-- a value of such a type is itself -/
theorem eql_self {m : Nat} {ls : List Leaf} {cs : Array Value} (hl : leaves P m t = some ls) (hk : P.keyTypeAt m t = true) (hc : P.cellsOf t = ls.length) (hn : m ≤ 10000) (hu : (match P.underlying t with | some (.struct _) | some (.array _ _) => true | _ => false) = true) (hf : Fits ls cs.toList)
    (w : World) : (Go.binOp .eql t (.agg cs) (.agg cs)).run P w = .ok (.bool true) w := by
  rw [run_eql_struct, eq_self hl hk hc hn hu hf w]; rfl
end
theorem On.set {a b : World} (h : On a b) (p : Addr) (v : Value) (hp : a.heap.size ≤ p.block) : On a (b.setCell p v) := Below.setCell h hp v
theorem On.row {a b : World} (h : On a b) (g : Nat) (cs : Array Value) (hg : a.heap.size ≤ g) : On a (b.setRow g cs) :=
  ⟨h.os, h.tape, h.output, by have := h.size; simpa [World.setRow] using this, fun k hk => by rw [setRow_other _ _ _ _ (by omega)]; exact h.block k hk⟩
/-- another block stays where one is written -/
theorem blk_other {w : World} {b g i : Nat} {v : Value} {o : Obj} (h : w.heap[b]? = some o) (hne : b ≠ g) : (w.setCell ⟨g, i, none⟩ v).heap[b]? = some o := by
  rw [heap_setCell_other _ _ _ _ hne]; exact h
/-- where a walk is to stop: 'go_wp2_with (apply stop_field; (case ho => exact rfl))'; on by 'refine ⟨?_⟩' -/
structure Stop (p : Prop) : Prop where
  out : p
theorem stop_field {P : Program} {ops : Array Oper} {rest : List Oper} {o : Oper} {a : Act} {w : World} {Q : Exit → Act → World → Prop} {t : TypeId} {x : Operand} {i : Nat} (ho : o.op = .fieldAddr t x i) (h : Stop (wpList P ops Q (o :: rest) a w)) :
    wpList P ops Q (o :: rest) a w := (fun _ => h.out) ho
theorem stop_move {P : Program} {ops : Array Oper} {rest : List Oper} {o : Oper} {a : Act} {w : World} {Q : Exit → Act → World → Prop} {x : Operand} (ho : o.op = .move x) (h : Stop (wpList P ops Q (o :: rest) a w)) :
    wpList P ops Q (o :: rest) a w := (fun _ => h.out) ho
end Go.Proofs.Ytkjkmekkcnmjnaa
