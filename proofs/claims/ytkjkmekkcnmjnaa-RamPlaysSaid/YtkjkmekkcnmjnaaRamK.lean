/- A copy of a memory: Fork. Conditions: named at each. -/
import Derived.Test.YtkjkmekkcnmjnaaRamX
import Derived.Maps.RangeWalk
namespace Go.Proofs.Ytkjkmekkcnmjnaa
open Go.RowKit
open Go.ChangeMaps (setBlock)
open Go.MapKept
set_option linter.unusedVariables false
set_option maxRecDepth 100000

theorem wp_maplen {P : Program} {w : World} {ops : Array Oper} {rest : List Oper} {o : Oper} {a : Act} {Q : Exit → Act → World → Prop} (hgd : o.guard = none) {m : Operand} {t kt et : TypeId} (ho : o.op = .call { callee := .builtin .len, args := #[m], argTypes := #[t] })
    (ht : P.underlying t = some (.map kt et)) {mb : Nat} {es : Array MapEntry} {cl : Nat} (hm : a.eval m = .map (some mb)) (hb : w.heap[mb]? = some (.map es cl))
    (h : wpList P ops Q rest (a.put o.dst (.int .i64 es.size)) w) : wpList P ops Q (o :: rest) a w := by
  refine wpList_plain hgd fun K hK => ?_
  unfold Oper.wp
  simp [execOp, ho, resolve, invoke, builtin, Builtin.len_, hm, run_underlying ht, MapKept.run_getObj_map hb, goInt, Result.andThen]
  exact hK _ _ h
theorem wp_mkmap {P : Program} {w : World} {ops : Array Oper} {rest : List Oper} {o : Oper} {a : Act} {Q : Exit → Act → World → Prop} (hgd : o.guard = none) {x : Operand} {t kt et : TypeId} (ho : o.op = .makeMap t (some x))
    (ht : P.underlying t = some (.map kt et)) {k : Int} (hx : a.eval x = .int .i64 k) (h : wpList P ops Q rest (a.put o.dst (.map (some w.heap.size))) (w.alloc (.map #[] 0))) : wpList P ops Q (o :: rest) a w := by
  refine wpList_plain hgd fun K hK => ?_
  unfold Oper.wp
  simp [execOp, ho, Instr.makeMap, hx, run_underlying ht, asInt, Result.andThen]
  exact hK _ _ h
theorem wp_range {P : Program} {w : World} {ops : Array Oper} {rest : List Oper} {o : Oper} {a : Act} {Q : Exit → Act → World → Prop} (hgd : o.guard = none) {m : Operand} {t kt et : TypeId} (ho : o.op = .range t m)
    (ht : P.underlying t = some (.map kt et)) {mb : Nat} {es : Array MapEntry} {cl : Nat} (hm : a.eval m = .map (some mb)) (hb : w.heap[mb]? = some (.map es cl))
    (h : wpList P ops Q rest (a.put o.dst (.pointer (some ⟨w.heap.size, 0, none⟩))) (w.alloc (.mapIter (some mb) cl #[] cl))) : wpList P ops Q (o :: rest) a w := by
  refine wpList_plain hgd fun K hK => ?_
  have hrun := run_range_map (P := P) w t kt et mb es cl ht hb
  unfold Oper.wp
  simp [execOp, ho, hm, hrun, Result.andThen]
  exact hK _ _ h
theorem wp_next {P : Program} {w : World} {ops : Array Oper} {rest : List Oper} {o : Oper} {a : Act} {Q : Exit → Act → World → Prop} (hgd : o.guard = none) {x : Operand} (ho : o.op = .next x false) {r mb cl c0 : Nat} {seen : Array Nat} {es : Array MapEntry} {tab : Nat → Option Nat}
    (hx : a.eval x = .pointer (some ⟨r, 0, none⟩)) (hr : w.heap[r]? = some (.mapIter (some mb) cl seen c0)) (hb : w.heap[mb]? = some (.map es cl)) (T : Tab es cl tab) (hc : cl ≤ c0)
    (hDone : (leftOf es seen).size = 0 → wpList P ops Q rest (a.put o.dst (.tuple #[.bool false])) w)
    (hMore : ∀ (k b : Nat) (e : MapEntry) (w' : World), k < 18446744073709551616 → tab k = some b → e ∈ (leftOf es seen).toList → e.key = .int .u64 k → e.val = pgV (some b) → But r w w' → w'.heap[r]? = some (.mapIter (some mb) cl (seen.push e.born) cl) →
      (Instr.entry (.pointer (some ⟨r, 0, none⟩))).run P w' = .ok (.tuple #[.int .u64 k, .pointer (some ⟨b, 0, none⟩)]) w' → wpList P ops Q rest (a.put o.dst (.tuple #[.bool true, .int .u64 k, .pointer (some ⟨b, 0, none⟩)])) w') : wpList P ops Q (o :: rest) a w := by
  have hst := (stamped_iff es cl).1 T.st
  refine wpList_plain hgd fun K hK => ?_
  rcases run_next_at (P := P) w o.type r mb cl c0 seen es cl hr hb hst.1 hc with ⟨h0, hrun⟩ | ⟨e, he, w1, hal, hrun⟩
  · unfold Oper.wp
    simp [execOp, ho, hx, hrun, Result.andThen]
    exact hK _ _ (hDone h0)
  · obtain ⟨hem, _⟩ := mem_left he
    obtain ⟨k, b, hk, h1, h2, h3⟩ := T.ent e hem
    have hr1 : w1.heap[r]? = some (.mapIter (some mb) cl seen c0) := by rcases hal with rfl | rfl <;> exact hr
    have hb1 : w1.heap[mb]? = some (.map es cl) := by rcases hal with rfl | rfl <;> exact hb
    have hne : mb ≠ r := fun e => by rw [e, hr] at hb; cases hb
    have hlt := lt_of_block hr1
    have hs1 : (setBlock w1 r (.mapIter (some mb) cl (seen.push e.born) cl)).heap[r]? = some (.mapIter (some mb) cl (seen.push e.born) cl) := by simp [setBlock, hlt]
    have hs2 : (setBlock w1 r (.mapIter (some mb) cl (seen.push e.born) cl)).heap[mb]? = some (.map es cl) := ((But.of_block w1 r _).block mb (lt_of_block hb1) hne).trans hb1
    have hbut : But r w (setBlock w1 r (.mapIter (some mb) cl (seen.push e.born) cl)) := by
      rcases hal with rfl | rfl
      · exact But.of_block _ _ _
      · exact (But.of_on (On.refl w).drew).trans (But.of_block _ _ _)
    have hen := run_entry_at (P := P) _ r mb cl seen es cl e hs1 hs2 hem hst.2.1
    rw [h1, h2] at hen
    unfold Oper.wp
    simp [execOp, ho, hx, hrun, Result.andThen]
    refine hK _ _ ?_
    rw [h1, h2]
    exact hMore k b e _ hk h3 he h1 h2 hbut hs1 hen
theorem wp_pgst {w : World} {ops : Array Oper} {rest : List Oper} {o : Oper} {a : Act} {Q : Exit → Act → World → Prop} (hgd : o.guard = none) {p q : Tmp} (ho : o.op = .store 64 (.tmp p) (.tmp q)) {f g : Nat → Int}
    (hx : a.eval (.tmp p) = .pointer (some ⟨w.heap.size, 0, none⟩)) (hy : a.eval (.tmp q) = .agg (rwA 4096 f))
    (h : ∀ w2, On w w2 → w2.heap[w.heap.size]? = some (.cells (rwA 4096 f) 64 (0, 0)) → wpList Try.prog ops Q rest (a.put o.dst undef) w2) : wpList Try.prog ops Q (o :: rest) a (w.alloc (.cells (rwA 4096 g) 64)) := by
  have hone : (rwA 4096 f).all (·.oneCell') = true := by
    rw [Array.all_eq_true]
    intro i hi
    have h1 := rw_get f (n := 4096) (i := i) (by rw [rw_size] at hi; exact hi)
    rw [Array.getElem?_eq_getElem hi] at h1
    injection h1 with h1
    rw [h1]; rfl
  refine row_st pgT (by simp [Region.wanted, hgd]) ho hx hy (blk_new w _) (rw_size _ _) (rw_size _ _) hone ?_
  exact h _ (((On.refl w).alloc _).row _ _ (Nat.le_refl _)) (setRow_heap _ _ _ _ _ _ (blk_new w _))
/-- what the loop of Fork carries -/
structure FkAt (n0 mb it cl : Nat) (es : Array MapEntry) (M : Nat → Int) (w wr : World) (mb2 : Nat) (seen : Array Nat) (c0 : Nat) (tab2 : Nat → Option Nat) : Prop where
  on : On w wr
  iter : wr.heap[it]? = some (.mapIter (some mb) cl seen c0)
  clk : cl ≤ c0
  map : ∃ es2 cl2, wr.heap[mb2]? = some (.map es2 cl2) ∧ Tab es2 cl2 tab2
  done : ∀ k : Nat, tab2 k ≠ none ↔ ∃ e ∈ es.toList, e.key = .int .u64 k ∧ seen.contains e.born = true
  page : ∀ k b, tab2 k = some b → w.heap.size ≤ b ∧ wr.heap[b]? = some (.cells (rwA 4096 fun i => M (k * 4096 + i)) 64 (0, 0))
  inj : ∀ k k' b, tab2 k = some b → tab2 k' = some b → k = k'
theorem FkAt.next {n0 mb it cl : Nat} {es : Array MapEntry} {M : Nat → Int} {w wr w1 w2 w3 : World} {mb2 : Nat} {seen : Array Nat} {c0 : Nat} {tab2 : Nat → Option Nat} (h : FkAt n0 mb it cl es M w wr mb2 seen c0 tab2) (hs : Stamped es cl) (hmb2 : w.heap.size ≤ mb2) (hit : w.heap.size ≤ it) (hne : mb2 ≠ it)
    {k : Nat} {e : MapEntry} (he : e ∈ (leftOf es seen).toList) (hk : e.key = .int .u64 k) (h1 : But it wr w1) (h2 : w1.heap[it]? = some (.mapIter (some mb) cl (seen.push e.born) cl)) (h3 : On w1 w2)
    (h4 : w2.heap[w1.heap.size]? = some (.cells (rwA 4096 fun i => M (k * 4096 + i)) 64 (0, 0))) (h5 : But mb2 w2 w3) (h6 : ∃ es' cl', w3.heap[mb2]? = some (.map es' cl') ∧ Tab es' cl' (tabP tab2 k w1.heap.size)) :
    FkAt n0 mb it cl es M w w3 mb2 (seen.push e.born) cl (tabP tab2 k w1.heap.size) := by
  obtain ⟨es2, cl2, hm2, _⟩ := h.map
  have hst := (stamped_iff es cl).1 hs
  obtain ⟨hem, hen⟩ := mem_left he
  have hsz : wr.heap.size ≤ w1.heap.size := h1.size
  have hpage : ∀ j c, tab2 j = some c → c ≠ it ∧ c ≠ mb2 ∧ c < wr.heap.size := fun j c hj => by
    have hp := (h.page j c hj).2
    refine ⟨fun e => ?_, fun e => ?_, lt_of_block hp⟩
    · rw [e, h.iter] at hp; cases hp
    · rw [e, hm2] at hp; cases hp
  have hn1 : w1.heap.size ≠ mb2 := fun e => by
    have := lt_of_block hm2; omega
  refine ⟨?_, (h5.keep (fun e => hne e.symm) (h3.keep h2)), Nat.le_refl _, h6, fun j => ?_, fun j c hj => ?_, fun j j' c hj hj' => ?_⟩
  · exact But.below (n := w.heap.size) ((But.below (n := w.heap.size) h.on hit h.on.size h1).trans (h3.mono (by have := h.on.size; omega))) hmb2 (by have := h.on.size; have := h3.size; omega) h5
  · unfold tabP
    by_cases ej : j = k
    · subst ej
      rw [if_pos rfl]
      refine ⟨fun _ => ⟨e, hem, hk, by rw [contains_push]; simp⟩, fun _ h => by cases h⟩
    · rw [if_neg ej, h.done j]
      constructor
      · rintro ⟨x, hx, hxk, hxs⟩
        exact ⟨x, hx, hxk, by rw [contains_push, hxs]; rfl⟩
      · rintro ⟨x, hx, hxk, hxs⟩
        rw [contains_push] at hxs
        refine ⟨x, hx, hxk, ?_⟩
        cases hc : seen.contains x.born
        · rw [hc, Bool.false_or] at hxs
          have hb : x.born = e.born := by simpa using hxs
          have := born_inj hst.2.1 hx hem hb
          subst this
          rw [hk] at hxk
          injection hxk with _ hxk
          omega
        · rfl
  · unfold tabP at hj
    by_cases ej : j = k
    · subst ej
      rw [if_pos rfl] at hj
      injection hj with hj
      subst hj
      exact ⟨by have := h.on.size; omega, h5.keep hn1 h4⟩
    · rw [if_neg ej] at hj
      obtain ⟨p1, p2, p3⟩ := hpage j c hj
      exact ⟨(h.page j c hj).1, h5.keep p2 (h3.keep (h1.keep p1 (h.page j c hj).2))⟩
  · unfold tabP at hj hj'
    by_cases ej : j = k
    · by_cases ej' : j' = k
      · omega
      · rw [if_pos ej] at hj
        rw [if_neg ej'] at hj'
        injection hj with hj
        have := (hpage j' c hj').2.2; omega
    · by_cases ej' : j' = k
      · rw [if_neg ej] at hj
        rw [if_pos ej'] at hj'
        injection hj' with hj'
        have := (hpage j c hj).2.2; omega
      · rw [if_neg ej] at hj
        rw [if_neg ej'] at hj'
        exact h.inj j j' c hj hj'
end Go.Proofs.Ytkjkmekkcnmjnaa
