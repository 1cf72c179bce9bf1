/- Structs out of cells in a row; a struct stored into a block just made. Conditions: none. -/
import Derived.Test.YtleolldgpoeabaaCsr
namespace Go.Proofs.Ytleolldgpoeabaa
open Go.RowKit

theorem setRow_new (w : World) (cs cs' : Array Value) (t : TypeId) : (w.alloc (.cells cs t)).setRow w.heap.size cs' = w.alloc (.cells cs' t) := by
  unfold World.setRow World.alloc
  congr 1
  apply Array.ext
  · simp
  · intro i h1 h2
    rw [Array.getElem_modify]
    by_cases h : w.heap.size = i
    · subst h; simp
    · rw [if_neg h]
      have hi : i < w.heap.size := by simp at h2; omega
      simp [Array.getElem_push, hi]
/-- a state is stored into a block just made -/
theorem csr_new_st {ops : Array Oper} {rest : List Oper} {o : Oper} {a : Act} {w : World} {Q : Exit → Act → World → Prop} {p k : Tmp} {c old : Nat → BitVec 64} (ho : o.op = .store 26 (.tmp p) (.tmp k)) (hgd : Region.wanted o (yielded ops a.tmps) = true)
    (hx : a.eval (.tmp p) = .pointer (some ⟨w.heap.size, 0, none⟩)) (hy : a.eval (.tmp k) = .agg (cV c))
    (h : wpList Try.prog ops Q rest (a.put o.dst undef) (w.alloc (.cells (cV c) 26))) : wpList Try.prog ops Q (o :: rest) a (w.alloc (.cells (cV old) 26)) :=
  csr_st hgd ho hx hy (heap_alloc_new _ _) (by rw [setRow_new]; exact h)
/-- a struct out of any cells in a row -/
theorem loadAt_cells {P : Program} {t : TypeId} {n : Nat} {w : World} {x : Addr} {cs : Array Value} (hT : RowTy P t n) (hc : ∀ j v, cs[j]? = some v → w.cell? (x.add j) = some v) (hs : cs.size = n) : (Instr.loadAt t (.pointer (some x))).run P w = .ok (.agg cs) w := by
  have hl : (loadCells x cs.toList.length).run P w = .ok cs.toList.toArray w := run_loadCells_list (P := P) w x cs.toList (fun j v hv => hc j v (by simpa using hv))
  have hi := hT.size
  have hd := hT.desc
  have hagg : (isAgg t).run P w = .ok true w := by
    unfold isAgg
    rcases hd with ⟨fs, h⟩ | ⟨m, e, h⟩ <;> rw [Sem.run_bind, run_underlying h w] <;> rfl
  simp only [Instr.loadAt, Instr.sureAddr, Sem.run_bind, Sem.run_pure, Result.andThen]
  cases hq : P.info? t with
  | none => simp [hq] at hi
  | some i =>
    have hz : i.size = cs.size := by rw [hq] at hi; simpa [hs] using hi
    simp only [Array.length_toList, Array.toArray_toList] at hl
    simp [loadVar, Sem.run_bind, hagg, sizeOf, typeInfo, hq, hz, hl]
theorem cells_ld {P : Program} {t : TypeId} {n : Nat} {ops : Array Oper} {rest : List Oper} {o : Oper} {a : Act} {w : World} {Q : Exit → Act → World → Prop} {p : Tmp} {x : Addr} {cs : Array Value} (hT : RowTy P t n) (hgd : Region.wanted o (yielded ops a.tmps) = true) (ho : o.op = .load t (.tmp p))
    (hx : a.eval (.tmp p) = .pointer (some x)) (hc : ∀ j v, cs[j]? = some v → w.cell? (x.add j) = some v) (hs : cs.size = n) (h : wpList P ops Q rest (a.put o.dst (.agg cs)) w) : wpList P ops Q (o :: rest) a w :=
  wpList_wanted hgd fun _ hK => by
    unfold Oper.wp execOp
    simp only [ho, hx, Sem.run_bind, loadAt_cells hT hc hs, Result.andThen_ok]
    exact hK _ _ h
theorem eV_one (e : Nat → BitVec 64) (p q : Bool) : (eV e p q).all (·.oneCell') = true := by
  rw [eV_eq]; unfold eL; simp [Value.oneCell']
end Go.Proofs.Ytleolldgpoeabaa
