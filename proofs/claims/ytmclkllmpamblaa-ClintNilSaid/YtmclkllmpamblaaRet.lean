/- What a function gives back whose result is a struct that lies in a block which the call has made, alone or with a word beside. Plain lemmas. Conditions: none. -/
import Derived.Test.YtmclkllmpamblaaBut
import Derived.Laws.Rows
import Derived.ProofKit
namespace Go.Proofs.Ytmclkllmpamblaa
open Go.RowKit

theorem ret_row {P : Program} {fn : Func} {R : Ending → World → Prop} {a : Act} {wr : World} {cs : Array Value} {p : Tmp} {t : TypeId} {d : TypeDesc} (g : Nat) (hr : fn.results = #[.cell p t]) (hp : a.tmps.getD p undef = .pointer (some ⟨g, 0, none⟩))
    (hu : P.underlying t = some d) (hk : (match d with | .struct _ | .array _ _ => true | _ => false) = true) (hi : (P.info? t).map (·.size) = some cs.size) (hd : a.defers = []) (hg : wr.heap[g]? = some (.cells cs t (0, 0))) (hR : R (.returned (.agg cs)) wr) : bodyPost P fn R .ret a wr :=
  bodyPost_ret (results_cell_row hr _ _ g t cs (0, 0) d hp hg hu hk hi) hd hR
theorem results_row_one {P : Program} {fn : Func} {p q : Tmp} {ty : TypeId} (h : fn.results = #[.cell p ty, .tmp q]) (tmps : Array Value) (w : World) (g : Nat) (t : TypeId) (cs : Array Value) (fr : Nat × Nat) (d : TypeDesc)
    (hp : tmps.getD p undef = .pointer (some ⟨g, 0, none⟩)) (hg : w.heap[g]? = some (.cells cs t fr))
    (hu : P.underlying ty = some d) (hd : (match d with | .struct _ | .array _ _ => true | _ => false) = true) (hi : (P.info? ty).map (·.size) = some cs.size) :
    (results fn tmps).run P w = .ok (.tuple #[.agg cs, tmps.getD q undef]) w := by
  rw [results_cell_tmp h]
  have hp' : tmps[p]?.getD undef = .pointer (some ⟨g, 0, none⟩) := by simpa using hp
  simp [hp', asAddr, run_loadVar_row w g t ty cs fr d hg hu hd hi]
theorem ret_row1 {P : Program} {fn : Func} {R : Ending → World → Prop} {a : Act} {wr : World} {cs : Array Value} {p q : Tmp} {t : TypeId} {d : TypeDesc} (g : Nat) (hr : fn.results = #[.cell p t, .tmp q]) (hp : a.tmps.getD p undef = .pointer (some ⟨g, 0, none⟩))
    (hu : P.underlying t = some d) (hk : (match d with | .struct _ | .array _ _ => true | _ => false) = true) (hi : (P.info? t).map (·.size) = some cs.size) (hd : a.defers = []) (hg : wr.heap[g]? = some (.cells cs t (0, 0))) (hR : R (.returned (.tuple #[.agg cs, a.tmps.getD q undef])) wr) : bodyPost P fn R .ret a wr :=
  bodyPost_ret (results_row_one hr _ _ g t cs (0, 0) d hp hg hu hk hi) hd hR
theorem blk_next {w : World} {o x : Obj} : ((w.alloc o).alloc x).heap[w.heap.size + 1]? = some x := by
  have := blk_new (w.alloc o) x
  rwa [alloc_size] at this
end Go.Proofs.Ytmclkllmpamblaa
