/- What it is that a call writes one block alone, and makes new memory besides. Plain lemmas. Conditions: none. -/
import Derived.Test.YtmclkllmpamblaaOn
import Derived.Laws.Rows
import Derived.OneCell
namespace Go.Proofs.Ytmclkllmpamblaa
open Go.RowKit

/-- of what was there nothing has turned but block B -/
structure But (B : Nat) (w w' : World) : Prop where
  os : w'.os = w.os
  tape : w'.tape = w.tape
  output : w'.output = w.output
  size : w.heap.size ≤ w'.heap.size
  block : ∀ k, k < w.heap.size → k ≠ B → w'.heap[k]? = w.heap[k]?
theorem But.refl (B : Nat) (w : World) : But B w w := ⟨rfl, rfl, rfl, Nat.le_refl _, fun _ _ _ => rfl⟩
theorem But.trans {B : Nat} {a b c : World} (h : But B a b) (k : But B b c) : But B a c :=
  ⟨k.os.trans h.os, k.tape.trans h.tape, k.output.trans h.output, Nat.le_trans h.size k.size, fun i hi hn => (k.block i (Nat.lt_of_lt_of_le hi h.size) hn).trans (h.block i hi hn)⟩
theorem But.of_on {B : Nat} {a b : World} (h : On a b) : But B a b := ⟨h.os, h.tape, h.output, h.size, fun k hk _ => h.block k hk⟩
theorem But.setCell {B : Nat} {a b : World} (h : But B a b) (i : Nat) (v : Value) : But B a (b.setCell ⟨B, i, none⟩ v) :=
  h.trans ⟨rfl, rfl, rfl, by simp [World.setCell], fun k _ hn => Below.heap_setCell _ _ _ _ hn⟩
theorem But.alloc {B : Nat} {a b : World} (h : But B a b) (o : Obj) : But B a (b.alloc o) := h.trans (.of_on ((On.refl b).alloc o))
theorem But.on {B : Nat} {a b c : World} (h : But B a b) (k : On b c) : But B a c := h.trans (.of_on k)
theorem But.drewN {B : Nat} {a b : World} (h : But B a b) (n : Nat) : But B a (b.drewN n) := h.on (on_drawn b n)
theorem But.drew {B : Nat} {a b : World} (h : But B a b) : But B a b.drew := ⟨h.os, h.tape, h.output, h.size, h.block⟩
/-- the block is one that the call has made: what was there ahead of the call stays -/
theorem But.below {B n : Nat} {a b c : World} (h : Below n a b) (hB : n ≤ B) (hn : n ≤ b.heap.size) (k : But B b c) : Below n a c :=
  h.trans ⟨k.os, k.tape, k.output, k.size, fun i hi => k.block i (by omega) (by omega)⟩
/-- a block that is there stays, where another one is written -/
theorem But.keep {B C : Nat} {a b : World} (h : But B a b) (hne : C ≠ B) {o : Obj} (hc : a.heap[C]? = some o) : b.heap[C]? = some o :=
  (h.block C (lt_of_block hc) hne).trans hc
theorem On.keep {C : Nat} {a b : World} (h : On a b) {o : Obj} (hc : a.heap[C]? = some o) : b.heap[C]? = some o :=
  (h.block C (lt_of_block hc)).trans hc
theorem On.drew {a b : World} (h : On a b) : On a b.drew := ⟨h.os, h.tape, h.output, h.size, h.block⟩

/-- the cells of a block -/
theorem blk_cell {w : World} {b : Nat} {cs : Array Value} {t : TypeId} (h : w.heap[b]? = some (.cells cs t (0, 0))) (i : Nat) {v : Value} (hv : cs[i]? = some v) : w.cell? ⟨b, i, none⟩ = some v :=
  (cell_of_row w b i cs t (0, 0) h).trans hv
theorem blk_free {w : World} {b : Nat} {cs : Array Value} {t : TypeId} (h : w.heap[b]? = some (.cells cs t (0, 0))) (i : Nat) : w.frozen? ⟨b, i, none⟩ = false := frozen_of_row w b i cs t h
theorem blk_lt {w : World} {b : Nat} {o : Obj} (h : w.heap[b]? = some o) : b < w.heap.size := lt_of_block h
theorem blk_new (w : World) (o : Obj) : (w.alloc o).heap[w.heap.size]? = some o := heap_alloc_new w o
/-- one cell is written -/
theorem blk_put {w : World} {b : Nat} {cs : Array Value} {t : TypeId} (h : w.heap[b]? = some (.cells cs t (0, 0))) (i : Nat) (v : Value) : (w.setCell ⟨b, i, none⟩ v).heap[b]? = some (.cells (cs.setIfInBounds i v) t (0, 0)) := heap_setCell_same w b i cs t v h
/-- all four of four -/
theorem blk_put4 {w : World} {b : Nat} {c0 c1 c2 c3 : Value} {t : TypeId} (h : w.heap[b]? = some (.cells #[c0, c1, c2, c3] t (0, 0))) (v0 v1 v2 v3 : Value) :
    ((((w.setCell ⟨b, 0, none⟩ v0).setCell ⟨b, 1, none⟩ v1).setCell ⟨b, 2, none⟩ v2).setCell ⟨b, 3, none⟩ v3).heap[b]? = some (.cells #[v0, v1, v2, v3] t (0, 0)) :=
  blk_put (blk_put (blk_put (blk_put h 0 v0) 1 v1) 2 v2) 3 v3
end Go.Proofs.Ytmclkllmpamblaa
