/- What it is that a call makes new memory alone. Plain lemmas. Conditions: none. -/
import Derived.WalkKit
import Derived.Below
import Derived.Outline
import Derived.Lib.QuietBelow
namespace Go.Proofs.Ytmclkllmpamblaa
open Go.RowKit

/-- of what was there nothing has turned -/
def On (w w' : World) : Prop := Below w.heap.size w w'
theorem On.refl (w : World) : On w w := Below.refl _ _
theorem On.trans {a b c : World} (h : On a b) (k : On b c) : On a c := Below.trans h (Below.mono k h.size)
theorem On.alloc {a b : World} (h : On a b) (o : Obj) : On a (b.alloc o) := Below.alloc h h.size o
theorem On.drewN {a b : World} (h : On a b) (n : Nat) : On a (b.drewN n) := ⟨h.os, h.tape, h.output, h.size, h.block⟩
theorem On.grow {a b : World} (h : On a b) (d : Nat) (os : Array Obj) : On a (Sort.grow (redrawn b d) os) := h.trans (below_regrown b d os)
theorem on_drawn (w : World) (n : Nat) : On w (w.drewN n) := (On.refl w).drewN n
/-- a callee that only makes new memory, at a region that draws -/
theorem Calls.on_of {P : Program} {f : FuncId} {args : Array Value} {w : World} {d : Nat} {os : Array Obj} {v : Value}
    (h : Calls P f args (Sort.grow (redrawn w d) os) fun e w' => e = .returned v ∧ On (Sort.grow (redrawn w d) os) w') : Calls P f args (Sort.grow (redrawn w d) os) fun e w'' => e = .returned v ∧ ∃ p : Regrown, w'' = Sort.grow (redrawn w p.d) p.os :=
  Calls.regrown_of h

theorem new_cell (w : World) (cs : Array Value) (t : TypeId) (i : Nat) {v : Value} (h : cs[i]? = some v) (d : Nat) (os : Array Obj) : (Sort.grow (redrawn (w.alloc (.cells cs t)) d) os).cell? ⟨w.heap.size, i, none⟩ = some v :=
  cell_regrown ((World.cell?_alloc_at cs t _ i rfl).trans h) d os
/-- a cell of a block that the call has made, in each later world -/
theorem on_new {w wr : World} {cs : Array Value} {t : TypeId} (h : On (w.alloc (.cells cs t)) wr) (i : Nat) {v : Value} (hv : cs[i]? = some v) : wr.cell? ⟨w.heap.size, i, none⟩ = some v :=
  (Below.cell h (p := ⟨w.heap.size, i, none⟩) (by simp)).trans ((World.cell?_alloc_at cs t _ i rfl).trans hv)
theorem Calls.on_same {P : Program} {f : FuncId} {args : Array Value} {w : World} {d : Nat} {os : Array Obj} {v : Value}
    (h : Calls P f args (Sort.grow (redrawn w d) os) fun e w' => e = .returned v ∧ Sort.grow (redrawn w d) os = w') : Calls P f args (Sort.grow (redrawn w d) os) fun e w'' => e = .returned v ∧ ∃ p : Regrown, w'' = Sort.grow (redrawn w p.d) p.os :=
  Calls.on_of (h.mono fun _ _ h => ⟨h.1, h.2 ▸ On.refl _⟩)
theorem alloc_size (w : World) (o : Obj) : (w.alloc o).heap.size = w.heap.size + 1 := by simp
end Go.Proofs.Ytmclkllmpamblaa
