/- What holds of the device and of the law's own variables between two calls of a script: stage 11. Plain lemmas. Conditions: none. -/
import Derived.Test.YtmclkllmpamblaaClkR
import Derived.Test.YtmclkllmpamblaaRow
import Derived.Lib.QuietBelow
namespace Go.Proofs.Ytmclkllmpamblaa
open Go.RowKit

/-- what the reference has, in block C -/
def RcAt (C : Nat) (b : Bool) (c t : BitVec 64) (w : World) : Prop := w.heap[C]? = some (.cells #[.bool b, .int .u64 (u t), .int .u64 (u c)] 27 (0, 0))
theorem RcAt.on {C : Nat} {b : Bool} {c t : BitVec 64} {w w' : World} (h : RcAt C b c t w) (k : On w w') : RcAt C b c t w' := On.keep k h
theorem RcAt.but {B C : Nat} {b : Bool} {c t : BitVec 64} {w w' : World} (h : RcAt C b c t w) (k : But B w w') (hne : C ≠ B) : RcAt C b c t w' := k.keep hne h
theorem RcAt.c0 {C : Nat} {b : Bool} {c t : BitVec 64} {w : World} (h : RcAt C b c t w) : w.cell? ⟨C, 0, none⟩ = some (.bool b) := blk_cell h 0 rfl
theorem RcAt.c1 {C : Nat} {b : Bool} {c t : BitVec 64} {w : World} (h : RcAt C b c t w) : w.cell? ⟨C, 1, none⟩ = some (.int .u64 (u t)) := blk_cell h 1 rfl
theorem RcAt.c2 {C : Nat} {b : Bool} {c t : BitVec 64} {w : World} (h : RcAt C b c t w) : w.cell? ⟨C, 2, none⟩ = some (.int .u64 (u c)) := blk_cell h 2 rfl
theorem RcAt.free {C : Nat} {b : Bool} {c t : BitVec 64} {w : World} (h : RcAt C b c t w) (i : Nat) : w.frozen? ⟨C, i, none⟩ = false := blk_free h i
/-- the call that is under way, in block B -/
def OpC (B : Nat) (k : Int) (o v : BitVec 64) (s : Int) (w : World) : Prop := w.heap[B]? = some (.cells #[.int .i64 k, .int .u64 (u o), .int .u64 (u v), .int .i64 s] 31 (0, 0))
theorem OpC.on {C : Nat} {k s : Int} {o v : BitVec 64} {w w' : World} (h : OpC C k o v s w) (q : On w w') : OpC C k o v s w' := On.keep q h
theorem OpC.c1 {C : Nat} {k s : Int} {o v : BitVec 64} {w : World} (h : OpC C k o v s w) : w.cell? ⟨C, 1, none⟩ = some (.int .u64 (u o)) := blk_cell h 1 rfl
theorem OpC.c2 {C : Nat} {k s : Int} {o v : BitVec 64} {w : World} (h : OpC C k o v s w) : w.cell? ⟨C, 2, none⟩ = some (.int .u64 (u v)) := blk_cell h 2 rfl
theorem OpC.c3 {C : Nat} {k s : Int} {o v : BitVec 64} {w : World} (h : OpC C k o v s w) : w.cell? ⟨C, 3, none⟩ = some (.int .i64 s) := blk_cell h 3 rfl
/-- between two calls: the device is in block B, the reference in block C, and all else is as it was -/
structure ClkInv (w wr : World) (B C : Nat) (b : Bool) (c t : BitVec 64) : Prop where
  dev : CkAt B b c t wr
  ref : RcAt C b c t wr
  ne : B ≠ C
  lo : w.heap.size ≤ B ∧ w.heap.size ≤ C
  below : Below w.heap.size w wr
theorem ClkInv.on {w wr w' : World} {B C : Nat} {b : Bool} {c t : BitVec 64} (h : ClkInv w wr B C b c t) (k : On wr w') : ClkInv w w' B C b c t :=
  ⟨h.dev.on k, h.ref.on k, h.ne, h.lo, h.below.trans (k.mono h.below.size)⟩
end Go.Proofs.Ytmclkllmpamblaa
