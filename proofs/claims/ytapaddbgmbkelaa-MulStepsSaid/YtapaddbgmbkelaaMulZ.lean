/- What holds of the unit and of the law's own variables between two calls of a script: stage 5. Plain lemmas. Conditions: none. -/
import Derived.Test.YtapaddbgmbkelaaMulY
import Derived.Test.YtapaddbgmbkelaaRow
namespace Go.Proofs.Ytapaddbgmbkelaa
open Go.RowKit

/-- the call that is under way, in block B -/
def AtOp (B : Nat) (k f : Int) (wd : Bool) (a b : BitVec 64) (w : World) : Prop :=
  w.heap[B]? = some (.cells #[.int .i64 k, .int .i64 f, .bool wd, .int .u64 (u a), .int .u64 (u b)] 30 (0, 0))
/-- the unit (block B) is what the law says that it is: so many steps left, done or not; what is under way stands in block C -/
inductive Inv (w wr : World) (B C : Nat) : Int → Bool → Prop
  | idle (k f : Int) (wd : Bool) (a b : BitVec 64) : UAt B .idle wr → AtOp C k f wd a b wr → Below w.heap.size w wr → Inv w wr B C 0 false
  | busy (k f : Int) (wd : Bool) (a b : BitVec 64) (n : Int) : UAt B (.busy f wd (prp f wd a) (prp f wd b) n) wr → AtOp C k f wd a b wr → Below w.heap.size w wr → 1 ≤ n → n ≤ 64 → Inv w wr B C n false
  | fin (k f : Int) (wd : Bool) (a b : BitVec 64) : UAt B (.fin (mres f wd a b)) wr → AtOp C k f wd a b wr → Below w.heap.size w wr → Inv w wr B C 0 true
theorem Inv.below {w wr : World} {B C : Nat} {l : Int} {d : Bool} (h : Inv w wr B C l d) : Below w.heap.size w wr := by cases h <;> assumption
theorem AtOp.on {B : Nat} {k f : Int} {wd : Bool} {a b : BitVec 64} {w w' : World} (h : AtOp B k f wd a b w) (hb : On w w') : AtOp B k f wd a b w' := hb.keep h
theorem AtOp.but {B C : Nat} {k f : Int} {wd : Bool} {a b : BitVec 64} {w w' : World} (h : AtOp B k f wd a b w) (hb : But C w w') (hne : B ≠ C) : AtOp B k f wd a b w' := hb.keep hne h
theorem AtOp.c1 {B : Nat} {k f : Int} {wd : Bool} {a b : BitVec 64} {w : World} (h : AtOp B k f wd a b w) : w.cell? ⟨B, 1, none⟩ = some (.int .i64 f) := blk_cell h 1 rfl
theorem AtOp.c0 {B : Nat} {k f : Int} {wd : Bool} {a b : BitVec 64} {w : World} (h : AtOp B k f wd a b w) : w.cell? ⟨B, 0, none⟩ = some (.int .i64 k) := blk_cell h 0 rfl
theorem AtOp.c2 {B : Nat} {k f : Int} {wd : Bool} {a b : BitVec 64} {w : World} (h : AtOp B k f wd a b w) : w.cell? ⟨B, 2, none⟩ = some (.bool wd) := blk_cell h 2 rfl
theorem AtOp.c3 {B : Nat} {k f : Int} {wd : Bool} {a b : BitVec 64} {w : World} (h : AtOp B k f wd a b w) : w.cell? ⟨B, 3, none⟩ = some (.int .u64 (u a)) := blk_cell h 3 rfl
theorem AtOp.c4 {B : Nat} {k f : Int} {wd : Bool} {a b : BitVec 64} {w : World} (h : AtOp B k f wd a b w) : w.cell? ⟨B, 4, none⟩ = some (.int .u64 (u b)) := blk_cell h 4 rfl
theorem AtOp.free {B : Nat} {k f : Int} {wd : Bool} {a b : BitVec 64} {w : World} (h : AtOp B k f wd a b w) (i : Nat) : w.frozen? ⟨B, i, none⟩ = false := blk_free h i
/-- all five cells are written -/
def put5 (w : World) (B : Nat) (k f : Int) (wd : Bool) (a b : BitVec 64) : World :=
  ((((w.setCell ⟨B, 0, none⟩ (.int .i64 k)).setCell ⟨B, 1, none⟩ (.int .i64 f)).setCell ⟨B, 2, none⟩ (.bool wd)).setCell ⟨B, 3, none⟩ (.int .u64 (u a))).setCell ⟨B, 4, none⟩ (.int .u64 (u b))
theorem AtOp.put {B : Nat} {k f : Int} {wd : Bool} {a b : BitVec 64} {w : World} (h : AtOp B k f wd a b w) (k' f' : Int) (wd' : Bool) (a' b' : BitVec 64) : AtOp B k' f' wd' a' b' (put5 w B k' f' wd' a' b') :=
  blk_put (blk_put (blk_put (blk_put (blk_put h 0 _) 1 _) 2 _) 3 _) 4 _
theorem put5_far {w : World} {B C : Nat} (hne : C ≠ B) (k f : Int) (wd : Bool) (a b : BitVec 64) : (put5 w B k f wd a b).heap[C]? = w.heap[C]? :=
  (Below.heap_setCell _ _ _ _ hne).trans ((Below.heap_setCell _ _ _ _ hne).trans ((Below.heap_setCell _ _ _ _ hne).trans ((Below.heap_setCell _ _ _ _ hne).trans (Below.heap_setCell _ _ _ _ hne))))
theorem put5_but (w : World) (B : Nat) (k f : Int) (wd : Bool) (a b : BitVec 64) : But B w (put5 w B k f wd a b) :=
  (((((But.refl B w).setCell 0 _).setCell 1 _).setCell 2 _).setCell 3 _).setCell 4 _
theorem rst_no {f : Int} {wd : Bool} (h : dfd f wd = false) (a b : BitVec 64) : rst f wd a b = 0 := by unfold rst; rw [h]; rfl
theorem rst_yes {f : Int} {wd : Bool} (h : dfd f wd = true) (a b : BitVec 64) : rst f wd a b = stp f wd (prp f wd a) (prp f wd b) := by unfold rst; rw [h]; rfl
end Go.Proofs.Ytapaddbgmbkelaa
