/- A hart by value: its zero, its size, compared with itself. Conditions: none. -/
import Derived.Test.YthafghechghbpaaAgg
import Derived.Test.YthafghechghbpaaRows
import Derived.WalkKit
import Derived.ProofKit
import Derived.Lib.Hide
import Derived.KernelRfl
import Derived.Laws.Rows
import Derived.Laws.ResultCell
namespace Go.Proofs.Ythafghechghbpaa
open Go.RowKit

def hartZero : Array Value := #[.int .u64 0, .int .i64 0, .int .u64 0, .int .u64 0, .int .u64 0, .int .u64 0, .int .u64 0, .int .u64 0, .int .u64 0, .int .u64 0, .int .u64 0, .int .u64 0, .int .u64 0, .int .u64 0, .int .u64 0, .int .u64 0, .int .u64 0, .int .u64 0, .int .u64 0, .int .u64 0, .int .u64 0, .int .u64 0, .int .u64 0, .int .u64 0, .int .u64 0, .int .u64 0, .int .u64 0, .int .u64 0, .int .u64 0, .int .u64 0, .int .u64 0, .int .u64 0, .int .u64 0, .int .u64 0, .int .u64 0, .int .u64 0, .int .u64 0, .int .u64 0, .int .u64 0, .int .u64 0, .int .u64 0, .int .u64 0, .int .u64 0, .int .u64 0, .int .u64 0, .int .u64 0, .int .u64 0, .int .u64 0, .int .u64 0, .int .u64 0, .int .u64 0, .int .u64 0, .int .u64 0, .int .u64 0, .int .u64 0, .int .u64 0, .int .u64 0, .int .u64 0, .int .u64 0, .int .u64 0, .int .u64 0, .int .u64 0, .int .u64 0, .int .u64 0, .bool false, .int .u64 0]
theorem hart_zero (w : World) : (zeroValue 35).run Try.prog w = .ok (.agg hartZero) w :=
  (zero_of_info (P := Try.prog) (t := 35) (v := .agg hartZero) (n := 66) (by kernel_rfl)).1 w
theorem hart_size : (Try.prog.info? 35).map (·.size) = some 66 :=
  (zero_of_info (P := Try.prog) (t := 35) (v := .agg hartZero) (n := 66) (by kernel_rfl)).2
def hartLeaves : List Leaf := [.int .u64, .int .i64] ++ List.replicate 62 (.int .u64) ++ [.bool, .int .u64]
theorem hart_leaves : leaves Try.prog 12 35 = some hartLeaves := by kernel_rfl
theorem hart_cells : Try.prog.cellsOf 35 = hartLeaves.length := by kernel_rfl
theorem hart_key : Try.prog.keyTypeAt 12 35 = true := by kernel_rfl
theorem hart_agg : (match Try.prog.underlying 35 with | some (.struct _) | some (.array _ _) => true | _ => false) = true := by kernel_rfl
theorem hart_self (cs : Array Value) (h : Fits hartLeaves cs.toList) (w : World) : (Op.equalIn 10000 35 (.agg cs) (.agg cs)).run Try.prog w = .ok true w :=
  eq_self hart_leaves hart_key hart_cells (by omega) hart_agg h w
theorem hart_eql (cs : Array Value) (h : Fits hartLeaves cs.toList) (w : World) : (Go.binOp .eql 35 (.agg cs) (.agg cs)).run Try.prog w = .ok (.bool true) w := by
  rw [run_eql_struct, hart_self cs h w]; rfl
theorem hart_load {w : World} {g : Nat} {cs : Array Value} (hg : w.heap[g]? = some (.cells cs 35 (0, 0))) (hs : cs.size = 66) : (Instr.loadAt 35 (.pointer (some ⟨g, 0, none⟩))).run Try.prog w = .ok (.agg cs) w :=
  loadAt_row hg Try.underlying35 rfl (by rw [hs]; exact hart_size)
theorem hart_len {cs : Array Value} (h : Fits hartLeaves cs.toList) : cs.size = 66 := by
  have := h.length
  rw [Array.length_toList] at this
  exact this.trans (by decide)
theorem On.set {a b : World} (h : On a b) (p : Addr) (v : Value) (hp : a.heap.size ≤ p.block) : On a (b.setCell p v) := Below.setCell h hp v
theorem On.row {a b : World} (h : On a b) (g : Nat) (cs : Array Value) (hg : a.heap.size ≤ g) : On a (b.setRow g cs) :=
  ⟨h.os, h.tape, h.output, by have := h.size; simpa [World.setRow] using this, fun k hk => by rw [setRow_other _ _ _ _ (by omega)]; exact h.block k hk⟩
/-- another block stays where one is written -/
theorem blk_other {w : World} {b g i : Nat} {v : Value} {o : Obj} (h : w.heap[b]? = some o) (hne : b ≠ g) : (w.setCell ⟨g, i, none⟩ v).heap[b]? = some o := by
  rw [heap_setCell_other _ _ _ _ hne]; exact h
/-- where a walk is to stop: 'go_wp2_with (apply stop_field; (case ho => exact rfl))'; on by 'refine ⟨?_⟩' -/
structure Stop (p : Prop) : Prop where
  out : p
theorem stop_field {P : Program} {ops : Array Oper} {rest : List Oper} {o : Oper} {a : Act} {w : World} {Q : Exit → Act → World → Prop} {t : TypeId} {x : Operand} {i : Nat} (ho : o.op = .fieldAddr t x i) (h : Stop (wpList P ops Q (o :: rest) a w)) :
    wpList P ops Q (o :: rest) a w := (fun _ => h.out) ho
/-- a whole hart out of a block -/
theorem hart_ld {ops : Array Oper} {rest : List Oper} {o : Oper} {a : Act} {w : World} {Q : Exit → Act → World → Prop} {p : Tmp} {g : Nat} {cs : Array Value} (hgd : o.guard = none) (ho : o.op = .load 35 (.tmp p))
    (hx : a.eval (.tmp p) = .pointer (some ⟨g, 0, none⟩)) (hg : w.heap[g]? = some (.cells cs 35 (0, 0))) (hs : cs.size = 66) (h : wpList Try.prog ops Q rest (a.put o.dst (.agg cs)) w) : wpList Try.prog ops Q (o :: rest) a w :=
  wpList_load_row hgd 35 (.tmp p) ho g hx 35 cs (0, 0) _ hg Try.underlying35 rfl (by rw [hs]; exact hart_size) h
/-- a whole hart into a block -/
theorem hart_st {ops : Array Oper} {rest : List Oper} {o : Oper} {a : Act} {w : World} {Q : Exit → Act → World → Prop} {p k : Tmp} {g : Nat} {cs old : Array Value} (hgd : o.guard = none) (ho : o.op = .store 35 (.tmp p) (.tmp k))
    (hx : a.eval (.tmp p) = .pointer (some ⟨g, 0, none⟩)) (hy : a.eval (.tmp k) = .agg cs) (hg : w.heap[g]? = some (.cells old 35 (0, 0))) (hold : old.size = 66) (hs : cs.size = 66) (h1 : cs.all (·.oneCell') = true)
    (h : wpList Try.prog ops Q rest (a.put o.dst undef) (w.setRow g cs)) : wpList Try.prog ops Q (o :: rest) a w :=
  wpList_store_row hgd 35 (.tmp p) (.tmp k) ho g cs hx hy 35 old hg (by rw [hs]; exact hart_size) (by rw [hold, hs]) h1 h
/-- a hart as a call's one result -/
theorem hart_back {fn : Func} {R : Ending → World → Prop} {a : Act} {wr : World} {cs old : Array Value} {p : Tmp} {g : Nat} (hr : fn.results = #[.cell p 35]) (hp : a.tmps.getD p undef = .pointer (some ⟨g, 0, none⟩))
    (hd : a.defers = []) (hg : wr.heap[g]? = some (.cells old 35 (0, 0))) (hs : cs.size = 66) (hR : R (.returned (.agg cs)) (wr.setRow g cs)) : bodyPost Try.prog fn R .ret a (wr.setRow g cs) :=
  bodyPost_ret (results_cell_row hr _ _ g 35 cs (0, 0) _ hp (setRow_heap _ _ old cs _ _ hg) Try.underlying35 rfl (by rw [hs]; exact hart_size)) hd hR
end Go.Proofs.Ythafghechghbpaa
