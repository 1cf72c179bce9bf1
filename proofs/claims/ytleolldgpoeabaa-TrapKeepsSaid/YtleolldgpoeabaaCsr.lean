/- The state of the CSRs, and the outer world, as one value each. Conditions: none. -/
import Derived.Test.YtleolldgpoeabaaCsrM
import Derived.Test.YtleolldgpoeabaaSlot
import Derived.Test.YtleolldgpoeabaaRows
import Derived.WalkKit
import Derived.ProofKit
import Derived.Lib.Hide
import Derived.KernelRfl
import Derived.Laws.Rows
import Derived.Laws.ResultCell
import Derived.BigQuiet
import Derived.Deep.QuietTactic
namespace Go.Proofs.Ytleolldgpoeabaa
open Go.RowKit

theorem csrT : RowTy Try.prog 26 30 := ⟨by kernel_rfl, by kernel_rfl⟩
theorem envT : RowTy Try.prog 35 10 := ⟨by kernel_rfl, by kernel_rfl⟩
theorem csr_zero (w : World) : (zeroValue 26).run Try.prog w = .ok (.agg (cV zC)) w := by
  rw [cV_eq]
  exact (zero_of_info (P := Try.prog) (t := 26) (v := .agg (cL zC)) (n := 30) (by kernel_rfl)).1 w
/-- .. behind a name, for a walk -/
theorem csr_new : ∃ z, (∀ w, (zeroValue 26).run Try.prog w = .ok (.agg z) w) ∧ Hid (z = cV zC) := ⟨_, csr_zero, Lib.hid rfl⟩
theorem csr_leaves : leaves Try.prog 12 26 = some csrLeaves := by kernel_rfl
theorem csr_eql (c : Nat → BitVec 64) (w : World) : (Go.binOp .eql 26 (.agg (cV c)) (.agg (cV c))).run Try.prog w = .ok (.bool true) w :=
  eql_self csr_leaves (by kernel_rfl) (by kernel_rfl) (by omega) (by kernel_rfl) (cV_fits c) w
theorem csr_self (c : Nat → BitVec 64) (w : World) : (Op.equalIn 10000 26 (.agg (cV c)) (.agg (cV c))).run Try.prog w = .ok true w :=
  eq_self csr_leaves (by kernel_rfl) (by kernel_rfl) (by omega) (by kernel_rfl) (cV_fits c) w
/-- one word of a state is written -/
theorem blk_upd {w : World} {b : Nat} {c : Nat → BitVec 64} {t : TypeId} (h : w.heap[b]? = some (.cells (cV c) t (0, 0))) (i : Nat) (v : BitVec 64) : (w.setCell ⟨b, i, none⟩ (.int .u64 (u v))).heap[b]? = some (.cells (cV (upd c i v)) t (0, 0)) := by
  rw [← cV_set]; exact blk_put h i _
theorem csr_ld {ops : Array Oper} {rest : List Oper} {o : Oper} {a : Act} {w : World} {Q : Exit → Act → World → Prop} {p : Tmp} {g : Nat} {c : Nat → BitVec 64} (hgd : Region.wanted o (yielded ops a.tmps) = true) (ho : o.op = .load 26 (.tmp p))
    (hx : a.eval (.tmp p) = .pointer (some ⟨g, 0, none⟩)) (hg : w.heap[g]? = some (.cells (cV c) 26 (0, 0))) (h : wpList Try.prog ops Q rest (a.put o.dst (.agg (cV c))) w) : wpList Try.prog ops Q (o :: rest) a w :=
  row_ld csrT hgd ho hx hg (cV_size c) h
theorem env_ld {ops : Array Oper} {rest : List Oper} {o : Oper} {a : Act} {w : World} {Q : Exit → Act → World → Prop} {k : Tmp} {g : Nat} {e : Nat → BitVec 64} {p q : Bool} (hgd : Region.wanted o (yielded ops a.tmps) = true) (ho : o.op = .load 35 (.tmp k))
    (hx : a.eval (.tmp k) = .pointer (some ⟨g, 0, none⟩)) (hg : w.heap[g]? = some (.cells (eV e p q) 35 (0, 0))) (h : wpList Try.prog ops Q rest (a.put o.dst (.agg (eV e p q))) w) : wpList Try.prog ops Q (o :: rest) a w :=
  row_ld envT hgd ho hx hg (eV_size e p q) h
theorem csr_st {ops : Array Oper} {rest : List Oper} {o : Oper} {a : Act} {w : World} {Q : Exit → Act → World → Prop} {p k : Tmp} {g : Nat} {c old : Nat → BitVec 64} (hgd : Region.wanted o (yielded ops a.tmps) = true) (ho : o.op = .store 26 (.tmp p) (.tmp k))
    (hx : a.eval (.tmp p) = .pointer (some ⟨g, 0, none⟩)) (hy : a.eval (.tmp k) = .agg (cV c)) (hg : w.heap[g]? = some (.cells (cV old) 26 (0, 0)))
    (h : wpList Try.prog ops Q rest (a.put o.dst undef) (w.setRow g (cV c))) : wpList Try.prog ops Q (o :: rest) a w :=
  row_st csrT hgd ho hx hy hg (cV_size old) (cV_size c) (cV_one c) h
theorem set_row {w : World} {g : Nat} {c old : Nat → BitVec 64} {t : TypeId} (h : w.heap[g]? = some (.cells (cV old) t (0, 0))) : (w.setRow g (cV c)).heap[g]? = some (.cells (cV c) t (0, 0)) := setRow_heap _ _ _ _ _ _ h
/-- a callee's boxed arguments, in each later world: the state's block, the outer world's -/
theorem box_c {w wr : World} {c : Nat → BitVec 64} (h : On (w.alloc (.cells (cV c) 26)) wr) : wr.heap[w.heap.size]? = some (.cells (cV c) 26 (0, 0)) := h.keep (heap_alloc_new _ _)
theorem ld_word (p : Addr) (v : Value) (w : World) (h : w.cell? p = some v) : (Instr.loadAt 22 (.pointer (some p))).run Try.prog w = .ok v w := by
  go_simp
theorem st_word (p : Addr) (v : Value) (x : Int) (w : World) (h : w.cell? p = some v) (hf : w.frozen? p = false) : (Instr.storeAt 22 (.pointer (some p)) (.int .u64 x)).run Try.prog w = .ok () (w.setCell p (.int .u64 x)) := by
  go_simp
theorem csr_at {w : World} {g : Nat} {c : Nat → BitVec 64} (h : w.heap[g]? = some (.cells (cV c) 26 (0, 0))) : (Instr.loadAt 26 (.pointer (some ⟨g, 0, none⟩))).run Try.prog w = .ok (.agg (cV c)) w := row_at csrT h (cV_size c)
theorem env_at {w : World} {g : Nat} {e : Nat → BitVec 64} {p q : Bool} (h : w.heap[g]? = some (.cells (eV e p q) 35 (0, 0))) : (Instr.loadAt 35 (.pointer (some ⟨g, 0, none⟩))).run Try.prog w = .ok (.agg (eV e p q)) w := row_at envT h (eV_size e p q)
end Go.Proofs.Ytleolldgpoeabaa
