/- A hart as one value: its zero, loaded, stored, told, compared with itself; its CSRs and its registers out of it. Conditions: none. -/
import Derived.Test.YtleolldgpoeabaaHvM
import Derived.Test.YtleolldgpoeabaaCsrP
import Derived.Test.YtleolldgpoeabaaCellsN
namespace Go.Proofs.Ytleolldgpoeabaa
open Go.RowKit

theorem hrtT : RowTy Try.prog 28 66 := ⟨by kernel_rfl, by kernel_rfl⟩
theorem regT : RowTy Try.prog 23 32 := ⟨by kernel_rfl, by kernel_rfl⟩
theorem hrt_zero (w : World) : (zeroValue 28).run Try.prog w = .ok (.agg (hV zC 0 false)) w := by
  rw [hV_eq]
  exact (zero_of_info (P := Try.prog) (t := 28) (v := .agg (hL zC 0 false)) (n := 66) (by kernel_rfl)).1 w
theorem hrt_leaves : leaves Try.prog 12 28 = some hartLvs := by kernel_rfl
theorem reg_leaves : leaves Try.prog 12 23 = some (List.replicate 32 (.int .u64)) := by kernel_rfl
theorem hrt_eql (h : Nat → BitVec 64) {p : Int} (r : Bool) (hp : (Lit.int .i64 p).wf = true) (w : World) : (Go.binOp .eql 28 (.agg (hV h p r)) (.agg (hV h p r))).run Try.prog w = .ok (.bool true) w :=
  eql_self hrt_leaves (by kernel_rfl) (by kernel_rfl) (by omega) (by kernel_rfl) (hV_fits h r hp) w
theorem hrt_self (h : Nat → BitVec 64) {p : Int} (r : Bool) (hp : (Lit.int .i64 p).wf = true) (w : World) : (Op.equalIn 10000 28 (.agg (hV h p r)) (.agg (hV h p r))).run Try.prog w = .ok true w :=
  eq_self hrt_leaves (by kernel_rfl) (by kernel_rfl) (by omega) (by kernel_rfl) (hV_fits h r hp) w
theorem reg_self (h : Nat → BitVec 64) (w : World) : (Op.equalIn 10000 23 (.agg (xV h)) (.agg (xV h))).run Try.prog w = .ok true w :=
  eq_self reg_leaves (by kernel_rfl) (by kernel_rfl) (by omega) (by kernel_rfl) (xV_fits h) w
theorem reg_neq (h : Nat → BitVec 64) (w : World) : (Go.binOp .neq 23 (.agg (xV h)) (.agg (xV h))).run Try.prog w = .ok (.bool false) w := by
  rw [run_neq_struct, reg_self h w]; rfl
theorem add_at (g k j : Nat) : (⟨g, k, none⟩ : Addr).add j = ⟨g, k + j, none⟩ := by unfold Addr.add; split <;> simp_all
section
variable {ops : Array Oper} {rest : List Oper} {o : Oper} {a : Act} {w : World} {Q : Exit → Act → World → Prop} {s k : Tmp} {g : Nat} {h : Nat → BitVec 64} {p : Int} {r : Bool}
theorem hrt_ld (hgd : Region.wanted o (yielded ops a.tmps) = true) (ho : o.op = .load 28 (.tmp s)) (hx : a.eval (.tmp s) = .pointer (some ⟨g, 0, none⟩)) (hg : w.heap[g]? = some (.cells (hV h p r) 28 (0, 0)))
    (hn : wpList Try.prog ops Q rest (a.put o.dst (.agg (hV h p r))) w) : wpList Try.prog ops Q (o :: rest) a w := row_ld hrtT hgd ho hx hg (hV_size h p r) hn
theorem hrt_st {h' : Nat → BitVec 64} {p' : Int} {r' : Bool} (hgd : Region.wanted o (yielded ops a.tmps) = true) (ho : o.op = .store 28 (.tmp s) (.tmp k)) (hx : a.eval (.tmp s) = .pointer (some ⟨g, 0, none⟩)) (hy : a.eval (.tmp k) = .agg (hV h p r))
    (hg : w.heap[g]? = some (.cells (hV h' p' r') 28 (0, 0))) (hn : wpList Try.prog ops Q rest (a.put o.dst undef) (w.setRow g (hV h p r))) : wpList Try.prog ops Q (o :: rest) a w :=
  row_st hrtT hgd ho hx hy hg (hV_size ..) (hV_size ..) (hV_one ..) hn
/-- the CSRs out of a hart -/
theorem csr_of_ld (hgd : Region.wanted o (yielded ops a.tmps) = true) (ho : o.op = .load 26 (.tmp s)) (hx : a.eval (.tmp s) = .pointer (some ⟨g, 34, none⟩)) (hg : w.heap[g]? = some (.cells (hV h p r) 28 (0, 0)))
    (hn : wpList Try.prog ops Q rest (a.put o.dst (.agg (cV (cH h)))) w) : wpList Try.prog ops Q (o :: rest) a w :=
  cells_ld csrT hgd ho hx (fun j v hv => by rw [add_at]; exact blk_cell hg (34 + j) (hV_csr h p r j v hv)) (cV_size _) hn
/-- the registers out of a hart -/
theorem reg_of_ld (hgd : Region.wanted o (yielded ops a.tmps) = true) (ho : o.op = .load 23 (.tmp s)) (hx : a.eval (.tmp s) = .pointer (some ⟨g, 2, none⟩)) (hg : w.heap[g]? = some (.cells (hV h p r) 28 (0, 0)))
    (hn : wpList Try.prog ops Q rest (a.put o.dst (.agg (xV h))) w) : wpList Try.prog ops Q (o :: rest) a w :=
  cells_ld regT hgd ho hx (fun j v hv => by rw [add_at]; exact blk_cell hg (2 + j) (hV_regs h p r j v hv)) (xV_size _) hn
/-- a hart is stored into a block just made -/
theorem hrt_new_st {h' : Nat → BitVec 64} {p' : Int} {r' : Bool} (ho : o.op = .store 28 (.tmp s) (.tmp k)) (hgd : Region.wanted o (yielded ops a.tmps) = true) (hx : a.eval (.tmp s) = .pointer (some ⟨w.heap.size, 0, none⟩)) (hy : a.eval (.tmp k) = .agg (hV h p r))
    (hn : wpList Try.prog ops Q rest (a.put o.dst undef) (w.alloc (.cells (hV h p r) 28))) : wpList Try.prog ops Q (o :: rest) a (w.alloc (.cells (hV h' p' r') 28)) :=
  hrt_st hgd ho hx hy (heap_alloc_new _ _) (by rw [setRow_new]; exact hn)
theorem env_new_st {e e' : Nat → BitVec 64} {q1 q2 q3 q4 : Bool} (ho : o.op = .store 35 (.tmp s) (.tmp k)) (hgd : Region.wanted o (yielded ops a.tmps) = true) (hx : a.eval (.tmp s) = .pointer (some ⟨w.heap.size, 0, none⟩)) (hy : a.eval (.tmp k) = .agg (eV e q1 q2))
    (hn : wpList Try.prog ops Q rest (a.put o.dst undef) (w.alloc (.cells (eV e q1 q2) 35))) : wpList Try.prog ops Q (o :: rest) a (w.alloc (.cells (eV e' q3 q4) 35)) :=
  row_st envT hgd ho hx hy (heap_alloc_new _ _) (eV_size ..) (eV_size ..) (eV_one ..) (by rw [setRow_new]; exact hn)
end
theorem hrt_at {w : World} {g : Nat} {h : Nat → BitVec 64} {p : Int} {r : Bool} (hg : w.heap[g]? = some (.cells (hV h p r) 28 (0, 0))) : (Instr.loadAt 28 (.pointer (some ⟨g, 0, none⟩))).run Try.prog w = .ok (.agg (hV h p r)) w := row_at hrtT hg (hV_size ..)
theorem hcsr_at {w : World} {g : Nat} {h : Nat → BitVec 64} {p : Int} {r : Bool} (hg : w.heap[g]? = some (.cells (hV h p r) 28 (0, 0))) : (Instr.loadAt 26 (.pointer (some ⟨g, 34, none⟩))).run Try.prog w = .ok (.agg (cV (cH h))) w :=
  loadAt_cells csrT (fun j v hv => by rw [add_at]; exact blk_cell hg (34 + j) (hV_csr h p r j v hv)) (cV_size _)
/-- .. of a hart by value -/
theorem hrt_csrs (h : Nat → BitVec 64) (p : Int) (r : Bool) (w : World) : (Instr.field 28 (.agg (hV h p r)) 3).run Try.prog w = .ok (.agg (cV (cH h))) w := by
  rw [← hV_csrs h p r, hV_eq]; kernel_rfl
theorem ld_int (x : Addr) (v : Value) (w : World) (hc : w.cell? x = some v) : (Instr.loadAt 3 (.pointer (some x))).run Try.prog w = .ok v w := by
  go_simp
end Go.Proofs.Ytleolldgpoeabaa
