/- What the statements of package trap want: the first test; a hart by value. Conditions: named at each. -/
import Derived.Test.YtleolldgpoeabaaTrapR
import Derived.Test.YtleolldgpoeabaaTrapU
namespace Go.Proofs.Ytleolldgpoeabaa
open Go.RowKit
/-- the hart of the first test -/
def hA : Nat → BitVec 64 := upd (upd zC 0 8#64) 39 257#64
def hArow : Array Value := #[.int .u64 8, .int .i64 0, .int .u64 0, .int .u64 0, .int .u64 0, .int .u64 0, .int .u64 0, .int .u64 0, .int .u64 0, .int .u64 0, .int .u64 0, .int .u64 0, .int .u64 0, .int .u64 0, .int .u64 0, .int .u64 0, .int .u64 0, .int .u64 0, .int .u64 0, .int .u64 0, .int .u64 0, .int .u64 0, .int .u64 0, .int .u64 0, .int .u64 0, .int .u64 0, .int .u64 0, .int .u64 0, .int .u64 0, .int .u64 0, .int .u64 0, .int .u64 0, .int .u64 0, .int .u64 0, .int .u64 0, .int .u64 0, .int .u64 0, .int .u64 0, .int .u64 0, .int .u64 257, .int .u64 0, .int .u64 0, .int .u64 0, .int .u64 0, .int .u64 0, .int .u64 0, .int .u64 0, .int .u64 0, .int .u64 0, .int .u64 0, .int .u64 0, .int .u64 0, .int .u64 0, .int .u64 0, .int .u64 0, .int .u64 0, .int .u64 0, .int .u64 0, .int .u64 0, .int .u64 0, .int .u64 0, .int .u64 0, .int .u64 0, .int .u64 0, .bool false, .int .u64 0]
theorem hA_row : hArow = hV hA 0 false := by rw [hV_eq]; kernel_rfl
theorem hA_build (w : World) : (Instr.build 28 #[(0, .int .u64 8), (1, .int .i64 0), (3, .agg #[.int .u64 0, .int .u64 0, .int .u64 0, .int .u64 0, .int .u64 0, .int .u64 257, .int .u64 0, .int .u64 0, .int .u64 0, .int .u64 0, .int .u64 0, .int .u64 0, .int .u64 0, .int .u64 0, .int .u64 0, .int .u64 0, .int .u64 0, .int .u64 0, .int .u64 0, .int .u64 0, .int .u64 0, .int .u64 0, .int .u64 0, .int .u64 0, .int .u64 0, .int .u64 0, .int .u64 0, .int .u64 0, .int .u64 0, .int .u64 0])]).run Try.prog w = .ok (.agg (hV hA 0 false)) w := by
  rw [← hA_row]; kernel_rfl
theorem build_at {P : Program} {ops : Array Oper} {rest : List Oper} {o : Oper} {a : Act} {w : World} {Q : Exit → Act → World → Prop} {t : TypeId} {ps : Array (Nat × Operand)} {vs : Array (Nat × Value)} {v : Value} (ho : o.op = .build t ps) (hgd : Region.wanted o (yielded ops a.tmps) = true)
    (hx : (ps.toList.map fun x => (x.1, a.eval x.2)) = vs.toList) (hb : (Instr.build t vs).run P w = .ok v w) (h : wpList P ops Q rest (a.put o.dst v) w) : wpList P ops Q (o :: rest) a w :=
  wpList_wanted hgd fun _ hK => by
    have hx : (ps.map fun x => (x.1, a.eval x.2)) = vs := by rw [← Array.toList_inj, Array.toList_map]; exact hx
    refine wp_val (v := v) ?_ (hK _ _ h)
    unfold execOp
    simp only [ho]
    simp only [Sem.run_bind, hx, hb, Result.andThen_ok, Sem.run_pure]
/-- what the first test's trap comes to -/
theorem hA_0 : entH hA 0 0x8000000000000007#64 0#64 0 = 284#64 := by decide +kernel
theorem hA_42 : entH hA 0 0x8000000000000007#64 0#64 42 = 8#64 := by decide +kernel
theorem awake8_yes (w : World) : Calls Try.prog 11 #[] w fun r w' => r = .returned (.bool true) ∧ On w w' := by
  have hZ := fun w => hrt_zero w
  have hB := fun w => hA_build w
  have K : Hid (∀ w, Calls Try.prog 12 #[.agg (hV hA 0 false), .int .u64 9223372036854775815, .int .u64 0] w fun r w' => r = .returned (.agg (hV (entH hA 0 0x8000000000000007#64 0#64) 3 false)) ∧ On w w') := Lib.hid (fun w => enter_any hA 0 false 0x8000000000000007#64 0#64 w)
  have g0 : u (entH hA 0 0x8000000000000007#64 0#64 0) = 284 := by rw [hA_0]; rfl
  have g42 : u (entH hA 0 0x8000000000000007#64 0#64 42) = 8 := by rw [hA_42]; rfl
  generalize entH hA 0 0x8000000000000007#64 0#64 = y at *
  generalize hA = x at *
  have c0 := fun wr => blk_cell (blk_new wr (.cells (hV y 3 false) 28)) 0 (hV_get y 3 false 0 (by omega) (by omega) (by omega))
  have c42 := fun wr => blk_cell (blk_new wr (.cells (hV y 3 false) 28)) 42 (hV_get y 3 false 42 (by omega) (by omega) (by omega))
  have cP := fun wr => blk_cell (blk_new wr (.cells (hV y 3 false) 28)) 1 (hV_priv y 3 false)
  go_enter Try.func11, Try.ntmps11
  go_wp2_with ((with_reducible apply build_at); (case ho => exact rfl); (case hgd => exact rfl); (case hb => exact hB _); (case hx => exact rfl))
  go_at_call 12; refine (K.out _).mono ?_; rintro _ w1 ⟨rfl, h1⟩
  have h1 := Lib.hid h1
  go_wp2_with ((with_reducible apply hrt_new_st); (case ho => exact rfl); (case hgd => exact rfl); (case hx => exact rfl); (case hy => exact rfl))
  go_ret
  exact ⟨rfl, h1.out.alloc _⟩
end Go.Proofs.Ytleolldgpoeabaa
