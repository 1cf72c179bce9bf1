/- What the statements of package csr want: Reset, the first test, blocks that are made for a state. Conditions: named at each. -/
import Derived.Test.YtoobbapdjoajgaaCsrZ
namespace Go.Proofs.Ytoobbapdjoajgaa
open Go.RowKit

theorem setRow_new (w : World) (cs cs' : Array Value) (t : TypeId) : (w.alloc (.cells cs t)).setRow w.heap.size cs' = w.alloc (.cells cs' t) := by
  unfold World.setRow World.alloc
  congr 1
  apply Array.ext
  · simp
  · intro i h1 h2
    rw [Array.getElem_modify]
    by_cases h : w.heap.size = i
    · subst h; simp
    · rw [if_neg h]
      have hi : i < w.heap.size := by simp at h2; omega
      simp [Array.getElem_push, hi]
/-- a state is stored into a block just made -/
theorem csr_new_st {ops : Array Oper} {rest : List Oper} {o : Oper} {a : Act} {w : World} {Q : Exit → Act → World → Prop} {p k : Tmp} {c old : Nat → BitVec 64} (ho : o.op = .store 25 (.tmp p) (.tmp k)) (hgd : Region.wanted o (yielded ops a.tmps) = true)
    (hx : a.eval (.tmp p) = .pointer (some ⟨w.heap.size, 0, none⟩)) (hy : a.eval (.tmp k) = .agg (cV c))
    (h : wpList Try.prog ops Q rest (a.put o.dst undef) (w.alloc (.cells (cV c) 25))) : wpList Try.prog ops Q (o :: rest) a (w.alloc (.cells (cV old) 25)) :=
  csr_st hgd ho hx hy (heap_alloc_new _ _) (by rw [setRow_new]; exact h)
theorem eV_flat (e : Nat → BitVec 64) (p q : Bool) : eV e p q = #[.int .u64 (u (e 0)), .int .u64 (u (e 1)), .int .u64 (u (e 2)), .int .u64 (u (e 3)), .int .u64 (u (e 4)), .int .u64 (u (e 5)), .int .u64 (u (e 6)), .bool p, .int .u64 (u (e 7)), .bool q] := by
  rw [eV_eq]; rfl
/-- the outer world at a cycle, all else zero -/
def eT (t : BitVec 64) : Nat → BitVec 64 := upd zC 0 t
theorem eV_at (t : BitVec 64) : eV (eT t) false false = #[.int .u64 (u t), .int .u64 0, .int .u64 0, .int .u64 0, .int .u64 0, .int .u64 0, .int .u64 0, .bool false, .int .u64 0, .bool false] := by
  rw [eV_eq]; rfl
theorem eV_zero : eV zC false false = #[.int .u64 0, .int .u64 0, .int .u64 0, .int .u64 0, .int .u64 0, .int .u64 0, .int .u64 0, .bool false, .int .u64 0, .bool false] := by
  rw [eV_eq]; rfl
/-- eight words -/
def wds (a b d f g h i j : BitVec 64) : Nat → BitVec 64 := fun k => match k with | 0 => a | 1 => b | 2 => d | 3 => f | 4 => g | 5 => h | 6 => i | _ => j
theorem eV_wds (a b d f g h i j : BitVec 64) (p q : Bool) : eV (wds a b d f g h i j) p q = #[.int .u64 (u a), .int .u64 (u b), .int .u64 (u d), .int .u64 (u f), .int .u64 (u g), .int .u64 (u h), .int .u64 (u i), .bool p, .int .u64 (u j), .bool q] := by
  rw [eV_eq]; rfl
/-- a struct out of any cells in a row -/
theorem loadAt_cells {P : Program} {t : TypeId} {n : Nat} {w : World} {x : Addr} {cs : Array Value} (hT : RowTy P t n) (hc : ∀ j v, cs[j]? = some v → w.cell? (x.add j) = some v) (hs : cs.size = n) : (Instr.loadAt t (.pointer (some x))).run P w = .ok (.agg cs) w := by
  have hl : (loadCells x cs.toList.length).run P w = .ok cs.toList.toArray w := run_loadCells_list (P := P) w x cs.toList (fun j v hv => hc j v (by simpa using hv))
  have hi := hT.size
  have hd := hT.desc
  have hagg : (isAgg t).run P w = .ok true w := by
    unfold isAgg
    rcases hd with ⟨fs, h⟩ | ⟨m, e, h⟩ <;> rw [Sem.run_bind, run_underlying h w] <;> rfl
  simp only [Instr.loadAt, Instr.sureAddr, Sem.run_bind, Sem.run_pure, Result.andThen]
  cases hq : P.info? t with
  | none => simp [hq] at hi
  | some i =>
    have hz : i.size = cs.size := by rw [hq] at hi; simpa [hs] using hi
    simp only [Array.length_toList, Array.toArray_toList] at hl
    simp [loadVar, Sem.run_bind, hagg, sizeOf, typeInfo, hq, hz, hl]
theorem cells_ld {P : Program} {t : TypeId} {n : Nat} {ops : Array Oper} {rest : List Oper} {o : Oper} {a : Act} {w : World} {Q : Exit → Act → World → Prop} {p : Tmp} {x : Addr} {cs : Array Value} (hT : RowTy P t n) (hgd : Region.wanted o (yielded ops a.tmps) = true) (ho : o.op = .load t (.tmp p))
    (hx : a.eval (.tmp p) = .pointer (some x)) (hc : ∀ j v, cs[j]? = some v → w.cell? (x.add j) = some v) (hs : cs.size = n) (h : wpList P ops Q rest (a.put o.dst (.agg cs)) w) : wpList P ops Q (o :: rest) a w :=
  wpList_wanted hgd fun _ hK => by
    unfold Oper.wp execOp
    simp only [ho, hx, Sem.run_bind, loadAt_cells hT hc hs, Result.andThen_ok]
    exact hK _ _ h
theorem accT : RowTy Try.prog 38 15 := ⟨by kernel_rfl, by kernel_rfl⟩
/-- an access's cells -/
def aL (n m f : Int) (x : BitVec 64) (o : Bool) (e : Nat → BitVec 64) (p q : Bool) : Array Value := #[.int .i64 n, .int .i64 m, .int .i64 f, .int .u64 (u x), .bool o] ++ eL e p q
theorem aV_is : ∃ f : Int → Int → Int → BitVec 64 → Bool → (Nat → BitVec 64) → Bool → Bool → Array Value, ∀ n m k x o e p q, f n m k x o e p q = aL n m k x o e p q := ⟨aL, fun _ _ _ _ _ _ _ _ => rfl⟩
noncomputable def aV : Int → Int → Int → BitVec 64 → Bool → (Nat → BitVec 64) → Bool → Bool → Array Value := Classical.choose aV_is
theorem aV_eq (n m f : Int) (x : BitVec 64) (o : Bool) (e : Nat → BitVec 64) (p q : Bool) : aV n m f x o e p q = aL n m f x o e p q := Classical.choose_spec aV_is n m f x o e p q
theorem aV_size (n m f : Int) (x : BitVec 64) (o : Bool) (e : Nat → BitVec 64) (p q : Bool) : (aV n m f x o e p q).size = 15 := by rw [aV_eq]; rfl
theorem aV_0 (n m f : Int) (x : BitVec 64) (o : Bool) (e : Nat → BitVec 64) (p q : Bool) : (aV n m f x o e p q)[0]? = some (.int .i64 n) := by rw [aV_eq]; rfl
theorem aV_1 (n m f : Int) (x : BitVec 64) (o : Bool) (e : Nat → BitVec 64) (p q : Bool) : (aV n m f x o e p q)[1]? = some (.int .i64 m) := by rw [aV_eq]; rfl
theorem aV_2 (n m f : Int) (x : BitVec 64) (o : Bool) (e : Nat → BitVec 64) (p q : Bool) : (aV n m f x o e p q)[2]? = some (.int .i64 f) := by rw [aV_eq]; rfl
theorem aV_3 (n m f : Int) (x : BitVec 64) (o : Bool) (e : Nat → BitVec 64) (p q : Bool) : (aV n m f x o e p q)[3]? = some (.int .u64 (u x)) := by rw [aV_eq]; rfl
theorem aV_4 (n m f : Int) (x : BitVec 64) (o : Bool) (e : Nat → BitVec 64) (p q : Bool) : (aV n m f x o e p q)[4]? = some (.bool o) := by rw [aV_eq]; rfl
theorem aV_env (n m f : Int) (x : BitVec 64) (o : Bool) (e : Nat → BitVec 64) (p q : Bool) (j : Nat) (v : Value) (h : (eV e p q)[j]? = some v) : (aV n m f x o e p q)[5 + j]? = some v := by
  rw [aV_eq]; rw [eV_eq] at h; unfold aL
  rw [Array.getElem?_append_right (by simp)]
  simpa using h
/-- the leaves of an access -/
def accLeaves : List Leaf := [.int .i64, .int .i64, .int .i64, .int .u64, .bool] ++ (List.replicate 7 (.int .u64) ++ [.bool, .int .u64, .bool])
theorem aV_of {l : List Value} (h : Fits accLeaves l) : ∃ n m f x o e p q, l.toArray = aV n m f x o e p q := by
  obtain ⟨n, l, rfl, _, h⟩ := h
  obtain ⟨m, l, rfl, _, h⟩ := h
  obtain ⟨f, l, rfl, _, h⟩ := h
  obtain ⟨x, l, rfl, hx, h⟩ := h
  obtain ⟨o, l, rfl, h⟩ := h
  obtain ⟨x, rfl⟩ := u_of hx
  obtain ⟨e, p, q, he⟩ := eV_of (l := l) h
  refine ⟨n, m, f, x, o, e, p, q, ?_⟩
  rw [aV_eq]; unfold aL
  rw [← eV_eq, ← he]
  simp
theorem aV_one (n m f : Int) (x : BitVec 64) (o : Bool) (e : Nat → BitVec 64) (p q : Bool) : (aV n m f x o e p q).all (·.oneCell') = true := by
  rw [aV_eq]; unfold aL eL; simp [Value.oneCell']
/-- the outer world out of an access -/
theorem acc_env {ops : Array Oper} {rest : List Oper} {o : Oper} {a : Act} {w : World} {Q : Exit → Act → World → Prop} {k : Tmp} {g : Nat} {n m f : Int} {x : BitVec 64} {b : Bool} {e : Nat → BitVec 64} {p q : Bool} (ho : o.op = .load 27 (.tmp k)) (hgd : Region.wanted o (yielded ops a.tmps) = true)
    (hx : a.eval (.tmp k) = .pointer (some ⟨g, 5, none⟩)) (hg : w.heap[g]? = some (.cells (aV n m f x b e p q) 38 (0, 0))) (h : wpList Try.prog ops Q rest (a.put o.dst (.agg (eV e p q))) w) : wpList Try.prog ops Q (o :: rest) a w :=
  cells_ld envT hgd ho hx (fun j v hv => by rw [show (⟨g, 5, none⟩ : Addr).add j = ⟨g, 5 + j, none⟩ from by unfold Addr.add; split <;> simp_all]; exact blk_cell hg (5 + j) (aV_env n m f x b e p q j v hv)) (eV_size e p q) h
theorem acc_new_st {ops : Array Oper} {rest : List Oper} {o : Oper} {a : Act} {w : World} {Q : Exit → Act → World → Prop} {p k : Tmp} {cs old : Array Value} (ho : o.op = .store 38 (.tmp p) (.tmp k)) (hgd : Region.wanted o (yielded ops a.tmps) = true)
    (hx : a.eval (.tmp p) = .pointer (some ⟨w.heap.size, 0, none⟩)) (hy : a.eval (.tmp k) = .agg cs) (hold : old.size = 15) (hs : cs.size = 15) (h1 : cs.all (·.oneCell') = true)
    (h : wpList Try.prog ops Q rest (a.put o.dst undef) (w.alloc (.cells cs 38))) : wpList Try.prog ops Q (o :: rest) a (w.alloc (.cells old 38)) :=
  row_st accT hgd ho hx hy (heap_alloc_new _ _) hold hs h1 (by rw [setRow_new]; exact h)
theorem reset_any (w : World) : Calls Try.prog 17 #[] w fun r w' => r = .returned (.agg (cV zC)) ∧ On w w' := by
  have hZ := fun w => csr_zero w
  have HO : Hid (∀ c', On w (w.alloc (.cells (cV c') 25))) := Lib.hid (fun _ => (On.refl w).alloc _)
  go_enter Try.func17, Try.ntmps17
  go_wp2_with (first | ((with_reducible apply csr_new_st); (case ho => exact rfl); (case hgd => exact rfl); (case hx => exact rfl); (case hy => exact rfl)))
  refine row_back csrT rfl rfl rfl (heap_alloc_new _ _) (cV_size _) ⟨rfl, HO.out _⟩
theorem awake7_yes (w : World) : Calls Try.prog 16 #[] w fun r w' => r = .returned (.bool true) ∧ On w w' := by
  have hZ := fun w => csr_zero w
  have K1 : Hid (∀ w, Calls Try.prog 18 #[.agg (cV zC), .int .i64 832, .int .i64 3, .int .u64 7, .agg #[.int .u64 0, .int .u64 0, .int .u64 0, .int .u64 0, .int .u64 0, .int .u64 0, .int .u64 0, .bool false, .int .u64 0, .bool false]] w fun r w' => r = .returned (.tuple #[.agg (cV (upd zC 7 7#64)), .int .i64 0]) ∧ On w w') :=
    Lib.hid (fun w => by rw [← eV_zero]; exact write_any zC zC false false 832 3 7#64 w)
  have K2 : Hid (∀ w, Calls Try.prog 14 #[.agg (cV (upd zC 7 7#64)), .int .i64 832, .int .i64 3, .agg #[.int .u64 0, .int .u64 0, .int .u64 0, .int .u64 0, .int .u64 0, .int .u64 0, .int .u64 0, .bool false, .int .u64 0, .bool false]] w fun r w' => r = .returned (.tuple #[.int .u64 7, .int .i64 0]) ∧ On w w') :=
    Lib.hid (fun w => by rw [← eV_zero]; exact read_any (upd zC 7 7#64) zC false false 832 3 w)
  generalize upd zC 7 7#64 = y at *
  go_enter Try.func16, Try.ntmps16
  go_wp2_with fail
  go_at_call 17; refine (reset_any _).mono ?_; rintro _ w1 ⟨rfl, h1⟩
  go_wp2_with fail
  go_at_call 18; refine (K1.out _).mono ?_; rintro _ w2 ⟨rfl, h2⟩
  have h2 := h1.trans h2
  clear h1
  go_wp2_with (first | ((with_reducible apply csr_new_st); (case ho => exact rfl); (case hgd => exact rfl); (case hx => exact rfl); (case hy => exact rfl)) | ((with_reducible apply csr_ld); (case ho => exact rfl); (case hgd => exact rfl); (case hx => exact rfl); (case hg => exact heap_alloc_new _ _)))
  go_at_call 14; refine (K2.out _).mono ?_; rintro _ w3 ⟨rfl, h3⟩
  have h3 := Lib.hid ((h2.alloc _).trans h3)
  clear h2
  go_wp2
  go_ret
  exact ⟨rfl, h3.out⟩
end Go.Proofs.Ytoobbapdjoajgaa
