/- Traps on a hart: which interrupts may be taken, whether one wakes, at which privilege memory is accessed. Conditions: named at each. -/
import Derived.Test.YtleolldgpoeabaaTrapM
namespace Go.Proofs.Ytleolldgpoeabaa
open Go.RowKit
def cnd (h e : Nat → BitVec 64) : BitVec 64 := pend (cH h) e &&& h 37
def cntM (h : Nat → BitVec 64) (p : Int) (x : BitVec 64) : BitVec 64 := if (!(p == 3) || (h 34).getLsbD 3) = true then x &&& ~~~h 36 else 0#64
def cntS (h : Nat → BitVec 64) (p : Int) (x : BitVec 64) : BitVec 64 := if (p == 0 || (p == 1 && (h 34).getLsbD 1)) = true then x &&& h 36 else 0#64
def wak (h e : Nat → BitVec 64) : Bool := !(cnd h e == 0#64)
def prvA (h : Nat → BitVec 64) (p k : Int) : Int := if (k == 0 || !(h 34).getLsbD 17) = true then p else mpq (h 34)
/-- a struct out of the middle of a block, in a region that draws its order and makes memory only in its calls -/
theorem cells_quiet {P : Program} {t : TypeId} {o : Oper} {a : Act} {K : Act → Prop} {w : World} {x : Addr} {cs : Array Value} {p : Tmp}
    (hl : ∀ d os, (Instr.loadAt t (.pointer (some x))).run P (Sort.grow (redrawn w d) os) = .ok (.agg cs) (Sort.grow (redrawn w d) os))
    (ho : o.op = .load t (.tmp p)) (hx : a.eval (.tmp p) = .pointer (some x)) (hk : K (a.put o.dst (.agg cs))) :
    o.quiet P a (fun w' => ∃ p : Regrown, w' = Sort.grow (redrawn w p.d) p.os) K := by
  refine ⟨.agg cs, ?_, hk⟩
  rintro w' ⟨q, rfl⟩
  unfold Oper.quietAt execOp
  simp only [ho, hx, Sem.run_bind, hl, Result.andThen_ok, Sem.run_pure]
  exact ⟨rfl, rfl⟩
theorem bit_n (s : BitVec 64) (k : Nat) (hk : k < 64) (m : Int) (hm : m = u ((1 : BitVec 64) <<< k)) : (bits .and .u64 (u s) m != 0) = s.getLsbD k := by
  unfold bne; rw [hm, u_and, and_one_shl s k hk, Bool.not_not]
theorem bit_e (s : BitVec 64) (k : Nat) (hk : k < 64) (m : Int) (hm : m = u ((1 : BitVec 64) <<< k)) : (bits .and .u64 (u s) m == 0) = !s.getLsbD k := by
  rw [hm, u_and, and_one_shl s k hk]
theorem nz (v : BitVec 64) : (u v != 0) = !(v == 0#64) := by unfold bne; rw [show (0 : Int) = u 0#64 from rfl, u_beq]

set_option maxRecDepth 100000 in
set_option maxHeartbeats 1000000 in
theorem cand_any (h e : Nat → BitVec 64) (p : Int) (r q1 q2 : Bool) (w : World) : Calls Try.prog 39 #[.agg (hV h p r), .agg (eV e q1 q2)] w fun r' w' => r' = .returned (.int .u64 (u (cnd h e))) ∧ On w w' := by
  have HB : Hid (On w ((w.alloc (.cells (hV h p r) 28)).alloc (.cells (eV e q1 q2) 35))) := Lib.hid (((On.refl w).alloc _).alloc _)
  have L0 := fun d os => (hcsr_at (((On.refl ((w.alloc (.cells (hV h p r) 28)).alloc (.cells (eV e q1 q2) 35))).grow d os).keep (box1 _ _ _)) : (Instr.loadAt 26 (.pointer (some ⟨w.heap.size, 34, none⟩))).run Try.prog (Sort.grow (redrawn ((w.alloc (.cells (hV h p r) 28)).alloc (.cells (eV e q1 q2) 35)) d) os) = _)
  have L1 := row_lds envT (box2 w (.cells (hV h p r) 28) (.cells (eV e q1 q2) 35)) (eV_size _ _ _)
  have L2 := fun d os => (blk_cell (((On.refl ((w.alloc (.cells (hV h p r) 28)).alloc (.cells (eV e q1 q2) 35))).grow d os).keep (box1 _ _ _)) 37 (hV_get h p r 37 (by omega) (by omega) (by omega)) : (Sort.grow (redrawn ((w.alloc (.cells (hV h p r) 28)).alloc (.cells (eV e q1 q2) 35)) d) os).cell? ⟨w.heap.size, 37, none⟩ = _)
  have A := u_and (pend (cH h) e) (h 37)
  go_enter Try.func39, Try.ntmps39
  go_wp2_with fail
  refine wp_region_quiet_below (by kernel_rfl) (by kernel_rfl) ?_
  repeat (first | (go_big_quiet_want; (first | refine cells_quiet L0 rfl rfl ?_ | refine row_quiet L1 rfl rfl ?_); go_simp; go_big_quiet_on) | go_big_quiet_step (first | (go_at_call 44; exact Calls.on_of (pend_any _ _ _ _ _))))
  refine wpQuiet_nil ?_
  intro _ hw'
  obtain ⟨⟨dq, osq⟩, hw''⟩ := hw'
  subst hw''
  go_wp2
  go_ret
  exact ⟨by first | rfl | (simp [wak, cnd]; done), HB.out.grow _ _⟩
set_option maxRecDepth 100000 in
set_option maxHeartbeats 1000000 in
theorem rwak_any (h e : Nat → BitVec 64) (p : Int) (r q1 q2 : Bool) (w : World) : Calls Try.prog 21 #[.agg (hV h p r), .agg (eV e q1 q2)] w fun r' w' => r' = .returned (.bool (wak h e)) ∧ On w w' := by
  have HB : Hid (On w ((w.alloc (.cells (hV h p r) 28)).alloc (.cells (eV e q1 q2) 35))) := Lib.hid (((On.refl w).alloc _).alloc _)
  have L0 := fun d os => (hcsr_at (((On.refl ((w.alloc (.cells (hV h p r) 28)).alloc (.cells (eV e q1 q2) 35))).grow d os).keep (box1 _ _ _)) : (Instr.loadAt 26 (.pointer (some ⟨w.heap.size, 34, none⟩))).run Try.prog (Sort.grow (redrawn ((w.alloc (.cells (hV h p r) 28)).alloc (.cells (eV e q1 q2) 35)) d) os) = _)
  have L1 := row_lds envT (box2 w (.cells (hV h p r) 28) (.cells (eV e q1 q2) 35)) (eV_size _ _ _)
  have L2 := fun d os => (blk_cell (((On.refl ((w.alloc (.cells (hV h p r) 28)).alloc (.cells (eV e q1 q2) 35))).grow d os).keep (box1 _ _ _)) 37 (hV_get h p r 37 (by omega) (by omega) (by omega)) : (Sort.grow (redrawn ((w.alloc (.cells (hV h p r) 28)).alloc (.cells (eV e q1 q2) 35)) d) os).cell? ⟨w.heap.size, 37, none⟩ = _)
  have A := u_and (pend (cH h) e) (h 37)
  have Z := nz (pend (cH h) e &&& h 37)
  go_enter Try.func21, Try.ntmps21
  go_wp2_with fail
  refine wp_region_quiet_below (by kernel_rfl) (by kernel_rfl) ?_
  repeat (first | (go_big_quiet_want; (first | refine cells_quiet L0 rfl rfl ?_ | refine row_quiet L1 rfl rfl ?_); go_simp; go_big_quiet_on) | go_big_quiet_step (first | (go_at_call 24; exact Calls.on_of (rpend_any _ _ _ _ _))))
  refine wpQuiet_nil ?_
  intro _ hw'
  obtain ⟨⟨dq, osq⟩, hw''⟩ := hw'
  subst hw''
  go_wp2
  go_ret
  exact ⟨by first | rfl | (simp [wak, cnd]; done), HB.out.grow _ _⟩
set_option maxRecDepth 100000 in
set_option maxHeartbeats 1000000 in
theorem wak_any (h e : Nat → BitVec 64) (p : Int) (r q1 q2 : Bool) (w : World) : Calls Try.prog 20 #[.agg (hV h p r), .agg (eV e q1 q2)] w fun r' w' => r' = .returned (.bool (wak h e)) ∧ On w w' := by
  have HC : ∀ wr, On ((w.alloc (.cells (hV h p r) 28)).alloc (.cells (eV e q1 q2) 35)) wr → wr.heap[w.heap.size]? = some (.cells (hV h p r) 28 (0, 0)) := fun _ k => k.keep (box1 _ _ _)
  have HE : ∀ wr, On ((w.alloc (.cells (hV h p r) 28)).alloc (.cells (eV e q1 q2) 35)) wr → wr.heap[w.heap.size + 1]? = some (.cells (eV e q1 q2) 35 (0, 0)) := fun _ k => k.keep (box2 _ _ _)
  have HB : Hid (On w ((w.alloc (.cells (hV h p r) 28)).alloc (.cells (eV e q1 q2) 35))) := Lib.hid (((On.refl w).alloc _).alloc _)
  have hb := On.refl ((w.alloc (.cells (hV h p r) 28)).alloc (.cells (eV e q1 q2) 35))
  have Z := nz (cnd h e)
  go_enter Try.func20, Try.ntmps20
  go_wp2_with (first | ((with_reducible apply hrt_ld); (case ho => exact rfl); (case hgd => exact rfl); (case hx => exact rfl); (case hg => exact HC _ (by assumption))) | ((with_reducible apply env_ld); (case ho => exact rfl); (case hgd => exact rfl); (case hx => exact rfl); (case hg => exact HE _ (by assumption))) | (go_at_call 39; refine (cand_any _ _ _ _ _ _ _).mono ?_; rintro e wn ⟨rfl, hb'⟩; have hb := hb.trans hb'; clear hb'))
  go_ret
  exact ⟨by first | rfl | (rw [show wak h e = _ from Z.symm]; rfl), HB.out.trans hb⟩
set_option maxRecDepth 100000 in
set_option maxHeartbeats 1000000 in
theorem prv_any (h : Nat → BitVec 64) (p : Int) (r : Bool) (k : Int) (w : World) : Calls Try.prog 22 #[.agg (hV h p r), .int .i64 k] w fun r' w' => r' = .returned (.int .i64 (prvA h p k)) ∧ On w w' := by
  have HC : ∀ wr, On (w.alloc (.cells (hV h p r) 28)) wr → wr.heap[w.heap.size]? = some (.cells (hV h p r) 28 (0, 0)) := fun _ k => k.keep (heap_alloc_new _ _)
  have c34 : ∀ wr, On (w.alloc (.cells (hV h p r) 28)) wr → wr.cell? ⟨w.heap.size, 34, none⟩ = some (.int .u64 (u (h 34))) := fun _ k => blk_cell (HC _ k) 34 (hV_get h p r 34 (by omega) (by omega) (by omega))
  have cP : ∀ wr, On (w.alloc (.cells (hV h p r) 28)) wr → wr.cell? ⟨w.heap.size, 1, none⟩ = some (.int .i64 p) := fun _ k => blk_cell (HC _ k) 1 (hV_priv h p r)
  have hb := On.refl (w.alloc (.cells (hV h p r) 28))
  have T0 := bit_e (h 34) 17 (by omega) 131072 rfl
  have T1 := bit_n (h 34) 17 (by omega) 131072 rfl
  by_cases hk : k = 0
  · subst hk
    have D : Hid (p = prvA h p 0) := Lib.hid rfl
    clear T0 T1
    go_enter Try.func22, Try.ntmps22
    go_wp2
    go_ret
    exact ⟨by rw [← D.out]; rfl, (On.refl w).alloc _⟩
  · have k0 : (k == 0) = false := by simpa using hk
    have k1 : (k != 0) = true := by unfold bne; rw [k0]; rfl
    cases h17 : (h 34).getLsbD 17
    · rw [h17] at T0 T1
      have T0 : (bits .and .u64 (u (h 34)) 131072 == 0) = true := T0
      have T2 : bits .and .u64 (u (h 34)) 131072 = 0 := by simpa using T0
      have D : Hid (p = prvA h p k) := Lib.hid (by unfold prvA; rw [k0, h17]; rfl)
      clear h17 hk
      go_enter Try.func22, Try.ntmps22
      go_wp2_with (go_at_call 33; refine (mpq_any _ _).mono ?_; rintro e w' ⟨rfl, rfl⟩)
      go_ret
      exact ⟨by rw [← D.out]; rfl, (On.refl w).alloc _⟩
    · rw [h17] at T0 T1
      have T0 : (bits .and .u64 (u (h 34)) 131072 == 0) = false := T0
      have T2 : ¬ bits .and .u64 (u (h 34)) 131072 = 0 := by simpa using T0
      have D : Hid (mpq (h 34) = prvA h p k) := Lib.hid (by unfold prvA; rw [k0, h17]; rfl)
      clear h17 hk
      go_enter Try.func22, Try.ntmps22
      go_wp2_with (go_at_call 33; refine (mpq_any _ _).mono ?_; rintro e w' ⟨rfl, rfl⟩)
      go_ret
      exact ⟨by rw [← D.out]; rfl, (On.refl w).alloc _⟩
set_option maxRecDepth 100000 in
set_option maxHeartbeats 1000000 in
theorem rprv_any (h : Nat → BitVec 64) (p : Int) (r : Bool) (k : Int) (w : World) : Calls Try.prog 23 #[.agg (hV h p r), .int .i64 k] w fun r' w' => r' = .returned (.int .i64 (prvA h p k)) ∧ On w w' := by
  have HC : ∀ wr, On (w.alloc (.cells (hV h p r) 28)) wr → wr.heap[w.heap.size]? = some (.cells (hV h p r) 28 (0, 0)) := fun _ k => k.keep (heap_alloc_new _ _)
  have c34 : ∀ wr, On (w.alloc (.cells (hV h p r) 28)) wr → wr.cell? ⟨w.heap.size, 34, none⟩ = some (.int .u64 (u (h 34))) := fun _ k => blk_cell (HC _ k) 34 (hV_get h p r 34 (by omega) (by omega) (by omega))
  have cP : ∀ wr, On (w.alloc (.cells (hV h p r) 28)) wr → wr.cell? ⟨w.heap.size, 1, none⟩ = some (.int .i64 p) := fun _ k => blk_cell (HC _ k) 1 (hV_priv h p r)
  have hb := On.refl (w.alloc (.cells (hV h p r) 28))
  have T0 := bit_e (h 34) 17 (by omega) 131072 rfl
  have T1 := bit_n (h 34) 17 (by omega) 131072 rfl
  by_cases hk : k = 0
  · subst hk
    have D : Hid (p = prvA h p 0) := Lib.hid rfl
    clear T0 T1
    go_enter Try.func23, Try.ntmps23
    go_wp2
    go_ret
    exact ⟨by rw [← D.out]; rfl, (On.refl w).alloc _⟩
  · have k0 : (k == 0) = false := by simpa using hk
    have k1 : (k != 0) = true := by unfold bne; rw [k0]; rfl
    cases h17 : (h 34).getLsbD 17
    · rw [h17] at T0 T1
      have T0 : (bits .and .u64 (u (h 34)) 131072 == 0) = true := T0
      have T2 : bits .and .u64 (u (h 34)) 131072 = 0 := by simpa using T0
      have D : Hid (p = prvA h p k) := Lib.hid (by unfold prvA; rw [k0, h17]; rfl)
      clear h17 hk
      go_enter Try.func23, Try.ntmps23
      go_wp2_with (go_at_call 37; refine (rmpq_any _ _).mono ?_; rintro e w' ⟨rfl, rfl⟩)
      go_ret
      exact ⟨by rw [← D.out]; rfl, (On.refl w).alloc _⟩
    · rw [h17] at T0 T1
      have T0 : (bits .and .u64 (u (h 34)) 131072 == 0) = false := T0
      have T2 : ¬ bits .and .u64 (u (h 34)) 131072 = 0 := by simpa using T0
      have D : Hid (mpq (h 34) = prvA h p k) := Lib.hid (by unfold prvA; rw [k0, h17]; rfl)
      clear h17 hk
      go_enter Try.func23, Try.ntmps23
      go_wp2_with (go_at_call 37; refine (rmpq_any _ _).mono ?_; rintro e w' ⟨rfl, rfl⟩)
      go_ret
      exact ⟨by rw [← D.out]; rfl, (On.refl w).alloc _⟩
set_option maxRecDepth 100000 in
set_option maxHeartbeats 1000000 in
theorem cnt_0 (h : Nat → BitVec 64) (r : Bool) (x : BitVec 64) (h3 : (h 34).getLsbD 3 = false) (w : World) : Calls Try.prog 38 #[.agg (hV h 3 r), .int .u64 (u x)] w fun r' w' => r' = .returned (.tuple #[.int .u64 (u (cntM h 3 x)), .int .u64 (u (cntS h 3 x))]) ∧ On w w' := by
  have HC : ∀ wr, On (w.alloc (.cells (hV h 3 r) 28)) wr → wr.heap[w.heap.size]? = some (.cells (hV h 3 r) 28 (0, 0)) := fun _ k => k.keep (heap_alloc_new _ _)
  have c34 : ∀ wr, On (w.alloc (.cells (hV h 3 r) 28)) wr → wr.cell? ⟨w.heap.size, 34, none⟩ = some (.int .u64 (u (h 34))) := fun _ k => blk_cell (HC _ k) 34 (hV_get h 3 r 34 (by omega) (by omega) (by omega))
  have c36 : ∀ wr, On (w.alloc (.cells (hV h 3 r) 28)) wr → wr.cell? ⟨w.heap.size, 36, none⟩ = some (.int .u64 (u (h 36))) := fun _ k => blk_cell (HC _ k) 36 (hV_get h 3 r 36 (by omega) (by omega) (by omega))
  have cP : ∀ wr, On (w.alloc (.cells (hV h 3 r) 28)) wr → wr.cell? ⟨w.heap.size, 1, none⟩ = some (.int .i64 3) := fun _ k => blk_cell (HC _ k) 1 (hV_priv h 3 r)
  have hb := On.refl (w.alloc (.cells (hV h 3 r) 28))
  have A1 := u_andNot x (h 36)
  have A2 := u_and x (h 36)
  have T3 : (bits .and .u64 (u (h 34)) 8 == 0) = true := (bit_e (h 34) 3 (by omega) 8 rfl).trans (by rw [h3]; rfl)
  have N3 : (bits .and .u64 (u (h 34)) 8 != 0) = false := (bit_n (h 34) 3 (by omega) 8 rfl).trans h3
  have P3 : bits .and .u64 (u (h 34)) 8 = 0 := by simpa using T3
  have D1 : Hid (0#64 = cntM h 3 x) := Lib.hid (by unfold cntM; rw [h3]; rfl)
  have D2 : Hid (0#64 = cntS h 3 x) := Lib.hid (by unfold cntS; rfl)
  clear h3
  go_enter Try.func38, Try.ntmps38
  go_wp2
  go_ret2
  exact ⟨by rw [← D1.out, ← D2.out]; rfl, (On.refl w).alloc _⟩
set_option maxRecDepth 100000 in
set_option maxHeartbeats 1000000 in
theorem cnt_1 (h : Nat → BitVec 64) (r : Bool) (x : BitVec 64) (h3 : (h 34).getLsbD 3 = true) (w : World) : Calls Try.prog 38 #[.agg (hV h 3 r), .int .u64 (u x)] w fun r' w' => r' = .returned (.tuple #[.int .u64 (u (cntM h 3 x)), .int .u64 (u (cntS h 3 x))]) ∧ On w w' := by
  have HC : ∀ wr, On (w.alloc (.cells (hV h 3 r) 28)) wr → wr.heap[w.heap.size]? = some (.cells (hV h 3 r) 28 (0, 0)) := fun _ k => k.keep (heap_alloc_new _ _)
  have c34 : ∀ wr, On (w.alloc (.cells (hV h 3 r) 28)) wr → wr.cell? ⟨w.heap.size, 34, none⟩ = some (.int .u64 (u (h 34))) := fun _ k => blk_cell (HC _ k) 34 (hV_get h 3 r 34 (by omega) (by omega) (by omega))
  have c36 : ∀ wr, On (w.alloc (.cells (hV h 3 r) 28)) wr → wr.cell? ⟨w.heap.size, 36, none⟩ = some (.int .u64 (u (h 36))) := fun _ k => blk_cell (HC _ k) 36 (hV_get h 3 r 36 (by omega) (by omega) (by omega))
  have cP : ∀ wr, On (w.alloc (.cells (hV h 3 r) 28)) wr → wr.cell? ⟨w.heap.size, 1, none⟩ = some (.int .i64 3) := fun _ k => blk_cell (HC _ k) 1 (hV_priv h 3 r)
  have hb := On.refl (w.alloc (.cells (hV h 3 r) 28))
  have A1 := u_andNot x (h 36)
  have A2 := u_and x (h 36)
  have T3 : (bits .and .u64 (u (h 34)) 8 == 0) = false := (bit_e (h 34) 3 (by omega) 8 rfl).trans (by rw [h3]; rfl)
  have N3 : (bits .and .u64 (u (h 34)) 8 != 0) = true := (bit_n (h 34) 3 (by omega) 8 rfl).trans h3
  have P3 : ¬ bits .and .u64 (u (h 34)) 8 = 0 := by simpa using T3
  have D1 : Hid (x &&& ~~~h 36 = cntM h 3 x) := Lib.hid (by unfold cntM; rw [h3]; rfl)
  have D2 : Hid (0#64 = cntS h 3 x) := Lib.hid (by unfold cntS; rfl)
  clear h3
  go_enter Try.func38, Try.ntmps38
  go_wp2
  go_ret2
  exact ⟨by rw [← D1.out, ← D2.out]; rfl, (On.refl w).alloc _⟩
set_option maxRecDepth 100000 in
set_option maxHeartbeats 1000000 in
theorem cnt_2 (h : Nat → BitVec 64) (r : Bool) (x : BitVec 64) (w : World) : Calls Try.prog 38 #[.agg (hV h 0 r), .int .u64 (u x)] w fun r' w' => r' = .returned (.tuple #[.int .u64 (u (cntM h 0 x)), .int .u64 (u (cntS h 0 x))]) ∧ On w w' := by
  have HC : ∀ wr, On (w.alloc (.cells (hV h 0 r) 28)) wr → wr.heap[w.heap.size]? = some (.cells (hV h 0 r) 28 (0, 0)) := fun _ k => k.keep (heap_alloc_new _ _)
  have c34 : ∀ wr, On (w.alloc (.cells (hV h 0 r) 28)) wr → wr.cell? ⟨w.heap.size, 34, none⟩ = some (.int .u64 (u (h 34))) := fun _ k => blk_cell (HC _ k) 34 (hV_get h 0 r 34 (by omega) (by omega) (by omega))
  have c36 : ∀ wr, On (w.alloc (.cells (hV h 0 r) 28)) wr → wr.cell? ⟨w.heap.size, 36, none⟩ = some (.int .u64 (u (h 36))) := fun _ k => blk_cell (HC _ k) 36 (hV_get h 0 r 36 (by omega) (by omega) (by omega))
  have cP : ∀ wr, On (w.alloc (.cells (hV h 0 r) 28)) wr → wr.cell? ⟨w.heap.size, 1, none⟩ = some (.int .i64 0) := fun _ k => blk_cell (HC _ k) 1 (hV_priv h 0 r)
  have hb := On.refl (w.alloc (.cells (hV h 0 r) 28))
  have A1 := u_andNot x (h 36)
  have A2 := u_and x (h 36)
  have D1 : Hid (x &&& ~~~h 36 = cntM h 0 x) := Lib.hid (by unfold cntM; rfl)
  have D2 : Hid (x &&& h 36 = cntS h 0 x) := Lib.hid (by unfold cntS; rfl)
  go_enter Try.func38, Try.ntmps38
  go_wp2
  go_ret2
  exact ⟨by rw [← D1.out, ← D2.out]; rfl, (On.refl w).alloc _⟩
set_option maxRecDepth 100000 in
set_option maxHeartbeats 1000000 in
theorem cnt_3 (h : Nat → BitVec 64) (r : Bool) (x : BitVec 64) (h1 : (h 34).getLsbD 1 = false) (w : World) : Calls Try.prog 38 #[.agg (hV h 1 r), .int .u64 (u x)] w fun r' w' => r' = .returned (.tuple #[.int .u64 (u (cntM h 1 x)), .int .u64 (u (cntS h 1 x))]) ∧ On w w' := by
  have HC : ∀ wr, On (w.alloc (.cells (hV h 1 r) 28)) wr → wr.heap[w.heap.size]? = some (.cells (hV h 1 r) 28 (0, 0)) := fun _ k => k.keep (heap_alloc_new _ _)
  have c34 : ∀ wr, On (w.alloc (.cells (hV h 1 r) 28)) wr → wr.cell? ⟨w.heap.size, 34, none⟩ = some (.int .u64 (u (h 34))) := fun _ k => blk_cell (HC _ k) 34 (hV_get h 1 r 34 (by omega) (by omega) (by omega))
  have c36 : ∀ wr, On (w.alloc (.cells (hV h 1 r) 28)) wr → wr.cell? ⟨w.heap.size, 36, none⟩ = some (.int .u64 (u (h 36))) := fun _ k => blk_cell (HC _ k) 36 (hV_get h 1 r 36 (by omega) (by omega) (by omega))
  have cP : ∀ wr, On (w.alloc (.cells (hV h 1 r) 28)) wr → wr.cell? ⟨w.heap.size, 1, none⟩ = some (.int .i64 1) := fun _ k => blk_cell (HC _ k) 1 (hV_priv h 1 r)
  have hb := On.refl (w.alloc (.cells (hV h 1 r) 28))
  have A1 := u_andNot x (h 36)
  have A2 := u_and x (h 36)
  have T1 : (bits .and .u64 (u (h 34)) 2 == 0) = true := (bit_e (h 34) 1 (by omega) 2 rfl).trans (by rw [h1]; rfl)
  have N1 : (bits .and .u64 (u (h 34)) 2 != 0) = false := (bit_n (h 34) 1 (by omega) 2 rfl).trans h1
  have P1 : bits .and .u64 (u (h 34)) 2 = 0 := by simpa using T1
  have D1 : Hid (x &&& ~~~h 36 = cntM h 1 x) := Lib.hid (by unfold cntM; rfl)
  have D2 : Hid (0#64 = cntS h 1 x) := Lib.hid (by unfold cntS; rw [h1]; rfl)
  clear h1
  go_enter Try.func38, Try.ntmps38
  go_wp2
  go_ret2
  exact ⟨by rw [← D1.out, ← D2.out]; rfl, (On.refl w).alloc _⟩
set_option maxRecDepth 100000 in
set_option maxHeartbeats 1000000 in
theorem cnt_4 (h : Nat → BitVec 64) (r : Bool) (x : BitVec 64) (h1 : (h 34).getLsbD 1 = true) (w : World) : Calls Try.prog 38 #[.agg (hV h 1 r), .int .u64 (u x)] w fun r' w' => r' = .returned (.tuple #[.int .u64 (u (cntM h 1 x)), .int .u64 (u (cntS h 1 x))]) ∧ On w w' := by
  have HC : ∀ wr, On (w.alloc (.cells (hV h 1 r) 28)) wr → wr.heap[w.heap.size]? = some (.cells (hV h 1 r) 28 (0, 0)) := fun _ k => k.keep (heap_alloc_new _ _)
  have c34 : ∀ wr, On (w.alloc (.cells (hV h 1 r) 28)) wr → wr.cell? ⟨w.heap.size, 34, none⟩ = some (.int .u64 (u (h 34))) := fun _ k => blk_cell (HC _ k) 34 (hV_get h 1 r 34 (by omega) (by omega) (by omega))
  have c36 : ∀ wr, On (w.alloc (.cells (hV h 1 r) 28)) wr → wr.cell? ⟨w.heap.size, 36, none⟩ = some (.int .u64 (u (h 36))) := fun _ k => blk_cell (HC _ k) 36 (hV_get h 1 r 36 (by omega) (by omega) (by omega))
  have cP : ∀ wr, On (w.alloc (.cells (hV h 1 r) 28)) wr → wr.cell? ⟨w.heap.size, 1, none⟩ = some (.int .i64 1) := fun _ k => blk_cell (HC _ k) 1 (hV_priv h 1 r)
  have hb := On.refl (w.alloc (.cells (hV h 1 r) 28))
  have A1 := u_andNot x (h 36)
  have A2 := u_and x (h 36)
  have T1 : (bits .and .u64 (u (h 34)) 2 == 0) = false := (bit_e (h 34) 1 (by omega) 2 rfl).trans (by rw [h1]; rfl)
  have N1 : (bits .and .u64 (u (h 34)) 2 != 0) = true := (bit_n (h 34) 1 (by omega) 2 rfl).trans h1
  have P1 : ¬ bits .and .u64 (u (h 34)) 2 = 0 := by simpa using T1
  have D1 : Hid (x &&& ~~~h 36 = cntM h 1 x) := Lib.hid (by unfold cntM; rfl)
  have D2 : Hid (x &&& h 36 = cntS h 1 x) := Lib.hid (by unfold cntS; rw [h1]; rfl)
  clear h1
  go_enter Try.func38, Try.ntmps38
  go_wp2
  go_ret2
  exact ⟨by rw [← D1.out, ← D2.out]; rfl, (On.refl w).alloc _⟩
set_option maxRecDepth 100000 in
set_option maxHeartbeats 1000000 in
theorem cnt_5 (h : Nat → BitVec 64) (p : Int) (r : Bool) (x : BitVec 64) (n0 : ¬ p = 0) (n1 : ¬ p = 1) (n3 : ¬ p = 3) (w : World) : Calls Try.prog 38 #[.agg (hV h p r), .int .u64 (u x)] w fun r' w' => r' = .returned (.tuple #[.int .u64 (u (cntM h p x)), .int .u64 (u (cntS h p x))]) ∧ On w w' := by
  have HC : ∀ wr, On (w.alloc (.cells (hV h p r) 28)) wr → wr.heap[w.heap.size]? = some (.cells (hV h p r) 28 (0, 0)) := fun _ k => k.keep (heap_alloc_new _ _)
  have c34 : ∀ wr, On (w.alloc (.cells (hV h p r) 28)) wr → wr.cell? ⟨w.heap.size, 34, none⟩ = some (.int .u64 (u (h 34))) := fun _ k => blk_cell (HC _ k) 34 (hV_get h p r 34 (by omega) (by omega) (by omega))
  have c36 : ∀ wr, On (w.alloc (.cells (hV h p r) 28)) wr → wr.cell? ⟨w.heap.size, 36, none⟩ = some (.int .u64 (u (h 36))) := fun _ k => blk_cell (HC _ k) 36 (hV_get h p r 36 (by omega) (by omega) (by omega))
  have cP : ∀ wr, On (w.alloc (.cells (hV h p r) 28)) wr → wr.cell? ⟨w.heap.size, 1, none⟩ = some (.int .i64 p) := fun _ k => blk_cell (HC _ k) 1 (hV_priv h p r)
  have hb := On.refl (w.alloc (.cells (hV h p r) 28))
  have A1 := u_andNot x (h 36)
  have A2 := u_and x (h 36)
  have p0 : (p == 0) = false := by simpa using n0
  have p1 : (p == 1) = false := by simpa using n1
  have p3 : (p == 3) = false := by simpa using n3
  have q3 : (p != 3) = true := by unfold bne; rw [p3]; rfl
  have D1 : Hid (x &&& ~~~h 36 = cntM h p x) := Lib.hid (by unfold cntM; rw [p3]; rfl)
  have D2 : Hid (0#64 = cntS h p x) := Lib.hid (by unfold cntS; rw [p0, p1]; rfl)
  clear n0 n1 n3
  go_enter Try.func38, Try.ntmps38
  go_wp2
  go_ret2
  exact ⟨by rw [← D1.out, ← D2.out]; rfl, (On.refl w).alloc _⟩
theorem cnt_any (h : Nat → BitVec 64) (p : Int) (r : Bool) (x : BitVec 64) (w : World) : Calls Try.prog 38 #[.agg (hV h p r), .int .u64 (u x)] w fun r' w' => r' = .returned (.tuple #[.int .u64 (u (cntM h p x)), .int .u64 (u (cntS h p x))]) ∧ On w w' := by
  by_cases n3 : p = 3
  · subst n3
    cases h3 : (h 34).getLsbD 3
    · exact cnt_0 h r x h3 w
    · exact cnt_1 h r x h3 w
  · by_cases n0 : p = 0
    · subst n0; exact cnt_2 h r x w
    · by_cases n1 : p = 1
      · subst n1
        cases h1 : (h 34).getLsbD 1
        · exact cnt_3 h r x h1 w
        · exact cnt_4 h r x h1 w
      · exact cnt_5 h p r x n0 n1 n3 w
end Go.Proofs.Ytleolldgpoeabaa
