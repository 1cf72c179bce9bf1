/- What the calls of package csr on words, and on rights, come to. Conditions: named at each. -/
import Derived.Test.YtoobbapdjoajgaaCsrP
namespace Go.Proofs.Ytoobbapdjoajgaa
open Go.RowKit

theorem repl_any (o v m : BitVec 64) (w : World) : Calls Try.prog 48 #[.int .u64 (u o), .int .u64 (u v), .int .u64 (u m)] w fun e w' => e = .returned (.int .u64 (u (repl o v m))) ∧ w = w' := by
  have H : Hid (bits .or .u64 (bits .andNot .u64 (u o) (u m)) (bits .and .u64 (u v) (u m)) = u (repl o v m)) := Lib.hid (by rw [u_andNot, u_and, u_or]; rfl)
  go_enter Try.func48, Try.ntmps48
  go_wp2
  go_ret
  exact ⟨by rw [← H.out]; rfl, rfl⟩
theorem kst_any (o v : BitVec 64) (w : World) : Calls Try.prog 47 #[.int .u64 (u o), .int .u64 (u v)] w fun e w' => e = .returned (.int .u64 (u (kst o v))) ∧ w = w' := by
  have T : (bits .and .u64 (u v) 6144 == 4096) = (v &&& 0x1800#64 == 0x1000#64) := by rw [show (6144 : Int) = u 0x1800#64 from rfl, show (4096 : Int) = u 0x1000#64 from rfl, u_and, u_beq]
  by_cases h : v &&& 0x1800#64 = 0x1000#64
  · replace T : (bits .and .u64 (u v) 6144 == 4096) = true := by rw [T]; simpa using h
    have H : Hid (bits .and .u64 (u (repl v o 0x1800#64)) 8264106 = u (kst o v)) := Lib.hid (by rw [show (8264106 : Int) = u 0x7e19aa#64 from rfl, u_and]; unfold kst; rw [if_pos h])
    clear h
    have R : Hid (∀ w, Calls Try.prog 48 #[.int .u64 (u v), .int .u64 (u o), .int .u64 6144] w fun e w' => e = .returned (.int .u64 (u (repl v o 0x1800#64))) ∧ w = w') := Lib.hid (fun w => repl_any v o 0x1800#64 w)
    generalize repl v o 0x1800#64 = r at *
    go_enter Try.func47, Try.ntmps47
    go_wp2_with (go_at_call 48; refine (R.out _).mono ?_; rintro e w' ⟨rfl, rfl⟩)
    go_ret
    exact ⟨by rw [← H.out]; rfl, rfl⟩
  · replace T : (bits .and .u64 (u v) 6144 == 4096) = false := by rw [T]; simpa using h
    have H : Hid (bits .and .u64 (u v) 8264106 = u (kst o v)) := Lib.hid (by rw [show (8264106 : Int) = u 0x7e19aa#64 from rfl, u_and]; unfold kst; rw [if_neg h])
    clear h
    go_enter Try.func47, Try.ntmps47
    go_wp2
    go_ret
    exact ⟨by rw [← H.out]; rfl, rfl⟩
theorem ksa_any (o v : BitVec 64) (w : World) : Calls Try.prog 49 #[.int .u64 (u o), .int .u64 (u v)] w fun e w' => e = .returned (.int .u64 (u (ksa o v))) ∧ w = w' := by
  have hu := u_nonneg v
  have hd : u v / (1152921504606846976 : Int) = u (v >>> 60) := by rw [← u_shr v 60, show (2 : Int) ^ 60 = (1152921504606846976 : Int) from by decide]
  by_cases h0 : v >>> 60 = 0#64
  · have H : Hid (u v = u (ksa o v)) := Lib.hid (by unfold ksa; rw [if_pos (.inl h0)])
    rw [h0, show u 0#64 = 0 from rfl] at hd
    clear h0
    go_enter Try.func49, Try.ntmps49
    go_wp2
    go_ret
    exact ⟨by rw [← H.out]; rfl, rfl⟩
  · by_cases h8 : v >>> 60 = 8#64
    · have H : Hid (u v = u (ksa o v)) := Lib.hid (by unfold ksa; rw [if_pos (.inr h8)])
      rw [h8, show u 8#64 = 8 from rfl] at hd
      clear h0 h8
      go_enter Try.func49, Try.ntmps49
      go_wp2
      go_ret
      exact ⟨by rw [← H.out]; rfl, rfl⟩
    · have H : Hid (u o = u (ksa o v)) := Lib.hid (by unfold ksa; rw [if_neg (by simp [h0, h8])])
      have k0 : ¬ u (v >>> 60) = 0 := fun h => h0 (u_inj.1 (h.trans (show (0 : Int) = u 0#64 from rfl)))
      have k8 : ¬ u (v >>> 60) = 8 := fun h => h8 (u_inj.1 (h.trans (show (8 : Int) = u 8#64 from rfl)))
      clear h0 h8
      generalize u (v >>> 60) = d at *
      have e0 : (d != 0) = true := by simpa using k0
      have e8 : (d != 8) = true := by simpa using k8
      go_enter Try.func49, Try.ntmps49
      go_wp2
      go_ret
      exact ⟨by rw [← H.out]; rfl, rfl⟩
theorem kev_any (v : BitVec 64) (w : World) : Calls Try.prog 50 #[.int .u64 (u v)] w fun e w' => e = .returned (.int .u64 (u (kev v))) ∧ w = w' := by
  have A : bits .and .u64 (u v) 7 = u (v &&& 7#64) := u_and v 7#64
  by_cases h : 5 < (v &&& 7#64).toNat
  · have T : (5 : Int) < bits .and .u64 (u v) 7 := by rw [A]; unfold u; omega
    have H : Hid (0 = u (kev v)) := Lib.hid (by unfold kev; rw [if_pos h]; rfl)
    clear h A
    go_enter Try.func50, Try.ntmps50
    go_wp2
    go_ret
    exact ⟨by rw [← H.out]; rfl, rfl⟩
  · have T : ¬ (5 : Int) < bits .and .u64 (u v) 7 := by rw [A]; unfold u; omega
    have H : Hid (bits .and .u64 (u v) 7 = u (kev v)) := Lib.hid (by unfold kev; rw [if_neg h, A])
    clear h A
    go_enter Try.func50, Try.ntmps50
    go_wp2
    go_ret
    exact ⟨by rw [← H.out]; rfl, rfl⟩
/-- what an operand makes of what was read -/
def comb (f : Int) (o x : BitVec 64) : BitVec 64 := if f = 2 then o ||| x else if f = 3 then o &&& ~~~x else x
theorem comb_any (f : Int) (o x : BitVec 64) (w : World) : Calls Try.prog 38 #[.int .i64 f, .int .u64 (u o), .int .u64 (u x)] w fun e w' => e = .returned (.int .u64 (u (comb f o x))) ∧ w = w' := by
  by_cases h2 : f = 2
  · subst h2
    have H : Hid (bits .or .u64 (u o) (u x) = u (comb 2 o x)) := Lib.hid (by rw [u_or]; rfl)
    go_enter Try.func38, Try.ntmps38
    go_wp2
    go_ret
    exact ⟨by rw [← H.out]; rfl, rfl⟩
  · by_cases h3 : f = 3
    · subst h3
      have H : Hid (bits .andNot .u64 (u o) (u x) = u (comb 3 o x)) := Lib.hid (by rw [u_andNot]; rfl)
      go_enter Try.func38, Try.ntmps38
      go_wp2
      go_ret
      exact ⟨by rw [← H.out]; rfl, rfl⟩
    · have H : Hid (u x = u (comb f o x)) := Lib.hid (by unfold comb; rw [if_neg h2, if_neg h3])
      have e2 : (f == 2) = false := by simpa using h2
      have e3 : (f == 3) = false := by simpa using h3
      clear h2 h3
      go_enter Try.func38, Try.ntmps38
      go_wp2
      go_ret
      exact ⟨by rw [← H.out]; rfl, rfl⟩
/-- what an operand is combined with -/
def bas (c : Nat → BitVec 64) (n : Int) (o : BitVec 64) : BitVec 64 := if n = 836 then repl o (c 4) 0x200#64 else o
theorem bas_any (c : Nat → BitVec 64) (n : Int) (o : BitVec 64) (w : World) :
    Calls Try.prog 39 #[.agg (cV c), .int .i64 n, .int .u64 (u o)] w fun e w' => e = .returned (.int .u64 (u (bas c n o))) ∧ On w w' := by
  have HC : ∀ wr, On (w.alloc (.cells (cV c) 25)) wr → wr.heap[w.heap.size]? = some (.cells (cV c) 25 (0, 0)) := fun _ h => h.keep ((heap_alloc_new _ _))
  have c4 : ∀ wr, On (w.alloc (.cells (cV c) 25)) wr → wr.cell? ⟨w.heap.size, 4, none⟩ = some (.int .u64 (u (c 4))) := fun _ h => blk_cell (HC _ h) 4 (cV_get c 4 (by omega))
  have hb := On.refl (w.alloc (.cells (cV c) 25))
  by_cases h : n = 836
  · subst h
    have H : Hid (u (repl o (c 4) 0x200#64) = u (bas c 836 o)) := Lib.hid rfl
    have R : Hid (∀ w, Calls Try.prog 48 #[.int .u64 (u o), .int .u64 (u (c 4)), .int .u64 512] w fun e w' => e = .returned (.int .u64 (u (repl o (c 4) 0x200#64))) ∧ w = w') := Lib.hid (fun w => repl_any o (c 4) 0x200#64 w)
    generalize repl o (c 4) 0x200#64 = r at *
    go_enter Try.func39, Try.ntmps39
    go_wp2_with (go_at_call 48; refine (R.out _).mono ?_; rintro e w' ⟨rfl, rfl⟩)
    go_ret
    exact ⟨by rw [← H.out]; rfl, (((On.refl w).alloc _)).trans hb⟩
  · have H : Hid (u o = u (bas c n o)) := Lib.hid (by unfold bas; rw [if_neg h])
    have e0 : (n == 836) = false := by simpa using h
    clear h
    go_enter Try.func39, Try.ntmps39
    go_wp2
    go_ret
    exact ⟨by rw [← H.out]; rfl, (((On.refl w).alloc _)).trans hb⟩
theorem events_0 (c e : Nat → BitVec 64) (p q : Bool) (w : World) :
    Calls Try.prog 42 #[.agg (cV c), .int .i64 0, .agg (eV e p q)] w fun r w' => r = .returned (.int .u64 (u (c 26 + e 3))) ∧ On w w' := by
  have H : Hid (IntKind.u64.wrap (u (c 26) + u (e 3)) = u (c 26 + e 3)) := Lib.hid (u_add _ _)
  have HC : ∀ wr, On ((w.alloc (.cells (cV c) 25)).alloc (.cells (eV e p q) 27)) wr → wr.heap[w.heap.size]? = some (.cells (cV c) 25 (0, 0)) := fun _ h => h.keep (((On.refl _).alloc _).keep (heap_alloc_new _ _))
  have HE : ∀ wr, On ((w.alloc (.cells (cV c) 25)).alloc (.cells (eV e p q) 27)) wr → wr.heap[w.heap.size + 1]? = some (.cells (eV e p q) 27 (0, 0)) := fun _ h => h.keep (box2 _ _ _)
  have c26 : ∀ wr, On ((w.alloc (.cells (cV c) 25)).alloc (.cells (eV e p q) 27)) wr → wr.cell? ⟨w.heap.size, 26, none⟩ = some (.int .u64 (u (c 26))) := fun _ h => blk_cell (HC _ h) 26 (cV_get c 26 (by omega))
  have e3 : ∀ wr, On ((w.alloc (.cells (cV c) 25)).alloc (.cells (eV e p q) 27)) wr → wr.cell? ⟨w.heap.size + 1, 3, none⟩ = some (.int .u64 (u (e 3))) := fun _ h => blk_cell (HE _ h) 3 (eV_get e p q 3 (by omega))
  have hb := On.refl ((w.alloc (.cells (cV c) 25)).alloc (.cells (eV e p q) 27))
  go_enter Try.func42, Try.ntmps42
  go_wp2_with fail
  go_quiet (fail)
  go_wp2
  go_ret
  exact ⟨by rw [← H.out]; rfl, ((((On.refl w).alloc _).alloc _).trans hb).drewN _⟩
theorem events_1 (c e : Nat → BitVec 64) (p q : Bool) (w : World) :
    Calls Try.prog 42 #[.agg (cV c), .int .i64 1, .agg (eV e p q)] w fun r w' => r = .returned (.int .u64 (u (c 27 + e 4))) ∧ On w w' := by
  have H : Hid (IntKind.u64.wrap (u (c 27) + u (e 4)) = u (c 27 + e 4)) := Lib.hid (u_add _ _)
  have HC : ∀ wr, On ((w.alloc (.cells (cV c) 25)).alloc (.cells (eV e p q) 27)) wr → wr.heap[w.heap.size]? = some (.cells (cV c) 25 (0, 0)) := fun _ h => h.keep (((On.refl _).alloc _).keep (heap_alloc_new _ _))
  have HE : ∀ wr, On ((w.alloc (.cells (cV c) 25)).alloc (.cells (eV e p q) 27)) wr → wr.heap[w.heap.size + 1]? = some (.cells (eV e p q) 27 (0, 0)) := fun _ h => h.keep (box2 _ _ _)
  have c27 : ∀ wr, On ((w.alloc (.cells (cV c) 25)).alloc (.cells (eV e p q) 27)) wr → wr.cell? ⟨w.heap.size, 27, none⟩ = some (.int .u64 (u (c 27))) := fun _ h => blk_cell (HC _ h) 27 (cV_get c 27 (by omega))
  have e4 : ∀ wr, On ((w.alloc (.cells (cV c) 25)).alloc (.cells (eV e p q) 27)) wr → wr.cell? ⟨w.heap.size + 1, 4, none⟩ = some (.int .u64 (u (e 4))) := fun _ h => blk_cell (HE _ h) 4 (eV_get e p q 4 (by omega))
  have hb := On.refl ((w.alloc (.cells (cV c) 25)).alloc (.cells (eV e p q) 27))
  go_enter Try.func42, Try.ntmps42
  go_wp2_with fail
  go_quiet (fail)
  go_wp2
  go_ret
  exact ⟨by rw [← H.out]; rfl, ((((On.refl w).alloc _).alloc _).trans hb).drewN _⟩
theorem events_2 (c e : Nat → BitVec 64) (p q : Bool) (w : World) :
    Calls Try.prog 42 #[.agg (cV c), .int .i64 2, .agg (eV e p q)] w fun r w' => r = .returned (.int .u64 (u (c 28 + e 5))) ∧ On w w' := by
  have H : Hid (IntKind.u64.wrap (u (c 28) + u (e 5)) = u (c 28 + e 5)) := Lib.hid (u_add _ _)
  have HC : ∀ wr, On ((w.alloc (.cells (cV c) 25)).alloc (.cells (eV e p q) 27)) wr → wr.heap[w.heap.size]? = some (.cells (cV c) 25 (0, 0)) := fun _ h => h.keep (((On.refl _).alloc _).keep (heap_alloc_new _ _))
  have HE : ∀ wr, On ((w.alloc (.cells (cV c) 25)).alloc (.cells (eV e p q) 27)) wr → wr.heap[w.heap.size + 1]? = some (.cells (eV e p q) 27 (0, 0)) := fun _ h => h.keep (box2 _ _ _)
  have c28 : ∀ wr, On ((w.alloc (.cells (cV c) 25)).alloc (.cells (eV e p q) 27)) wr → wr.cell? ⟨w.heap.size, 28, none⟩ = some (.int .u64 (u (c 28))) := fun _ h => blk_cell (HC _ h) 28 (cV_get c 28 (by omega))
  have e5 : ∀ wr, On ((w.alloc (.cells (cV c) 25)).alloc (.cells (eV e p q) 27)) wr → wr.cell? ⟨w.heap.size + 1, 5, none⟩ = some (.int .u64 (u (e 5))) := fun _ h => blk_cell (HE _ h) 5 (eV_get e p q 5 (by omega))
  have hb := On.refl ((w.alloc (.cells (cV c) 25)).alloc (.cells (eV e p q) 27))
  go_enter Try.func42, Try.ntmps42
  go_wp2_with fail
  go_quiet (fail)
  go_wp2
  go_ret
  exact ⟨by rw [← H.out]; rfl, ((((On.refl w).alloc _).alloc _).trans hb).drewN _⟩
theorem events_3 (c e : Nat → BitVec 64) (p q : Bool) (w : World) :
    Calls Try.prog 42 #[.agg (cV c), .int .i64 3, .agg (eV e p q)] w fun r w' => r = .returned (.int .u64 (u (c 29 + e 6))) ∧ On w w' := by
  have H : Hid (IntKind.u64.wrap (u (c 29) + u (e 6)) = u (c 29 + e 6)) := Lib.hid (u_add _ _)
  have HC : ∀ wr, On ((w.alloc (.cells (cV c) 25)).alloc (.cells (eV e p q) 27)) wr → wr.heap[w.heap.size]? = some (.cells (cV c) 25 (0, 0)) := fun _ h => h.keep (((On.refl _).alloc _).keep (heap_alloc_new _ _))
  have HE : ∀ wr, On ((w.alloc (.cells (cV c) 25)).alloc (.cells (eV e p q) 27)) wr → wr.heap[w.heap.size + 1]? = some (.cells (eV e p q) 27 (0, 0)) := fun _ h => h.keep (box2 _ _ _)
  have c29 : ∀ wr, On ((w.alloc (.cells (cV c) 25)).alloc (.cells (eV e p q) 27)) wr → wr.cell? ⟨w.heap.size, 29, none⟩ = some (.int .u64 (u (c 29))) := fun _ h => blk_cell (HC _ h) 29 (cV_get c 29 (by omega))
  have e6 : ∀ wr, On ((w.alloc (.cells (cV c) 25)).alloc (.cells (eV e p q) 27)) wr → wr.cell? ⟨w.heap.size + 1, 6, none⟩ = some (.int .u64 (u (e 6))) := fun _ h => blk_cell (HE _ h) 6 (eV_get e p q 6 (by omega))
  have hb := On.refl ((w.alloc (.cells (cV c) 25)).alloc (.cells (eV e p q) 27))
  go_enter Try.func42, Try.ntmps42
  go_wp2_with fail
  go_quiet (fail)
  go_wp2
  go_ret
  exact ⟨by rw [← H.out]; rfl, ((((On.refl w).alloc _).alloc _).trans hb).drewN _⟩
/-- .. not while it is kept from Super -/
def untr (c : Nat → BitVec 64) (n p : Int) : Bool := !(n == 384 && (p == 1 && (c 0).getLsbD 20))
theorem untr_any (c : Nat → BitVec 64) (n p : Int) (w : World) :
    Calls Try.prog 44 #[.agg (cV c), .int .i64 n, .int .i64 p] w fun e w' => e = .returned (.bool (untr c n p)) ∧ On w w' := by
  have HC : ∀ wr, On (w.alloc (.cells (cV c) 25)) wr → wr.heap[w.heap.size]? = some (.cells (cV c) 25 (0, 0)) := fun _ h => h.keep ((heap_alloc_new _ _))
  have c0 : ∀ wr, On (w.alloc (.cells (cV c) 25)) wr → wr.cell? ⟨w.heap.size, 0, none⟩ = some (.int .u64 (u (c 0))) := fun _ h => blk_cell (HC _ h) 0 (cV_get c 0 (by omega))
  have hb := On.refl (w.alloc (.cells (cV c) 25))
  have L := lsb20 (c 0)
  have H : Hid ((!(n == 384 && (p == 1 && (c 0).getLsbD 20))) = untr c n p) := Lib.hid rfl
  by_cases h : n = 384
  · subst h
    by_cases h1 : p = 1
    · subst h1
      go_enter Try.func44, Try.ntmps44
      go_wp2
      go_ret
      exact ⟨by rw [← H.out]; simp, (((On.refl w).alloc _)).trans hb⟩
    · have H' : Hid (true = untr c 384 p) := Lib.hid (by unfold untr; simp [h1])
      have e1 : (p != 1) = true := by simpa using h1
      clear h1 H L
      go_enter Try.func44, Try.ntmps44
      go_wp2
      go_ret
      exact ⟨by rw [← H'.out]; rfl, (((On.refl w).alloc _)).trans hb⟩
  · have H' : Hid (true = untr c n p) := Lib.hid (by unfold untr; simp [h])
    have e0 : (n != 384) = true := by simpa using h
    clear h H L
    go_enter Try.func44, Try.ntmps44
    go_wp2
    go_ret
    exact ⟨by rw [← H'.out]; rfl, (((On.refl w).alloc _)).trans hb⟩
theorem ronly_any (n : Int) (w : World) : Calls Try.prog 35 #[.int .i64 n] w fun e w' => e = .returned (.bool (bits .and .i64 (n / 1024) 3 == 3)) ∧ w = w' := by
  go_enter Try.func35, Try.ntmps35
  go_wp2
  go_ret
  exact ⟨rfl, rfl⟩
end Go.Proofs.Ytoobbapdjoajgaa
