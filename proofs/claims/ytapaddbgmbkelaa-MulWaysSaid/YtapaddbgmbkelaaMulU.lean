/- What each call of a unit of package muldiv comes to: idle, busy or done. Conditions: none. -/
import Derived.Test.YtapaddbgmbkelaaMulR
import Derived.Test.YtapaddbgmbkelaaBut
import Derived.Deep.RegionWith
import Derived.Laws.EntriesVeiled
namespace Go.Proofs.Ytapaddbgmbkelaa
open Go.RowKit

/-- what a unit is -/
inductive Un where
  | idle
  | busy (f : Int) (wd : Bool) (x y : BitVec 64) (n : Int)
  | fin (v : BitVec 64)
/-- .. as its four cells -/
def Un.cells : Un → Array Value
  | .idle => #[.nilFunc, .int .i64 0, .bool false, .int .u64 0]
  | .busy f wd x y n => #[.func (.func 28) #[.agg #[.int .i64 f, .bool wd, .int .u64 (u x), .int .u64 (u y)]] #[], .int .i64 n, .bool false, .int .u64 0]
  | .fin v => #[.nilFunc, .int .i64 0, .bool true, .int .u64 (u v)]
/-- .. how many steps it needs -/
def Un.left : Un → Int
  | .busy _ _ _ _ n => n
  | _ => 0
/-- the unit in block B -/
def UAt (B : Nat) (s : Un) (w : World) : Prop := w.heap[B]? = some (.cells s.cells 52 (0, 0))
theorem UAt.on {B : Nat} {s : Un} {w w' : World} (h : UAt B s w) (k : On w w') : UAt B s w' := On.keep k h
theorem UAt.lt {B : Nat} {s : Un} {w : World} (h : UAt B s w) : B < w.heap.size := lt_of_block h
theorem UAt.idle0 {B : Nat} {w : World} (h : UAt B .idle w) : w.cell? ⟨B, 0, none⟩ = some .nilFunc := blk_cell h 0 rfl
theorem UAt.idle2 {B : Nat} {w : World} (h : UAt B .idle w) : w.cell? ⟨B, 2, none⟩ = some (.bool false) := blk_cell h 2 rfl
theorem UAt.fin0 {B : Nat} {v : BitVec 64} {w : World} (h : UAt B (.fin v) w) : w.cell? ⟨B, 0, none⟩ = some .nilFunc := blk_cell h 0 rfl
theorem UAt.fin1 {B : Nat} {v : BitVec 64} {w : World} (h : UAt B (.fin v) w) : w.cell? ⟨B, 1, none⟩ = some (.int .i64 0) := blk_cell h 1 rfl
theorem UAt.fin2 {B : Nat} {v : BitVec 64} {w : World} (h : UAt B (.fin v) w) : w.cell? ⟨B, 2, none⟩ = some (.bool true) := blk_cell h 2 rfl
theorem UAt.fin3 {B : Nat} {v : BitVec 64} {w : World} (h : UAt B (.fin v) w) : w.cell? ⟨B, 3, none⟩ = some (.int .u64 (u v)) := blk_cell h 3 rfl
theorem UAt.busy0 {B : Nat} {f : Int} {wd : Bool} {x y : BitVec 64} {n : Int} {w : World} (h : UAt B (.busy f wd x y n) w) : w.cell? ⟨B, 0, none⟩ = some (.func (.func 28) #[.agg #[.int .i64 f, .bool wd, .int .u64 (u x), .int .u64 (u y)]] #[]) := blk_cell h 0 rfl
theorem UAt.busy1 {B : Nat} {f : Int} {wd : Bool} {x y : BitVec 64} {n : Int} {w : World} (h : UAt B (.busy f wd x y n) w) : w.cell? ⟨B, 1, none⟩ = some (.int .i64 n) := blk_cell h 1 rfl
theorem UAt.busy2 {B : Nat} {f : Int} {wd : Bool} {x y : BitVec 64} {n : Int} {w : World} (h : UAt B (.busy f wd x y n) w) : w.cell? ⟨B, 2, none⟩ = some (.bool false) := blk_cell h 2 rfl
theorem UAt.busy3 {B : Nat} {f : Int} {wd : Bool} {x y : BitVec 64} {n : Int} {w : World} (h : UAt B (.busy f wd x y n) w) : w.cell? ⟨B, 3, none⟩ = some (.int .u64 0) := blk_cell h 3 rfl
theorem UAt.free {B : Nat} {s : Un} {w : World} (h : UAt B s w) (i : Nat) : w.frozen? ⟨B, i, none⟩ = false := blk_free h i
theorem neq_nil (w : World) : (Go.binOp .neq 50 .nilFunc .nilFunc).run Try.prog w = .ok (.bool false) w := by kernel_rfl
theorem neq_fn (fn : Fn) (fi ca : Array Value) (w : World) : (Go.binOp .neq 50 (.func fn fi ca) .nilFunc).run Try.prog w = .ok (.bool true) w := by kernel_rfl

theorem new_unit (w : World) :
    Calls Try.prog 14 #[] w fun e w' => e = .returned (.pointer (some ⟨w.heap.size, 0, none⟩)) ∧ UAt w.heap.size .idle w' ∧ On w w' := by
  go_enter Try.func14, Try.ntmps14
  go_wp2
  go_ret
  exact ⟨rfl, blk_new _ _, (On.refl w).alloc _⟩
theorem busy_nil (w : World) : Calls Try.prog 26 #[.pointer none] w fun e w' => e = .returned (.bool false) ∧ w = w' := by
  go_enter Try.func26, Try.ntmps26
  go_wp2
  go_ret
  exact ⟨rfl, rfl⟩
theorem busy_no (B : Nat) (w : World) (h : w.cell? ⟨B, 0, none⟩ = some .nilFunc) : Calls Try.prog 26 #[.pointer (some ⟨B, 0, none⟩)] w fun e w' => e = .returned (.bool false) ∧ w = w' := by
  have hq := neq_nil
  go_enter Try.func26, Try.ntmps26
  go_wp2
  go_ret
  exact ⟨rfl, rfl⟩
theorem busy_yes (B : Nat) (w : World) (fn : Fn) (fi ca : Array Value) (h : w.cell? ⟨B, 0, none⟩ = some (.func fn fi ca)) : Calls Try.prog 26 #[.pointer (some ⟨B, 0, none⟩)] w fun e w' => e = .returned (.bool true) ∧ w = w' := by
  have hq := neq_fn
  go_enter Try.func26, Try.ntmps26
  go_wp2
  go_ret
  exact ⟨rfl, rfl⟩

theorem left_nil (w : World) : Calls Try.prog 20 #[.pointer none] w fun e w' => e = .returned (.int .i64 0) ∧ w = w' := by
  go_enter Try.func20, Try.ntmps20
  go_wp2
  go_ret
  exact ⟨rfl, rfl⟩
theorem left_at (B : Nat) (s : Un) (w : World) (h : UAt B s w) : Calls Try.prog 20 #[.pointer (some ⟨B, 0, none⟩)] w fun e w' => e = .returned (.int .i64 s.left) ∧ w = w' := by
  have c1 : w.cell? ⟨B, 1, none⟩ = some (.int .i64 s.left) := blk_cell h 1 (by cases s <;> rfl)
  go_enter Try.func20, Try.ntmps20
  go_wp2
  go_ret
  exact ⟨rfl, rfl⟩

/-! ### Start -/
theorem start_nil (f : Int) (wd : Bool) (a b : BitVec 64) (w : World) :
    Calls Try.prog 16 #[.pointer none, .int .i64 f, .bool wd, .int .u64 (u a), .int .u64 (u b)] w fun e w' => e = .returned (.int .i64 2) ∧ On w w' := by
  go_enter Try.func16, Try.ntmps16
  go_wp2_with fail
  refine (prepare_any _ _ _ _ _).mono ?_
  rintro e w1 ⟨rfl, h1⟩
  have H1 := Lib.hid h1
  clear h1
  go_wp2
  go_ret
  exact ⟨rfl, H1.out.alloc _⟩
theorem start_twice (B : Nat) (s : Un) (hs : s ≠ .idle) (f : Int) (wd : Bool) (a b : BitVec 64) (w : World) (hw : UAt B s w) :
    Calls Try.prog 16 #[.pointer (some ⟨B, 0, none⟩), .int .i64 f, .bool wd, .int .u64 (u a), .int .u64 (u b)] w fun e w' => e = .returned (.int .i64 8) ∧ On w w' := by
  cases s with
  | idle => exact absurd rfl hs
  | busy f' wd' x' y' n =>
    clear hs
    go_enter Try.func16, Try.ntmps16
    go_wp2_with fail
    refine (prepare_any _ _ _ _ _).mono ?_
    rintro e w1 ⟨rfl, h1⟩
    obtain ⟨x, hx⟩ : ∃ x, prp f wd a = x := ⟨_, rfl⟩
    obtain ⟨y, hy⟩ : ∃ y, prp f wd b = y := ⟨_, rfl⟩
    rw [hx, hy]
    have c0 := blk_cell (((On.refl w1).alloc (.cells #[.int .i64 f, .bool wd, .int .u64 (u x), .int .u64 (u y)] 45)).keep (h1.keep hw)) 0 rfl
    have H1 := Lib.hid h1
    clear h1 hx hy hw
    go_wp2_with (go_at_call 26; refine (busy_yes B _ _ _ _ c0).mono ?_; rintro e w' ⟨rfl, rfl⟩)
    go_ret
    exact ⟨rfl, H1.out.alloc _⟩
  | fin v =>
    clear hs
    go_enter Try.func16, Try.ntmps16
    go_wp2_with fail
    refine (prepare_any _ _ _ _ _).mono ?_
    rintro e w1 ⟨rfl, h1⟩
    obtain ⟨x, hx⟩ : ∃ x, prp f wd a = x := ⟨_, rfl⟩
    obtain ⟨y, hy⟩ : ∃ y, prp f wd b = y := ⟨_, rfl⟩
    rw [hx, hy]
    have c0 := blk_cell (((On.refl w1).alloc (.cells #[.int .i64 f, .bool wd, .int .u64 (u x), .int .u64 (u y)] 45)).keep (h1.keep hw)) 0 rfl
    have c2 := blk_cell (((On.refl w1).alloc (.cells #[.int .i64 f, .bool wd, .int .u64 (u x), .int .u64 (u y)] 45)).keep (h1.keep hw)) 2 rfl
    have H1 := Lib.hid h1
    clear h1 hx hy hw
    go_wp2_with (go_at_call 26; refine (busy_no B _ c0).mono ?_; rintro e w' ⟨rfl, rfl⟩)
    go_ret
    exact ⟨rfl, H1.out.alloc _⟩
set_option maxHeartbeats 1000000 in
theorem start_arg (B : Nat) (f : Int) (wd : Bool) (h : dfd f wd = false) (a b : BitVec 64) (w : World) (hw : UAt B .idle w) :
    Calls Try.prog 16 #[.pointer (some ⟨B, 0, none⟩), .int .i64 f, .bool wd, .int .u64 (u a), .int .u64 (u b)] w fun e w' => e = .returned (.int .i64 1) ∧ On w w' := by
  go_enter Try.func16, Try.ntmps16
  go_wp2_with fail
  refine (prepare_any _ _ _ _ _).mono ?_
  rintro e w1 ⟨rfl, h1⟩
  obtain ⟨x, hx⟩ : ∃ x, prp f wd a = x := ⟨_, rfl⟩
  obtain ⟨y, hy⟩ : ∃ y, prp f wd b = y := ⟨_, rfl⟩
  rw [hx, hy]
  have c0 := blk_cell (((On.refl w1).alloc (.cells #[.int .i64 f, .bool wd, .int .u64 (u x), .int .u64 (u y)] 45)).keep (h1.keep hw)) 0 rfl
  have c2 := blk_cell (((On.refl w1).alloc (.cells #[.int .i64 f, .bool wd, .int .u64 (u x), .int .u64 (u y)] 45)).keep (h1.keep hw)) 2 rfl
  have HB := Lib.hid (h1.alloc (.cells #[.int .i64 f, .bool wd, .int .u64 (u x), .int .u64 (u y)] 45))
  have HD := Lib.hid h
  clear h1 hx hy hw h
  go_wp2_with (first | (go_at_call 26; refine (busy_no B _ c0).mono ?_; rintro e w' ⟨rfl, rfl⟩) | (go_at_call 27; refine (defined_any _ _ _ _ _).mono ?_; rw [HD.out]; rintro e wn ⟨rfl, hb'⟩; have HB := Lib.hid (HB.out.trans hb'); clear hb'))
  go_ret
  exact ⟨rfl, HB.out⟩
set_option maxHeartbeats 1000000 in
theorem start_ok (B : Nat) (f : Int) (wd : Bool) (h : dfd f wd = true) (a b : BitVec 64) (w : World) (hw : UAt B .idle w) :
    Calls Try.prog 16 #[.pointer (some ⟨B, 0, none⟩), .int .i64 f, .bool wd, .int .u64 (u a), .int .u64 (u b)] w fun e w' => e = .returned (.int .i64 0) ∧ UAt B (.busy f wd (prp f wd a) (prp f wd b) (stp f wd (prp f wd a) (prp f wd b))) w' ∧ But B w w' := by
  go_enter Try.func16, Try.ntmps16
  go_wp2_with fail
  refine (prepare_any _ _ _ _ _).mono ?_
  rintro e w1 ⟨rfl, h1⟩
  obtain ⟨x, hx⟩ : ∃ x, prp f wd a = x := ⟨_, rfl⟩
  obtain ⟨y, hy⟩ : ∃ y, prp f wd b = y := ⟨_, rfl⟩
  rw [hx, hy]
  have g1 := ((On.refl w1).alloc (.cells #[.int .i64 f, .bool wd, .int .u64 (u x), .int .u64 (u y)] 45)).keep (h1.keep hw)
  have c0 : ∀ wr, On (w1.alloc (.cells #[.int .i64 f, .bool wd, .int .u64 (u x), .int .u64 (u y)] 45)) wr → wr.cell? ⟨w1.heap.size, 0, none⟩ = some (.int .i64 f) := fun _ h => on_new h 0 rfl
  have c1 : ∀ wr, On (w1.alloc (.cells #[.int .i64 f, .bool wd, .int .u64 (u x), .int .u64 (u y)] 45)) wr → wr.cell? ⟨w1.heap.size, 1, none⟩ = some (.bool wd) := fun _ h => on_new h 1 rfl
  have c2 : ∀ wr, On (w1.alloc (.cells #[.int .i64 f, .bool wd, .int .u64 (u x), .int .u64 (u y)] 45)) wr → wr.cell? ⟨w1.heap.size, 2, none⟩ = some (.int .u64 (u x)) := fun _ h => on_new h 2 rfl
  have c3 : ∀ wr, On (w1.alloc (.cells #[.int .i64 f, .bool wd, .int .u64 (u x), .int .u64 (u y)] 45)) wr → wr.cell? ⟨w1.heap.size, 3, none⟩ = some (.int .u64 (u y)) := fun _ h => on_new h 3 rfl
  have hb := On.refl (w1.alloc (.cells #[.int .i64 f, .bool wd, .int .u64 (u x), .int .u64 (u y)] 45))
  have q0 := fun wr (h : On (w1.alloc (.cells #[.int .i64 f, .bool wd, .int .u64 (u x), .int .u64 (u y)] 45)) wr) => blk_cell (h.keep g1) 0 rfl
  have q1 := fun wr (h : On (w1.alloc (.cells #[.int .i64 f, .bool wd, .int .u64 (u x), .int .u64 (u y)] 45)) wr) => blk_cell (h.keep g1) 1 rfl
  have q2 := fun wr (h : On (w1.alloc (.cells #[.int .i64 f, .bool wd, .int .u64 (u x), .int .u64 (u y)] 45)) wr) => blk_cell (h.keep g1) 2 rfl
  have q3 := fun wr (h : On (w1.alloc (.cells #[.int .i64 f, .bool wd, .int .u64 (u x), .int .u64 (u y)] 45)) wr) => blk_cell (h.keep g1) 3 rfl
  have qf := fun wr (h : On (w1.alloc (.cells #[.int .i64 f, .bool wd, .int .u64 (u x), .int .u64 (u y)] 45)) wr) => blk_free (h.keep g1)
  have HG := Lib.hid g1
  have HB := Lib.hid ((But.of_on (B := B) h1).alloc (.cells #[.int .i64 f, .bool wd, .int .u64 (u x), .int .u64 (u y)] 45))
  have HD := Lib.hid h
  have HX := Lib.hid hx
  have HY := Lib.hid hy
  clear hx hy hw g1 h1 h
  go_wp2_with (first | (go_at_call 26; refine (busy_no B _ (q0 _ hb)).mono ?_; rintro e w' ⟨rfl, rfl⟩) | (go_at_call 27; refine (defined_any _ _ _ _ _).mono ?_; rw [HD.out]; rintro e wn ⟨rfl, hb'⟩; have hb := hb.trans hb'; clear hb'))
  go_region_with (first | (go_at_call 29; refine (steps_any _ _ _ _ _).mono ?_; rintro e wn ⟨rfl, hb'⟩; have hb := hb.drew.trans hb'; clear hb'))
  all_goals
    go_wp2
    go_ret
    exact ⟨rfl, by rw [HX.out, HY.out]; exact blk_put4 (hb.keep HG.out) _ _ _ _, ((((HB.out.on hb).setCell 0 _).setCell 1 _).setCell 2 _).setCell 3 _⟩

/-! ### a step -/
theorem mstep_more (B : Nat) (f : Int) (wd : Bool) (x y : BitVec 64) (n : Int) (h1 : 1 < n) (h2 : n ≤ 64) (w : World) (hw : UAt B (.busy f wd x y n) w) :
    Calls Try.prog 28 #[.agg #[.int .i64 f, .bool wd, .int .u64 (u x), .int .u64 (u y)], .pointer (some ⟨B, 0, none⟩)] w fun e w' => e = .returned (.tuple #[]) ∧ UAt B (.busy f wd x y (n - 1)) w' ∧ But B w w' := by
  have g : UAt B (.busy f wd x y n) (w.alloc (.cells #[.int .i64 f, .bool wd, .int .u64 (u x), .int .u64 (u y)] 45)) := hw.on ((On.refl w).alloc _)
  have c1 := g.busy1
  have qf := g.free
  have t : (n - 1 == 0) = false := by rw [beq_eq_false_iff_ne]; omega
  have HG := Lib.hid g
  clear g hw
  go_enter Try.func28, Try.ntmps28
  go_wp2
  go_end0
  exact ⟨rfl, blk_put HG.out 1 _, ((But.refl B w).alloc _).setCell 1 _⟩
theorem mstep_last (B : Nat) (f : Int) (wd : Bool) (x y : BitVec 64) (w : World) (hw : UAt B (.busy f wd x y 1) w) :
    Calls Try.prog 28 #[.agg #[.int .i64 f, .bool wd, .int .u64 (u x), .int .u64 (u y)], .pointer (some ⟨B, 0, none⟩)] w fun e w' => e = .returned (.tuple #[]) ∧ UAt B (.fin (tres f wd x y)) w' ∧ But B w w' := by
  have g : UAt B (.busy f wd x y 1) (w.alloc (.cells #[.int .i64 f, .bool wd, .int .u64 (u x), .int .u64 (u y)] 45)) := hw.on ((On.refl w).alloc _)
  have c1 := g.busy1
  have qf := g.free
  have HP : Hid (UAt B (.busy f wd x y 0) ((w.alloc (.cells #[.int .i64 f, .bool wd, .int .u64 (u x), .int .u64 (u y)] 45)).setCell ⟨B, 1, none⟩ (.int .i64 0))) := Lib.hid (blk_put g 1 _)
  have HB := Lib.hid (((But.refl B w).alloc (.cells #[.int .i64 f, .bool wd, .int .u64 (u x), .int .u64 (u y)] 45)).setCell 1 (.int .i64 0))
  have hne : w.heap.size ≠ B := by have := hw.lt; omega
  have b0 : ((w.alloc (.cells #[.int .i64 f, .bool wd, .int .u64 (u x), .int .u64 (u y)] 45)).setCell ⟨B, 1, none⟩ (.int .i64 0)).cell? ⟨w.heap.size, 0, none⟩ = some (.int .i64 f) := blk_cell ((Below.heap_setCell _ _ _ _ hne).trans (blk_new w _)) 0 rfl
  have b1 : ((w.alloc (.cells #[.int .i64 f, .bool wd, .int .u64 (u x), .int .u64 (u y)] 45)).setCell ⟨B, 1, none⟩ (.int .i64 0)).cell? ⟨w.heap.size, 1, none⟩ = some (.bool wd) := blk_cell ((Below.heap_setCell _ _ _ _ hne).trans (blk_new w _)) 1 rfl
  have b2 : ((w.alloc (.cells #[.int .i64 f, .bool wd, .int .u64 (u x), .int .u64 (u y)] 45)).setCell ⟨B, 1, none⟩ (.int .i64 0)).cell? ⟨w.heap.size, 2, none⟩ = some (.int .u64 (u x)) := blk_cell ((Below.heap_setCell _ _ _ _ hne).trans (blk_new w _)) 2 rfl
  have b3 : ((w.alloc (.cells #[.int .i64 f, .bool wd, .int .u64 (u x), .int .u64 (u y)] 45)).setCell ⟨B, 1, none⟩ (.int .i64 0)).cell? ⟨w.heap.size, 3, none⟩ = some (.int .u64 (u y)) := blk_cell ((Below.heap_setCell _ _ _ _ hne).trans (blk_new w _)) 3 rfl
  clear g hw hne
  go_enter Try.func28, Try.ntmps28
  go_wp2_with fail
  clear c1 qf b0 b1 b2 b3
  generalize ((w.alloc (.cells #[.int .i64 f, .bool wd, .int .u64 (u x), .int .u64 (u y)] 45)).setCell ⟨B, 1, none⟩ (.int .i64 0)) = w2 at *
  refine (result_any _ _ _ _ _).mono ?_
  rintro e w3 ⟨rfl, h3⟩
  have g := HP.out.on h3
  have q0 := g.busy0
  have q1 := g.busy1
  have q2 := g.busy2
  have q3 := g.busy3
  have qf := g.free
  have HG := Lib.hid g
  have HB2 := Lib.hid (HB.out.on h3)
  clear g h3
  go_wp2
  go_end0
  exact ⟨rfl, blk_put4 HG.out _ _ _ _, (((HB2.out.setCell 0 _).setCell 1 _).setCell 2 _).setCell 3 _⟩
theorem step_nil (w : World) : Calls Try.prog 19 #[.pointer none] w fun e w' => e = .returned (.bool false) ∧ w = w' := by
  go_enter Try.func19, Try.ntmps19
  go_wp2_with (go_at_call 26; refine (busy_nil _).mono ?_; rintro e w' ⟨rfl, rfl⟩)
  go_ret
  exact ⟨rfl, rfl⟩
theorem step_idle (B : Nat) (w : World) (h : UAt B .idle w) : Calls Try.prog 19 #[.pointer (some ⟨B, 0, none⟩)] w fun e w' => e = .returned (.bool false) ∧ w = w' := by
  have c0 := h.idle0
  go_enter Try.func19, Try.ntmps19
  go_wp2_with (go_at_call 26; refine (busy_no B _ c0).mono ?_; rintro e w' ⟨rfl, rfl⟩)
  go_ret
  exact ⟨rfl, rfl⟩
theorem step_fin (B : Nat) (v : BitVec 64) (w : World) (h : UAt B (.fin v) w) : Calls Try.prog 19 #[.pointer (some ⟨B, 0, none⟩)] w fun e w' => e = .returned (.bool false) ∧ w = w' := by
  have c0 := h.fin0
  go_enter Try.func19, Try.ntmps19
  go_wp2_with (go_at_call 26; refine (busy_no B _ c0).mono ?_; rintro e w' ⟨rfl, rfl⟩)
  go_ret
  exact ⟨rfl, rfl⟩
theorem step_more (B : Nat) (f : Int) (wd : Bool) (x y : BitVec 64) (n : Int) (h1 : 1 < n) (h2 : n ≤ 64) (w : World) (hw : UAt B (.busy f wd x y n) w) :
    Calls Try.prog 19 #[.pointer (some ⟨B, 0, none⟩)] w fun e w' => e = .returned (.bool true) ∧ UAt B (.busy f wd x y (n - 1)) w' ∧ But B w w' := by
  have c0 := hw.busy0
  have HW := Lib.hid hw
  clear hw
  go_enter Try.func19, Try.ntmps19
  go_wp2_with (first | (go_at_call 26; refine (busy_yes B _ _ _ _ c0).mono ?_; rintro e w' ⟨rfl, rfl⟩) | (go_at_call 28; refine (mstep_more B f wd x y n h1 h2 _ HW.out).mono ?_; rintro e w2 ⟨rfl, k1, k2⟩; have K1 := Lib.hid k1; have K2 := Lib.hid k2; clear k1 k2 c0))
  go_ret
  exact ⟨rfl, K1.out, K2.out⟩
theorem step_last (B : Nat) (f : Int) (wd : Bool) (x y : BitVec 64) (w : World) (hw : UAt B (.busy f wd x y 1) w) :
    Calls Try.prog 19 #[.pointer (some ⟨B, 0, none⟩)] w fun e w' => e = .returned (.bool true) ∧ UAt B (.fin (tres f wd x y)) w' ∧ But B w w' := by
  have c0 := hw.busy0
  have HW := Lib.hid hw
  clear hw
  go_enter Try.func19, Try.ntmps19
  go_wp2_with (first | (go_at_call 26; refine (busy_yes B _ _ _ _ c0).mono ?_; rintro e w' ⟨rfl, rfl⟩) | (go_at_call 28; refine (mstep_last B f wd x y _ HW.out).mono ?_; rintro e w2 ⟨rfl, k1, k2⟩; have K1 := Lib.hid k1; have K2 := Lib.hid k2; clear k1 k2 c0))
  go_ret
  exact ⟨rfl, K1.out, K2.out⟩

/-! ### Take, Drop -/
theorem take_nil (w : World) : Calls Try.prog 17 #[.pointer none] w fun e w' => e = .returned (.tuple #[.int .u64 0, .bool false]) ∧ w = w' := by
  go_enter Try.func17, Try.ntmps17
  go_wp2
  go_ret2
  exact ⟨rfl, rfl⟩
theorem take_no (B : Nat) (w : World) (c2 : w.cell? ⟨B, 2, none⟩ = some (.bool false)) : Calls Try.prog 17 #[.pointer (some ⟨B, 0, none⟩)] w fun e w' => e = .returned (.tuple #[.int .u64 0, .bool false]) ∧ w = w' := by
  go_enter Try.func17, Try.ntmps17
  go_wp2
  go_ret2
  exact ⟨rfl, rfl⟩
theorem take_fin (B : Nat) (v : BitVec 64) (w : World) (hw : UAt B (.fin v) w) :
    Calls Try.prog 17 #[.pointer (some ⟨B, 0, none⟩)] w fun e w' => e = .returned (.tuple #[.int .u64 (u v), .bool true]) ∧ UAt B .idle w' ∧ But B w w' := by
  have q0 := hw.fin0
  have q1 := hw.fin1
  have q2 := hw.fin2
  have q3 := hw.fin3
  have qf := hw.free
  have HW := Lib.hid hw
  clear hw
  go_enter Try.func17, Try.ntmps17
  go_wp2
  go_ret2
  exact ⟨rfl, blk_put4 HW.out _ _ _ _, ((((But.refl B w).setCell 0 _).setCell 1 _).setCell 2 _).setCell 3 _⟩
theorem drop_nil (w : World) : Calls Try.prog 18 #[.pointer none] w fun e w' => e = .returned (.bool false) ∧ w = w' := by
  go_enter Try.func18, Try.ntmps18
  go_wp2
  go_ret
  exact ⟨rfl, rfl⟩
theorem drop_idle (B : Nat) (w : World) (h : UAt B .idle w) : Calls Try.prog 18 #[.pointer (some ⟨B, 0, none⟩)] w fun e w' => e = .returned (.bool false) ∧ w = w' := by
  have c0 := h.idle0
  have c2 := h.idle2
  go_enter Try.func18, Try.ntmps18
  go_wp2_with (go_at_call 26; refine (busy_no B _ c0).mono ?_; rintro e w' ⟨rfl, rfl⟩)
  go_ret
  exact ⟨rfl, rfl⟩
theorem drop_fin (B : Nat) (v : BitVec 64) (w : World) (hw : UAt B (.fin v) w) :
    Calls Try.prog 18 #[.pointer (some ⟨B, 0, none⟩)] w fun e w' => e = .returned (.bool true) ∧ UAt B .idle w' ∧ But B w w' := by
  have q0 := hw.fin0
  have q1 := hw.fin1
  have q2 := hw.fin2
  have q3 := hw.fin3
  have qf := hw.free
  have HW := Lib.hid hw
  clear hw
  go_enter Try.func18, Try.ntmps18
  go_wp2_with (go_at_call 26; refine (busy_no B _ q0).mono ?_; rintro e w' ⟨rfl, rfl⟩)
  go_ret
  exact ⟨rfl, blk_put4 HW.out _ _ _ _, ((((But.refl B w).setCell 0 _).setCell 1 _).setCell 2 _).setCell 3 _⟩
theorem drop_busy (B : Nat) (f : Int) (wd : Bool) (x y : BitVec 64) (n : Int) (w : World) (hw : UAt B (.busy f wd x y n) w) :
    Calls Try.prog 18 #[.pointer (some ⟨B, 0, none⟩)] w fun e w' => e = .returned (.bool true) ∧ UAt B .idle w' ∧ But B w w' := by
  have q0 := hw.busy0
  have q1 := hw.busy1
  have q2 := hw.busy2
  have q3 := hw.busy3
  have qf := hw.free
  have HW := Lib.hid hw
  clear hw
  go_enter Try.func18, Try.ntmps18
  go_wp2_with (go_at_call 26; refine (busy_yes B _ _ _ _ q0).mono ?_; rintro e w' ⟨rfl, rfl⟩)
  go_ret
  exact ⟨rfl, blk_put4 HW.out _ _ _ _, ((((But.refl B w).setCell 0 _).setCell 1 _).setCell 2 _).setCell 3 _⟩
end Go.Proofs.Ytapaddbgmbkelaa
