/- What csr.Write and csr.Modify come to. Conditions: named at each. -/
import Derived.Test.YtoobbapdjoajgaaCsrS
namespace Go.Proofs.Ytoobbapdjoajgaa
open Go.RowKit

theorem ron_eq {n : Int} (h : ex n = true) : (bits .and .i64 (n / 1024) 3 == 3) = ron n := by
  rcases ex_cases h with rfl | rfl | rfl | rfl | rfl | rfl | rfl | rfl | rfl | rfl | rfl | rfl | rfl | rfl | rfl | rfl | rfl | rfl | rfl | rfl | rfl | rfl | rfl | rfl | rfl | rfl | rfl | rfl | rfl | rfl | rfl | rfl | rfl | rfl | rfl | rfl | rfl | rfl | rfl | rfl | rfl | rfl | rfl | rfl | rfl | rfl | rfl | rfl | rfl
  all_goals rfl
theorem rdb_ex {c : Nat → BitVec 64} {n m : Int} (h : rdb c n m = true) : ex n = true := by
  rw [rdb_eq] at h; exact (Bool.and_eq_true_iff.1 h).1
theorem ronly_at {n : Int} (h : ex n = true) (w : World) : Calls Try.prog 35 #[.int .i64 n] w fun e w' => e = .returned (.bool (ron n)) ∧ w = w' := by
  rw [← ron_eq h]; exact ronly_any n w
/-- what stands in a region that stores a state into the block B at its operation 3 -/
structure ResAt (w1 : World) (B S : Nat) (c : Nat → BitVec 64) (l : Array Bool) (wr : World) : Prop where
  but : But B w1 wr
  src : wr.heap[S]? = some (.cells (cV c) 25 (0, 0))
  res : wr.heap[B]? = some (.cells (cV (if l.getD 3 false = true then c else zC)) 25 (0, 0))
theorem getD_none (n i : Nat) : (Array.replicate n false).getD i false = false := by
  rw [Array.getD_eq_getD_getElem?]
  rcases Nat.lt_or_ge i n with h | h
  · rw [Array.getElem?_replicate, if_pos h]; rfl
  · rw [Array.getElem?_eq_none (by simpa using h)]; rfl
theorem ResAt.start {w1 : World} {B S : Nat} {c : Nat → BitVec 64} (n : Nat) (hs : w1.heap[S]? = some (.cells (cV c) 25 (0, 0))) (hr : w1.heap[B]? = some (.cells (cV zC) 25 (0, 0))) : ResAt w1 B S c (Array.replicate n false) (w1.drewN 1) :=
  ⟨(But.refl _ _).drewN 1, hs, by rw [getD_none]; exact hr⟩
theorem ResAt.step {w1 wr : World} {B S : Nat} {c : Nat → BitVec 64} {l : Array Bool} (h : ResAt w1 B S c l wr) (i : Nat) (hi : i ≠ 3) : ResAt w1 B S c (l.setIfInBounds i true) wr :=
  ⟨h.but, h.src, by rw [g_eq hi]; exact h.res⟩
theorem But.row {B : Nat} {a b : World} (h : But B a b) (cs : Array Value) : But B a (b.setRow B cs) :=
  h.trans ⟨rfl, rfl, rfl, by simp [World.setRow], fun k _ hn => setRow_other _ _ _ _ hn⟩
theorem ResAt.set {w1 wr : World} {B S : Nat} {c : Nat → BitVec 64} {l : Array Bool} (h : ResAt w1 B S c l wr) (hl : 3 < l.size) (hne : S ≠ B) : ResAt w1 B S c (l.setIfInBounds 3 true) (wr.setRow B (cV c)) :=
  ⟨h.but.row _, by rw [setRow_other _ _ _ _ hne]; exact h.src, by rw [g_self hl, if_pos rfl]; exact set_row h.res⟩
/-- what the block S holds is told: On, but for the result's block -/
theorem But.on_new {B : Nat} {a b c : World} (h : On a b) (hB : a.heap.size ≤ B) (k : But B b c) : On a c :=
  ⟨k.os.trans h.os, k.tape.trans h.tape, k.output.trans h.output, Nat.le_trans h.size k.size, fun i hi => (k.block i (Nat.lt_of_lt_of_le hi h.size) (by omega)).trans (h.block i hi)⟩
theorem write_yes (c e : Nat → BitVec 64) (p q : Bool) (n m : Int) (v : BitVec 64) (h : rdb c n m = true) (hr : ron n = false) (w : World) : Calls Try.prog 18 #[.agg (cV c), .int .i64 n, .int .i64 m, .int .u64 (u v), .agg (eV e p q)] w fun r w' => r = .returned (.tuple #[.agg (cV (kp c e n v)), .int .i64 0]) ∧ On w w' := by
  have hx := rdb_ex h
  have K1 : Hid (∀ w, Calls Try.prog 14 #[.agg (cV c), .int .i64 n, .int .i64 m, .agg (eV e p q)] w fun r w' => r = .returned (.tuple #[.int .u64 (u (rv c e n)), .int .i64 0]) ∧ On w w') := Lib.hid (fun w => read_yes c e p q n m h w)
  have K2 : Hid (∀ w, Calls Try.prog 35 #[.int .i64 n] w fun e w' => e = .returned (.bool false) ∧ w = w') := Lib.hid (fun w => by rw [← hr]; exact ronly_at hx w)
  have K3 : Hid (∀ w, Calls Try.prog 36 #[.agg (cV c), .int .i64 n, .int .u64 (u v), .agg (eV e p q)] w fun r w' => r = .returned (.agg (cV (kp c e n v))) ∧ On w w') := Lib.hid (fun w => store_any c e p q n hx hr v w)
  clear h hr hx
  have hZ := fun w => csr_zero w
  have HC : ∀ wr, On (((w.alloc (.cells (cV c) 25)).alloc (.cells (eV e p q) 27)).alloc (.cells (cV zC) 25)) wr → wr.heap[w.heap.size]? = some (.cells (cV c) 25 (0, 0)) := fun _ h => h.keep (box31 _ _ _ _)
  have HE : ∀ wr, On (((w.alloc (.cells (cV c) 25)).alloc (.cells (eV e p q) 27)).alloc (.cells (cV zC) 25)) wr → wr.heap[w.heap.size + 1]? = some (.cells (eV e p q) 27 (0, 0)) := fun _ h => h.keep (box32 _ _ _ _)
  have HR : ∀ wr, On (((w.alloc (.cells (cV c) 25)).alloc (.cells (eV e p q) 27)).alloc (.cells (cV zC) 25)) wr → wr.heap[w.heap.size + 1 + 1]? = some (.cells (cV zC) 25 (0, 0)) := fun _ h => h.keep (box33 _ _ _ _)
  have HO : Hid (On w (((w.alloc (.cells (cV c) 25)).alloc (.cells (eV e p q) 27)).alloc (.cells (cV zC) 25))) := Lib.hid (on3 _ _ _ _)
  have hb := On.refl (((w.alloc (.cells (cV c) 25)).alloc (.cells (eV e p q) 27)).alloc (.cells (cV zC) 25))
  generalize rv c e n = y at *
  generalize kp c e n v = z at *
  go_enter Try.func18, Try.ntmps18
  go_wp2_with (first | (apply csr_ld; (case hgd => exact rfl); (case ho => exact rfl); (case hx => exact rfl); (case hg => exact HC _ (by assumption))) | (apply env_ld; (case hgd => exact rfl); (case ho => exact rfl); (case hx => exact rfl); (case hg => exact HE _ (by assumption))) | (apply csr_st; (case hgd => exact rfl); (case ho => exact rfl); (case hx => exact rfl); (case hy => exact rfl); (case hg => exact HR _ (by assumption))) | (go_at_call 14; refine (K1.out _).mono ?_; rintro e wn ⟨rfl, hb'⟩; have hb := hb.trans hb'; clear hb') | (go_at_call 35; refine (K2.out _).mono ?_; rintro e w' ⟨rfl, rfl⟩) | (go_at_call 36; refine (K3.out _).mono ?_; rintro e wn ⟨rfl, hb'⟩; have hb := hb.trans hb'; clear hb'))
  refine row_back2 csrT rfl rfl rfl (set_row (HR _ (by assumption))) (cV_size _) rfl ⟨rfl, (HO.out.trans hb).row _ _ (by omega)⟩
theorem write_ron (c e : Nat → BitVec 64) (p q : Bool) (n m : Int) (v : BitVec 64) (h : rdb c n m = true) (hr : ron n = true) (w : World) : Calls Try.prog 18 #[.agg (cV c), .int .i64 n, .int .i64 m, .int .u64 (u v), .agg (eV e p q)] w fun r w' => r = .returned (.tuple #[.agg (cV (zC)), .int .i64 7]) ∧ On w w' := by
  have hx := rdb_ex h
  have K1 : Hid (∀ w, Calls Try.prog 14 #[.agg (cV c), .int .i64 n, .int .i64 m, .agg (eV e p q)] w fun r w' => r = .returned (.tuple #[.int .u64 (u (rv c e n)), .int .i64 0]) ∧ On w w') := Lib.hid (fun w => read_yes c e p q n m h w)
  have K2 : Hid (∀ w, Calls Try.prog 35 #[.int .i64 n] w fun e w' => e = .returned (.bool true) ∧ w = w') := Lib.hid (fun w => by rw [← hr]; exact ronly_at hx w)
  clear h hr hx
  have hZ := fun w => csr_zero w
  have HC : ∀ wr, On (((w.alloc (.cells (cV c) 25)).alloc (.cells (eV e p q) 27)).alloc (.cells (cV zC) 25)) wr → wr.heap[w.heap.size]? = some (.cells (cV c) 25 (0, 0)) := fun _ h => h.keep (box31 _ _ _ _)
  have HE : ∀ wr, On (((w.alloc (.cells (cV c) 25)).alloc (.cells (eV e p q) 27)).alloc (.cells (cV zC) 25)) wr → wr.heap[w.heap.size + 1]? = some (.cells (eV e p q) 27 (0, 0)) := fun _ h => h.keep (box32 _ _ _ _)
  have HR : ∀ wr, On (((w.alloc (.cells (cV c) 25)).alloc (.cells (eV e p q) 27)).alloc (.cells (cV zC) 25)) wr → wr.heap[w.heap.size + 1 + 1]? = some (.cells (cV zC) 25 (0, 0)) := fun _ h => h.keep (box33 _ _ _ _)
  have HO : Hid (On w (((w.alloc (.cells (cV c) 25)).alloc (.cells (eV e p q) 27)).alloc (.cells (cV zC) 25))) := Lib.hid (on3 _ _ _ _)
  have hb := On.refl (((w.alloc (.cells (cV c) 25)).alloc (.cells (eV e p q) 27)).alloc (.cells (cV zC) 25))
  generalize rv c e n = y at *
  go_enter Try.func18, Try.ntmps18
  go_wp2_with (first | (apply csr_ld; (case hgd => exact rfl); (case ho => exact rfl); (case hx => exact rfl); (case hg => exact HC _ (by assumption))) | (apply env_ld; (case hgd => exact rfl); (case ho => exact rfl); (case hx => exact rfl); (case hg => exact HE _ (by assumption))) | (apply csr_st; (case hgd => exact rfl); (case ho => exact rfl); (case hx => exact rfl); (case hy => exact rfl); (case hg => exact HR _ (by assumption))) | (go_at_call 14; refine (K1.out _).mono ?_; rintro e wn ⟨rfl, hb'⟩; have hb := hb.trans hb'; clear hb') | (go_at_call 35; refine (K2.out _).mono ?_; rintro e w' ⟨rfl, rfl⟩))
  refine row_back2 csrT rfl rfl rfl (set_row (HR _ (by assumption))) (cV_size _) rfl ⟨rfl, (HO.out.trans hb).row _ _ (by omega)⟩
theorem write_bad (c e : Nat → BitVec 64) (p q : Bool) (n m : Int) (v : BitVec 64) (h : rdb c n m = false) (w : World) : Calls Try.prog 18 #[.agg (cV c), .int .i64 n, .int .i64 m, .int .u64 (u v), .agg (eV e p q)] w fun r w' => r = .returned (.tuple #[.agg (cV (zC)), .int .i64 7]) ∧ On w w' := by
  have K1 : Hid (∀ w, Calls Try.prog 14 #[.agg (cV c), .int .i64 n, .int .i64 m, .agg (eV e p q)] w fun r w' => r = .returned (.tuple #[.int .u64 0, .int .i64 7]) ∧ On w w') := Lib.hid (fun w => read_no c e p q n m h w)
  clear h
  have hZ := fun w => csr_zero w
  have HC : ∀ wr, On (((w.alloc (.cells (cV c) 25)).alloc (.cells (eV e p q) 27)).alloc (.cells (cV zC) 25)) wr → wr.heap[w.heap.size]? = some (.cells (cV c) 25 (0, 0)) := fun _ h => h.keep (box31 _ _ _ _)
  have HE : ∀ wr, On (((w.alloc (.cells (cV c) 25)).alloc (.cells (eV e p q) 27)).alloc (.cells (cV zC) 25)) wr → wr.heap[w.heap.size + 1]? = some (.cells (eV e p q) 27 (0, 0)) := fun _ h => h.keep (box32 _ _ _ _)
  have HR : ∀ wr, On (((w.alloc (.cells (cV c) 25)).alloc (.cells (eV e p q) 27)).alloc (.cells (cV zC) 25)) wr → wr.heap[w.heap.size + 1 + 1]? = some (.cells (cV zC) 25 (0, 0)) := fun _ h => h.keep (box33 _ _ _ _)
  have HO : Hid (On w (((w.alloc (.cells (cV c) 25)).alloc (.cells (eV e p q) 27)).alloc (.cells (cV zC) 25))) := Lib.hid (on3 _ _ _ _)
  have hb := On.refl (((w.alloc (.cells (cV c) 25)).alloc (.cells (eV e p q) 27)).alloc (.cells (cV zC) 25))
  go_enter Try.func18, Try.ntmps18
  go_wp2_with (first | (apply csr_ld; (case hgd => exact rfl); (case ho => exact rfl); (case hx => exact rfl); (case hg => exact HC _ (by assumption))) | (apply env_ld; (case hgd => exact rfl); (case ho => exact rfl); (case hx => exact rfl); (case hg => exact HE _ (by assumption))) | (apply csr_st; (case hgd => exact rfl); (case ho => exact rfl); (case hx => exact rfl); (case hy => exact rfl); (case hg => exact HR _ (by assumption))) | (go_at_call 14; refine (K1.out _).mono ?_; rintro e wn ⟨rfl, hb'⟩; have hb := hb.trans hb'; clear hb'))
  refine row_back2 csrT rfl rfl rfl (set_row (HR _ (by assumption))) (cV_size _) rfl ⟨rfl, (HO.out.trans hb).row _ _ (by omega)⟩
theorem modify_bad (c e : Nat → BitVec 64) (p q : Bool) (n m f : Int) (x : BitVec 64) (o : Bool) (h : rdb c n m = false) (w : World) : Calls Try.prog 20 #[.agg (cV c), .int .i64 n, .int .i64 m, .int .i64 f, .int .u64 (u x), .bool o, .agg (eV e p q)] w fun r w' => r = .returned (.tuple #[.int .u64 (0), .agg (cV (zC)), .int .i64 7]) ∧ On w w' := by
  have K1 : Hid (∀ w, Calls Try.prog 14 #[.agg (cV c), .int .i64 n, .int .i64 m, .agg (eV e p q)] w fun r w' => r = .returned (.tuple #[.int .u64 0, .int .i64 7]) ∧ On w w') := Lib.hid (fun w => read_no c e p q n m h w)
  clear h
  have hZ := fun w => csr_zero w
  have HC : ∀ wr, On (((w.alloc (.cells (cV c) 25)).alloc (.cells (eV e p q) 27)).alloc (.cells (cV zC) 25)) wr → wr.heap[w.heap.size]? = some (.cells (cV c) 25 (0, 0)) := fun _ h => h.keep (box31 _ _ _ _)
  have HE : ∀ wr, On (((w.alloc (.cells (cV c) 25)).alloc (.cells (eV e p q) 27)).alloc (.cells (cV zC) 25)) wr → wr.heap[w.heap.size + 1]? = some (.cells (eV e p q) 27 (0, 0)) := fun _ h => h.keep (box32 _ _ _ _)
  have HR : ∀ wr, On (((w.alloc (.cells (cV c) 25)).alloc (.cells (eV e p q) 27)).alloc (.cells (cV zC) 25)) wr → wr.heap[w.heap.size + 1 + 1]? = some (.cells (cV zC) 25 (0, 0)) := fun _ h => h.keep (box33 _ _ _ _)
  have HO : Hid (On w (((w.alloc (.cells (cV c) 25)).alloc (.cells (eV e p q) 27)).alloc (.cells (cV zC) 25))) := Lib.hid (on3 _ _ _ _)
  have hb := On.refl (((w.alloc (.cells (cV c) 25)).alloc (.cells (eV e p q) 27)).alloc (.cells (cV zC) 25))
  go_enter Try.func20, Try.ntmps20
  go_wp2_with (first | (apply csr_ld; (case hgd => exact rfl); (case ho => exact rfl); (case hx => exact rfl); (case hg => exact HC _ (by assumption))) | (apply env_ld; (case hgd => exact rfl); (case ho => exact rfl); (case hx => exact rfl); (case hg => exact HE _ (by assumption))) | (apply csr_st; (case hgd => exact rfl); (case ho => exact rfl); (case hx => exact rfl); (case hy => exact rfl); (case hg => exact HR _ (by assumption))) | (go_at_call 14; refine (K1.out _).mono ?_; rintro e wn ⟨rfl, hb'⟩; have hb := hb.trans hb'; clear hb'))
  refine row_back3 csrT rfl rfl rfl (set_row (HR _ (by assumption))) (cV_size _) rfl rfl ⟨rfl, (HO.out.trans hb).row _ _ (by omega)⟩
theorem modify_fun (c e : Nat → BitVec 64) (p q : Bool) (n m f : Int) (x : BitVec 64) (o : Bool) (h : rdb c n m = true) (hf : f < 1 ∨ 3 < f) (w : World) : Calls Try.prog 20 #[.agg (cV c), .int .i64 n, .int .i64 m, .int .i64 f, .int .u64 (u x), .bool o, .agg (eV e p q)] w fun r w' => r = .returned (.tuple #[.int .u64 (0), .agg (cV (zC)), .int .i64 7]) ∧ On w w' := by
  have K1 : Hid (∀ w, Calls Try.prog 14 #[.agg (cV c), .int .i64 n, .int .i64 m, .agg (eV e p q)] w fun r w' => r = .returned (.tuple #[.int .u64 (u (rv c e n)), .int .i64 0]) ∧ On w w') := Lib.hid (fun w => read_yes c e p q n m h w)
  clear h
  have hZ := fun w => csr_zero w
  have HC : ∀ wr, On (((w.alloc (.cells (cV c) 25)).alloc (.cells (eV e p q) 27)).alloc (.cells (cV zC) 25)) wr → wr.heap[w.heap.size]? = some (.cells (cV c) 25 (0, 0)) := fun _ h => h.keep (box31 _ _ _ _)
  have HE : ∀ wr, On (((w.alloc (.cells (cV c) 25)).alloc (.cells (eV e p q) 27)).alloc (.cells (cV zC) 25)) wr → wr.heap[w.heap.size + 1]? = some (.cells (eV e p q) 27 (0, 0)) := fun _ h => h.keep (box32 _ _ _ _)
  have HR : ∀ wr, On (((w.alloc (.cells (cV c) 25)).alloc (.cells (eV e p q) 27)).alloc (.cells (cV zC) 25)) wr → wr.heap[w.heap.size + 1 + 1]? = some (.cells (cV zC) 25 (0, 0)) := fun _ h => h.keep (box33 _ _ _ _)
  have HO : Hid (On w (((w.alloc (.cells (cV c) 25)).alloc (.cells (eV e p q) 27)).alloc (.cells (cV zC) 25))) := Lib.hid (on3 _ _ _ _)
  have hb := On.refl (((w.alloc (.cells (cV c) 25)).alloc (.cells (eV e p q) 27)).alloc (.cells (cV zC) 25))
  generalize rv c e n = y at *
  by_cases h1 : f < 1
  · clear hf
    go_enter Try.func20, Try.ntmps20
    go_wp2_with (first | (apply csr_ld; (case hgd => exact rfl); (case ho => exact rfl); (case hx => exact rfl); (case hg => exact HC _ (by assumption))) | (apply env_ld; (case hgd => exact rfl); (case ho => exact rfl); (case hx => exact rfl); (case hg => exact HE _ (by assumption))) | (apply csr_st; (case hgd => exact rfl); (case ho => exact rfl); (case hx => exact rfl); (case hy => exact rfl); (case hg => exact HR _ (by assumption))) | (go_at_call 14; refine (K1.out _).mono ?_; rintro e wn ⟨rfl, hb'⟩; have hb := hb.trans hb'; clear hb'))
    refine row_back3 csrT rfl rfl rfl (set_row (HR _ (by assumption))) (cV_size _) rfl rfl ⟨rfl, (HO.out.trans hb).row _ _ (by omega)⟩
  · have h3 : 3 < f := by omega
    clear hf
    go_enter Try.func20, Try.ntmps20
    go_wp2_with (first | (apply csr_ld; (case hgd => exact rfl); (case ho => exact rfl); (case hx => exact rfl); (case hg => exact HC _ (by assumption))) | (apply env_ld; (case hgd => exact rfl); (case ho => exact rfl); (case hx => exact rfl); (case hg => exact HE _ (by assumption))) | (apply csr_st; (case hgd => exact rfl); (case ho => exact rfl); (case hx => exact rfl); (case hy => exact rfl); (case hg => exact HR _ (by assumption))) | (go_at_call 14; refine (K1.out _).mono ?_; rintro e wn ⟨rfl, hb'⟩; have hb := hb.trans hb'; clear hb'))
    refine row_back3 csrT rfl rfl rfl (set_row (HR _ (by assumption))) (cV_size _) rfl rfl ⟨rfl, (HO.out.trans hb).row _ _ (by omega)⟩
set_option maxHeartbeats 1000000 in
theorem modify_rd (c e : Nat → BitVec 64) (p q : Bool) (n m f : Int) (x : BitVec 64) (h : rdb c n m = true) (h1 : ¬ f < 1) (h3 : ¬ 3 < f) (w : World) : Calls Try.prog 20 #[.agg (cV c), .int .i64 n, .int .i64 m, .int .i64 f, .int .u64 (u x), .bool false, .agg (eV e p q)] w fun r w' => r = .returned (.tuple #[.int .u64 (u (rv c e n)), .agg (cV (c)), .int .i64 0]) ∧ On w w' := by
  have K1 : Hid (∀ w, Calls Try.prog 14 #[.agg (cV c), .int .i64 n, .int .i64 m, .agg (eV e p q)] w fun r w' => r = .returned (.tuple #[.int .u64 (u (rv c e n)), .int .i64 0]) ∧ On w w') := Lib.hid (fun w => read_yes c e p q n m h w)
  clear h
  have hZ := fun w => csr_zero w
  have HC : ∀ wr, On (((w.alloc (.cells (cV c) 25)).alloc (.cells (eV e p q) 27)).alloc (.cells (cV zC) 25)) wr → wr.heap[w.heap.size]? = some (.cells (cV c) 25 (0, 0)) := fun _ h => h.keep (box31 _ _ _ _)
  have HE : ∀ wr, On (((w.alloc (.cells (cV c) 25)).alloc (.cells (eV e p q) 27)).alloc (.cells (cV zC) 25)) wr → wr.heap[w.heap.size + 1]? = some (.cells (eV e p q) 27 (0, 0)) := fun _ h => h.keep (box32 _ _ _ _)
  have HR : ∀ wr, On (((w.alloc (.cells (cV c) 25)).alloc (.cells (eV e p q) 27)).alloc (.cells (cV zC) 25)) wr → wr.heap[w.heap.size + 1 + 1]? = some (.cells (cV zC) 25 (0, 0)) := fun _ h => h.keep (box33 _ _ _ _)
  have HO : Hid (On w (((w.alloc (.cells (cV c) 25)).alloc (.cells (eV e p q) 27)).alloc (.cells (cV zC) 25))) := Lib.hid (on3 _ _ _ _)
  have hb := On.refl (((w.alloc (.cells (cV c) 25)).alloc (.cells (eV e p q) 27)).alloc (.cells (cV zC) 25))
  generalize rv c e n = y at *
  go_enter Try.func20, Try.ntmps20
  go_wp2_with (first | (apply csr_ld; (case hgd => exact rfl); (case ho => exact rfl); (case hx => exact rfl); (case hg => exact HC _ (by assumption))) | (apply env_ld; (case hgd => exact rfl); (case ho => exact rfl); (case hx => exact rfl); (case hg => exact HE _ (by assumption))) | (go_at_call 14; refine (K1.out _).mono ?_; rintro e wn ⟨rfl, hb'⟩; have hb := hb.trans hb'; clear hb'))
  have hsrc := HC _ hb
  have hres := HR _ hb
  have hlt := blk_lt hres
  have hon := HO.out.trans hb
  clear hb HC HE HR HO hZ
  refine wp_region_slots (by kernel_rfl) (fun i => (#[.int .u64 (u y), .agg (cV c), .int .u64 (u y), undef, .int .i64 0] : Array Value).getD i undef) (ResAt _ (w.heap.size + 1 + 1) (w.heap.size) c) (lex_of (by kernel_rfl)) (oneDst_of (by kernel_rfl)) (ResAt.start _ hsrc hres) ?done ?step
  case step =>
    intro i o hi hi13 l a wr hS hW hl haft
    have hi13 : i < 5 := hi13
    have h13 : i = 0 ∨ i = 1 ∨ i = 2 ∨ i = 3 ∨ i = 4 := by omega
    rcases h13 with rfl | rfl | rfl | rfl | rfl
    · obtain rfl := Option.some.inj hi
      refine wpOp_of hi rfl ?_
      exact wp_move_at rfl (hS.old (by kernel_rfl)) ⟨hS.put (oneDst_of (by kernel_rfl)) hi (fun _ => rfl), hW.step 0 (by omega)⟩
    · obtain rfl := Option.some.inj hi
      refine wpOp_of hi rfl ?_
      exact wp_load_at rfl (hS.old (by kernel_rfl)) (csr_at hW.src) ⟨hS.put (oneDst_of (by kernel_rfl)) hi (fun _ => rfl), hW.step 1 (by omega)⟩
    · obtain rfl := Option.some.inj hi
      refine wpOp_of hi rfl ?_
      exact wp_assign_at rfl (hS.val (i := 0) rfl rfl (haft ⟨0, .data⟩ (by simp) rfl)) ⟨hS.put (oneDst_of (by kernel_rfl)) hi (fun _ => rfl), hW.step 2 (by omega)⟩
    · obtain rfl := Option.some.inj hi
      refine wpOp_of hi rfl ?_
      exact wp_store_row_at csrT rfl (hS.old (by kernel_rfl)) (hS.val (i := 1) rfl rfl (haft ⟨1, .data⟩ (by simp) rfl)) hW.res (cV_size _) (cV_size _) (cV_one _) ⟨hS.put (oneDst_of (by kernel_rfl)) hi (fun _ => rfl), hW.set (by rw [hS.size]; decide) (by omega)⟩
    · obtain rfl := Option.some.inj hi
      refine wpOp_of hi rfl ?_
      exact wp_assign_at rfl rfl ⟨hS.put (oneDst_of (by kernel_rfl)) hi (fun _ => rfl), hW.step 4 (by omega)⟩
  case done =>
    intro wr hW
    have hr : wr.heap[w.heap.size + 1 + 1]? = some (.cells (cV c) 25 (0, 0)) := hW.res
    have hx := Lib.hid hW.but
    clear hW
    simp only [puts]
    go_simp
    go_wp2_with fail
    refine row_back3 csrT rfl rfl rfl hr (cV_size _) rfl rfl ⟨rfl, But.on_new hon (by omega) hx.out⟩
/-- what stands in the region that writes: g: the block that is made for what comes of it -/
structure ModAt (w1 : World) (cW : Nat → BitVec 64) (g : Nat) (l : Array Bool) (wr : World) : Prop where
  on : On w1 wr
  own : l.getD 15 false = true → w1.heap.size ≤ g ∧ wr.heap[g]? = some (.cells (cV (if l.getD 16 false = true then cW else zC)) 25 (0, 0))
  ord : l.getD 16 false = true → l.getD 15 false = true
theorem ModAt.start (w1 : World) (cW : Nat → BitVec 64) (n : Nat) : ModAt w1 cW 0 (Array.replicate n false) (w1.drewN 1) :=
  ⟨on_drawn _ _, (fun h => by rw [getD_none] at h; cases h), (fun h => by rw [getD_none] at h; cases h)⟩
theorem ModAt.step {w1 wr wx : World} {cW : Nat → BitVec 64} {g : Nat} {l : Array Bool} (h : ModAt w1 cW g l wr) (i : Nat) (h1 : i ≠ 15) (h2 : i ≠ 16) (k : On wr wx) : ModAt w1 cW g (l.setIfInBounds i true) wx :=
  ⟨h.on.trans k, fun hl => by rw [g_eq h2]; exact ⟨(h.own (g_ne h1 hl)).1, k.keep (h.own (g_ne h1 hl)).2⟩, fun hl => g_mono (h.ord (g_ne h2 hl))⟩
theorem ModAt.made {w1 wr : World} {cW : Nat → BitVec 64} {g : Nat} {l : Array Bool} (h : ModAt w1 cW g l wr) (hs : 15 < l.size) (hl : l.getD 15 true = false) : ModAt w1 cW wr.heap.size (l.setIfInBounds 15 true) (wr.alloc (.cells (cV zC) 25)) :=
  ⟨h.on.alloc _, fun _ => ⟨h.on.size, by rw [g_eq (by omega), g_ahead h.ord hl]; exact heap_alloc_new _ _⟩, fun _ => g_self hs⟩
theorem ModAt.set {w1 wr : World} {cW : Nat → BitVec 64} {g : Nat} {l : Array Bool} (h : ModAt w1 cW g l wr) (hs : 16 < l.size) (h15 : l.getD 15 false = true) : ModAt w1 cW g (l.setIfInBounds 16 true) (wr.setRow g (cV cW)) :=
  ⟨h.on.row _ _ (h.own h15).1, fun _ => ⟨(h.own h15).1, by rw [g_self hs, if_pos rfl]; exact set_row (h.own h15).2⟩, fun _ => g_mono h15⟩
set_option maxHeartbeats 2000000 in
theorem modify_wr (c e : Nat → BitVec 64) (p q : Bool) (n m f : Int) (x : BitVec 64) (h : rdb c n m = true) (h1 : ¬ f < 1) (h3 : ¬ 3 < f) (hr : ron n = false) (w : World) : Calls Try.prog 20 #[.agg (cV c), .int .i64 n, .int .i64 m, .int .i64 f, .int .u64 (u x), .bool true, .agg (eV e p q)] w fun r w' => r = .returned (.tuple #[.int .u64 (u (rv c e n)), .agg (cV (kp c e n (comb f (bas c n (rv c e n)) x))), .int .i64 0]) ∧ On w w' := by
  have K1 : Hid (∀ w, Calls Try.prog 14 #[.agg (cV c), .int .i64 n, .int .i64 m, .agg (eV e p q)] w fun r w' => r = .returned (.tuple #[.int .u64 (u (rv c e n)), .int .i64 0]) ∧ On w w') := Lib.hid (fun w => read_yes c e p q n m h w)
  have K3 : Hid (∀ w, Calls Try.prog 18 #[.agg (cV c), .int .i64 n, .int .i64 m, .int .u64 (u (comb f (bas c n (rv c e n)) x)), .agg (eV e p q)] w fun r w' => r = .returned (.tuple #[.agg (cV (kp c e n (comb f (bas c n (rv c e n)) x))), .int .i64 0]) ∧ On w w') := Lib.hid (fun w => write_yes c e p q n m _ h hr w)
  clear h hr
  have hZ := fun w => csr_zero w
  have HC : ∀ wr, On (((w.alloc (.cells (cV c) 25)).alloc (.cells (eV e p q) 27)).alloc (.cells (cV zC) 25)) wr → wr.heap[w.heap.size]? = some (.cells (cV c) 25 (0, 0)) := fun _ h => h.keep (box31 _ _ _ _)
  have HE : ∀ wr, On (((w.alloc (.cells (cV c) 25)).alloc (.cells (eV e p q) 27)).alloc (.cells (cV zC) 25)) wr → wr.heap[w.heap.size + 1]? = some (.cells (eV e p q) 27 (0, 0)) := fun _ h => h.keep (box32 _ _ _ _)
  have HR : ∀ wr, On (((w.alloc (.cells (cV c) 25)).alloc (.cells (eV e p q) 27)).alloc (.cells (cV zC) 25)) wr → wr.heap[w.heap.size + 1 + 1]? = some (.cells (cV zC) 25 (0, 0)) := fun _ h => h.keep (box33 _ _ _ _)
  have HO : Hid (On w (((w.alloc (.cells (cV c) 25)).alloc (.cells (eV e p q) 27)).alloc (.cells (cV zC) 25))) := Lib.hid (on3 _ _ _ _)
  have hb := On.refl (((w.alloc (.cells (cV c) 25)).alloc (.cells (eV e p q) 27)).alloc (.cells (cV zC) 25))
  generalize kp c e n (comb f (bas c n (rv c e n)) x) = z at *
  generalize rv c e n = y at *
  go_enter Try.func20, Try.ntmps20
  go_wp2_with (first | (apply csr_ld; (case hgd => exact rfl); (case ho => exact rfl); (case hx => exact rfl); (case hg => exact HC _ (by assumption))) | (apply env_ld; (case hgd => exact rfl); (case ho => exact rfl); (case hx => exact rfl); (case hg => exact HE _ (by assumption))) | (go_at_call 14; refine (K1.out _).mono ?_; rintro e wn ⟨rfl, hb'⟩; have hb := hb.trans hb'; clear hb'))
  have hres := HR _ hb
  have hlt := blk_lt hres
  refine wp_region_slotsG (by kernel_rfl) (fun g i => if i = 15 then .pointer (some ⟨g, 0, none⟩) else (#[.agg (cV c), .int .i64 n, .int .i64 m, .int .i64 f, .agg (cV c), .int .i64 n, .int .u64 (u y), .int .u64 (u (bas c n y)), .int .u64 (u x), .int .u64 (u (comb f (bas c n y) x)), .agg (eV e p q), .tuple #[.agg (cV z), .int .i64 0], .tuple #[.agg (cV z), .int .i64 0], .agg (cV z), .int .i64 0, undef, undef, .int .i64 0] : Array Value).getD i undef) (ModAt _ z) (lex_of (by kernel_rfl)) (oneDst_of (by kernel_rfl)) 0 (ModAt.start ..) ?done ?step
  case step =>
    intro i o hi hi13 g l a wr hS hW hl haft
    have hi13 : i < 18 := hi13
    have h13 : i = 0 ∨ i = 1 ∨ i = 2 ∨ i = 3 ∨ i = 4 ∨ i = 5 ∨ i = 6 ∨ i = 7 ∨ i = 8 ∨ i = 9 ∨ i = 10 ∨ i = 11 ∨ i = 12 ∨ i = 13 ∨ i = 14 ∨ i = 15 ∨ i = 16 ∨ i = 17 := by omega
    rcases h13 with rfl | rfl | rfl | rfl | rfl | rfl | rfl | rfl | rfl | rfl | rfl | rfl | rfl | rfl | rfl | rfl | rfl | rfl
    · obtain rfl := Option.some.inj hi
      refine wpOp_of hi rfl ?_
      exact wp_load_at rfl (hS.old (by kernel_rfl)) (csr_at (HC _ (hb.trans hW.on))) ⟨g, hS.put (oneDst_of (by kernel_rfl)) hi (fun _ => rfl), hW.step 0 (by omega) (by omega) (On.refl _)⟩
    · obtain rfl := Option.some.inj hi
      refine wpOp_of hi rfl ?_
      exact wp_move_at rfl (hS.old (by kernel_rfl)) ⟨g, hS.put (oneDst_of (by kernel_rfl)) hi (fun _ => rfl), hW.step 1 (by omega) (by omega) (On.refl _)⟩
    · obtain rfl := Option.some.inj hi
      refine wpOp_of hi rfl ?_
      exact wp_move_at rfl (hS.old (by kernel_rfl)) ⟨g, hS.put (oneDst_of (by kernel_rfl)) hi (fun _ => rfl), hW.step 2 (by omega) (by omega) (On.refl _)⟩
    · obtain rfl := Option.some.inj hi
      refine wpOp_of hi rfl ?_
      exact wp_move_at rfl (hS.old (by kernel_rfl)) ⟨g, hS.put (oneDst_of (by kernel_rfl)) hi (fun _ => rfl), hW.step 3 (by omega) (by omega) (On.refl _)⟩
    · obtain rfl := Option.some.inj hi
      refine wpOp_of hi rfl ?_
      exact wp_load_at rfl (hS.old (by kernel_rfl)) (csr_at (HC _ (hb.trans hW.on))) ⟨g, hS.put (oneDst_of (by kernel_rfl)) hi (fun _ => rfl), hW.step 4 (by omega) (by omega) (On.refl _)⟩
    · obtain rfl := Option.some.inj hi
      refine wpOp_of hi rfl ?_
      exact wp_move_at rfl (hS.old (by kernel_rfl)) ⟨g, hS.put (oneDst_of (by kernel_rfl)) hi (fun _ => rfl), hW.step 5 (by omega) (by omega) (On.refl _)⟩
    · obtain rfl := Option.some.inj hi
      refine wpOp_of hi rfl ?_
      exact wp_move_at rfl (hS.old (by kernel_rfl)) ⟨g, hS.put (oneDst_of (by kernel_rfl)) hi (fun _ => rfl), hW.step 6 (by omega) (by omega) (On.refl _)⟩
    · obtain rfl := Option.some.inj hi
      refine wpOp_of hi rfl ?_
      refine wp_call_at (vs := #[.agg (cV c), .int .i64 n, .int .u64 (u y)]) rfl ?_ rfl (bas_any c n y wr) (fun w' h' => ⟨g, hS.put (oneDst_of (by kernel_rfl)) hi (fun _ => rfl), hW.step 7 (by omega) (by omega) h'⟩)
      show [a.eval (.tmp 48), a.eval (.tmp 49), a.eval (.tmp 50)] = _
      rw [(hS.val (i := 4) rfl rfl (haft ⟨4, .data⟩ (by simp) rfl)), (hS.val (i := 5) rfl rfl (haft ⟨5, .data⟩ (by simp) rfl)), (hS.val (i := 6) rfl rfl (haft ⟨6, .data⟩ (by simp) rfl))]
      rfl
    · obtain rfl := Option.some.inj hi
      refine wpOp_of hi rfl ?_
      exact wp_move_at rfl (hS.old (by kernel_rfl)) ⟨g, hS.put (oneDst_of (by kernel_rfl)) hi (fun _ => rfl), hW.step 8 (by omega) (by omega) (On.refl _)⟩
    · obtain rfl := Option.some.inj hi
      refine wpOp_of hi rfl ?_
      refine wp_call_at (vs := #[.int .i64 f, .int .u64 (u (bas c n y)), .int .u64 (u x)]) rfl ?_ rfl (comb_any f (bas c n y) x wr) (fun w' h' => ⟨g, hS.put (oneDst_of (by kernel_rfl)) hi (fun _ => rfl), hW.step 9 (by omega) (by omega) (h' ▸ On.refl _)⟩)
      show [a.eval (.tmp 47), a.eval (.tmp 51), a.eval (.tmp 52)] = _
      rw [(hS.val (i := 3) rfl rfl (haft ⟨3, .data⟩ (by simp) rfl)), (hS.val (i := 7) rfl rfl (haft ⟨7, .data⟩ (by simp) rfl)), (hS.val (i := 8) rfl rfl (haft ⟨8, .data⟩ (by simp) rfl))]
      rfl
    · obtain rfl := Option.some.inj hi
      refine wpOp_of hi rfl ?_
      exact wp_load_at rfl (hS.old (by kernel_rfl)) (env_at (HE _ (hb.trans hW.on))) ⟨g, hS.put (oneDst_of (by kernel_rfl)) hi (fun _ => rfl), hW.step 10 (by omega) (by omega) (On.refl _)⟩
    · obtain rfl := Option.some.inj hi
      refine wpOp_of hi rfl ?_
      refine wp_call_at (vs := #[.agg (cV c), .int .i64 n, .int .i64 m, .int .u64 (u (comb f (bas c n y) x)), .agg (eV e p q)]) rfl ?_ rfl (K3.out wr) (fun w' h' => ⟨g, hS.put (oneDst_of (by kernel_rfl)) hi (fun _ => rfl), hW.step 11 (by omega) (by omega) h'⟩)
      show [a.eval (.tmp 44), a.eval (.tmp 45), a.eval (.tmp 46), a.eval (.tmp 53), a.eval (.tmp 54)] = _
      rw [(hS.val (i := 0) rfl rfl (haft ⟨0, .data⟩ (by simp) rfl)), (hS.val (i := 1) rfl rfl (haft ⟨1, .data⟩ (by simp) rfl)), (hS.val (i := 2) rfl rfl (haft ⟨2, .data⟩ (by simp) rfl)), (hS.val (i := 9) rfl rfl (haft ⟨9, .data⟩ (by simp) rfl)), (hS.val (i := 10) rfl rfl (haft ⟨10, .data⟩ (by simp) rfl))]
      rfl
    · obtain rfl := Option.some.inj hi
      refine wpOp_of hi rfl ?_
      exact wp_move_at rfl (hS.val (i := 11) rfl rfl (haft ⟨11, .data⟩ (by simp) rfl)) ⟨g, hS.put (oneDst_of (by kernel_rfl)) hi (fun _ => rfl), hW.step 12 (by omega) (by omega) (On.refl _)⟩
    · obtain rfl := Option.some.inj hi
      refine wpOp_of hi rfl ?_
      exact wp_extract_at rfl (hS.val (i := 12) rfl rfl (haft ⟨12, .data⟩ (by simp) rfl)) rfl ⟨g, hS.put (oneDst_of (by kernel_rfl)) hi (fun _ => rfl), hW.step 13 (by omega) (by omega) (On.refl _)⟩
    · obtain rfl := Option.some.inj hi
      refine wpOp_of hi rfl ?_
      exact wp_extract_at rfl (hS.val (i := 12) rfl rfl (haft ⟨12, .data⟩ (by simp) rfl)) rfl ⟨g, hS.put (oneDst_of (by kernel_rfl)) hi (fun _ => rfl), hW.step 14 (by omega) (by omega) (On.refl _)⟩
    · obtain rfl := Option.some.inj hi
      refine wpOp_of hi rfl ?_
      refine wp_alloc_at rfl (csr_zero wr) ⟨wr.heap.size, SlotInv.put (hS.swap fun j hj => ?_) (oneDst_of (by kernel_rfl)) hi (fun _ => rfl), hW.made (by rw [hS.size]; decide) hl⟩
      by_cases h15 : j = 15
      · subst h15; rw [g_not hl] at hj; cases hj
      · simp only [if_neg h15]
    · obtain rfl := Option.some.inj hi
      refine wpOp_of hi rfl ?_
      exact wp_store_row_at csrT rfl (hS.val (i := 15) rfl rfl (haft ⟨15, .data⟩ (by simp) rfl)) (hS.val (i := 13) rfl rfl (haft ⟨13, .data⟩ (by simp) rfl)) (hW.own (haft ⟨15, .data⟩ (by simp) rfl)).2 (cV_size _) (cV_size _) (cV_one _) ⟨g, hS.put (oneDst_of (by kernel_rfl)) hi (fun _ => rfl), hW.set (by rw [hS.size]; decide) (haft ⟨15, .data⟩ (by simp) rfl)⟩
    · obtain rfl := Option.some.inj hi
      refine wpOp_of hi rfl ?_
      exact wp_assign_at rfl (hS.val (i := 14) rfl rfl (haft ⟨14, .data⟩ (by simp) rfl)) ⟨g, hS.put (oneDst_of (by kernel_rfl)) hi (fun _ => rfl), hW.step 17 (by omega) (by omega) (On.refl _)⟩
  case done =>
    intro g wr hW
    have hb2 := hb.trans hW.on
    have hg := (hW.own rfl).1
    have hsrc : wr.heap[g]? = some (.cells (cV z) 25 (0, 0)) := (hW.own rfl).2
    have hres := HR _ hb2
    have hon := HO.out.trans hb2
    clear hW hb
    simp only [puts]
    go_simp
    go_wp2_with fail
    clear hb2 HC HE HR HO hZ
    refine wp_region_slots (by kernel_rfl) (fun i => (#[.int .u64 (u y), .agg (cV z), .int .u64 (u y), undef, .int .i64 0] : Array Value).getD i undef) (ResAt _ (w.heap.size + 1 + 1) (g) z) (lex_of (by kernel_rfl)) (oneDst_of (by kernel_rfl)) (ResAt.start _ hsrc hres) ?done ?step
    case step =>
      intro i o hi hi13 l a wr hS hW hl haft
      have hi13 : i < 5 := hi13
      have h13 : i = 0 ∨ i = 1 ∨ i = 2 ∨ i = 3 ∨ i = 4 := by omega
      rcases h13 with rfl | rfl | rfl | rfl | rfl
      · obtain rfl := Option.some.inj hi
        refine wpOp_of hi rfl ?_
        exact wp_move_at rfl (hS.old (by kernel_rfl)) ⟨hS.put (oneDst_of (by kernel_rfl)) hi (fun _ => rfl), hW.step 0 (by omega)⟩
      · obtain rfl := Option.some.inj hi
        refine wpOp_of hi rfl ?_
        exact wp_load_at rfl (hS.old (by kernel_rfl)) (csr_at hW.src) ⟨hS.put (oneDst_of (by kernel_rfl)) hi (fun _ => rfl), hW.step 1 (by omega)⟩
      · obtain rfl := Option.some.inj hi
        refine wpOp_of hi rfl ?_
        exact wp_assign_at rfl (hS.val (i := 0) rfl rfl (haft ⟨0, .data⟩ (by simp) rfl)) ⟨hS.put (oneDst_of (by kernel_rfl)) hi (fun _ => rfl), hW.step 2 (by omega)⟩
      · obtain rfl := Option.some.inj hi
        refine wpOp_of hi rfl ?_
        exact wp_store_row_at csrT rfl (hS.old (by kernel_rfl)) (hS.val (i := 1) rfl rfl (haft ⟨1, .data⟩ (by simp) rfl)) hW.res (cV_size _) (cV_size _) (cV_one _) ⟨hS.put (oneDst_of (by kernel_rfl)) hi (fun _ => rfl), hW.set (by rw [hS.size]; decide) (by omega)⟩
      · obtain rfl := Option.some.inj hi
        refine wpOp_of hi rfl ?_
        exact wp_assign_at rfl rfl ⟨hS.put (oneDst_of (by kernel_rfl)) hi (fun _ => rfl), hW.step 4 (by omega)⟩
    case done =>
      intro wr hW
      have hr : wr.heap[w.heap.size + 1 + 1]? = some (.cells (cV z) 25 (0, 0)) := hW.res
      have hx := Lib.hid hW.but
      clear hW
      simp only [puts]
      go_simp
      go_wp2_with fail
      refine row_back3 csrT rfl rfl rfl hr (cV_size _) rfl rfl ⟨rfl, But.on_new hon (by omega) hx.out⟩
set_option maxHeartbeats 2000000 in
theorem modify_ron (c e : Nat → BitVec 64) (p q : Bool) (n m f : Int) (x : BitVec 64) (h : rdb c n m = true) (h1 : ¬ f < 1) (h3 : ¬ 3 < f) (hr : ron n = true) (w : World) : Calls Try.prog 20 #[.agg (cV c), .int .i64 n, .int .i64 m, .int .i64 f, .int .u64 (u x), .bool true, .agg (eV e p q)] w fun r w' => r = .returned (.tuple #[.int .u64 (0), .agg (cV (zC)), .int .i64 7]) ∧ On w w' := by
  have K1 : Hid (∀ w, Calls Try.prog 14 #[.agg (cV c), .int .i64 n, .int .i64 m, .agg (eV e p q)] w fun r w' => r = .returned (.tuple #[.int .u64 (u (rv c e n)), .int .i64 0]) ∧ On w w') := Lib.hid (fun w => read_yes c e p q n m h w)
  have K3 : Hid (∀ w, Calls Try.prog 18 #[.agg (cV c), .int .i64 n, .int .i64 m, .int .u64 (u (comb f (bas c n (rv c e n)) x)), .agg (eV e p q)] w fun r w' => r = .returned (.tuple #[.agg (cV (zC)), .int .i64 7]) ∧ On w w') := Lib.hid (fun w => write_ron c e p q n m _ h hr w)
  clear h hr
  have hZ := fun w => csr_zero w
  have HC : ∀ wr, On (((w.alloc (.cells (cV c) 25)).alloc (.cells (eV e p q) 27)).alloc (.cells (cV zC) 25)) wr → wr.heap[w.heap.size]? = some (.cells (cV c) 25 (0, 0)) := fun _ h => h.keep (box31 _ _ _ _)
  have HE : ∀ wr, On (((w.alloc (.cells (cV c) 25)).alloc (.cells (eV e p q) 27)).alloc (.cells (cV zC) 25)) wr → wr.heap[w.heap.size + 1]? = some (.cells (eV e p q) 27 (0, 0)) := fun _ h => h.keep (box32 _ _ _ _)
  have HR : ∀ wr, On (((w.alloc (.cells (cV c) 25)).alloc (.cells (eV e p q) 27)).alloc (.cells (cV zC) 25)) wr → wr.heap[w.heap.size + 1 + 1]? = some (.cells (cV zC) 25 (0, 0)) := fun _ h => h.keep (box33 _ _ _ _)
  have HO : Hid (On w (((w.alloc (.cells (cV c) 25)).alloc (.cells (eV e p q) 27)).alloc (.cells (cV zC) 25))) := Lib.hid (on3 _ _ _ _)
  have hb := On.refl (((w.alloc (.cells (cV c) 25)).alloc (.cells (eV e p q) 27)).alloc (.cells (cV zC) 25))
  generalize rv c e n = y at *
  go_enter Try.func20, Try.ntmps20
  go_wp2_with (first | (apply csr_ld; (case hgd => exact rfl); (case ho => exact rfl); (case hx => exact rfl); (case hg => exact HC _ (by assumption))) | (apply env_ld; (case hgd => exact rfl); (case ho => exact rfl); (case hx => exact rfl); (case hg => exact HE _ (by assumption))) | (go_at_call 14; refine (K1.out _).mono ?_; rintro e wn ⟨rfl, hb'⟩; have hb := hb.trans hb'; clear hb'))
  have hres := HR _ hb
  have hlt := blk_lt hres
  refine wp_region_slotsG (by kernel_rfl) (fun g i => if i = 15 then .pointer (some ⟨g, 0, none⟩) else (#[.agg (cV c), .int .i64 n, .int .i64 m, .int .i64 f, .agg (cV c), .int .i64 n, .int .u64 (u y), .int .u64 (u (bas c n y)), .int .u64 (u x), .int .u64 (u (comb f (bas c n y) x)), .agg (eV e p q), .tuple #[.agg (cV zC), .int .i64 7], .tuple #[.agg (cV zC), .int .i64 7], .agg (cV zC), .int .i64 7, undef, undef, .int .i64 7] : Array Value).getD i undef) (ModAt _ zC) (lex_of (by kernel_rfl)) (oneDst_of (by kernel_rfl)) 0 (ModAt.start ..) ?done ?step
  case step =>
    intro i o hi hi13 g l a wr hS hW hl haft
    have hi13 : i < 18 := hi13
    have h13 : i = 0 ∨ i = 1 ∨ i = 2 ∨ i = 3 ∨ i = 4 ∨ i = 5 ∨ i = 6 ∨ i = 7 ∨ i = 8 ∨ i = 9 ∨ i = 10 ∨ i = 11 ∨ i = 12 ∨ i = 13 ∨ i = 14 ∨ i = 15 ∨ i = 16 ∨ i = 17 := by omega
    rcases h13 with rfl | rfl | rfl | rfl | rfl | rfl | rfl | rfl | rfl | rfl | rfl | rfl | rfl | rfl | rfl | rfl | rfl | rfl
    · obtain rfl := Option.some.inj hi
      refine wpOp_of hi rfl ?_
      exact wp_load_at rfl (hS.old (by kernel_rfl)) (csr_at (HC _ (hb.trans hW.on))) ⟨g, hS.put (oneDst_of (by kernel_rfl)) hi (fun _ => rfl), hW.step 0 (by omega) (by omega) (On.refl _)⟩
    · obtain rfl := Option.some.inj hi
      refine wpOp_of hi rfl ?_
      exact wp_move_at rfl (hS.old (by kernel_rfl)) ⟨g, hS.put (oneDst_of (by kernel_rfl)) hi (fun _ => rfl), hW.step 1 (by omega) (by omega) (On.refl _)⟩
    · obtain rfl := Option.some.inj hi
      refine wpOp_of hi rfl ?_
      exact wp_move_at rfl (hS.old (by kernel_rfl)) ⟨g, hS.put (oneDst_of (by kernel_rfl)) hi (fun _ => rfl), hW.step 2 (by omega) (by omega) (On.refl _)⟩
    · obtain rfl := Option.some.inj hi
      refine wpOp_of hi rfl ?_
      exact wp_move_at rfl (hS.old (by kernel_rfl)) ⟨g, hS.put (oneDst_of (by kernel_rfl)) hi (fun _ => rfl), hW.step 3 (by omega) (by omega) (On.refl _)⟩
    · obtain rfl := Option.some.inj hi
      refine wpOp_of hi rfl ?_
      exact wp_load_at rfl (hS.old (by kernel_rfl)) (csr_at (HC _ (hb.trans hW.on))) ⟨g, hS.put (oneDst_of (by kernel_rfl)) hi (fun _ => rfl), hW.step 4 (by omega) (by omega) (On.refl _)⟩
    · obtain rfl := Option.some.inj hi
      refine wpOp_of hi rfl ?_
      exact wp_move_at rfl (hS.old (by kernel_rfl)) ⟨g, hS.put (oneDst_of (by kernel_rfl)) hi (fun _ => rfl), hW.step 5 (by omega) (by omega) (On.refl _)⟩
    · obtain rfl := Option.some.inj hi
      refine wpOp_of hi rfl ?_
      exact wp_move_at rfl (hS.old (by kernel_rfl)) ⟨g, hS.put (oneDst_of (by kernel_rfl)) hi (fun _ => rfl), hW.step 6 (by omega) (by omega) (On.refl _)⟩
    · obtain rfl := Option.some.inj hi
      refine wpOp_of hi rfl ?_
      refine wp_call_at (vs := #[.agg (cV c), .int .i64 n, .int .u64 (u y)]) rfl ?_ rfl (bas_any c n y wr) (fun w' h' => ⟨g, hS.put (oneDst_of (by kernel_rfl)) hi (fun _ => rfl), hW.step 7 (by omega) (by omega) h'⟩)
      show [a.eval (.tmp 48), a.eval (.tmp 49), a.eval (.tmp 50)] = _
      rw [(hS.val (i := 4) rfl rfl (haft ⟨4, .data⟩ (by simp) rfl)), (hS.val (i := 5) rfl rfl (haft ⟨5, .data⟩ (by simp) rfl)), (hS.val (i := 6) rfl rfl (haft ⟨6, .data⟩ (by simp) rfl))]
      rfl
    · obtain rfl := Option.some.inj hi
      refine wpOp_of hi rfl ?_
      exact wp_move_at rfl (hS.old (by kernel_rfl)) ⟨g, hS.put (oneDst_of (by kernel_rfl)) hi (fun _ => rfl), hW.step 8 (by omega) (by omega) (On.refl _)⟩
    · obtain rfl := Option.some.inj hi
      refine wpOp_of hi rfl ?_
      refine wp_call_at (vs := #[.int .i64 f, .int .u64 (u (bas c n y)), .int .u64 (u x)]) rfl ?_ rfl (comb_any f (bas c n y) x wr) (fun w' h' => ⟨g, hS.put (oneDst_of (by kernel_rfl)) hi (fun _ => rfl), hW.step 9 (by omega) (by omega) (h' ▸ On.refl _)⟩)
      show [a.eval (.tmp 47), a.eval (.tmp 51), a.eval (.tmp 52)] = _
      rw [(hS.val (i := 3) rfl rfl (haft ⟨3, .data⟩ (by simp) rfl)), (hS.val (i := 7) rfl rfl (haft ⟨7, .data⟩ (by simp) rfl)), (hS.val (i := 8) rfl rfl (haft ⟨8, .data⟩ (by simp) rfl))]
      rfl
    · obtain rfl := Option.some.inj hi
      refine wpOp_of hi rfl ?_
      exact wp_load_at rfl (hS.old (by kernel_rfl)) (env_at (HE _ (hb.trans hW.on))) ⟨g, hS.put (oneDst_of (by kernel_rfl)) hi (fun _ => rfl), hW.step 10 (by omega) (by omega) (On.refl _)⟩
    · obtain rfl := Option.some.inj hi
      refine wpOp_of hi rfl ?_
      refine wp_call_at (vs := #[.agg (cV c), .int .i64 n, .int .i64 m, .int .u64 (u (comb f (bas c n y) x)), .agg (eV e p q)]) rfl ?_ rfl (K3.out wr) (fun w' h' => ⟨g, hS.put (oneDst_of (by kernel_rfl)) hi (fun _ => rfl), hW.step 11 (by omega) (by omega) h'⟩)
      show [a.eval (.tmp 44), a.eval (.tmp 45), a.eval (.tmp 46), a.eval (.tmp 53), a.eval (.tmp 54)] = _
      rw [(hS.val (i := 0) rfl rfl (haft ⟨0, .data⟩ (by simp) rfl)), (hS.val (i := 1) rfl rfl (haft ⟨1, .data⟩ (by simp) rfl)), (hS.val (i := 2) rfl rfl (haft ⟨2, .data⟩ (by simp) rfl)), (hS.val (i := 9) rfl rfl (haft ⟨9, .data⟩ (by simp) rfl)), (hS.val (i := 10) rfl rfl (haft ⟨10, .data⟩ (by simp) rfl))]
      rfl
    · obtain rfl := Option.some.inj hi
      refine wpOp_of hi rfl ?_
      exact wp_move_at rfl (hS.val (i := 11) rfl rfl (haft ⟨11, .data⟩ (by simp) rfl)) ⟨g, hS.put (oneDst_of (by kernel_rfl)) hi (fun _ => rfl), hW.step 12 (by omega) (by omega) (On.refl _)⟩
    · obtain rfl := Option.some.inj hi
      refine wpOp_of hi rfl ?_
      exact wp_extract_at rfl (hS.val (i := 12) rfl rfl (haft ⟨12, .data⟩ (by simp) rfl)) rfl ⟨g, hS.put (oneDst_of (by kernel_rfl)) hi (fun _ => rfl), hW.step 13 (by omega) (by omega) (On.refl _)⟩
    · obtain rfl := Option.some.inj hi
      refine wpOp_of hi rfl ?_
      exact wp_extract_at rfl (hS.val (i := 12) rfl rfl (haft ⟨12, .data⟩ (by simp) rfl)) rfl ⟨g, hS.put (oneDst_of (by kernel_rfl)) hi (fun _ => rfl), hW.step 14 (by omega) (by omega) (On.refl _)⟩
    · obtain rfl := Option.some.inj hi
      refine wpOp_of hi rfl ?_
      refine wp_alloc_at rfl (csr_zero wr) ⟨wr.heap.size, SlotInv.put (hS.swap fun j hj => ?_) (oneDst_of (by kernel_rfl)) hi (fun _ => rfl), hW.made (by rw [hS.size]; decide) hl⟩
      by_cases h15 : j = 15
      · subst h15; rw [g_not hl] at hj; cases hj
      · simp only [if_neg h15]
    · obtain rfl := Option.some.inj hi
      refine wpOp_of hi rfl ?_
      exact wp_store_row_at csrT rfl (hS.val (i := 15) rfl rfl (haft ⟨15, .data⟩ (by simp) rfl)) (hS.val (i := 13) rfl rfl (haft ⟨13, .data⟩ (by simp) rfl)) (hW.own (haft ⟨15, .data⟩ (by simp) rfl)).2 (cV_size _) (cV_size _) (cV_one _) ⟨g, hS.put (oneDst_of (by kernel_rfl)) hi (fun _ => rfl), hW.set (by rw [hS.size]; decide) (haft ⟨15, .data⟩ (by simp) rfl)⟩
    · obtain rfl := Option.some.inj hi
      refine wpOp_of hi rfl ?_
      exact wp_assign_at rfl (hS.val (i := 14) rfl rfl (haft ⟨14, .data⟩ (by simp) rfl)) ⟨g, hS.put (oneDst_of (by kernel_rfl)) hi (fun _ => rfl), hW.step 17 (by omega) (by omega) (On.refl _)⟩
  case done =>
    intro g wr hW
    have hb2 := hb.trans hW.on
    have hg := (hW.own rfl).1
    have hsrc : wr.heap[g]? = some (.cells (cV zC) 25 (0, 0)) := (hW.own rfl).2
    have hres := HR _ hb2
    have hon := HO.out.trans hb2
    clear hW hb
    simp only [puts]
    go_simp
    go_wp2_with (first | (apply csr_st; (case hgd => exact rfl); (case ho => exact rfl); (case hx => exact rfl); (case hy => exact rfl); (case hg => exact HR _ (by assumption))))
    refine row_back3 csrT rfl rfl rfl (set_row hres) (cV_size _) rfl rfl ⟨rfl, hon.row _ _ (by omega)⟩
end Go.Proofs.Ytoobbapdjoajgaa
