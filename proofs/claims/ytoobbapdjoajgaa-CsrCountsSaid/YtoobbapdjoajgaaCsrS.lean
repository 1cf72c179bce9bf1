/- What csr.store comes to. Conditions: named at each. -/
import Derived.Test.YtoobbapdjoajgaaCsrR
import Derived.Deep.RegionWith
namespace Go.Proofs.Ytoobbapdjoajgaa
open Go.RowKit

theorem box31 (w : World) (a b d : Obj) : (((w.alloc a).alloc b).alloc d).heap[w.heap.size]? = some a := ((On.refl _).alloc _).keep (box1 _ _ _)
theorem box32 (w : World) (a b d : Obj) : (((w.alloc a).alloc b).alloc d).heap[w.heap.size + 1]? = some b := ((On.refl _).alloc _).keep (box2 _ _ _)
theorem box33 (w : World) (a b d : Obj) : (((w.alloc a).alloc b).alloc d).heap[w.heap.size + 1 + 1]? = some d := by
  have := box2 (w.alloc a) b d
  rw [alloc_size] at this
  exact this
theorem on3 (w : World) (a b d : Obj) : On w (((w.alloc a).alloc b).alloc d) := (((On.refl w).alloc _).alloc _).alloc _

set_option maxRecDepth 100000 in
set_option maxHeartbeats 1000000 in
theorem store_768 (c e : Nat → BitVec 64) (p q : Bool) (v : BitVec 64) (w : World) : Calls Try.prog 36 #[.agg (cV c), .int .i64 768, .int .u64 (u v), .agg (eV e p q)] w fun r w' => r = .returned (.agg (cV (kp c e 768 v))) ∧ On w w' := by
  have hZ := fun w => csr_zero w
  have HO : Hid (∀ c', On w (((w.alloc (.cells (cV c') 25)).alloc (.cells (eV e p q) 27)).alloc (.cells (cV zC) 25))) := Lib.hid (fun _ => on3 _ _ _ _)
  have c0 := blk_cell (box31 w (.cells (cV c) 25) (.cells (eV e p q) 27) (.cells (cV zC) 25)) 0 (cV_get c 0 (by omega))
  have S := fun v => cV_set c 0 v
  have f0 := blk_free (box31 w (.cells (cV c) 25) (.cells (eV e p q) 27) (.cells (cV zC) 25)) 0
  go_enter Try.func36, Try.ntmps36
  go_wp2_with (first | (apply csr_ld; (case hgd => exact rfl); (case ho => exact rfl); (case hx => exact rfl); (case hg => exact box31 _ _ _ _)) | (apply csr_st; (case hgd => exact rfl); (case ho => exact rfl); (case hx => exact rfl); (case hy => exact rfl); (case hg => exact box33 _ _ _ _)) | (go_at_call 47; refine (kst_any _ _ _).mono ?_; rintro e w' ⟨rfl, rfl⟩))
  refine row_back csrT rfl rfl rfl (set_row (box33 _ _ _ _)) (cV_size _) ⟨rfl, (HO.out _).row _ _ (by omega)⟩
set_option maxRecDepth 100000 in
set_option maxHeartbeats 1000000 in
theorem store_256 (c e : Nat → BitVec 64) (p q : Bool) (v : BitVec 64) (w : World) : Calls Try.prog 36 #[.agg (cV c), .int .i64 256, .int .u64 (u v), .agg (eV e p q)] w fun r w' => r = .returned (.agg (cV (kp c e 256 v))) ∧ On w w' := by
  have hZ := fun w => csr_zero w
  have HO : Hid (∀ c', On w (((w.alloc (.cells (cV c') 25)).alloc (.cells (eV e p q) 27)).alloc (.cells (cV zC) 25))) := Lib.hid (fun _ => on3 _ _ _ _)
  have c0 := blk_cell (box31 w (.cells (cV c) 25) (.cells (eV e p q) 27) (.cells (cV zC) 25)) 0 (cV_get c 0 (by omega))
  have S := fun v => cV_set c 0 v
  have f0 := blk_free (box31 w (.cells (cV c) 25) (.cells (eV e p q) 27) (.cells (cV zC) 25)) 0
  have R : Hid (∀ w, Calls Try.prog 48 #[.int .u64 (u (c 0)), .int .u64 (u v), .int .u64 786722] w fun e w' => e = .returned (.int .u64 (u (repl (c 0) v 0xc0122#64))) ∧ w = w') := Lib.hid (fun w => repl_any (c 0) v 0xc0122#64 w)
  go_enter Try.func36, Try.ntmps36
  go_wp2_with (first | (apply csr_ld; (case hgd => exact rfl); (case ho => exact rfl); (case hx => exact rfl); (case hg => exact box31 _ _ _ _)) | (apply csr_st; (case hgd => exact rfl); (case ho => exact rfl); (case hx => exact rfl); (case hy => exact rfl); (case hg => exact box33 _ _ _ _)) | (go_at_call 48; refine (R.out _).mono ?_; rintro e w' ⟨rfl, rfl⟩))
  refine row_back csrT rfl rfl rfl (set_row (box33 _ _ _ _)) (cV_size _) ⟨rfl, (HO.out _).row _ _ (by omega)⟩
set_option maxRecDepth 100000 in
set_option maxHeartbeats 1000000 in
theorem store_769 (c e : Nat → BitVec 64) (p q : Bool) (v : BitVec 64) (w : World) : Calls Try.prog 36 #[.agg (cV c), .int .i64 769, .int .u64 (u v), .agg (eV e p q)] w fun r w' => r = .returned (.agg (cV (kp c e 769 v))) ∧ On w w' := by
  have hZ := fun w => csr_zero w
  have HO : Hid (∀ c', On w (((w.alloc (.cells (cV c') 25)).alloc (.cells (eV e p q) 27)).alloc (.cells (cV zC) 25))) := Lib.hid (fun _ => on3 _ _ _ _)
  go_enter Try.func36, Try.ntmps36
  go_wp2_with (first | (apply csr_ld; (case hgd => exact rfl); (case ho => exact rfl); (case hx => exact rfl); (case hg => exact box31 _ _ _ _)) | (apply csr_st; (case hgd => exact rfl); (case ho => exact rfl); (case hx => exact rfl); (case hy => exact rfl); (case hg => exact box33 _ _ _ _)))
  refine row_back csrT rfl rfl rfl (set_row (box33 _ _ _ _)) (cV_size _) ⟨rfl, (HO.out _).row _ _ (by omega)⟩
set_option maxRecDepth 100000 in
set_option maxHeartbeats 1000000 in
theorem store_770 (c e : Nat → BitVec 64) (p q : Bool) (v : BitVec 64) (w : World) : Calls Try.prog 36 #[.agg (cV c), .int .i64 770, .int .u64 (u v), .agg (eV e p q)] w fun r w' => r = .returned (.agg (cV (kp c e 770 v))) ∧ On w w' := by
  have hZ := fun w => csr_zero w
  have HO : Hid (∀ c', On w (((w.alloc (.cells (cV c') 25)).alloc (.cells (eV e p q) 27)).alloc (.cells (cV zC) 25))) := Lib.hid (fun _ => on3 _ _ _ _)
  have c1 := blk_cell (box31 w (.cells (cV c) 25) (.cells (eV e p q) 27) (.cells (cV zC) 25)) 1 (cV_get c 1 (by omega))
  have S := fun v => cV_set c 1 v
  have f1 := blk_free (box31 w (.cells (cV c) 25) (.cells (eV e p q) 27) (.cells (cV zC) 25)) 1
  have M : bits .and .u64 (u v) 46079 = u (v &&& 46079#64) := u_and v 46079#64
  go_enter Try.func36, Try.ntmps36
  go_wp2_with (first | (apply csr_ld; (case hgd => exact rfl); (case ho => exact rfl); (case hx => exact rfl); (case hg => exact box31 _ _ _ _)) | (apply csr_st; (case hgd => exact rfl); (case ho => exact rfl); (case hx => exact rfl); (case hy => exact rfl); (case hg => exact box33 _ _ _ _)))
  refine row_back csrT rfl rfl rfl (set_row (box33 _ _ _ _)) (cV_size _) ⟨rfl, (HO.out _).row _ _ (by omega)⟩
set_option maxRecDepth 100000 in
set_option maxHeartbeats 1000000 in
theorem store_771 (c e : Nat → BitVec 64) (p q : Bool) (v : BitVec 64) (w : World) : Calls Try.prog 36 #[.agg (cV c), .int .i64 771, .int .u64 (u v), .agg (eV e p q)] w fun r w' => r = .returned (.agg (cV (kp c e 771 v))) ∧ On w w' := by
  have hZ := fun w => csr_zero w
  have HO : Hid (∀ c', On w (((w.alloc (.cells (cV c') 25)).alloc (.cells (eV e p q) 27)).alloc (.cells (cV zC) 25))) := Lib.hid (fun _ => on3 _ _ _ _)
  have c2 := blk_cell (box31 w (.cells (cV c) 25) (.cells (eV e p q) 27) (.cells (cV zC) 25)) 2 (cV_get c 2 (by omega))
  have S := fun v => cV_set c 2 v
  have f2 := blk_free (box31 w (.cells (cV c) 25) (.cells (eV e p q) 27) (.cells (cV zC) 25)) 2
  have M : bits .and .u64 (u v) 546 = u (v &&& 546#64) := u_and v 546#64
  go_enter Try.func36, Try.ntmps36
  go_wp2_with (first | (apply csr_ld; (case hgd => exact rfl); (case ho => exact rfl); (case hx => exact rfl); (case hg => exact box31 _ _ _ _)) | (apply csr_st; (case hgd => exact rfl); (case ho => exact rfl); (case hx => exact rfl); (case hy => exact rfl); (case hg => exact box33 _ _ _ _)))
  refine row_back csrT rfl rfl rfl (set_row (box33 _ _ _ _)) (cV_size _) ⟨rfl, (HO.out _).row _ _ (by omega)⟩
set_option maxRecDepth 100000 in
set_option maxHeartbeats 1000000 in
theorem store_772 (c e : Nat → BitVec 64) (p q : Bool) (v : BitVec 64) (w : World) : Calls Try.prog 36 #[.agg (cV c), .int .i64 772, .int .u64 (u v), .agg (eV e p q)] w fun r w' => r = .returned (.agg (cV (kp c e 772 v))) ∧ On w w' := by
  have hZ := fun w => csr_zero w
  have HO : Hid (∀ c', On w (((w.alloc (.cells (cV c') 25)).alloc (.cells (eV e p q) 27)).alloc (.cells (cV zC) 25))) := Lib.hid (fun _ => on3 _ _ _ _)
  have c3 := blk_cell (box31 w (.cells (cV c) 25) (.cells (eV e p q) 27) (.cells (cV zC) 25)) 3 (cV_get c 3 (by omega))
  have S := fun v => cV_set c 3 v
  have f3 := blk_free (box31 w (.cells (cV c) 25) (.cells (eV e p q) 27) (.cells (cV zC) 25)) 3
  have M : bits .and .u64 (u v) 2730 = u (v &&& 2730#64) := u_and v 2730#64
  go_enter Try.func36, Try.ntmps36
  go_wp2_with (first | (apply csr_ld; (case hgd => exact rfl); (case ho => exact rfl); (case hx => exact rfl); (case hg => exact box31 _ _ _ _)) | (apply csr_st; (case hgd => exact rfl); (case ho => exact rfl); (case hx => exact rfl); (case hy => exact rfl); (case hg => exact box33 _ _ _ _)))
  refine row_back csrT rfl rfl rfl (set_row (box33 _ _ _ _)) (cV_size _) ⟨rfl, (HO.out _).row _ _ (by omega)⟩
set_option maxRecDepth 100000 in
set_option maxHeartbeats 1000000 in
theorem store_260 (c e : Nat → BitVec 64) (p q : Bool) (v : BitVec 64) (w : World) : Calls Try.prog 36 #[.agg (cV c), .int .i64 260, .int .u64 (u v), .agg (eV e p q)] w fun r w' => r = .returned (.agg (cV (kp c e 260 v))) ∧ On w w' := by
  have hZ := fun w => csr_zero w
  have HO : Hid (∀ c', On w (((w.alloc (.cells (cV c') 25)).alloc (.cells (eV e p q) 27)).alloc (.cells (cV zC) 25))) := Lib.hid (fun _ => on3 _ _ _ _)
  have c3 := blk_cell (box31 w (.cells (cV c) 25) (.cells (eV e p q) 27) (.cells (cV zC) 25)) 3 (cV_get c 3 (by omega))
  have c2 := blk_cell (box31 w (.cells (cV c) 25) (.cells (eV e p q) 27) (.cells (cV zC) 25)) 2 (cV_get c 2 (by omega))
  have S := fun v => cV_set c 3 v
  have f3 := blk_free (box31 w (.cells (cV c) 25) (.cells (eV e p q) 27) (.cells (cV zC) 25)) 3
  go_enter Try.func36, Try.ntmps36
  go_wp2_with (first | (apply csr_ld; (case hgd => exact rfl); (case ho => exact rfl); (case hx => exact rfl); (case hg => exact box31 _ _ _ _)) | (apply csr_st; (case hgd => exact rfl); (case ho => exact rfl); (case hx => exact rfl); (case hy => exact rfl); (case hg => exact box33 _ _ _ _)) | (go_at_call 48; refine (repl_any _ _ _ _).mono ?_; rintro e w' ⟨rfl, rfl⟩))
  refine row_back csrT rfl rfl rfl (set_row (box33 _ _ _ _)) (cV_size _) ⟨rfl, (HO.out _).row _ _ (by omega)⟩
set_option maxRecDepth 100000 in
set_option maxHeartbeats 1000000 in
theorem store_836 (c e : Nat → BitVec 64) (p q : Bool) (v : BitVec 64) (w : World) : Calls Try.prog 36 #[.agg (cV c), .int .i64 836, .int .u64 (u v), .agg (eV e p q)] w fun r w' => r = .returned (.agg (cV (kp c e 836 v))) ∧ On w w' := by
  have hZ := fun w => csr_zero w
  have HO : Hid (∀ c', On w (((w.alloc (.cells (cV c') 25)).alloc (.cells (eV e p q) 27)).alloc (.cells (cV zC) 25))) := Lib.hid (fun _ => on3 _ _ _ _)
  have c4 := blk_cell (box31 w (.cells (cV c) 25) (.cells (eV e p q) 27) (.cells (cV zC) 25)) 4 (cV_get c 4 (by omega))
  have S := fun v => cV_set c 4 v
  have f4 := blk_free (box31 w (.cells (cV c) 25) (.cells (eV e p q) 27) (.cells (cV zC) 25)) 4
  have M : bits .and .u64 (u v) 546 = u (v &&& 546#64) := u_and v 546#64
  go_enter Try.func36, Try.ntmps36
  go_wp2_with (first | (apply csr_ld; (case hgd => exact rfl); (case ho => exact rfl); (case hx => exact rfl); (case hg => exact box31 _ _ _ _)) | (apply csr_st; (case hgd => exact rfl); (case ho => exact rfl); (case hx => exact rfl); (case hy => exact rfl); (case hg => exact box33 _ _ _ _)))
  refine row_back csrT rfl rfl rfl (set_row (box33 _ _ _ _)) (cV_size _) ⟨rfl, (HO.out _).row _ _ (by omega)⟩
set_option maxRecDepth 100000 in
set_option maxHeartbeats 1000000 in
theorem store_324 (c e : Nat → BitVec 64) (p q : Bool) (v : BitVec 64) (w : World) : Calls Try.prog 36 #[.agg (cV c), .int .i64 324, .int .u64 (u v), .agg (eV e p q)] w fun r w' => r = .returned (.agg (cV (kp c e 324 v))) ∧ On w w' := by
  have hZ := fun w => csr_zero w
  have HO : Hid (∀ c', On w (((w.alloc (.cells (cV c') 25)).alloc (.cells (eV e p q) 27)).alloc (.cells (cV zC) 25))) := Lib.hid (fun _ => on3 _ _ _ _)
  have c4 := blk_cell (box31 w (.cells (cV c) 25) (.cells (eV e p q) 27) (.cells (cV zC) 25)) 4 (cV_get c 4 (by omega))
  have c2 := blk_cell (box31 w (.cells (cV c) 25) (.cells (eV e p q) 27) (.cells (cV zC) 25)) 2 (cV_get c 2 (by omega))
  have S := fun v => cV_set c 4 v
  have f4 := blk_free (box31 w (.cells (cV c) 25) (.cells (eV e p q) 27) (.cells (cV zC) 25)) 4
  have M : bits .and .u64 (u (c 2)) 2 = u (c 2 &&& 2#64) := u_and (c 2) 2#64
  go_enter Try.func36, Try.ntmps36
  go_wp2_with (first | (apply csr_ld; (case hgd => exact rfl); (case ho => exact rfl); (case hx => exact rfl); (case hg => exact box31 _ _ _ _)) | (apply csr_st; (case hgd => exact rfl); (case ho => exact rfl); (case hx => exact rfl); (case hy => exact rfl); (case hg => exact box33 _ _ _ _)) | (go_at_call 48; refine (repl_any _ _ _ _).mono ?_; rintro e w' ⟨rfl, rfl⟩))
  refine row_back csrT rfl rfl rfl (set_row (box33 _ _ _ _)) (cV_size _) ⟨rfl, (HO.out _).row _ _ (by omega)⟩
set_option maxRecDepth 100000 in
set_option maxHeartbeats 1000000 in
theorem store_773 (c e : Nat → BitVec 64) (p q : Bool) (v : BitVec 64) (w : World) : Calls Try.prog 36 #[.agg (cV c), .int .i64 773, .int .u64 (u v), .agg (eV e p q)] w fun r w' => r = .returned (.agg (cV (kp c e 773 v))) ∧ On w w' := by
  have hZ := fun w => csr_zero w
  have HO : Hid (∀ c', On w (((w.alloc (.cells (cV c') 25)).alloc (.cells (eV e p q) 27)).alloc (.cells (cV zC) 25))) := Lib.hid (fun _ => on3 _ _ _ _)
  have c5 := blk_cell (box31 w (.cells (cV c) 25) (.cells (eV e p q) 27) (.cells (cV zC) 25)) 5 (cV_get c 5 (by omega))
  have S := fun v => cV_set c 5 v
  have f5 := blk_free (box31 w (.cells (cV c) 25) (.cells (eV e p q) 27) (.cells (cV zC) 25)) 5
  have M : bits .and .u64 (u v) 18446744073709551613 = u (v &&& 18446744073709551613#64) := u_and v 18446744073709551613#64
  go_enter Try.func36, Try.ntmps36
  go_wp2_with (first | (apply csr_ld; (case hgd => exact rfl); (case ho => exact rfl); (case hx => exact rfl); (case hg => exact box31 _ _ _ _)) | (apply csr_st; (case hgd => exact rfl); (case ho => exact rfl); (case hx => exact rfl); (case hy => exact rfl); (case hg => exact box33 _ _ _ _)))
  refine row_back csrT rfl rfl rfl (set_row (box33 _ _ _ _)) (cV_size _) ⟨rfl, (HO.out _).row _ _ (by omega)⟩
set_option maxRecDepth 100000 in
set_option maxHeartbeats 1000000 in
theorem store_261 (c e : Nat → BitVec 64) (p q : Bool) (v : BitVec 64) (w : World) : Calls Try.prog 36 #[.agg (cV c), .int .i64 261, .int .u64 (u v), .agg (eV e p q)] w fun r w' => r = .returned (.agg (cV (kp c e 261 v))) ∧ On w w' := by
  have hZ := fun w => csr_zero w
  have HO : Hid (∀ c', On w (((w.alloc (.cells (cV c') 25)).alloc (.cells (eV e p q) 27)).alloc (.cells (cV zC) 25))) := Lib.hid (fun _ => on3 _ _ _ _)
  have c11 := blk_cell (box31 w (.cells (cV c) 25) (.cells (eV e p q) 27) (.cells (cV zC) 25)) 11 (cV_get c 11 (by omega))
  have S := fun v => cV_set c 11 v
  have f11 := blk_free (box31 w (.cells (cV c) 25) (.cells (eV e p q) 27) (.cells (cV zC) 25)) 11
  have M : bits .and .u64 (u v) 18446744073709551613 = u (v &&& 18446744073709551613#64) := u_and v 18446744073709551613#64
  go_enter Try.func36, Try.ntmps36
  go_wp2_with (first | (apply csr_ld; (case hgd => exact rfl); (case ho => exact rfl); (case hx => exact rfl); (case hg => exact box31 _ _ _ _)) | (apply csr_st; (case hgd => exact rfl); (case ho => exact rfl); (case hx => exact rfl); (case hy => exact rfl); (case hg => exact box33 _ _ _ _)))
  refine row_back csrT rfl rfl rfl (set_row (box33 _ _ _ _)) (cV_size _) ⟨rfl, (HO.out _).row _ _ (by omega)⟩
set_option maxRecDepth 100000 in
set_option maxHeartbeats 1000000 in
theorem store_774 (c e : Nat → BitVec 64) (p q : Bool) (v : BitVec 64) (w : World) : Calls Try.prog 36 #[.agg (cV c), .int .i64 774, .int .u64 (u v), .agg (eV e p q)] w fun r w' => r = .returned (.agg (cV (kp c e 774 v))) ∧ On w w' := by
  have hZ := fun w => csr_zero w
  have HO : Hid (∀ c', On w (((w.alloc (.cells (cV c') 25)).alloc (.cells (eV e p q) 27)).alloc (.cells (cV zC) 25))) := Lib.hid (fun _ => on3 _ _ _ _)
  have c6 := blk_cell (box31 w (.cells (cV c) 25) (.cells (eV e p q) 27) (.cells (cV zC) 25)) 6 (cV_get c 6 (by omega))
  have S := fun v => cV_set c 6 v
  have f6 := blk_free (box31 w (.cells (cV c) 25) (.cells (eV e p q) 27) (.cells (cV zC) 25)) 6
  have M : bits .and .u64 (u v) 127 = u (v &&& 127#64) := u_and v 127#64
  go_enter Try.func36, Try.ntmps36
  go_wp2_with (first | (apply csr_ld; (case hgd => exact rfl); (case ho => exact rfl); (case hx => exact rfl); (case hg => exact box31 _ _ _ _)) | (apply csr_st; (case hgd => exact rfl); (case ho => exact rfl); (case hx => exact rfl); (case hy => exact rfl); (case hg => exact box33 _ _ _ _)))
  refine row_back csrT rfl rfl rfl (set_row (box33 _ _ _ _)) (cV_size _) ⟨rfl, (HO.out _).row _ _ (by omega)⟩
set_option maxRecDepth 100000 in
set_option maxHeartbeats 1000000 in
theorem store_262 (c e : Nat → BitVec 64) (p q : Bool) (v : BitVec 64) (w : World) : Calls Try.prog 36 #[.agg (cV c), .int .i64 262, .int .u64 (u v), .agg (eV e p q)] w fun r w' => r = .returned (.agg (cV (kp c e 262 v))) ∧ On w w' := by
  have hZ := fun w => csr_zero w
  have HO : Hid (∀ c', On w (((w.alloc (.cells (cV c') 25)).alloc (.cells (eV e p q) 27)).alloc (.cells (cV zC) 25))) := Lib.hid (fun _ => on3 _ _ _ _)
  have c12 := blk_cell (box31 w (.cells (cV c) 25) (.cells (eV e p q) 27) (.cells (cV zC) 25)) 12 (cV_get c 12 (by omega))
  have S := fun v => cV_set c 12 v
  have f12 := blk_free (box31 w (.cells (cV c) 25) (.cells (eV e p q) 27) (.cells (cV zC) 25)) 12
  have M : bits .and .u64 (u v) 127 = u (v &&& 127#64) := u_and v 127#64
  go_enter Try.func36, Try.ntmps36
  go_wp2_with (first | (apply csr_ld; (case hgd => exact rfl); (case ho => exact rfl); (case hx => exact rfl); (case hg => exact box31 _ _ _ _)) | (apply csr_st; (case hgd => exact rfl); (case ho => exact rfl); (case hx => exact rfl); (case hy => exact rfl); (case hg => exact box33 _ _ _ _)))
  refine row_back csrT rfl rfl rfl (set_row (box33 _ _ _ _)) (cV_size _) ⟨rfl, (HO.out _).row _ _ (by omega)⟩
set_option maxRecDepth 100000 in
set_option maxHeartbeats 1000000 in
theorem store_832 (c e : Nat → BitVec 64) (p q : Bool) (v : BitVec 64) (w : World) : Calls Try.prog 36 #[.agg (cV c), .int .i64 832, .int .u64 (u v), .agg (eV e p q)] w fun r w' => r = .returned (.agg (cV (kp c e 832 v))) ∧ On w w' := by
  have hZ := fun w => csr_zero w
  have HO : Hid (∀ c', On w (((w.alloc (.cells (cV c') 25)).alloc (.cells (eV e p q) 27)).alloc (.cells (cV zC) 25))) := Lib.hid (fun _ => on3 _ _ _ _)
  have c7 := blk_cell (box31 w (.cells (cV c) 25) (.cells (eV e p q) 27) (.cells (cV zC) 25)) 7 (cV_get c 7 (by omega))
  have S := fun v => cV_set c 7 v
  have f7 := blk_free (box31 w (.cells (cV c) 25) (.cells (eV e p q) 27) (.cells (cV zC) 25)) 7
  go_enter Try.func36, Try.ntmps36
  go_wp2_with (first | (apply csr_ld; (case hgd => exact rfl); (case ho => exact rfl); (case hx => exact rfl); (case hg => exact box31 _ _ _ _)) | (apply csr_st; (case hgd => exact rfl); (case ho => exact rfl); (case hx => exact rfl); (case hy => exact rfl); (case hg => exact box33 _ _ _ _)))
  refine row_back csrT rfl rfl rfl (set_row (box33 _ _ _ _)) (cV_size _) ⟨rfl, (HO.out _).row _ _ (by omega)⟩
set_option maxRecDepth 100000 in
set_option maxHeartbeats 1000000 in
theorem store_320 (c e : Nat → BitVec 64) (p q : Bool) (v : BitVec 64) (w : World) : Calls Try.prog 36 #[.agg (cV c), .int .i64 320, .int .u64 (u v), .agg (eV e p q)] w fun r w' => r = .returned (.agg (cV (kp c e 320 v))) ∧ On w w' := by
  have hZ := fun w => csr_zero w
  have HO : Hid (∀ c', On w (((w.alloc (.cells (cV c') 25)).alloc (.cells (eV e p q) 27)).alloc (.cells (cV zC) 25))) := Lib.hid (fun _ => on3 _ _ _ _)
  have c13 := blk_cell (box31 w (.cells (cV c) 25) (.cells (eV e p q) 27) (.cells (cV zC) 25)) 13 (cV_get c 13 (by omega))
  have S := fun v => cV_set c 13 v
  have f13 := blk_free (box31 w (.cells (cV c) 25) (.cells (eV e p q) 27) (.cells (cV zC) 25)) 13
  go_enter Try.func36, Try.ntmps36
  go_wp2_with (first | (apply csr_ld; (case hgd => exact rfl); (case ho => exact rfl); (case hx => exact rfl); (case hg => exact box31 _ _ _ _)) | (apply csr_st; (case hgd => exact rfl); (case ho => exact rfl); (case hx => exact rfl); (case hy => exact rfl); (case hg => exact box33 _ _ _ _)))
  refine row_back csrT rfl rfl rfl (set_row (box33 _ _ _ _)) (cV_size _) ⟨rfl, (HO.out _).row _ _ (by omega)⟩
set_option maxRecDepth 100000 in
set_option maxHeartbeats 1000000 in
theorem store_835 (c e : Nat → BitVec 64) (p q : Bool) (v : BitVec 64) (w : World) : Calls Try.prog 36 #[.agg (cV c), .int .i64 835, .int .u64 (u v), .agg (eV e p q)] w fun r w' => r = .returned (.agg (cV (kp c e 835 v))) ∧ On w w' := by
  have hZ := fun w => csr_zero w
  have HO : Hid (∀ c', On w (((w.alloc (.cells (cV c') 25)).alloc (.cells (eV e p q) 27)).alloc (.cells (cV zC) 25))) := Lib.hid (fun _ => on3 _ _ _ _)
  have c10 := blk_cell (box31 w (.cells (cV c) 25) (.cells (eV e p q) 27) (.cells (cV zC) 25)) 10 (cV_get c 10 (by omega))
  have S := fun v => cV_set c 10 v
  have f10 := blk_free (box31 w (.cells (cV c) 25) (.cells (eV e p q) 27) (.cells (cV zC) 25)) 10
  go_enter Try.func36, Try.ntmps36
  go_wp2_with (first | (apply csr_ld; (case hgd => exact rfl); (case ho => exact rfl); (case hx => exact rfl); (case hg => exact box31 _ _ _ _)) | (apply csr_st; (case hgd => exact rfl); (case ho => exact rfl); (case hx => exact rfl); (case hy => exact rfl); (case hg => exact box33 _ _ _ _)))
  refine row_back csrT rfl rfl rfl (set_row (box33 _ _ _ _)) (cV_size _) ⟨rfl, (HO.out _).row _ _ (by omega)⟩
set_option maxRecDepth 100000 in
set_option maxHeartbeats 1000000 in
theorem store_323 (c e : Nat → BitVec 64) (p q : Bool) (v : BitVec 64) (w : World) : Calls Try.prog 36 #[.agg (cV c), .int .i64 323, .int .u64 (u v), .agg (eV e p q)] w fun r w' => r = .returned (.agg (cV (kp c e 323 v))) ∧ On w w' := by
  have hZ := fun w => csr_zero w
  have HO : Hid (∀ c', On w (((w.alloc (.cells (cV c') 25)).alloc (.cells (eV e p q) 27)).alloc (.cells (cV zC) 25))) := Lib.hid (fun _ => on3 _ _ _ _)
  have c16 := blk_cell (box31 w (.cells (cV c) 25) (.cells (eV e p q) 27) (.cells (cV zC) 25)) 16 (cV_get c 16 (by omega))
  have S := fun v => cV_set c 16 v
  have f16 := blk_free (box31 w (.cells (cV c) 25) (.cells (eV e p q) 27) (.cells (cV zC) 25)) 16
  go_enter Try.func36, Try.ntmps36
  go_wp2_with (first | (apply csr_ld; (case hgd => exact rfl); (case ho => exact rfl); (case hx => exact rfl); (case hg => exact box31 _ _ _ _)) | (apply csr_st; (case hgd => exact rfl); (case ho => exact rfl); (case hx => exact rfl); (case hy => exact rfl); (case hg => exact box33 _ _ _ _)))
  refine row_back csrT rfl rfl rfl (set_row (box33 _ _ _ _)) (cV_size _) ⟨rfl, (HO.out _).row _ _ (by omega)⟩
set_option maxRecDepth 100000 in
set_option maxHeartbeats 1000000 in
theorem store_833 (c e : Nat → BitVec 64) (p q : Bool) (v : BitVec 64) (w : World) : Calls Try.prog 36 #[.agg (cV c), .int .i64 833, .int .u64 (u v), .agg (eV e p q)] w fun r w' => r = .returned (.agg (cV (kp c e 833 v))) ∧ On w w' := by
  have hZ := fun w => csr_zero w
  have HO : Hid (∀ c', On w (((w.alloc (.cells (cV c') 25)).alloc (.cells (eV e p q) 27)).alloc (.cells (cV zC) 25))) := Lib.hid (fun _ => on3 _ _ _ _)
  have c8 := blk_cell (box31 w (.cells (cV c) 25) (.cells (eV e p q) 27) (.cells (cV zC) 25)) 8 (cV_get c 8 (by omega))
  have S := fun v => cV_set c 8 v
  have f8 := blk_free (box31 w (.cells (cV c) 25) (.cells (eV e p q) 27) (.cells (cV zC) 25)) 8
  have M : bits .and .u64 (u v) 18446744073709551612 = u (v &&& 18446744073709551612#64) := u_and v 18446744073709551612#64
  go_enter Try.func36, Try.ntmps36
  go_wp2_with (first | (apply csr_ld; (case hgd => exact rfl); (case ho => exact rfl); (case hx => exact rfl); (case hg => exact box31 _ _ _ _)) | (apply csr_st; (case hgd => exact rfl); (case ho => exact rfl); (case hx => exact rfl); (case hy => exact rfl); (case hg => exact box33 _ _ _ _)))
  refine row_back csrT rfl rfl rfl (set_row (box33 _ _ _ _)) (cV_size _) ⟨rfl, (HO.out _).row _ _ (by omega)⟩
set_option maxRecDepth 100000 in
set_option maxHeartbeats 1000000 in
theorem store_321 (c e : Nat → BitVec 64) (p q : Bool) (v : BitVec 64) (w : World) : Calls Try.prog 36 #[.agg (cV c), .int .i64 321, .int .u64 (u v), .agg (eV e p q)] w fun r w' => r = .returned (.agg (cV (kp c e 321 v))) ∧ On w w' := by
  have hZ := fun w => csr_zero w
  have HO : Hid (∀ c', On w (((w.alloc (.cells (cV c') 25)).alloc (.cells (eV e p q) 27)).alloc (.cells (cV zC) 25))) := Lib.hid (fun _ => on3 _ _ _ _)
  have c14 := blk_cell (box31 w (.cells (cV c) 25) (.cells (eV e p q) 27) (.cells (cV zC) 25)) 14 (cV_get c 14 (by omega))
  have S := fun v => cV_set c 14 v
  have f14 := blk_free (box31 w (.cells (cV c) 25) (.cells (eV e p q) 27) (.cells (cV zC) 25)) 14
  have M : bits .and .u64 (u v) 18446744073709551612 = u (v &&& 18446744073709551612#64) := u_and v 18446744073709551612#64
  go_enter Try.func36, Try.ntmps36
  go_wp2_with (first | (apply csr_ld; (case hgd => exact rfl); (case ho => exact rfl); (case hx => exact rfl); (case hg => exact box31 _ _ _ _)) | (apply csr_st; (case hgd => exact rfl); (case ho => exact rfl); (case hx => exact rfl); (case hy => exact rfl); (case hg => exact box33 _ _ _ _)))
  refine row_back csrT rfl rfl rfl (set_row (box33 _ _ _ _)) (cV_size _) ⟨rfl, (HO.out _).row _ _ (by omega)⟩
set_option maxRecDepth 100000 in
set_option maxHeartbeats 1000000 in
theorem store_834 (c e : Nat → BitVec 64) (p q : Bool) (v : BitVec 64) (w : World) : Calls Try.prog 36 #[.agg (cV c), .int .i64 834, .int .u64 (u v), .agg (eV e p q)] w fun r w' => r = .returned (.agg (cV (kp c e 834 v))) ∧ On w w' := by
  have hZ := fun w => csr_zero w
  have HO : Hid (∀ c', On w (((w.alloc (.cells (cV c') 25)).alloc (.cells (eV e p q) 27)).alloc (.cells (cV zC) 25))) := Lib.hid (fun _ => on3 _ _ _ _)
  have c9 := blk_cell (box31 w (.cells (cV c) 25) (.cells (eV e p q) 27) (.cells (cV zC) 25)) 9 (cV_get c 9 (by omega))
  have S := fun v => cV_set c 9 v
  have f9 := blk_free (box31 w (.cells (cV c) 25) (.cells (eV e p q) 27) (.cells (cV zC) 25)) 9
  have M : bits .and .u64 (u v) 9223372036854775871 = u (v &&& 9223372036854775871#64) := u_and v 9223372036854775871#64
  go_enter Try.func36, Try.ntmps36
  go_wp2_with (first | (apply csr_ld; (case hgd => exact rfl); (case ho => exact rfl); (case hx => exact rfl); (case hg => exact box31 _ _ _ _)) | (apply csr_st; (case hgd => exact rfl); (case ho => exact rfl); (case hx => exact rfl); (case hy => exact rfl); (case hg => exact box33 _ _ _ _)))
  refine row_back csrT rfl rfl rfl (set_row (box33 _ _ _ _)) (cV_size _) ⟨rfl, (HO.out _).row _ _ (by omega)⟩
set_option maxRecDepth 100000 in
set_option maxHeartbeats 1000000 in
theorem store_322 (c e : Nat → BitVec 64) (p q : Bool) (v : BitVec 64) (w : World) : Calls Try.prog 36 #[.agg (cV c), .int .i64 322, .int .u64 (u v), .agg (eV e p q)] w fun r w' => r = .returned (.agg (cV (kp c e 322 v))) ∧ On w w' := by
  have hZ := fun w => csr_zero w
  have HO : Hid (∀ c', On w (((w.alloc (.cells (cV c') 25)).alloc (.cells (eV e p q) 27)).alloc (.cells (cV zC) 25))) := Lib.hid (fun _ => on3 _ _ _ _)
  have c15 := blk_cell (box31 w (.cells (cV c) 25) (.cells (eV e p q) 27) (.cells (cV zC) 25)) 15 (cV_get c 15 (by omega))
  have S := fun v => cV_set c 15 v
  have f15 := blk_free (box31 w (.cells (cV c) 25) (.cells (eV e p q) 27) (.cells (cV zC) 25)) 15
  have M : bits .and .u64 (u v) 9223372036854775871 = u (v &&& 9223372036854775871#64) := u_and v 9223372036854775871#64
  go_enter Try.func36, Try.ntmps36
  go_wp2_with (first | (apply csr_ld; (case hgd => exact rfl); (case ho => exact rfl); (case hx => exact rfl); (case hg => exact box31 _ _ _ _)) | (apply csr_st; (case hgd => exact rfl); (case ho => exact rfl); (case hx => exact rfl); (case hy => exact rfl); (case hg => exact box33 _ _ _ _)))
  refine row_back csrT rfl rfl rfl (set_row (box33 _ _ _ _)) (cV_size _) ⟨rfl, (HO.out _).row _ _ (by omega)⟩
set_option maxRecDepth 100000 in
set_option maxHeartbeats 1000000 in
theorem store_384 (c e : Nat → BitVec 64) (p q : Bool) (v : BitVec 64) (w : World) : Calls Try.prog 36 #[.agg (cV c), .int .i64 384, .int .u64 (u v), .agg (eV e p q)] w fun r w' => r = .returned (.agg (cV (kp c e 384 v))) ∧ On w w' := by
  have hZ := fun w => csr_zero w
  have HO : Hid (∀ c', On w (((w.alloc (.cells (cV c') 25)).alloc (.cells (eV e p q) 27)).alloc (.cells (cV zC) 25))) := Lib.hid (fun _ => on3 _ _ _ _)
  have c17 := blk_cell (box31 w (.cells (cV c) 25) (.cells (eV e p q) 27) (.cells (cV zC) 25)) 17 (cV_get c 17 (by omega))
  have S := fun v => cV_set c 17 v
  have f17 := blk_free (box31 w (.cells (cV c) 25) (.cells (eV e p q) 27) (.cells (cV zC) 25)) 17
  go_enter Try.func36, Try.ntmps36
  go_wp2_with (first | (apply csr_ld; (case hgd => exact rfl); (case ho => exact rfl); (case hx => exact rfl); (case hg => exact box31 _ _ _ _)) | (apply csr_st; (case hgd => exact rfl); (case ho => exact rfl); (case hx => exact rfl); (case hy => exact rfl); (case hg => exact box33 _ _ _ _)) | (go_at_call 49; refine (ksa_any _ _ _).mono ?_; rintro e w' ⟨rfl, rfl⟩))
  refine row_back csrT rfl rfl rfl (set_row (box33 _ _ _ _)) (cV_size _) ⟨rfl, (HO.out _).row _ _ (by omega)⟩
set_option maxRecDepth 100000 in
set_option maxHeartbeats 1000000 in
theorem store_2818 (c e : Nat → BitVec 64) (p q : Bool) (v : BitVec 64) (w : World) : Calls Try.prog 36 #[.agg (cV c), .int .i64 2818, .int .u64 (u v), .agg (eV e p q)] w fun r w' => r = .returned (.agg (cV (kp c e 2818 v))) ∧ On w w' := by
  have hZ := fun w => csr_zero w
  have HO : Hid (∀ c', On w (((w.alloc (.cells (cV c') 25)).alloc (.cells (eV e p q) 27)).alloc (.cells (cV zC) 25))) := Lib.hid (fun _ => on3 _ _ _ _)
  have c19 := blk_cell (box31 w (.cells (cV c) 25) (.cells (eV e p q) 27) (.cells (cV zC) 25)) 19 (cV_get c 19 (by omega))
  have S := fun v => cV_set c 19 v
  have f19 := blk_free (box31 w (.cells (cV c) 25) (.cells (eV e p q) 27) (.cells (cV zC) 25)) 19
  go_enter Try.func36, Try.ntmps36
  go_wp2_with (first | (apply csr_ld; (case hgd => exact rfl); (case ho => exact rfl); (case hx => exact rfl); (case hg => exact box31 _ _ _ _)) | (apply csr_st; (case hgd => exact rfl); (case ho => exact rfl); (case hx => exact rfl); (case hy => exact rfl); (case hg => exact box33 _ _ _ _)))
  refine row_back csrT rfl rfl rfl (set_row (box33 _ _ _ _)) (cV_size _) ⟨rfl, (HO.out _).row _ _ (by omega)⟩
set_option maxRecDepth 100000 in
set_option maxHeartbeats 1000000 in
theorem store_803 (c e : Nat → BitVec 64) (p q : Bool) (v : BitVec 64) (w : World) : Calls Try.prog 36 #[.agg (cV c), .int .i64 803, .int .u64 (u v), .agg (eV e p q)] w fun r w' => r = .returned (.agg (cV (kp c e 803 v))) ∧ On w w' := by
  have hZ := fun w => csr_zero w
  have HO : Hid (∀ c', On w (((w.alloc (.cells (cV c') 25)).alloc (.cells (eV e p q) 27)).alloc (.cells (cV zC) 25))) := Lib.hid (fun _ => on3 _ _ _ _)
  have c22 := blk_cell (box31 w (.cells (cV c) 25) (.cells (eV e p q) 27) (.cells (cV zC) 25)) 22 (cV_get c 22 (by omega))
  have S := fun v => cV_set c 22 v
  have f22 := blk_free (box31 w (.cells (cV c) 25) (.cells (eV e p q) 27) (.cells (cV zC) 25)) 22
  go_enter Try.func36, Try.ntmps36
  go_wp2_with (first | (apply csr_ld; (case hgd => exact rfl); (case ho => exact rfl); (case hx => exact rfl); (case hg => exact box31 _ _ _ _)) | (apply csr_st; (case hgd => exact rfl); (case ho => exact rfl); (case hx => exact rfl); (case hy => exact rfl); (case hg => exact box33 _ _ _ _)) | (go_at_call 50; refine (kev_any _ _).mono ?_; rintro e w' ⟨rfl, rfl⟩))
  refine row_back csrT rfl rfl rfl (set_row (box33 _ _ _ _)) (cV_size _) ⟨rfl, (HO.out _).row _ _ (by omega)⟩
set_option maxRecDepth 100000 in
set_option maxHeartbeats 1000000 in
theorem store_804 (c e : Nat → BitVec 64) (p q : Bool) (v : BitVec 64) (w : World) : Calls Try.prog 36 #[.agg (cV c), .int .i64 804, .int .u64 (u v), .agg (eV e p q)] w fun r w' => r = .returned (.agg (cV (kp c e 804 v))) ∧ On w w' := by
  have hZ := fun w => csr_zero w
  have HO : Hid (∀ c', On w (((w.alloc (.cells (cV c') 25)).alloc (.cells (eV e p q) 27)).alloc (.cells (cV zC) 25))) := Lib.hid (fun _ => on3 _ _ _ _)
  have c23 := blk_cell (box31 w (.cells (cV c) 25) (.cells (eV e p q) 27) (.cells (cV zC) 25)) 23 (cV_get c 23 (by omega))
  have S := fun v => cV_set c 23 v
  have f23 := blk_free (box31 w (.cells (cV c) 25) (.cells (eV e p q) 27) (.cells (cV zC) 25)) 23
  go_enter Try.func36, Try.ntmps36
  go_wp2_with (first | (apply csr_ld; (case hgd => exact rfl); (case ho => exact rfl); (case hx => exact rfl); (case hg => exact box31 _ _ _ _)) | (apply csr_st; (case hgd => exact rfl); (case ho => exact rfl); (case hx => exact rfl); (case hy => exact rfl); (case hg => exact box33 _ _ _ _)) | (go_at_call 50; refine (kev_any _ _).mono ?_; rintro e w' ⟨rfl, rfl⟩))
  refine row_back csrT rfl rfl rfl (set_row (box33 _ _ _ _)) (cV_size _) ⟨rfl, (HO.out _).row _ _ (by omega)⟩
set_option maxRecDepth 100000 in
set_option maxHeartbeats 1000000 in
theorem store_805 (c e : Nat → BitVec 64) (p q : Bool) (v : BitVec 64) (w : World) : Calls Try.prog 36 #[.agg (cV c), .int .i64 805, .int .u64 (u v), .agg (eV e p q)] w fun r w' => r = .returned (.agg (cV (kp c e 805 v))) ∧ On w w' := by
  have hZ := fun w => csr_zero w
  have HO : Hid (∀ c', On w (((w.alloc (.cells (cV c') 25)).alloc (.cells (eV e p q) 27)).alloc (.cells (cV zC) 25))) := Lib.hid (fun _ => on3 _ _ _ _)
  have c24 := blk_cell (box31 w (.cells (cV c) 25) (.cells (eV e p q) 27) (.cells (cV zC) 25)) 24 (cV_get c 24 (by omega))
  have S := fun v => cV_set c 24 v
  have f24 := blk_free (box31 w (.cells (cV c) 25) (.cells (eV e p q) 27) (.cells (cV zC) 25)) 24
  go_enter Try.func36, Try.ntmps36
  go_wp2_with (first | (apply csr_ld; (case hgd => exact rfl); (case ho => exact rfl); (case hx => exact rfl); (case hg => exact box31 _ _ _ _)) | (apply csr_st; (case hgd => exact rfl); (case ho => exact rfl); (case hx => exact rfl); (case hy => exact rfl); (case hg => exact box33 _ _ _ _)) | (go_at_call 50; refine (kev_any _ _).mono ?_; rintro e w' ⟨rfl, rfl⟩))
  refine row_back csrT rfl rfl rfl (set_row (box33 _ _ _ _)) (cV_size _) ⟨rfl, (HO.out _).row _ _ (by omega)⟩
set_option maxRecDepth 100000 in
set_option maxHeartbeats 1000000 in
theorem store_806 (c e : Nat → BitVec 64) (p q : Bool) (v : BitVec 64) (w : World) : Calls Try.prog 36 #[.agg (cV c), .int .i64 806, .int .u64 (u v), .agg (eV e p q)] w fun r w' => r = .returned (.agg (cV (kp c e 806 v))) ∧ On w w' := by
  have hZ := fun w => csr_zero w
  have HO : Hid (∀ c', On w (((w.alloc (.cells (cV c') 25)).alloc (.cells (eV e p q) 27)).alloc (.cells (cV zC) 25))) := Lib.hid (fun _ => on3 _ _ _ _)
  have c25 := blk_cell (box31 w (.cells (cV c) 25) (.cells (eV e p q) 27) (.cells (cV zC) 25)) 25 (cV_get c 25 (by omega))
  have S := fun v => cV_set c 25 v
  have f25 := blk_free (box31 w (.cells (cV c) 25) (.cells (eV e p q) 27) (.cells (cV zC) 25)) 25
  go_enter Try.func36, Try.ntmps36
  go_wp2_with (first | (apply csr_ld; (case hgd => exact rfl); (case ho => exact rfl); (case hx => exact rfl); (case hg => exact box31 _ _ _ _)) | (apply csr_st; (case hgd => exact rfl); (case ho => exact rfl); (case hx => exact rfl); (case hy => exact rfl); (case hg => exact box33 _ _ _ _)) | (go_at_call 50; refine (kev_any _ _).mono ?_; rintro e w' ⟨rfl, rfl⟩))
  refine row_back csrT rfl rfl rfl (set_row (box33 _ _ _ _)) (cV_size _) ⟨rfl, (HO.out _).row _ _ (by omega)⟩
set_option maxRecDepth 100000 in
set_option maxHeartbeats 1000000 in
theorem store_2819 (c e : Nat → BitVec 64) (p q : Bool) (v : BitVec 64) (w : World) : Calls Try.prog 36 #[.agg (cV c), .int .i64 2819, .int .u64 (u v), .agg (eV e p q)] w fun r w' => r = .returned (.agg (cV (kp c e 2819 v))) ∧ On w w' := by
  have hZ := fun w => csr_zero w
  have HO : Hid (∀ c', On w (((w.alloc (.cells (cV c') 25)).alloc (.cells (eV e p q) 27)).alloc (.cells (cV zC) 25))) := Lib.hid (fun _ => on3 _ _ _ _)
  have c26 := blk_cell (box31 w (.cells (cV c) 25) (.cells (eV e p q) 27) (.cells (cV zC) 25)) 26 (cV_get c 26 (by omega))
  have e3 := blk_cell (box32 w (.cells (cV c) 25) (.cells (eV e p q) 27) (.cells (cV zC) 25)) 3 (eV_get e p q 3 (by omega))
  have S := fun v => cV_set c 26 v
  have f26 := blk_free (box31 w (.cells (cV c) 25) (.cells (eV e p q) 27) (.cells (cV zC) 25)) 26
  have M : IntKind.u64.wrap (u v - u (e 3)) = u (v - e 3) := u_sub _ _
  go_enter Try.func36, Try.ntmps36
  go_wp2_with (first | (apply csr_ld; (case hgd => exact rfl); (case ho => exact rfl); (case hx => exact rfl); (case hg => exact box31 _ _ _ _)) | (apply csr_st; (case hgd => exact rfl); (case ho => exact rfl); (case hx => exact rfl); (case hy => exact rfl); (case hg => exact box33 _ _ _ _)))
  refine row_back csrT rfl rfl rfl (set_row (box33 _ _ _ _)) (cV_size _) ⟨rfl, (HO.out _).row _ _ (by omega)⟩
set_option maxRecDepth 100000 in
set_option maxHeartbeats 1000000 in
theorem store_2820 (c e : Nat → BitVec 64) (p q : Bool) (v : BitVec 64) (w : World) : Calls Try.prog 36 #[.agg (cV c), .int .i64 2820, .int .u64 (u v), .agg (eV e p q)] w fun r w' => r = .returned (.agg (cV (kp c e 2820 v))) ∧ On w w' := by
  have hZ := fun w => csr_zero w
  have HO : Hid (∀ c', On w (((w.alloc (.cells (cV c') 25)).alloc (.cells (eV e p q) 27)).alloc (.cells (cV zC) 25))) := Lib.hid (fun _ => on3 _ _ _ _)
  have c27 := blk_cell (box31 w (.cells (cV c) 25) (.cells (eV e p q) 27) (.cells (cV zC) 25)) 27 (cV_get c 27 (by omega))
  have e4 := blk_cell (box32 w (.cells (cV c) 25) (.cells (eV e p q) 27) (.cells (cV zC) 25)) 4 (eV_get e p q 4 (by omega))
  have S := fun v => cV_set c 27 v
  have f27 := blk_free (box31 w (.cells (cV c) 25) (.cells (eV e p q) 27) (.cells (cV zC) 25)) 27
  have M : IntKind.u64.wrap (u v - u (e 4)) = u (v - e 4) := u_sub _ _
  go_enter Try.func36, Try.ntmps36
  go_wp2_with (first | (apply csr_ld; (case hgd => exact rfl); (case ho => exact rfl); (case hx => exact rfl); (case hg => exact box31 _ _ _ _)) | (apply csr_st; (case hgd => exact rfl); (case ho => exact rfl); (case hx => exact rfl); (case hy => exact rfl); (case hg => exact box33 _ _ _ _)))
  refine row_back csrT rfl rfl rfl (set_row (box33 _ _ _ _)) (cV_size _) ⟨rfl, (HO.out _).row _ _ (by omega)⟩
set_option maxRecDepth 100000 in
set_option maxHeartbeats 1000000 in
theorem store_2821 (c e : Nat → BitVec 64) (p q : Bool) (v : BitVec 64) (w : World) : Calls Try.prog 36 #[.agg (cV c), .int .i64 2821, .int .u64 (u v), .agg (eV e p q)] w fun r w' => r = .returned (.agg (cV (kp c e 2821 v))) ∧ On w w' := by
  have hZ := fun w => csr_zero w
  have HO : Hid (∀ c', On w (((w.alloc (.cells (cV c') 25)).alloc (.cells (eV e p q) 27)).alloc (.cells (cV zC) 25))) := Lib.hid (fun _ => on3 _ _ _ _)
  have c28 := blk_cell (box31 w (.cells (cV c) 25) (.cells (eV e p q) 27) (.cells (cV zC) 25)) 28 (cV_get c 28 (by omega))
  have e5 := blk_cell (box32 w (.cells (cV c) 25) (.cells (eV e p q) 27) (.cells (cV zC) 25)) 5 (eV_get e p q 5 (by omega))
  have S := fun v => cV_set c 28 v
  have f28 := blk_free (box31 w (.cells (cV c) 25) (.cells (eV e p q) 27) (.cells (cV zC) 25)) 28
  have M : IntKind.u64.wrap (u v - u (e 5)) = u (v - e 5) := u_sub _ _
  go_enter Try.func36, Try.ntmps36
  go_wp2_with (first | (apply csr_ld; (case hgd => exact rfl); (case ho => exact rfl); (case hx => exact rfl); (case hg => exact box31 _ _ _ _)) | (apply csr_st; (case hgd => exact rfl); (case ho => exact rfl); (case hx => exact rfl); (case hy => exact rfl); (case hg => exact box33 _ _ _ _)))
  refine row_back csrT rfl rfl rfl (set_row (box33 _ _ _ _)) (cV_size _) ⟨rfl, (HO.out _).row _ _ (by omega)⟩
set_option maxRecDepth 100000 in
set_option maxHeartbeats 1000000 in
theorem store_2822 (c e : Nat → BitVec 64) (p q : Bool) (v : BitVec 64) (w : World) : Calls Try.prog 36 #[.agg (cV c), .int .i64 2822, .int .u64 (u v), .agg (eV e p q)] w fun r w' => r = .returned (.agg (cV (kp c e 2822 v))) ∧ On w w' := by
  have hZ := fun w => csr_zero w
  have HO : Hid (∀ c', On w (((w.alloc (.cells (cV c') 25)).alloc (.cells (eV e p q) 27)).alloc (.cells (cV zC) 25))) := Lib.hid (fun _ => on3 _ _ _ _)
  have c29 := blk_cell (box31 w (.cells (cV c) 25) (.cells (eV e p q) 27) (.cells (cV zC) 25)) 29 (cV_get c 29 (by omega))
  have e6 := blk_cell (box32 w (.cells (cV c) 25) (.cells (eV e p q) 27) (.cells (cV zC) 25)) 6 (eV_get e p q 6 (by omega))
  have S := fun v => cV_set c 29 v
  have f29 := blk_free (box31 w (.cells (cV c) 25) (.cells (eV e p q) 27) (.cells (cV zC) 25)) 29
  have M : IntKind.u64.wrap (u v - u (e 6)) = u (v - e 6) := u_sub _ _
  go_enter Try.func36, Try.ntmps36
  go_wp2_with (first | (apply csr_ld; (case hgd => exact rfl); (case ho => exact rfl); (case hx => exact rfl); (case hg => exact box31 _ _ _ _)) | (apply csr_st; (case hgd => exact rfl); (case ho => exact rfl); (case hx => exact rfl); (case hy => exact rfl); (case hg => exact box33 _ _ _ _)))
  refine row_back csrT rfl rfl rfl (set_row (box33 _ _ _ _)) (cV_size _) ⟨rfl, (HO.out _).row _ _ (by omega)⟩
/-- what stands in the region that goes on with the cycle's counter: i8, i10, i12: the operations that store -/
structure InhAt (w : World) (c e : Nat → BitVec 64) (p q : Bool) (m : BitVec 64) (i8 i10 i12 : Nat) (l : Array Bool) (wr : World) : Prop where
  on : On w wr
  blk : wr.heap[w.heap.size]? = some (.cells (cV (updI (l.getD i12 false) 18 m (updI (l.getD i10 false) 21 (e 0) (updI (l.getD i8 false) 20 (cyc c e) c)))) 25 (0, 0))
  env : wr.heap[w.heap.size + 1]? = some (.cells (eV e p q) 27 (0, 0))
  res : wr.heap[w.heap.size + 1 + 1]? = some (.cells (cV zC) 25 (0, 0))
  ord : ∀ j, (j = i8 ∨ j = i10 ∨ j = i12) → l.getD j false = true → l.getD 0 false = true
theorem InhAt.start (w : World) (c e : Nat → BitVec 64) (p q : Bool) (m : BitVec 64) (i8 i10 i12 n : Nat) : InhAt w c e p q m i8 i10 i12 (Array.replicate n false) ((((w.alloc (.cells (cV c) 25)).alloc (.cells (eV e p q) 27)).alloc (.cells (cV zC) 25)).drewN 1) := by
  have hz : ∀ i, (Array.replicate n false).getD i false = false := by
    intro i; rw [Array.getD_eq_getD_getElem?]
    rcases Nat.lt_or_ge i n with h | h
    · rw [Array.getElem?_replicate, if_pos h]; rfl
    · rw [Array.getElem?_eq_none (by simpa using h)]; rfl
  refine ⟨(on3 _ _ _ _).drewN 1, ?_, box32 _ _ _ _, box33 _ _ _ _, fun j _ h => by rw [hz] at h; cases h⟩
  rw [hz, hz, hz]
  exact box31 _ _ _ _
section
variable {w wr wx : World} {c e : Nat → BitVec 64} {p q : Bool} {m : BitVec 64} {i8 i10 i12 : Nat} {l : Array Bool}
theorem InhAt.step (h : InhAt w c e p q m i8 i10 i12 l wr) (i : Nat) (h1 : i ≠ i8) (h2 : i ≠ i10) (h3 : i ≠ i12) (k : On wr wx) : InhAt w c e p q m i8 i10 i12 (l.setIfInBounds i true) wx := by
  refine ⟨h.on.trans k, ?_, k.keep h.env, k.keep h.res, fun j hj hl => g_mono (h.ord j hj (g_ne (by omega) hl))⟩
  rw [g_eq h1, g_eq h2, g_eq h3]; exact k.keep h.blk
theorem InhAt.c0 (h : InhAt w c e p q m i8 i10 i12 l wr) (h0 : l.getD 0 true = false) : wr.heap[w.heap.size]? = some (.cells (cV c) 25 (0, 0)) := by
  have hf : ∀ j, (j = i8 ∨ j = i10 ∨ j = i12) → l.getD j false = false := fun j hj => g_ahead (h.ord j hj) h0
  have := h.blk
  rw [hf i8 (by simp), hf i10 (by simp), hf i12 (by simp)] at this
  exact this
theorem InhAt.set (h : InhAt w c e p q m i8 i10 i12 l wr) (i : Nat) (h0 : l.getD 0 false = true) (k : Nat) (v : BitVec 64)
    (hv : cV (updI ((l.setIfInBounds i true).getD i12 false) 18 m (updI ((l.setIfInBounds i true).getD i10 false) 21 (e 0) (updI ((l.setIfInBounds i true).getD i8 false) 20 (cyc c e) c))) = cV (upd (updI (l.getD i12 false) 18 m (updI (l.getD i10 false) 21 (e 0) (updI (l.getD i8 false) 20 (cyc c e) c))) k v)) :
    InhAt w c e p q m i8 i10 i12 (l.setIfInBounds i true) (wr.setCell ⟨w.heap.size, k, none⟩ (.int .u64 (u v))) := by
  refine ⟨h.on.set _ _ (Nat.le_refl _), ?_, blk_other h.env (by omega), blk_other h.res (by omega), fun _ _ _ => g_mono h0⟩
  rw [hv]; exact blk_upd h.blk k v
theorem updI_20 (b1 b2 : Bool) (m x y : BitVec 64) (c : Nat → BitVec 64) : updI b1 18 m (updI b2 21 x (updI true 20 y c)) = upd (updI b1 18 m (updI b2 21 x c)) 20 y := by
  cases b1 <;> cases b2 <;> simp only [updI, if_true, Bool.false_eq_true, if_false]
  · exact (upd_comm c (by omega) x y).symm
  · exact (upd_comm c (by omega) m y).symm
  · rw [upd_comm c (show 20 ≠ 21 by omega) y x, upd_comm _ (show 20 ≠ 18 by omega) y m]
theorem updI_21 (b1 b2 : Bool) (m x y : BitVec 64) (c : Nat → BitVec 64) : updI b1 18 m (updI true 21 x (updI b2 20 y c)) = upd (updI b1 18 m (updI b2 20 y c)) 21 x := by
  cases b1 <;> simp only [updI, if_true, Bool.false_eq_true, if_false]
  exact (upd_comm _ (by omega) m x).symm
theorem InhAt.st8 (h : InhAt w c e p q m i8 i10 i12 l wr) (hs : i8 < l.size) (hl : l.getD i8 true = false) (h0 : l.getD 0 false = true) (h1 : i8 ≠ i10) (h2 : i8 ≠ i12) :
    InhAt w c e p q m i8 i10 i12 (l.setIfInBounds i8 true) (wr.setCell ⟨w.heap.size, 20, none⟩ (.int .u64 (u (cyc c e)))) := by
  refine h.set i8 h0 20 _ ?_
  rw [g_self hs, g_eq h1, g_eq h2, g_not hl, updI_20]; rfl
theorem InhAt.st10 (h : InhAt w c e p q m i8 i10 i12 l wr) (hs : i10 < l.size) (hl : l.getD i10 true = false) (h0 : l.getD 0 false = true) (h1 : i10 ≠ i8) (h2 : i10 ≠ i12) :
    InhAt w c e p q m i8 i10 i12 (l.setIfInBounds i10 true) (wr.setCell ⟨w.heap.size, 21, none⟩ (.int .u64 (u (e 0)))) := by
  refine h.set i10 h0 21 _ ?_
  rw [g_self hs, g_eq h1, g_eq h2, g_not hl, updI_21]; rfl
theorem InhAt.st12 (h : InhAt w c e p q m i8 i10 i12 l wr) (hs : i12 < l.size) (hl : l.getD i12 true = false) (h0 : l.getD 0 false = true) (h1 : i12 ≠ i8) (h2 : i12 ≠ i10) :
    InhAt w c e p q m i8 i10 i12 (l.setIfInBounds i12 true) (wr.setCell ⟨w.heap.size, 18, none⟩ (.int .u64 (u m))) := by
  refine h.set i12 h0 18 _ ?_
  rw [g_self hs, g_eq h1, g_eq h2, g_not hl]; rfl
/-- the cell that is written, and that it may be -/
theorem InhAt.cell (h : InhAt w c e p q m i8 i10 i12 l wr) (k : Nat) (hk : k < 30) : ∃ v, wr.cell? ⟨w.heap.size, k, none⟩ = some v := ⟨_, blk_cell h.blk k (cV_get _ k hk)⟩
theorem InhAt.free (h : InhAt w c e p q m i8 i10 i12 l wr) (k : Nat) : wr.frozen? ⟨w.heap.size, k, none⟩ = false := blk_free h.blk k
end
set_option maxRecDepth 100000 in
set_option maxHeartbeats 1000000 in
theorem store_800 (c e : Nat → BitVec 64) (p q : Bool) (v : BitVec 64) (w : World) : Calls Try.prog 36 #[.agg (cV c), .int .i64 800, .int .u64 (u v), .agg (eV e p q)] w fun r w' => r = .returned (.agg (cV (kp c e 800 v))) ∧ On w w' := by
  have hZ := fun w => csr_zero w
  go_enter Try.func36, Try.ntmps36
  go_wp2_with fail
  refine wp_region_slots (by kernel_rfl) (fun i => (#[.agg (cV c), .agg (eV e p q), .int .u64 (u (cyc c e)), .pointer (some ⟨w.heap.size + 1, 0, none⟩), .int .u64 (u (e 0)), .int .u64 (u v), .int .u64 (bits .and .u64 (u v) 125), .pointer (some ⟨w.heap.size, 20, none⟩), undef, .pointer (some ⟨w.heap.size, 21, none⟩), undef, .pointer (some ⟨w.heap.size, 18, none⟩), undef] : Array Value).getD i undef) (InhAt w c e p q (v &&& 125#64) 8 10 12) (lex_of (by kernel_rfl)) (oneDst_of (by kernel_rfl)) (InhAt.start ..) ?done ?step
  case step =>
    intro i o hi hi13 l a wr hS hW hl haft
    have hi13 : i < 13 := hi13
    have h13 : i = 0 ∨ i = 1 ∨ i = 2 ∨ i = 3 ∨ i = 4 ∨ i = 5 ∨ i = 6 ∨ i = 7 ∨ i = 8 ∨ i = 9 ∨ i = 10 ∨ i = 11 ∨ i = 12 := by omega
    rcases h13 with rfl | rfl | rfl | rfl | rfl | rfl | rfl | rfl | rfl | rfl | rfl | rfl | rfl
    · obtain rfl := Option.some.inj hi
      refine wpOp_of hi rfl ?_
      exact wp_load_at rfl (hS.old (by kernel_rfl)) (csr_at (hW.c0 hl)) ⟨hS.put (oneDst_of (by kernel_rfl)) hi (fun _ => rfl), hW.step 0 (by omega) (by omega) (by omega) (On.refl _)⟩
    · obtain rfl := Option.some.inj hi
      refine wpOp_of hi rfl ?_
      exact wp_load_at rfl (hS.old (by kernel_rfl)) (env_at hW.env) ⟨hS.put (oneDst_of (by kernel_rfl)) hi (fun _ => rfl), hW.step 1 (by omega) (by omega) (by omega) (On.refl _)⟩
    · obtain rfl := Option.some.inj hi
      refine wpOp_of hi rfl ?_
      refine wp_call_at (vs := #[.agg (cV c), .agg (eV e p q)]) rfl ?_ rfl (cyc_any c e p q wr) (fun w' h' => ⟨hS.put (oneDst_of (by kernel_rfl)) hi (fun _ => rfl), hW.step 2 (by omega) (by omega) (by omega) h'⟩)
      show [a.eval (.tmp 85), a.eval (.tmp 86)] = _
      rw [(hS.val (i := 0) rfl rfl (haft ⟨0, .data⟩ (by simp) rfl)), (hS.val (i := 1) rfl rfl (haft ⟨1, .data⟩ (by simp) rfl))]
      rfl
    · obtain rfl := Option.some.inj hi
      refine wpOp_of hi rfl ?_
      exact wp_field_at rfl (hS.old (by kernel_rfl)) (show _ = Result.ok (.pointer (some ⟨w.heap.size + 1, 0, none⟩)) wr by go_simp) ⟨hS.put (oneDst_of (by kernel_rfl)) hi (fun _ => rfl), hW.step 3 (by omega) (by omega) (by omega) (On.refl _)⟩
    · obtain rfl := Option.some.inj hi
      refine wpOp_of hi rfl ?_
      exact wp_load_at rfl (hS.val (i := 3) rfl rfl (haft ⟨3, .data⟩ (by simp) rfl)) (ld_word _ _ _ (blk_cell hW.env 0 (eV_get e p q 0 (by omega)))) ⟨hS.put (oneDst_of (by kernel_rfl)) hi (fun _ => rfl), hW.step 4 (by omega) (by omega) (by omega) (On.refl _)⟩
    · obtain rfl := Option.some.inj hi
      refine wpOp_of hi rfl ?_
      exact wp_move_at rfl (hS.old (by kernel_rfl)) ⟨hS.put (oneDst_of (by kernel_rfl)) hi (fun _ => rfl), hW.step 5 (by omega) (by omega) (by omega) (On.refl _)⟩
    · obtain rfl := Option.some.inj hi
      refine wpOp_of hi rfl ?_
      exact wp_bin_at rfl (hS.val (i := 5) rfl rfl (haft ⟨5, .data⟩ (by simp) rfl)) rfl rfl (show _ = Result.ok (Value.int .u64 (bits .and .u64 (u v) 125)) wr by go_simp) ⟨hS.put (oneDst_of (by kernel_rfl)) hi (fun _ => rfl), hW.step 6 (by omega) (by omega) (by omega) (On.refl _)⟩
    · obtain rfl := Option.some.inj hi
      refine wpOp_of hi rfl ?_
      exact wp_field_at rfl (hS.old (by kernel_rfl)) (show _ = Result.ok (.pointer (some ⟨w.heap.size, 20, none⟩)) wr by go_simp) ⟨hS.put (oneDst_of (by kernel_rfl)) hi (fun _ => rfl), hW.step 7 (by omega) (by omega) (by omega) (On.refl _)⟩
    · obtain rfl := Option.some.inj hi
      refine wpOp_of hi rfl ?_
      obtain ⟨v0, hv0⟩ := hW.cell 20 (by omega)
      exact wp_store_at rfl (hS.val (i := 7) rfl rfl (haft ⟨7, .data⟩ (by simp) rfl)) (hS.val (i := 2) rfl rfl (haft ⟨2, .data⟩ (by simp) rfl)) (st_word _ _ _ _ hv0 (hW.free 20)) ⟨hS.put (oneDst_of (by kernel_rfl)) hi (fun _ => rfl), hW.st8 (by rw [hS.size]; decide) hl (haft ⟨0, .phase⟩ (by simp) rfl) (by omega) (by omega)⟩
    · obtain rfl := Option.some.inj hi
      refine wpOp_of hi rfl ?_
      exact wp_field_at rfl (hS.old (by kernel_rfl)) (show _ = Result.ok (.pointer (some ⟨w.heap.size, 21, none⟩)) wr by go_simp) ⟨hS.put (oneDst_of (by kernel_rfl)) hi (fun _ => rfl), hW.step 9 (by omega) (by omega) (by omega) (On.refl _)⟩
    · obtain rfl := Option.some.inj hi
      refine wpOp_of hi rfl ?_
      obtain ⟨v0, hv0⟩ := hW.cell 21 (by omega)
      exact wp_store_at rfl (hS.val (i := 9) rfl rfl (haft ⟨9, .data⟩ (by simp) rfl)) (hS.val (i := 4) rfl rfl (haft ⟨4, .data⟩ (by simp) rfl)) (st_word _ _ _ _ hv0 (hW.free 21)) ⟨hS.put (oneDst_of (by kernel_rfl)) hi (fun _ => rfl), hW.st10 (by rw [hS.size]; decide) hl (haft ⟨0, .phase⟩ (by simp) rfl) (by omega) (by omega)⟩
    · obtain rfl := Option.some.inj hi
      refine wpOp_of hi rfl ?_
      exact wp_field_at rfl (hS.old (by kernel_rfl)) (show _ = Result.ok (.pointer (some ⟨w.heap.size, 18, none⟩)) wr by go_simp) ⟨hS.put (oneDst_of (by kernel_rfl)) hi (fun _ => rfl), hW.step 11 (by omega) (by omega) (by omega) (On.refl _)⟩
    · obtain rfl := Option.some.inj hi
      refine wpOp_of hi rfl ?_
      obtain ⟨v0, hv0⟩ := hW.cell 18 (by omega)
      exact wp_store_at rfl (hS.val (i := 11) rfl rfl (haft ⟨11, .data⟩ (by simp) rfl)) ((hS.val (i := 6) rfl rfl (haft ⟨6, .data⟩ (by simp) rfl)).trans (show Value.int .u64 (bits .and .u64 (u v) 125) = .int .u64 (u (v &&& 125#64)) by rw [show (125 : Int) = u 125#64 from rfl, u_and])) (st_word _ _ _ _ hv0 (hW.free 18)) ⟨hS.put (oneDst_of (by kernel_rfl)) hi (fun _ => rfl), hW.st12 (by rw [hS.size]; decide) hl (haft ⟨0, .phase⟩ (by simp) rfl) (by omega) (by omega)⟩
  case done =>
    intro wr hW
    have hb : wr.heap[w.heap.size]? = some (.cells (cV (upd (upd (upd c 20 (cyc c e)) 21 (e 0)) 18 (v &&& 125#64))) 25 (0, 0)) := hW.blk
    have hr := hW.res
    have ho := Lib.hid hW.on
    clear hW
    simp only [puts]
    go_simp
    go_wp2_with (first | (apply csr_ld; (case hgd => exact rfl); (case ho => exact rfl); (case hx => exact rfl); (case hg => exact hb)) | (apply csr_st; (case hgd => exact rfl); (case ho => exact rfl); (case hx => exact rfl); (case hy => exact rfl); (case hg => exact hr)))
    refine row_back csrT rfl rfl rfl (set_row hr) (cV_size _) ⟨rfl, ho.out.row _ _ (by omega)⟩
set_option maxRecDepth 100000 in
set_option maxHeartbeats 1000000 in
theorem store_2816 (c e : Nat → BitVec 64) (p q : Bool) (v : BitVec 64) (w : World) : Calls Try.prog 36 #[.agg (cV c), .int .i64 2816, .int .u64 (u v), .agg (eV e p q)] w fun r w' => r = .returned (.agg (cV (kp c e 2816 v))) ∧ On w w' := by
  have hZ := fun w => csr_zero w
  have HO : Hid (∀ c', On w (((w.alloc (.cells (cV c') 25)).alloc (.cells (eV e p q) 27)).alloc (.cells (cV zC) 25))) := Lib.hid (fun _ => on3 _ _ _ _)
  have S20 := fun c v => cV_set c 20 v
  have S21 := fun c v => cV_set c 21 v
  have E0 := eV_get e p q 0 (by omega)
  have G20 := fun c' => cV_get c' 20 (by omega)
  have G21 := fun c' => cV_get c' 21 (by omega)
  have f20 := fun c' : Nat → BitVec 64 => blk_free (box31 w (.cells (cV c') 25) (.cells (eV e p q) 27) (.cells (cV zC) 25)) 20
  have f21 := fun c' : Nat → BitVec 64 => blk_free (box31 w (.cells (cV c') 25) (.cells (eV e p q) 27) (.cells (cV zC) 25)) 21
  go_enter Try.func36, Try.ntmps36
  go_wp2_with fail
  go_region
  clear S20 S21 E0 G20 G21 f20 f21
  go_wp2_with (first | (apply csr_ld; (case hgd => exact rfl); (case ho => exact rfl); (case hx => exact rfl); (case hg => exact box31 _ _ _ _)) | (apply csr_st; (case hgd => exact rfl); (case ho => exact rfl); (case hx => exact rfl); (case hy => exact rfl); (case hg => exact box33 _ _ _ _)))
  refine row_back csrT rfl rfl rfl (set_row (box33 _ _ _ _)) (cV_size _) ⟨rfl, (HO.out _).drew.row _ _ (by omega)⟩
theorem wr_cases {n : Int} (h : ex n = true) (hr : ron n = false) : n = 768 ∨ n = 256 ∨ n = 769 ∨ n = 770 ∨ n = 771 ∨ n = 772 ∨ n = 260 ∨ n = 836 ∨ n = 324 ∨ n = 773 ∨ n = 261 ∨ n = 774 ∨ n = 262 ∨ n = 800 ∨ n = 832 ∨ n = 320 ∨ n = 835 ∨ n = 323 ∨ n = 833 ∨ n = 321 ∨ n = 834 ∨ n = 322 ∨ n = 384 ∨ n = 2816 ∨ n = 2818 ∨ n = 803 ∨ n = 804 ∨ n = 805 ∨ n = 806 ∨ n = 2819 ∨ n = 2820 ∨ n = 2821 ∨ n = 2822 := by
  rcases ex_cases h with rfl | rfl | rfl | rfl | rfl | rfl | rfl | rfl | rfl | rfl | rfl | rfl | rfl | rfl | rfl | rfl | rfl | rfl | rfl | rfl | rfl | rfl | rfl | rfl | rfl | rfl | rfl | rfl | rfl | rfl | rfl | rfl | rfl | rfl | rfl | rfl | rfl | rfl | rfl | rfl | rfl | rfl | rfl | rfl | rfl
  all_goals first | (cases hr; done) | omega
theorem store_any (c e : Nat → BitVec 64) (p q : Bool) (n : Int) (h : ex n = true) (hr : ron n = false) (v : BitVec 64) (w : World) : Calls Try.prog 36 #[.agg (cV c), .int .i64 n, .int .u64 (u v), .agg (eV e p q)] w fun r w' => r = .returned (.agg (cV (kp c e n v))) ∧ On w w' := by
  rcases wr_cases h hr with rfl | rfl | rfl | rfl | rfl | rfl | rfl | rfl | rfl | rfl | rfl | rfl | rfl | rfl | rfl | rfl | rfl | rfl | rfl | rfl | rfl | rfl | rfl | rfl | rfl | rfl | rfl | rfl | rfl | rfl | rfl | rfl | rfl
  · exact store_768 c e p q v w
  · exact store_256 c e p q v w
  · exact store_769 c e p q v w
  · exact store_770 c e p q v w
  · exact store_771 c e p q v w
  · exact store_772 c e p q v w
  · exact store_260 c e p q v w
  · exact store_836 c e p q v w
  · exact store_324 c e p q v w
  · exact store_773 c e p q v w
  · exact store_261 c e p q v w
  · exact store_774 c e p q v w
  · exact store_262 c e p q v w
  · exact store_800 c e p q v w
  · exact store_832 c e p q v w
  · exact store_320 c e p q v w
  · exact store_835 c e p q v w
  · exact store_323 c e p q v w
  · exact store_833 c e p q v w
  · exact store_321 c e p q v w
  · exact store_834 c e p q v w
  · exact store_322 c e p q v w
  · exact store_384 c e p q v w
  · exact store_2816 c e p q v w
  · exact store_2818 c e p q v w
  · exact store_803 c e p q v w
  · exact store_804 c e p q v w
  · exact store_805 c e p q v w
  · exact store_806 c e p q v w
  · exact store_2819 c e p q v w
  · exact store_2820 c e p q v w
  · exact store_2821 c e p q v w
  · exact store_2822 c e p q v w
end Go.Proofs.Ytoobbapdjoajgaa
