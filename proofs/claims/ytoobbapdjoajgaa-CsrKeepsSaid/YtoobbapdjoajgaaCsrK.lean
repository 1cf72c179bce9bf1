/- What the reference's keep comes to. Conditions: named at each. -/
import Derived.Test.YtoobbapdjoajgaaCsrX
import Derived.Deep.RegionWith
import Derived.Test.YtoobbapdjoajgaaCsrS
namespace Go.Proofs.Ytoobbapdjoajgaa
open Go.RowKit

theorem kst_alt (o v : BitVec 64) : kst o v = if (v &&& 0x7e19aa#64) &&& 0x1800#64 = 0x1000#64 then ((v &&& 0x7e19aa#64) &&& ~~~0x1800#64) ||| (o &&& 0x1800#64) else v &&& 0x7e19aa#64 := by
  have h : (v &&& 0x7e19aa#64) &&& 0x1800#64 = v &&& 0x1800#64 := by
    rw [BitVec.and_assoc]; rfl
  rw [h]
  unfold kst repl
  split
  · apply BitVec.eq_of_getLsbD_eq; intro i hi
    simp only [BitVec.getLsbD_and, BitVec.getLsbD_or, BitVec.getLsbD_not, hi, decide_true, Bool.true_and]
    have hm : (0x1800#64).getLsbD i = true → (0x7e19aa#64).getLsbD i = true := by
      revert i; decide
    cases h1 : (0x1800#64).getLsbD i
    · simp
    · rw [hm h1]; simp
  · rfl
theorem rkst_any (o v : BitVec 64) (w : World) : Calls Try.prog 40 #[.int .u64 (u o), .int .u64 (u v)] w fun e w' => e = .returned (.int .u64 (u (kst o v))) ∧ w = w' := by
  have A : bits .and .u64 (u v) 8264106 = u (v &&& 0x7e19aa#64) := u_and v 0x7e19aa#64
  have B : (bits .and .u64 (u (v &&& 0x7e19aa#64)) 6144 == 4096) = ((v &&& 0x7e19aa#64) &&& 0x1800#64 == 0x1000#64) := by rw [show (6144 : Int) = u 0x1800#64 from rfl, show (4096 : Int) = u 0x1000#64 from rfl, u_and, u_beq]
  by_cases h : (v &&& 0x7e19aa#64) &&& 0x1800#64 = 0x1000#64
  · replace B : (bits .and .u64 (u (v &&& 0x7e19aa#64)) 6144 == 4096) = true := by rw [B]; simpa using h
    have H : Hid (bits .or .u64 (bits .andNot .u64 (u (v &&& 0x7e19aa#64)) 6144) (bits .and .u64 (u o) 6144) = u (kst o v)) := Lib.hid (by
      rw [show (6144 : Int) = u 0x1800#64 from rfl, u_andNot, u_and, u_or, kst_alt, if_pos h])
    clear h
    go_enter Try.func40, Try.ntmps40
    go_wp2
    go_ret
    exact ⟨by rw [← H.out]; rfl, rfl⟩
  · replace B : (bits .and .u64 (u (v &&& 0x7e19aa#64)) 6144 == 4096) = false := by rw [B]; simpa using h
    have H : Hid (u (v &&& 0x7e19aa#64) = u (kst o v)) := Lib.hid (by rw [kst_alt, if_neg h])
    clear h
    go_enter Try.func40, Try.ntmps40
    go_wp2
    go_ret
    exact ⟨by rw [← H.out]; rfl, rfl⟩
set_option maxRecDepth 100000 in
set_option maxHeartbeats 1000000 in
theorem keep_768 (c e : Nat → BitVec 64) (p q : Bool) (v : BitVec 64) (w : World) : Calls Try.prog 37 #[.agg (cV c), .int .i64 768, .int .u64 (u v), .agg (eV e p q)] w fun r w' => r = .returned (.agg (cV (kp c e 768 v))) ∧ On w w' := by
  have hZ := fun w => csr_zero w
  have HO : Hid (∀ c', On w (((w.alloc (.cells (cV c') 25)).alloc (.cells (eV e p q) 27)).alloc (.cells (cV zC) 25))) := Lib.hid (fun _ => on3 _ _ _ _)
  have c0 := blk_cell (box31 w (.cells (cV c) 25) (.cells (eV e p q) 27) (.cells (cV zC) 25)) 0 (cV_get c 0 (by omega))
  have S := fun v => cV_set c 0 v
  have f0 := blk_free (box31 w (.cells (cV c) 25) (.cells (eV e p q) 27) (.cells (cV zC) 25)) 0
  go_enter Try.func37, Try.ntmps37
  go_wp2_with (first | (go_at_call 46; (first | refine (four_no _ _ (by decide) (by decide) _).mono ?_ | refine (four_yes _ _ (by decide) (by decide) (by decide) _).mono ?_); rintro e w' ⟨rfl, rfl⟩) | ((with_reducible apply csr_ld); (case ho => exact rfl); (case hgd => exact rfl); (case hx => exact rfl); (case hg => exact box31 _ _ _ _)) | ((with_reducible apply csr_st); (case ho => exact rfl); (case hgd => exact rfl); (case hx => exact rfl); (case hy => exact rfl); (case hg => exact box33 _ _ _ _)) | (go_at_call 40; refine (rkst_any _ _ _).mono ?_; rintro e w' ⟨rfl, rfl⟩))
  refine row_back csrT rfl rfl rfl (set_row (box33 _ _ _ _)) (cV_size _) ⟨rfl, (HO.out _).row _ _ (by omega)⟩
set_option maxRecDepth 100000 in
set_option maxHeartbeats 1000000 in
theorem keep_256 (c e : Nat → BitVec 64) (p q : Bool) (v : BitVec 64) (w : World) : Calls Try.prog 37 #[.agg (cV c), .int .i64 256, .int .u64 (u v), .agg (eV e p q)] w fun r w' => r = .returned (.agg (cV (kp c e 256 v))) ∧ On w w' := by
  have hZ := fun w => csr_zero w
  have HO : Hid (∀ c', On w (((w.alloc (.cells (cV c') 25)).alloc (.cells (eV e p q) 27)).alloc (.cells (cV zC) 25))) := Lib.hid (fun _ => on3 _ _ _ _)
  have c0 := blk_cell (box31 w (.cells (cV c) 25) (.cells (eV e p q) 27) (.cells (cV zC) 25)) 0 (cV_get c 0 (by omega))
  have S := fun v => cV_set c 0 v
  have f0 := blk_free (box31 w (.cells (cV c) 25) (.cells (eV e p q) 27) (.cells (cV zC) 25)) 0
  have M : bits .or .u64 (bits .andNot .u64 (u (c 0)) 786722) (bits .and .u64 (u v) 786722) = u (repl (c 0) v 0xc0122#64) := by rw [show (786722 : Int) = u 0xc0122#64 from rfl, u_andNot, u_and, u_or]; rfl
  go_enter Try.func37, Try.ntmps37
  go_wp2_with (first | (go_at_call 46; (first | refine (four_no _ _ (by decide) (by decide) _).mono ?_ | refine (four_yes _ _ (by decide) (by decide) (by decide) _).mono ?_); rintro e w' ⟨rfl, rfl⟩) | ((with_reducible apply csr_ld); (case ho => exact rfl); (case hgd => exact rfl); (case hx => exact rfl); (case hg => exact box31 _ _ _ _)) | ((with_reducible apply csr_st); (case ho => exact rfl); (case hgd => exact rfl); (case hx => exact rfl); (case hy => exact rfl); (case hg => exact box33 _ _ _ _)))
  refine row_back csrT rfl rfl rfl (set_row (box33 _ _ _ _)) (cV_size _) ⟨rfl, (HO.out _).row _ _ (by omega)⟩
set_option maxRecDepth 100000 in
set_option maxHeartbeats 1000000 in
theorem keep_769 (c e : Nat → BitVec 64) (p q : Bool) (v : BitVec 64) (w : World) : Calls Try.prog 37 #[.agg (cV c), .int .i64 769, .int .u64 (u v), .agg (eV e p q)] w fun r w' => r = .returned (.agg (cV (kp c e 769 v))) ∧ On w w' := by
  have hZ := fun w => csr_zero w
  have HO : Hid (∀ c', On w (((w.alloc (.cells (cV c') 25)).alloc (.cells (eV e p q) 27)).alloc (.cells (cV zC) 25))) := Lib.hid (fun _ => on3 _ _ _ _)
  go_enter Try.func37, Try.ntmps37
  go_wp2_with (first | (go_at_call 46; (first | refine (four_no _ _ (by decide) (by decide) _).mono ?_ | refine (four_yes _ _ (by decide) (by decide) (by decide) _).mono ?_); rintro e w' ⟨rfl, rfl⟩) | ((with_reducible apply csr_ld); (case ho => exact rfl); (case hgd => exact rfl); (case hx => exact rfl); (case hg => exact box31 _ _ _ _)) | ((with_reducible apply csr_st); (case ho => exact rfl); (case hgd => exact rfl); (case hx => exact rfl); (case hy => exact rfl); (case hg => exact box33 _ _ _ _)))
  refine row_back csrT rfl rfl rfl (set_row (box33 _ _ _ _)) (cV_size _) ⟨rfl, (HO.out _).row _ _ (by omega)⟩
set_option maxRecDepth 100000 in
set_option maxHeartbeats 1000000 in
theorem keep_770 (c e : Nat → BitVec 64) (p q : Bool) (v : BitVec 64) (w : World) : Calls Try.prog 37 #[.agg (cV c), .int .i64 770, .int .u64 (u v), .agg (eV e p q)] w fun r w' => r = .returned (.agg (cV (kp c e 770 v))) ∧ On w w' := by
  have hZ := fun w => csr_zero w
  have HO : Hid (∀ c', On w (((w.alloc (.cells (cV c') 25)).alloc (.cells (eV e p q) 27)).alloc (.cells (cV zC) 25))) := Lib.hid (fun _ => on3 _ _ _ _)
  have c1 := blk_cell (box31 w (.cells (cV c) 25) (.cells (eV e p q) 27) (.cells (cV zC) 25)) 1 (cV_get c 1 (by omega))
  have S := fun v => cV_set c 1 v
  have f1 := blk_free (box31 w (.cells (cV c) 25) (.cells (eV e p q) 27) (.cells (cV zC) 25)) 1
  have M : bits .and .u64 (u v) 46079 = u (v &&& 46079#64) := u_and v 46079#64
  go_enter Try.func37, Try.ntmps37
  go_wp2_with (first | (go_at_call 46; (first | refine (four_no _ _ (by decide) (by decide) _).mono ?_ | refine (four_yes _ _ (by decide) (by decide) (by decide) _).mono ?_); rintro e w' ⟨rfl, rfl⟩) | ((with_reducible apply csr_ld); (case ho => exact rfl); (case hgd => exact rfl); (case hx => exact rfl); (case hg => exact box31 _ _ _ _)) | ((with_reducible apply csr_st); (case ho => exact rfl); (case hgd => exact rfl); (case hx => exact rfl); (case hy => exact rfl); (case hg => exact box33 _ _ _ _)))
  refine row_back csrT rfl rfl rfl (set_row (box33 _ _ _ _)) (cV_size _) ⟨rfl, (HO.out _).row _ _ (by omega)⟩
set_option maxRecDepth 100000 in
set_option maxHeartbeats 1000000 in
theorem keep_771 (c e : Nat → BitVec 64) (p q : Bool) (v : BitVec 64) (w : World) : Calls Try.prog 37 #[.agg (cV c), .int .i64 771, .int .u64 (u v), .agg (eV e p q)] w fun r w' => r = .returned (.agg (cV (kp c e 771 v))) ∧ On w w' := by
  have hZ := fun w => csr_zero w
  have HO : Hid (∀ c', On w (((w.alloc (.cells (cV c') 25)).alloc (.cells (eV e p q) 27)).alloc (.cells (cV zC) 25))) := Lib.hid (fun _ => on3 _ _ _ _)
  have c2 := blk_cell (box31 w (.cells (cV c) 25) (.cells (eV e p q) 27) (.cells (cV zC) 25)) 2 (cV_get c 2 (by omega))
  have S := fun v => cV_set c 2 v
  have f2 := blk_free (box31 w (.cells (cV c) 25) (.cells (eV e p q) 27) (.cells (cV zC) 25)) 2
  have M : bits .and .u64 (u v) 546 = u (v &&& 546#64) := u_and v 546#64
  go_enter Try.func37, Try.ntmps37
  go_wp2_with (first | (go_at_call 46; (first | refine (four_no _ _ (by decide) (by decide) _).mono ?_ | refine (four_yes _ _ (by decide) (by decide) (by decide) _).mono ?_); rintro e w' ⟨rfl, rfl⟩) | ((with_reducible apply csr_ld); (case ho => exact rfl); (case hgd => exact rfl); (case hx => exact rfl); (case hg => exact box31 _ _ _ _)) | ((with_reducible apply csr_st); (case ho => exact rfl); (case hgd => exact rfl); (case hx => exact rfl); (case hy => exact rfl); (case hg => exact box33 _ _ _ _)))
  refine row_back csrT rfl rfl rfl (set_row (box33 _ _ _ _)) (cV_size _) ⟨rfl, (HO.out _).row _ _ (by omega)⟩
set_option maxRecDepth 100000 in
set_option maxHeartbeats 1000000 in
theorem keep_772 (c e : Nat → BitVec 64) (p q : Bool) (v : BitVec 64) (w : World) : Calls Try.prog 37 #[.agg (cV c), .int .i64 772, .int .u64 (u v), .agg (eV e p q)] w fun r w' => r = .returned (.agg (cV (kp c e 772 v))) ∧ On w w' := by
  have hZ := fun w => csr_zero w
  have HO : Hid (∀ c', On w (((w.alloc (.cells (cV c') 25)).alloc (.cells (eV e p q) 27)).alloc (.cells (cV zC) 25))) := Lib.hid (fun _ => on3 _ _ _ _)
  have c3 := blk_cell (box31 w (.cells (cV c) 25) (.cells (eV e p q) 27) (.cells (cV zC) 25)) 3 (cV_get c 3 (by omega))
  have S := fun v => cV_set c 3 v
  have f3 := blk_free (box31 w (.cells (cV c) 25) (.cells (eV e p q) 27) (.cells (cV zC) 25)) 3
  have M : bits .and .u64 (u v) 2730 = u (v &&& 2730#64) := u_and v 2730#64
  go_enter Try.func37, Try.ntmps37
  go_wp2_with (first | (go_at_call 46; (first | refine (four_no _ _ (by decide) (by decide) _).mono ?_ | refine (four_yes _ _ (by decide) (by decide) (by decide) _).mono ?_); rintro e w' ⟨rfl, rfl⟩) | ((with_reducible apply csr_ld); (case ho => exact rfl); (case hgd => exact rfl); (case hx => exact rfl); (case hg => exact box31 _ _ _ _)) | ((with_reducible apply csr_st); (case ho => exact rfl); (case hgd => exact rfl); (case hx => exact rfl); (case hy => exact rfl); (case hg => exact box33 _ _ _ _)))
  refine row_back csrT rfl rfl rfl (set_row (box33 _ _ _ _)) (cV_size _) ⟨rfl, (HO.out _).row _ _ (by omega)⟩
set_option maxRecDepth 100000 in
set_option maxHeartbeats 1000000 in
theorem keep_260 (c e : Nat → BitVec 64) (p q : Bool) (v : BitVec 64) (w : World) : Calls Try.prog 37 #[.agg (cV c), .int .i64 260, .int .u64 (u v), .agg (eV e p q)] w fun r w' => r = .returned (.agg (cV (kp c e 260 v))) ∧ On w w' := by
  have hZ := fun w => csr_zero w
  have HO : Hid (∀ c', On w (((w.alloc (.cells (cV c') 25)).alloc (.cells (eV e p q) 27)).alloc (.cells (cV zC) 25))) := Lib.hid (fun _ => on3 _ _ _ _)
  have c3 := blk_cell (box31 w (.cells (cV c) 25) (.cells (eV e p q) 27) (.cells (cV zC) 25)) 3 (cV_get c 3 (by omega))
  have c2 := blk_cell (box31 w (.cells (cV c) 25) (.cells (eV e p q) 27) (.cells (cV zC) 25)) 2 (cV_get c 2 (by omega))
  have S := fun v => cV_set c 3 v
  have f3 := blk_free (box31 w (.cells (cV c) 25) (.cells (eV e p q) 27) (.cells (cV zC) 25)) 3
  have M : bits .or .u64 (bits .andNot .u64 (u (c 3)) (u (c 2))) (bits .and .u64 (u v) (u (c 2))) = u (repl (c 3) v (c 2)) := by rw [u_andNot, u_and, u_or]; rfl
  go_enter Try.func37, Try.ntmps37
  go_wp2_with (first | (go_at_call 46; (first | refine (four_no _ _ (by decide) (by decide) _).mono ?_ | refine (four_yes _ _ (by decide) (by decide) (by decide) _).mono ?_); rintro e w' ⟨rfl, rfl⟩) | ((with_reducible apply csr_ld); (case ho => exact rfl); (case hgd => exact rfl); (case hx => exact rfl); (case hg => exact box31 _ _ _ _)) | ((with_reducible apply csr_st); (case ho => exact rfl); (case hgd => exact rfl); (case hx => exact rfl); (case hy => exact rfl); (case hg => exact box33 _ _ _ _)))
  refine row_back csrT rfl rfl rfl (set_row (box33 _ _ _ _)) (cV_size _) ⟨rfl, (HO.out _).row _ _ (by omega)⟩
set_option maxRecDepth 100000 in
set_option maxHeartbeats 1000000 in
theorem keep_836 (c e : Nat → BitVec 64) (p q : Bool) (v : BitVec 64) (w : World) : Calls Try.prog 37 #[.agg (cV c), .int .i64 836, .int .u64 (u v), .agg (eV e p q)] w fun r w' => r = .returned (.agg (cV (kp c e 836 v))) ∧ On w w' := by
  have hZ := fun w => csr_zero w
  have HO : Hid (∀ c', On w (((w.alloc (.cells (cV c') 25)).alloc (.cells (eV e p q) 27)).alloc (.cells (cV zC) 25))) := Lib.hid (fun _ => on3 _ _ _ _)
  have c4 := blk_cell (box31 w (.cells (cV c) 25) (.cells (eV e p q) 27) (.cells (cV zC) 25)) 4 (cV_get c 4 (by omega))
  have S := fun v => cV_set c 4 v
  have f4 := blk_free (box31 w (.cells (cV c) 25) (.cells (eV e p q) 27) (.cells (cV zC) 25)) 4
  have M : bits .and .u64 (u v) 546 = u (v &&& 546#64) := u_and v 546#64
  go_enter Try.func37, Try.ntmps37
  go_wp2_with (first | (go_at_call 46; (first | refine (four_no _ _ (by decide) (by decide) _).mono ?_ | refine (four_yes _ _ (by decide) (by decide) (by decide) _).mono ?_); rintro e w' ⟨rfl, rfl⟩) | ((with_reducible apply csr_ld); (case ho => exact rfl); (case hgd => exact rfl); (case hx => exact rfl); (case hg => exact box31 _ _ _ _)) | ((with_reducible apply csr_st); (case ho => exact rfl); (case hgd => exact rfl); (case hx => exact rfl); (case hy => exact rfl); (case hg => exact box33 _ _ _ _)))
  refine row_back csrT rfl rfl rfl (set_row (box33 _ _ _ _)) (cV_size _) ⟨rfl, (HO.out _).row _ _ (by omega)⟩
set_option maxRecDepth 100000 in
set_option maxHeartbeats 1000000 in
theorem keep_324 (c e : Nat → BitVec 64) (p q : Bool) (v : BitVec 64) (w : World) : Calls Try.prog 37 #[.agg (cV c), .int .i64 324, .int .u64 (u v), .agg (eV e p q)] w fun r w' => r = .returned (.agg (cV (kp c e 324 v))) ∧ On w w' := by
  have hZ := fun w => csr_zero w
  have HO : Hid (∀ c', On w (((w.alloc (.cells (cV c') 25)).alloc (.cells (eV e p q) 27)).alloc (.cells (cV zC) 25))) := Lib.hid (fun _ => on3 _ _ _ _)
  have c4 := blk_cell (box31 w (.cells (cV c) 25) (.cells (eV e p q) 27) (.cells (cV zC) 25)) 4 (cV_get c 4 (by omega))
  have c2 := blk_cell (box31 w (.cells (cV c) 25) (.cells (eV e p q) 27) (.cells (cV zC) 25)) 2 (cV_get c 2 (by omega))
  have S := fun v => cV_set c 4 v
  have f4 := blk_free (box31 w (.cells (cV c) 25) (.cells (eV e p q) 27) (.cells (cV zC) 25)) 4
  have M : bits .or .u64 (bits .andNot .u64 (u (c 4)) (bits .and .u64 (u (c 2)) 2)) (bits .and .u64 (bits .and .u64 (u v) (u (c 2))) 2) = u (repl (c 4) v (c 2 &&& 2#64)) := by rw [show (2 : Int) = u 2#64 from rfl, u_and, u_and, u_and, u_andNot, u_or, BitVec.and_assoc]; rfl
  go_enter Try.func37, Try.ntmps37
  go_wp2_with (first | (go_at_call 46; (first | refine (four_no _ _ (by decide) (by decide) _).mono ?_ | refine (four_yes _ _ (by decide) (by decide) (by decide) _).mono ?_); rintro e w' ⟨rfl, rfl⟩) | ((with_reducible apply csr_ld); (case ho => exact rfl); (case hgd => exact rfl); (case hx => exact rfl); (case hg => exact box31 _ _ _ _)) | ((with_reducible apply csr_st); (case ho => exact rfl); (case hgd => exact rfl); (case hx => exact rfl); (case hy => exact rfl); (case hg => exact box33 _ _ _ _)))
  refine row_back csrT rfl rfl rfl (set_row (box33 _ _ _ _)) (cV_size _) ⟨rfl, (HO.out _).row _ _ (by omega)⟩
set_option maxRecDepth 100000 in
set_option maxHeartbeats 1000000 in
theorem keep_773 (c e : Nat → BitVec 64) (p q : Bool) (v : BitVec 64) (w : World) : Calls Try.prog 37 #[.agg (cV c), .int .i64 773, .int .u64 (u v), .agg (eV e p q)] w fun r w' => r = .returned (.agg (cV (kp c e 773 v))) ∧ On w w' := by
  have hZ := fun w => csr_zero w
  have HO : Hid (∀ c', On w (((w.alloc (.cells (cV c') 25)).alloc (.cells (eV e p q) 27)).alloc (.cells (cV zC) 25))) := Lib.hid (fun _ => on3 _ _ _ _)
  have c5 := blk_cell (box31 w (.cells (cV c) 25) (.cells (eV e p q) 27) (.cells (cV zC) 25)) 5 (cV_get c 5 (by omega))
  have S := fun v => cV_set c 5 v
  have f5 := blk_free (box31 w (.cells (cV c) 25) (.cells (eV e p q) 27) (.cells (cV zC) 25)) 5
  have M : bits .andNot .u64 (u v) 2 = u (v &&& ~~~2#64) := u_andNot v 2#64
  go_enter Try.func37, Try.ntmps37
  go_wp2_with (first | (go_at_call 46; (first | refine (four_no _ _ (by decide) (by decide) _).mono ?_ | refine (four_yes _ _ (by decide) (by decide) (by decide) _).mono ?_); rintro e w' ⟨rfl, rfl⟩) | ((with_reducible apply csr_ld); (case ho => exact rfl); (case hgd => exact rfl); (case hx => exact rfl); (case hg => exact box31 _ _ _ _)) | ((with_reducible apply csr_st); (case ho => exact rfl); (case hgd => exact rfl); (case hx => exact rfl); (case hy => exact rfl); (case hg => exact box33 _ _ _ _)))
  refine row_back csrT rfl rfl rfl (set_row (box33 _ _ _ _)) (cV_size _) ⟨rfl, (HO.out _).row _ _ (by omega)⟩
set_option maxRecDepth 100000 in
set_option maxHeartbeats 1000000 in
theorem keep_261 (c e : Nat → BitVec 64) (p q : Bool) (v : BitVec 64) (w : World) : Calls Try.prog 37 #[.agg (cV c), .int .i64 261, .int .u64 (u v), .agg (eV e p q)] w fun r w' => r = .returned (.agg (cV (kp c e 261 v))) ∧ On w w' := by
  have hZ := fun w => csr_zero w
  have HO : Hid (∀ c', On w (((w.alloc (.cells (cV c') 25)).alloc (.cells (eV e p q) 27)).alloc (.cells (cV zC) 25))) := Lib.hid (fun _ => on3 _ _ _ _)
  have c11 := blk_cell (box31 w (.cells (cV c) 25) (.cells (eV e p q) 27) (.cells (cV zC) 25)) 11 (cV_get c 11 (by omega))
  have S := fun v => cV_set c 11 v
  have f11 := blk_free (box31 w (.cells (cV c) 25) (.cells (eV e p q) 27) (.cells (cV zC) 25)) 11
  have M : bits .andNot .u64 (u v) 2 = u (v &&& ~~~2#64) := u_andNot v 2#64
  go_enter Try.func37, Try.ntmps37
  go_wp2_with (first | (go_at_call 46; (first | refine (four_no _ _ (by decide) (by decide) _).mono ?_ | refine (four_yes _ _ (by decide) (by decide) (by decide) _).mono ?_); rintro e w' ⟨rfl, rfl⟩) | ((with_reducible apply csr_ld); (case ho => exact rfl); (case hgd => exact rfl); (case hx => exact rfl); (case hg => exact box31 _ _ _ _)) | ((with_reducible apply csr_st); (case ho => exact rfl); (case hgd => exact rfl); (case hx => exact rfl); (case hy => exact rfl); (case hg => exact box33 _ _ _ _)))
  refine row_back csrT rfl rfl rfl (set_row (box33 _ _ _ _)) (cV_size _) ⟨rfl, (HO.out _).row _ _ (by omega)⟩
set_option maxRecDepth 100000 in
set_option maxHeartbeats 1000000 in
theorem keep_774 (c e : Nat → BitVec 64) (p q : Bool) (v : BitVec 64) (w : World) : Calls Try.prog 37 #[.agg (cV c), .int .i64 774, .int .u64 (u v), .agg (eV e p q)] w fun r w' => r = .returned (.agg (cV (kp c e 774 v))) ∧ On w w' := by
  have hZ := fun w => csr_zero w
  have HO : Hid (∀ c', On w (((w.alloc (.cells (cV c') 25)).alloc (.cells (eV e p q) 27)).alloc (.cells (cV zC) 25))) := Lib.hid (fun _ => on3 _ _ _ _)
  have c6 := blk_cell (box31 w (.cells (cV c) 25) (.cells (eV e p q) 27) (.cells (cV zC) 25)) 6 (cV_get c 6 (by omega))
  have S := fun v => cV_set c 6 v
  have f6 := blk_free (box31 w (.cells (cV c) 25) (.cells (eV e p q) 27) (.cells (cV zC) 25)) 6
  have M : bits .and .u64 (u v) 127 = u (v &&& 127#64) := u_and v 127#64
  go_enter Try.func37, Try.ntmps37
  go_wp2_with (first | (go_at_call 46; (first | refine (four_no _ _ (by decide) (by decide) _).mono ?_ | refine (four_yes _ _ (by decide) (by decide) (by decide) _).mono ?_); rintro e w' ⟨rfl, rfl⟩) | ((with_reducible apply csr_ld); (case ho => exact rfl); (case hgd => exact rfl); (case hx => exact rfl); (case hg => exact box31 _ _ _ _)) | ((with_reducible apply csr_st); (case ho => exact rfl); (case hgd => exact rfl); (case hx => exact rfl); (case hy => exact rfl); (case hg => exact box33 _ _ _ _)))
  refine row_back csrT rfl rfl rfl (set_row (box33 _ _ _ _)) (cV_size _) ⟨rfl, (HO.out _).row _ _ (by omega)⟩
set_option maxRecDepth 100000 in
set_option maxHeartbeats 1000000 in
theorem keep_262 (c e : Nat → BitVec 64) (p q : Bool) (v : BitVec 64) (w : World) : Calls Try.prog 37 #[.agg (cV c), .int .i64 262, .int .u64 (u v), .agg (eV e p q)] w fun r w' => r = .returned (.agg (cV (kp c e 262 v))) ∧ On w w' := by
  have hZ := fun w => csr_zero w
  have HO : Hid (∀ c', On w (((w.alloc (.cells (cV c') 25)).alloc (.cells (eV e p q) 27)).alloc (.cells (cV zC) 25))) := Lib.hid (fun _ => on3 _ _ _ _)
  have c12 := blk_cell (box31 w (.cells (cV c) 25) (.cells (eV e p q) 27) (.cells (cV zC) 25)) 12 (cV_get c 12 (by omega))
  have S := fun v => cV_set c 12 v
  have f12 := blk_free (box31 w (.cells (cV c) 25) (.cells (eV e p q) 27) (.cells (cV zC) 25)) 12
  have M : bits .and .u64 (u v) 127 = u (v &&& 127#64) := u_and v 127#64
  go_enter Try.func37, Try.ntmps37
  go_wp2_with (first | (go_at_call 46; (first | refine (four_no _ _ (by decide) (by decide) _).mono ?_ | refine (four_yes _ _ (by decide) (by decide) (by decide) _).mono ?_); rintro e w' ⟨rfl, rfl⟩) | ((with_reducible apply csr_ld); (case ho => exact rfl); (case hgd => exact rfl); (case hx => exact rfl); (case hg => exact box31 _ _ _ _)) | ((with_reducible apply csr_st); (case ho => exact rfl); (case hgd => exact rfl); (case hx => exact rfl); (case hy => exact rfl); (case hg => exact box33 _ _ _ _)))
  refine row_back csrT rfl rfl rfl (set_row (box33 _ _ _ _)) (cV_size _) ⟨rfl, (HO.out _).row _ _ (by omega)⟩
set_option maxRecDepth 100000 in
set_option maxHeartbeats 1000000 in
theorem keep_832 (c e : Nat → BitVec 64) (p q : Bool) (v : BitVec 64) (w : World) : Calls Try.prog 37 #[.agg (cV c), .int .i64 832, .int .u64 (u v), .agg (eV e p q)] w fun r w' => r = .returned (.agg (cV (kp c e 832 v))) ∧ On w w' := by
  have hZ := fun w => csr_zero w
  have HO : Hid (∀ c', On w (((w.alloc (.cells (cV c') 25)).alloc (.cells (eV e p q) 27)).alloc (.cells (cV zC) 25))) := Lib.hid (fun _ => on3 _ _ _ _)
  have c7 := blk_cell (box31 w (.cells (cV c) 25) (.cells (eV e p q) 27) (.cells (cV zC) 25)) 7 (cV_get c 7 (by omega))
  have S := fun v => cV_set c 7 v
  have f7 := blk_free (box31 w (.cells (cV c) 25) (.cells (eV e p q) 27) (.cells (cV zC) 25)) 7
  go_enter Try.func37, Try.ntmps37
  go_wp2_with (first | (go_at_call 46; (first | refine (four_no _ _ (by decide) (by decide) _).mono ?_ | refine (four_yes _ _ (by decide) (by decide) (by decide) _).mono ?_); rintro e w' ⟨rfl, rfl⟩) | ((with_reducible apply csr_ld); (case ho => exact rfl); (case hgd => exact rfl); (case hx => exact rfl); (case hg => exact box31 _ _ _ _)) | ((with_reducible apply csr_st); (case ho => exact rfl); (case hgd => exact rfl); (case hx => exact rfl); (case hy => exact rfl); (case hg => exact box33 _ _ _ _)))
  refine row_back csrT rfl rfl rfl (set_row (box33 _ _ _ _)) (cV_size _) ⟨rfl, (HO.out _).row _ _ (by omega)⟩
set_option maxRecDepth 100000 in
set_option maxHeartbeats 1000000 in
theorem keep_320 (c e : Nat → BitVec 64) (p q : Bool) (v : BitVec 64) (w : World) : Calls Try.prog 37 #[.agg (cV c), .int .i64 320, .int .u64 (u v), .agg (eV e p q)] w fun r w' => r = .returned (.agg (cV (kp c e 320 v))) ∧ On w w' := by
  have hZ := fun w => csr_zero w
  have HO : Hid (∀ c', On w (((w.alloc (.cells (cV c') 25)).alloc (.cells (eV e p q) 27)).alloc (.cells (cV zC) 25))) := Lib.hid (fun _ => on3 _ _ _ _)
  have c13 := blk_cell (box31 w (.cells (cV c) 25) (.cells (eV e p q) 27) (.cells (cV zC) 25)) 13 (cV_get c 13 (by omega))
  have S := fun v => cV_set c 13 v
  have f13 := blk_free (box31 w (.cells (cV c) 25) (.cells (eV e p q) 27) (.cells (cV zC) 25)) 13
  go_enter Try.func37, Try.ntmps37
  go_wp2_with (first | (go_at_call 46; (first | refine (four_no _ _ (by decide) (by decide) _).mono ?_ | refine (four_yes _ _ (by decide) (by decide) (by decide) _).mono ?_); rintro e w' ⟨rfl, rfl⟩) | ((with_reducible apply csr_ld); (case ho => exact rfl); (case hgd => exact rfl); (case hx => exact rfl); (case hg => exact box31 _ _ _ _)) | ((with_reducible apply csr_st); (case ho => exact rfl); (case hgd => exact rfl); (case hx => exact rfl); (case hy => exact rfl); (case hg => exact box33 _ _ _ _)))
  refine row_back csrT rfl rfl rfl (set_row (box33 _ _ _ _)) (cV_size _) ⟨rfl, (HO.out _).row _ _ (by omega)⟩
set_option maxRecDepth 100000 in
set_option maxHeartbeats 1000000 in
theorem keep_835 (c e : Nat → BitVec 64) (p q : Bool) (v : BitVec 64) (w : World) : Calls Try.prog 37 #[.agg (cV c), .int .i64 835, .int .u64 (u v), .agg (eV e p q)] w fun r w' => r = .returned (.agg (cV (kp c e 835 v))) ∧ On w w' := by
  have hZ := fun w => csr_zero w
  have HO : Hid (∀ c', On w (((w.alloc (.cells (cV c') 25)).alloc (.cells (eV e p q) 27)).alloc (.cells (cV zC) 25))) := Lib.hid (fun _ => on3 _ _ _ _)
  have c10 := blk_cell (box31 w (.cells (cV c) 25) (.cells (eV e p q) 27) (.cells (cV zC) 25)) 10 (cV_get c 10 (by omega))
  have S := fun v => cV_set c 10 v
  have f10 := blk_free (box31 w (.cells (cV c) 25) (.cells (eV e p q) 27) (.cells (cV zC) 25)) 10
  go_enter Try.func37, Try.ntmps37
  go_wp2_with (first | (go_at_call 46; (first | refine (four_no _ _ (by decide) (by decide) _).mono ?_ | refine (four_yes _ _ (by decide) (by decide) (by decide) _).mono ?_); rintro e w' ⟨rfl, rfl⟩) | ((with_reducible apply csr_ld); (case ho => exact rfl); (case hgd => exact rfl); (case hx => exact rfl); (case hg => exact box31 _ _ _ _)) | ((with_reducible apply csr_st); (case ho => exact rfl); (case hgd => exact rfl); (case hx => exact rfl); (case hy => exact rfl); (case hg => exact box33 _ _ _ _)))
  refine row_back csrT rfl rfl rfl (set_row (box33 _ _ _ _)) (cV_size _) ⟨rfl, (HO.out _).row _ _ (by omega)⟩
set_option maxRecDepth 100000 in
set_option maxHeartbeats 1000000 in
theorem keep_323 (c e : Nat → BitVec 64) (p q : Bool) (v : BitVec 64) (w : World) : Calls Try.prog 37 #[.agg (cV c), .int .i64 323, .int .u64 (u v), .agg (eV e p q)] w fun r w' => r = .returned (.agg (cV (kp c e 323 v))) ∧ On w w' := by
  have hZ := fun w => csr_zero w
  have HO : Hid (∀ c', On w (((w.alloc (.cells (cV c') 25)).alloc (.cells (eV e p q) 27)).alloc (.cells (cV zC) 25))) := Lib.hid (fun _ => on3 _ _ _ _)
  have c16 := blk_cell (box31 w (.cells (cV c) 25) (.cells (eV e p q) 27) (.cells (cV zC) 25)) 16 (cV_get c 16 (by omega))
  have S := fun v => cV_set c 16 v
  have f16 := blk_free (box31 w (.cells (cV c) 25) (.cells (eV e p q) 27) (.cells (cV zC) 25)) 16
  go_enter Try.func37, Try.ntmps37
  go_wp2_with (first | (go_at_call 46; (first | refine (four_no _ _ (by decide) (by decide) _).mono ?_ | refine (four_yes _ _ (by decide) (by decide) (by decide) _).mono ?_); rintro e w' ⟨rfl, rfl⟩) | ((with_reducible apply csr_ld); (case ho => exact rfl); (case hgd => exact rfl); (case hx => exact rfl); (case hg => exact box31 _ _ _ _)) | ((with_reducible apply csr_st); (case ho => exact rfl); (case hgd => exact rfl); (case hx => exact rfl); (case hy => exact rfl); (case hg => exact box33 _ _ _ _)))
  refine row_back csrT rfl rfl rfl (set_row (box33 _ _ _ _)) (cV_size _) ⟨rfl, (HO.out _).row _ _ (by omega)⟩
set_option maxRecDepth 100000 in
set_option maxHeartbeats 1000000 in
theorem keep_833 (c e : Nat → BitVec 64) (p q : Bool) (v : BitVec 64) (w : World) : Calls Try.prog 37 #[.agg (cV c), .int .i64 833, .int .u64 (u v), .agg (eV e p q)] w fun r w' => r = .returned (.agg (cV (kp c e 833 v))) ∧ On w w' := by
  have hZ := fun w => csr_zero w
  have HO : Hid (∀ c', On w (((w.alloc (.cells (cV c') 25)).alloc (.cells (eV e p q) 27)).alloc (.cells (cV zC) 25))) := Lib.hid (fun _ => on3 _ _ _ _)
  have c8 := blk_cell (box31 w (.cells (cV c) 25) (.cells (eV e p q) 27) (.cells (cV zC) 25)) 8 (cV_get c 8 (by omega))
  have S := fun v => cV_set c 8 v
  have f8 := blk_free (box31 w (.cells (cV c) 25) (.cells (eV e p q) 27) (.cells (cV zC) 25)) 8
  have M : bits .andNot .u64 (u v) 3 = u (v &&& ~~~3#64) := u_andNot v 3#64
  go_enter Try.func37, Try.ntmps37
  go_wp2_with (first | (go_at_call 46; (first | refine (four_no _ _ (by decide) (by decide) _).mono ?_ | refine (four_yes _ _ (by decide) (by decide) (by decide) _).mono ?_); rintro e w' ⟨rfl, rfl⟩) | ((with_reducible apply csr_ld); (case ho => exact rfl); (case hgd => exact rfl); (case hx => exact rfl); (case hg => exact box31 _ _ _ _)) | ((with_reducible apply csr_st); (case ho => exact rfl); (case hgd => exact rfl); (case hx => exact rfl); (case hy => exact rfl); (case hg => exact box33 _ _ _ _)))
  refine row_back csrT rfl rfl rfl (set_row (box33 _ _ _ _)) (cV_size _) ⟨rfl, (HO.out _).row _ _ (by omega)⟩
set_option maxRecDepth 100000 in
set_option maxHeartbeats 1000000 in
theorem keep_321 (c e : Nat → BitVec 64) (p q : Bool) (v : BitVec 64) (w : World) : Calls Try.prog 37 #[.agg (cV c), .int .i64 321, .int .u64 (u v), .agg (eV e p q)] w fun r w' => r = .returned (.agg (cV (kp c e 321 v))) ∧ On w w' := by
  have hZ := fun w => csr_zero w
  have HO : Hid (∀ c', On w (((w.alloc (.cells (cV c') 25)).alloc (.cells (eV e p q) 27)).alloc (.cells (cV zC) 25))) := Lib.hid (fun _ => on3 _ _ _ _)
  have c14 := blk_cell (box31 w (.cells (cV c) 25) (.cells (eV e p q) 27) (.cells (cV zC) 25)) 14 (cV_get c 14 (by omega))
  have S := fun v => cV_set c 14 v
  have f14 := blk_free (box31 w (.cells (cV c) 25) (.cells (eV e p q) 27) (.cells (cV zC) 25)) 14
  have M : bits .andNot .u64 (u v) 3 = u (v &&& ~~~3#64) := u_andNot v 3#64
  go_enter Try.func37, Try.ntmps37
  go_wp2_with (first | (go_at_call 46; (first | refine (four_no _ _ (by decide) (by decide) _).mono ?_ | refine (four_yes _ _ (by decide) (by decide) (by decide) _).mono ?_); rintro e w' ⟨rfl, rfl⟩) | ((with_reducible apply csr_ld); (case ho => exact rfl); (case hgd => exact rfl); (case hx => exact rfl); (case hg => exact box31 _ _ _ _)) | ((with_reducible apply csr_st); (case ho => exact rfl); (case hgd => exact rfl); (case hx => exact rfl); (case hy => exact rfl); (case hg => exact box33 _ _ _ _)))
  refine row_back csrT rfl rfl rfl (set_row (box33 _ _ _ _)) (cV_size _) ⟨rfl, (HO.out _).row _ _ (by omega)⟩
set_option maxRecDepth 100000 in
set_option maxHeartbeats 1000000 in
theorem keep_834 (c e : Nat → BitVec 64) (p q : Bool) (v : BitVec 64) (w : World) : Calls Try.prog 37 #[.agg (cV c), .int .i64 834, .int .u64 (u v), .agg (eV e p q)] w fun r w' => r = .returned (.agg (cV (kp c e 834 v))) ∧ On w w' := by
  have hZ := fun w => csr_zero w
  have HO : Hid (∀ c', On w (((w.alloc (.cells (cV c') 25)).alloc (.cells (eV e p q) 27)).alloc (.cells (cV zC) 25))) := Lib.hid (fun _ => on3 _ _ _ _)
  have c9 := blk_cell (box31 w (.cells (cV c) 25) (.cells (eV e p q) 27) (.cells (cV zC) 25)) 9 (cV_get c 9 (by omega))
  have S := fun v => cV_set c 9 v
  have f9 := blk_free (box31 w (.cells (cV c) 25) (.cells (eV e p q) 27) (.cells (cV zC) 25)) 9
  have M : bits .and .u64 (u v) 9223372036854775871 = u (v &&& 9223372036854775871#64) := u_and v 9223372036854775871#64
  go_enter Try.func37, Try.ntmps37
  go_wp2_with (first | (go_at_call 46; (first | refine (four_no _ _ (by decide) (by decide) _).mono ?_ | refine (four_yes _ _ (by decide) (by decide) (by decide) _).mono ?_); rintro e w' ⟨rfl, rfl⟩) | ((with_reducible apply csr_ld); (case ho => exact rfl); (case hgd => exact rfl); (case hx => exact rfl); (case hg => exact box31 _ _ _ _)) | ((with_reducible apply csr_st); (case ho => exact rfl); (case hgd => exact rfl); (case hx => exact rfl); (case hy => exact rfl); (case hg => exact box33 _ _ _ _)))
  refine row_back csrT rfl rfl rfl (set_row (box33 _ _ _ _)) (cV_size _) ⟨rfl, (HO.out _).row _ _ (by omega)⟩
set_option maxRecDepth 100000 in
set_option maxHeartbeats 1000000 in
theorem keep_322 (c e : Nat → BitVec 64) (p q : Bool) (v : BitVec 64) (w : World) : Calls Try.prog 37 #[.agg (cV c), .int .i64 322, .int .u64 (u v), .agg (eV e p q)] w fun r w' => r = .returned (.agg (cV (kp c e 322 v))) ∧ On w w' := by
  have hZ := fun w => csr_zero w
  have HO : Hid (∀ c', On w (((w.alloc (.cells (cV c') 25)).alloc (.cells (eV e p q) 27)).alloc (.cells (cV zC) 25))) := Lib.hid (fun _ => on3 _ _ _ _)
  have c15 := blk_cell (box31 w (.cells (cV c) 25) (.cells (eV e p q) 27) (.cells (cV zC) 25)) 15 (cV_get c 15 (by omega))
  have S := fun v => cV_set c 15 v
  have f15 := blk_free (box31 w (.cells (cV c) 25) (.cells (eV e p q) 27) (.cells (cV zC) 25)) 15
  have M : bits .and .u64 (u v) 9223372036854775871 = u (v &&& 9223372036854775871#64) := u_and v 9223372036854775871#64
  go_enter Try.func37, Try.ntmps37
  go_wp2_with (first | (go_at_call 46; (first | refine (four_no _ _ (by decide) (by decide) _).mono ?_ | refine (four_yes _ _ (by decide) (by decide) (by decide) _).mono ?_); rintro e w' ⟨rfl, rfl⟩) | ((with_reducible apply csr_ld); (case ho => exact rfl); (case hgd => exact rfl); (case hx => exact rfl); (case hg => exact box31 _ _ _ _)) | ((with_reducible apply csr_st); (case ho => exact rfl); (case hgd => exact rfl); (case hx => exact rfl); (case hy => exact rfl); (case hg => exact box33 _ _ _ _)))
  refine row_back csrT rfl rfl rfl (set_row (box33 _ _ _ _)) (cV_size _) ⟨rfl, (HO.out _).row _ _ (by omega)⟩
set_option maxRecDepth 100000 in
set_option maxHeartbeats 1000000 in
theorem keep_384_0 (c e : Nat → BitVec 64) (p q : Bool) (v : BitVec 64) (h : v >>> 60 = 0#64) (w : World) : Calls Try.prog 37 #[.agg (cV c), .int .i64 384, .int .u64 (u v), .agg (eV e p q)] w fun r w' => r = .returned (.agg (cV (kp c e 384 v))) ∧ On w w' := by
  have hZ := fun w => csr_zero w
  have HO : Hid (∀ c', On w (((w.alloc (.cells (cV c') 25)).alloc (.cells (eV e p q) 27)).alloc (.cells (cV zC) 25))) := Lib.hid (fun _ => on3 _ _ _ _)
  have c17 := blk_cell (box31 w (.cells (cV c) 25) (.cells (eV e p q) 27) (.cells (cV zC) 25)) 17 (cV_get c 17 (by omega))
  have S := fun v => cV_set c 17 v
  have f17 := blk_free (box31 w (.cells (cV c) 25) (.cells (eV e p q) 27) (.cells (cV zC) 25)) 17
  have hv := u_nonneg v
  have hd : u v / (1152921504606846976 : Int) = u (v >>> 60) := by rw [← u_shr v 60, show (2 : Int) ^ 60 = (1152921504606846976 : Int) from by decide]
  rw [h, show u 0#64 = 0 from rfl] at hd
  have K : Hid (upd c 17 v = kp c e 384 v) := Lib.hid (by show _ = upd c 17 (ksa (c 17) v); unfold ksa; rw [if_pos (.inl h)])
  clear h
  go_enter Try.func37, Try.ntmps37
  go_wp2_with (first | (go_at_call 46; (first | refine (four_no _ _ (by decide) (by decide) _).mono ?_ | refine (four_yes _ _ (by decide) (by decide) (by decide) _).mono ?_); rintro e w' ⟨rfl, rfl⟩) | ((with_reducible apply csr_ld); (case ho => exact rfl); (case hgd => exact rfl); (case hx => exact rfl); (case hg => exact box31 _ _ _ _)) | ((with_reducible apply csr_st); (case ho => exact rfl); (case hgd => exact rfl); (case hx => exact rfl); (case hy => exact rfl); (case hg => exact box33 _ _ _ _)))
  refine row_back csrT rfl rfl rfl (set_row (box33 _ _ _ _)) (cV_size _) ⟨by rw [← K.out], (HO.out _).row _ _ (by omega)⟩
set_option maxRecDepth 100000 in
set_option maxHeartbeats 1000000 in
theorem keep_384_8 (c e : Nat → BitVec 64) (p q : Bool) (v : BitVec 64) (h : v >>> 60 = 8#64) (w : World) : Calls Try.prog 37 #[.agg (cV c), .int .i64 384, .int .u64 (u v), .agg (eV e p q)] w fun r w' => r = .returned (.agg (cV (kp c e 384 v))) ∧ On w w' := by
  have hZ := fun w => csr_zero w
  have HO : Hid (∀ c', On w (((w.alloc (.cells (cV c') 25)).alloc (.cells (eV e p q) 27)).alloc (.cells (cV zC) 25))) := Lib.hid (fun _ => on3 _ _ _ _)
  have c17 := blk_cell (box31 w (.cells (cV c) 25) (.cells (eV e p q) 27) (.cells (cV zC) 25)) 17 (cV_get c 17 (by omega))
  have S := fun v => cV_set c 17 v
  have f17 := blk_free (box31 w (.cells (cV c) 25) (.cells (eV e p q) 27) (.cells (cV zC) 25)) 17
  have hv := u_nonneg v
  have hd : u v / (1152921504606846976 : Int) = u (v >>> 60) := by rw [← u_shr v 60, show (2 : Int) ^ 60 = (1152921504606846976 : Int) from by decide]
  rw [h, show u 8#64 = 8 from rfl] at hd
  have K : Hid (upd c 17 v = kp c e 384 v) := Lib.hid (by show _ = upd c 17 (ksa (c 17) v); unfold ksa; rw [if_pos (.inr h)])
  clear h
  go_enter Try.func37, Try.ntmps37
  go_wp2_with (first | (go_at_call 46; (first | refine (four_no _ _ (by decide) (by decide) _).mono ?_ | refine (four_yes _ _ (by decide) (by decide) (by decide) _).mono ?_); rintro e w' ⟨rfl, rfl⟩) | ((with_reducible apply csr_ld); (case ho => exact rfl); (case hgd => exact rfl); (case hx => exact rfl); (case hg => exact box31 _ _ _ _)) | ((with_reducible apply csr_st); (case ho => exact rfl); (case hgd => exact rfl); (case hx => exact rfl); (case hy => exact rfl); (case hg => exact box33 _ _ _ _)))
  refine row_back csrT rfl rfl rfl (set_row (box33 _ _ _ _)) (cV_size _) ⟨by rw [← K.out], (HO.out _).row _ _ (by omega)⟩
set_option maxRecDepth 100000 in
set_option maxHeartbeats 1000000 in
theorem keep_384_x (c e : Nat → BitVec 64) (p q : Bool) (v : BitVec 64) (h0 : ¬ v >>> 60 = 0#64) (h8 : ¬ v >>> 60 = 8#64) (w : World) : Calls Try.prog 37 #[.agg (cV c), .int .i64 384, .int .u64 (u v), .agg (eV e p q)] w fun r w' => r = .returned (.agg (cV (kp c e 384 v))) ∧ On w w' := by
  have hZ := fun w => csr_zero w
  have HO : Hid (∀ c', On w (((w.alloc (.cells (cV c') 25)).alloc (.cells (eV e p q) 27)).alloc (.cells (cV zC) 25))) := Lib.hid (fun _ => on3 _ _ _ _)
  have c17 := blk_cell (box31 w (.cells (cV c) 25) (.cells (eV e p q) 27) (.cells (cV zC) 25)) 17 (cV_get c 17 (by omega))
  have S := fun v => cV_set c 17 v
  have f17 := blk_free (box31 w (.cells (cV c) 25) (.cells (eV e p q) 27) (.cells (cV zC) 25)) 17
  have hv := u_nonneg v
  have hd : u v / (1152921504606846976 : Int) = u (v >>> 60) := by rw [← u_shr v 60, show (2 : Int) ^ 60 = (1152921504606846976 : Int) from by decide]
  have K : Hid (c = kp c e 384 v) := Lib.hid (by show _ = upd c 17 (ksa (c 17) v); unfold ksa; rw [if_neg (by simp [h0, h8]), upd_id])
  have k0 : ¬ u (v >>> 60) = 0 := fun h => h0 (u_inj.1 (h.trans (show (0 : Int) = u 0#64 from rfl)))
  have k8 : ¬ u (v >>> 60) = 8 := fun h => h8 (u_inj.1 (h.trans (show (8 : Int) = u 8#64 from rfl)))
  clear h0 h8
  generalize u (v >>> 60) = d at *
  have g0 : (d == 0) = false := by simpa using k0
  have g8 : (d == 8) = false := by simpa using k8
  go_enter Try.func37, Try.ntmps37
  go_wp2_with (first | (go_at_call 46; (first | refine (four_no _ _ (by decide) (by decide) _).mono ?_ | refine (four_yes _ _ (by decide) (by decide) (by decide) _).mono ?_); rintro e w' ⟨rfl, rfl⟩) | ((with_reducible apply csr_ld); (case ho => exact rfl); (case hgd => exact rfl); (case hx => exact rfl); (case hg => exact box31 _ _ _ _)) | ((with_reducible apply csr_st); (case ho => exact rfl); (case hgd => exact rfl); (case hx => exact rfl); (case hy => exact rfl); (case hg => exact box33 _ _ _ _)))
  refine row_back csrT rfl rfl rfl (set_row (box33 _ _ _ _)) (cV_size _) ⟨by rw [← K.out], (HO.out _).row _ _ (by omega)⟩
theorem keep_384 (c e : Nat → BitVec 64) (p q : Bool) (v : BitVec 64) (w : World) : Calls Try.prog 37 #[.agg (cV c), .int .i64 384, .int .u64 (u v), .agg (eV e p q)] w fun r w' => r = .returned (.agg (cV (kp c e 384 v))) ∧ On w w' := by
  by_cases h0 : v >>> 60 = 0#64
  · exact keep_384_0 c e p q v h0 w
  · by_cases h8 : v >>> 60 = 8#64
    · exact keep_384_8 c e p q v h8 w
    · exact keep_384_x c e p q v h0 h8 w
set_option maxRecDepth 100000 in
set_option maxHeartbeats 1000000 in
theorem keep_2818 (c e : Nat → BitVec 64) (p q : Bool) (v : BitVec 64) (w : World) : Calls Try.prog 37 #[.agg (cV c), .int .i64 2818, .int .u64 (u v), .agg (eV e p q)] w fun r w' => r = .returned (.agg (cV (kp c e 2818 v))) ∧ On w w' := by
  have hZ := fun w => csr_zero w
  have HO : Hid (∀ c', On w (((w.alloc (.cells (cV c') 25)).alloc (.cells (eV e p q) 27)).alloc (.cells (cV zC) 25))) := Lib.hid (fun _ => on3 _ _ _ _)
  have c19 := blk_cell (box31 w (.cells (cV c) 25) (.cells (eV e p q) 27) (.cells (cV zC) 25)) 19 (cV_get c 19 (by omega))
  have S := fun v => cV_set c 19 v
  have f19 := blk_free (box31 w (.cells (cV c) 25) (.cells (eV e p q) 27) (.cells (cV zC) 25)) 19
  go_enter Try.func37, Try.ntmps37
  go_wp2_with (first | (go_at_call 46; (first | refine (four_no _ _ (by decide) (by decide) _).mono ?_ | refine (four_yes _ _ (by decide) (by decide) (by decide) _).mono ?_); rintro e w' ⟨rfl, rfl⟩) | ((with_reducible apply csr_ld); (case ho => exact rfl); (case hgd => exact rfl); (case hx => exact rfl); (case hg => exact box31 _ _ _ _)) | ((with_reducible apply csr_st); (case ho => exact rfl); (case hgd => exact rfl); (case hx => exact rfl); (case hy => exact rfl); (case hg => exact box33 _ _ _ _)))
  refine row_back csrT rfl rfl rfl (set_row (box33 _ _ _ _)) (cV_size _) ⟨rfl, (HO.out _).row _ _ (by omega)⟩
set_option maxRecDepth 100000 in
set_option maxHeartbeats 1000000 in
theorem keep_803_hi (c e : Nat → BitVec 64) (p q : Bool) (v : BitVec 64) (h : 5 < (v &&& 7#64).toNat) (w : World) : Calls Try.prog 37 #[.agg (cV c), .int .i64 803, .int .u64 (u v), .agg (eV e p q)] w fun r w' => r = .returned (.agg (cV (kp c e 803 v))) ∧ On w w' := by
  have hZ := fun w => csr_zero w
  have HO : Hid (∀ c', On w (((w.alloc (.cells (cV c') 25)).alloc (.cells (eV e p q) 27)).alloc (.cells (cV zC) 25))) := Lib.hid (fun _ => on3 _ _ _ _)
  have c22 := blk_cell (box31 w (.cells (cV c) 25) (.cells (eV e p q) 27) (.cells (cV zC) 25)) 22 (cV_get c 22 (by omega))
  have S := fun v => cV_set c 22 v
  have f22 := blk_free (box31 w (.cells (cV c) 25) (.cells (eV e p q) 27) (.cells (cV zC) 25)) 22
  have A : bits .and .u64 (u v) 7 = u (v &&& 7#64) := u_and v 7#64
  have G := fun c' => cV_get c' 22 (by omega)
  have S0 : ∀ c', (cV c').setIfInBounds 22 (.int .u64 0) = cV (upd c' 22 0#64) := fun c' => cV_set c' 22 0#64
  have F := fun c' : Nat → BitVec 64 => blk_free (box31 w (.cells (cV c') 25) (.cells (eV e p q) 27) (.cells (cV zC) 25)) 22
  have us := upd_self c 22 (v &&& 7#64)
  have T : (5 : Int) < u (v &&& 7#64) := by unfold u; omega
  have K : Hid (upd (upd c 22 (v &&& 7#64)) 22 0#64 = kp c e 803 v) := Lib.hid (by rw [upd_upd]; show _ = upd c 22 (kev v); unfold kev; rw [if_pos h])
  clear h
  go_enter Try.func37, Try.ntmps37
  go_wp2_with (first | (go_at_call 46; (first | refine (four_no _ _ (by decide) (by decide) _).mono ?_ | refine (four_yes _ _ (by decide) (by decide) (by decide) _).mono ?_); rintro e w' ⟨rfl, rfl⟩) | ((with_reducible apply csr_ld); (case ho => exact rfl); (case hgd => exact rfl); (case hx => exact rfl); (case hg => exact box31 _ _ _ _)) | ((with_reducible apply csr_st); (case ho => exact rfl); (case hgd => exact rfl); (case hx => exact rfl); (case hy => exact rfl); (case hg => exact box33 _ _ _ _)))
  refine row_back csrT rfl rfl rfl (set_row (box33 _ _ _ _)) (cV_size _) ⟨by rw [← K.out], (HO.out _).row _ _ (by omega)⟩
set_option maxRecDepth 100000 in
set_option maxHeartbeats 1000000 in
theorem keep_803_lo (c e : Nat → BitVec 64) (p q : Bool) (v : BitVec 64) (h : ¬ 5 < (v &&& 7#64).toNat) (w : World) : Calls Try.prog 37 #[.agg (cV c), .int .i64 803, .int .u64 (u v), .agg (eV e p q)] w fun r w' => r = .returned (.agg (cV (kp c e 803 v))) ∧ On w w' := by
  have hZ := fun w => csr_zero w
  have HO : Hid (∀ c', On w (((w.alloc (.cells (cV c') 25)).alloc (.cells (eV e p q) 27)).alloc (.cells (cV zC) 25))) := Lib.hid (fun _ => on3 _ _ _ _)
  have c22 := blk_cell (box31 w (.cells (cV c) 25) (.cells (eV e p q) 27) (.cells (cV zC) 25)) 22 (cV_get c 22 (by omega))
  have S := fun v => cV_set c 22 v
  have f22 := blk_free (box31 w (.cells (cV c) 25) (.cells (eV e p q) 27) (.cells (cV zC) 25)) 22
  have A : bits .and .u64 (u v) 7 = u (v &&& 7#64) := u_and v 7#64
  have G := fun c' => cV_get c' 22 (by omega)
  have S0 : ∀ c', (cV c').setIfInBounds 22 (.int .u64 0) = cV (upd c' 22 0#64) := fun c' => cV_set c' 22 0#64
  have F := fun c' : Nat → BitVec 64 => blk_free (box31 w (.cells (cV c') 25) (.cells (eV e p q) 27) (.cells (cV zC) 25)) 22
  have us := upd_self c 22 (v &&& 7#64)
  have T : ¬ (5 : Int) < u (v &&& 7#64) := by unfold u; omega
  have K : Hid (upd c 22 (v &&& 7#64) = kp c e 803 v) := Lib.hid (by show _ = upd c 22 (kev v); unfold kev; rw [if_neg h])
  clear h
  go_enter Try.func37, Try.ntmps37
  go_wp2_with (first | (go_at_call 46; (first | refine (four_no _ _ (by decide) (by decide) _).mono ?_ | refine (four_yes _ _ (by decide) (by decide) (by decide) _).mono ?_); rintro e w' ⟨rfl, rfl⟩) | ((with_reducible apply csr_ld); (case ho => exact rfl); (case hgd => exact rfl); (case hx => exact rfl); (case hg => exact box31 _ _ _ _)) | ((with_reducible apply csr_st); (case ho => exact rfl); (case hgd => exact rfl); (case hx => exact rfl); (case hy => exact rfl); (case hg => exact box33 _ _ _ _)))
  refine row_back csrT rfl rfl rfl (set_row (box33 _ _ _ _)) (cV_size _) ⟨by rw [← K.out], (HO.out _).row _ _ (by omega)⟩
theorem keep_803 (c e : Nat → BitVec 64) (p q : Bool) (v : BitVec 64) (w : World) : Calls Try.prog 37 #[.agg (cV c), .int .i64 803, .int .u64 (u v), .agg (eV e p q)] w fun r w' => r = .returned (.agg (cV (kp c e 803 v))) ∧ On w w' := by
  by_cases h : 5 < (v &&& 7#64).toNat
  · exact keep_803_hi c e p q v h w
  · exact keep_803_lo c e p q v h w
set_option maxRecDepth 100000 in
set_option maxHeartbeats 1000000 in
theorem keep_804_hi (c e : Nat → BitVec 64) (p q : Bool) (v : BitVec 64) (h : 5 < (v &&& 7#64).toNat) (w : World) : Calls Try.prog 37 #[.agg (cV c), .int .i64 804, .int .u64 (u v), .agg (eV e p q)] w fun r w' => r = .returned (.agg (cV (kp c e 804 v))) ∧ On w w' := by
  have hZ := fun w => csr_zero w
  have HO : Hid (∀ c', On w (((w.alloc (.cells (cV c') 25)).alloc (.cells (eV e p q) 27)).alloc (.cells (cV zC) 25))) := Lib.hid (fun _ => on3 _ _ _ _)
  have c23 := blk_cell (box31 w (.cells (cV c) 25) (.cells (eV e p q) 27) (.cells (cV zC) 25)) 23 (cV_get c 23 (by omega))
  have S := fun v => cV_set c 23 v
  have f23 := blk_free (box31 w (.cells (cV c) 25) (.cells (eV e p q) 27) (.cells (cV zC) 25)) 23
  have A : bits .and .u64 (u v) 7 = u (v &&& 7#64) := u_and v 7#64
  have G := fun c' => cV_get c' 23 (by omega)
  have S0 : ∀ c', (cV c').setIfInBounds 23 (.int .u64 0) = cV (upd c' 23 0#64) := fun c' => cV_set c' 23 0#64
  have F := fun c' : Nat → BitVec 64 => blk_free (box31 w (.cells (cV c') 25) (.cells (eV e p q) 27) (.cells (cV zC) 25)) 23
  have us := upd_self c 23 (v &&& 7#64)
  have T : (5 : Int) < u (v &&& 7#64) := by unfold u; omega
  have K : Hid (upd (upd c 23 (v &&& 7#64)) 23 0#64 = kp c e 804 v) := Lib.hid (by rw [upd_upd]; show _ = upd c 23 (kev v); unfold kev; rw [if_pos h])
  clear h
  go_enter Try.func37, Try.ntmps37
  go_wp2_with (first | (go_at_call 46; (first | refine (four_no _ _ (by decide) (by decide) _).mono ?_ | refine (four_yes _ _ (by decide) (by decide) (by decide) _).mono ?_); rintro e w' ⟨rfl, rfl⟩) | ((with_reducible apply csr_ld); (case ho => exact rfl); (case hgd => exact rfl); (case hx => exact rfl); (case hg => exact box31 _ _ _ _)) | ((with_reducible apply csr_st); (case ho => exact rfl); (case hgd => exact rfl); (case hx => exact rfl); (case hy => exact rfl); (case hg => exact box33 _ _ _ _)))
  refine row_back csrT rfl rfl rfl (set_row (box33 _ _ _ _)) (cV_size _) ⟨by rw [← K.out], (HO.out _).row _ _ (by omega)⟩
set_option maxRecDepth 100000 in
set_option maxHeartbeats 1000000 in
theorem keep_804_lo (c e : Nat → BitVec 64) (p q : Bool) (v : BitVec 64) (h : ¬ 5 < (v &&& 7#64).toNat) (w : World) : Calls Try.prog 37 #[.agg (cV c), .int .i64 804, .int .u64 (u v), .agg (eV e p q)] w fun r w' => r = .returned (.agg (cV (kp c e 804 v))) ∧ On w w' := by
  have hZ := fun w => csr_zero w
  have HO : Hid (∀ c', On w (((w.alloc (.cells (cV c') 25)).alloc (.cells (eV e p q) 27)).alloc (.cells (cV zC) 25))) := Lib.hid (fun _ => on3 _ _ _ _)
  have c23 := blk_cell (box31 w (.cells (cV c) 25) (.cells (eV e p q) 27) (.cells (cV zC) 25)) 23 (cV_get c 23 (by omega))
  have S := fun v => cV_set c 23 v
  have f23 := blk_free (box31 w (.cells (cV c) 25) (.cells (eV e p q) 27) (.cells (cV zC) 25)) 23
  have A : bits .and .u64 (u v) 7 = u (v &&& 7#64) := u_and v 7#64
  have G := fun c' => cV_get c' 23 (by omega)
  have S0 : ∀ c', (cV c').setIfInBounds 23 (.int .u64 0) = cV (upd c' 23 0#64) := fun c' => cV_set c' 23 0#64
  have F := fun c' : Nat → BitVec 64 => blk_free (box31 w (.cells (cV c') 25) (.cells (eV e p q) 27) (.cells (cV zC) 25)) 23
  have us := upd_self c 23 (v &&& 7#64)
  have T : ¬ (5 : Int) < u (v &&& 7#64) := by unfold u; omega
  have K : Hid (upd c 23 (v &&& 7#64) = kp c e 804 v) := Lib.hid (by show _ = upd c 23 (kev v); unfold kev; rw [if_neg h])
  clear h
  go_enter Try.func37, Try.ntmps37
  go_wp2_with (first | (go_at_call 46; (first | refine (four_no _ _ (by decide) (by decide) _).mono ?_ | refine (four_yes _ _ (by decide) (by decide) (by decide) _).mono ?_); rintro e w' ⟨rfl, rfl⟩) | ((with_reducible apply csr_ld); (case ho => exact rfl); (case hgd => exact rfl); (case hx => exact rfl); (case hg => exact box31 _ _ _ _)) | ((with_reducible apply csr_st); (case ho => exact rfl); (case hgd => exact rfl); (case hx => exact rfl); (case hy => exact rfl); (case hg => exact box33 _ _ _ _)))
  refine row_back csrT rfl rfl rfl (set_row (box33 _ _ _ _)) (cV_size _) ⟨by rw [← K.out], (HO.out _).row _ _ (by omega)⟩
theorem keep_804 (c e : Nat → BitVec 64) (p q : Bool) (v : BitVec 64) (w : World) : Calls Try.prog 37 #[.agg (cV c), .int .i64 804, .int .u64 (u v), .agg (eV e p q)] w fun r w' => r = .returned (.agg (cV (kp c e 804 v))) ∧ On w w' := by
  by_cases h : 5 < (v &&& 7#64).toNat
  · exact keep_804_hi c e p q v h w
  · exact keep_804_lo c e p q v h w
set_option maxRecDepth 100000 in
set_option maxHeartbeats 1000000 in
theorem keep_805_hi (c e : Nat → BitVec 64) (p q : Bool) (v : BitVec 64) (h : 5 < (v &&& 7#64).toNat) (w : World) : Calls Try.prog 37 #[.agg (cV c), .int .i64 805, .int .u64 (u v), .agg (eV e p q)] w fun r w' => r = .returned (.agg (cV (kp c e 805 v))) ∧ On w w' := by
  have hZ := fun w => csr_zero w
  have HO : Hid (∀ c', On w (((w.alloc (.cells (cV c') 25)).alloc (.cells (eV e p q) 27)).alloc (.cells (cV zC) 25))) := Lib.hid (fun _ => on3 _ _ _ _)
  have c24 := blk_cell (box31 w (.cells (cV c) 25) (.cells (eV e p q) 27) (.cells (cV zC) 25)) 24 (cV_get c 24 (by omega))
  have S := fun v => cV_set c 24 v
  have f24 := blk_free (box31 w (.cells (cV c) 25) (.cells (eV e p q) 27) (.cells (cV zC) 25)) 24
  have A : bits .and .u64 (u v) 7 = u (v &&& 7#64) := u_and v 7#64
  have G := fun c' => cV_get c' 24 (by omega)
  have S0 : ∀ c', (cV c').setIfInBounds 24 (.int .u64 0) = cV (upd c' 24 0#64) := fun c' => cV_set c' 24 0#64
  have F := fun c' : Nat → BitVec 64 => blk_free (box31 w (.cells (cV c') 25) (.cells (eV e p q) 27) (.cells (cV zC) 25)) 24
  have us := upd_self c 24 (v &&& 7#64)
  have T : (5 : Int) < u (v &&& 7#64) := by unfold u; omega
  have K : Hid (upd (upd c 24 (v &&& 7#64)) 24 0#64 = kp c e 805 v) := Lib.hid (by rw [upd_upd]; show _ = upd c 24 (kev v); unfold kev; rw [if_pos h])
  clear h
  go_enter Try.func37, Try.ntmps37
  go_wp2_with (first | (go_at_call 46; (first | refine (four_no _ _ (by decide) (by decide) _).mono ?_ | refine (four_yes _ _ (by decide) (by decide) (by decide) _).mono ?_); rintro e w' ⟨rfl, rfl⟩) | ((with_reducible apply csr_ld); (case ho => exact rfl); (case hgd => exact rfl); (case hx => exact rfl); (case hg => exact box31 _ _ _ _)) | ((with_reducible apply csr_st); (case ho => exact rfl); (case hgd => exact rfl); (case hx => exact rfl); (case hy => exact rfl); (case hg => exact box33 _ _ _ _)))
  refine row_back csrT rfl rfl rfl (set_row (box33 _ _ _ _)) (cV_size _) ⟨by rw [← K.out], (HO.out _).row _ _ (by omega)⟩
set_option maxRecDepth 100000 in
set_option maxHeartbeats 1000000 in
theorem keep_805_lo (c e : Nat → BitVec 64) (p q : Bool) (v : BitVec 64) (h : ¬ 5 < (v &&& 7#64).toNat) (w : World) : Calls Try.prog 37 #[.agg (cV c), .int .i64 805, .int .u64 (u v), .agg (eV e p q)] w fun r w' => r = .returned (.agg (cV (kp c e 805 v))) ∧ On w w' := by
  have hZ := fun w => csr_zero w
  have HO : Hid (∀ c', On w (((w.alloc (.cells (cV c') 25)).alloc (.cells (eV e p q) 27)).alloc (.cells (cV zC) 25))) := Lib.hid (fun _ => on3 _ _ _ _)
  have c24 := blk_cell (box31 w (.cells (cV c) 25) (.cells (eV e p q) 27) (.cells (cV zC) 25)) 24 (cV_get c 24 (by omega))
  have S := fun v => cV_set c 24 v
  have f24 := blk_free (box31 w (.cells (cV c) 25) (.cells (eV e p q) 27) (.cells (cV zC) 25)) 24
  have A : bits .and .u64 (u v) 7 = u (v &&& 7#64) := u_and v 7#64
  have G := fun c' => cV_get c' 24 (by omega)
  have S0 : ∀ c', (cV c').setIfInBounds 24 (.int .u64 0) = cV (upd c' 24 0#64) := fun c' => cV_set c' 24 0#64
  have F := fun c' : Nat → BitVec 64 => blk_free (box31 w (.cells (cV c') 25) (.cells (eV e p q) 27) (.cells (cV zC) 25)) 24
  have us := upd_self c 24 (v &&& 7#64)
  have T : ¬ (5 : Int) < u (v &&& 7#64) := by unfold u; omega
  have K : Hid (upd c 24 (v &&& 7#64) = kp c e 805 v) := Lib.hid (by show _ = upd c 24 (kev v); unfold kev; rw [if_neg h])
  clear h
  go_enter Try.func37, Try.ntmps37
  go_wp2_with (first | (go_at_call 46; (first | refine (four_no _ _ (by decide) (by decide) _).mono ?_ | refine (four_yes _ _ (by decide) (by decide) (by decide) _).mono ?_); rintro e w' ⟨rfl, rfl⟩) | ((with_reducible apply csr_ld); (case ho => exact rfl); (case hgd => exact rfl); (case hx => exact rfl); (case hg => exact box31 _ _ _ _)) | ((with_reducible apply csr_st); (case ho => exact rfl); (case hgd => exact rfl); (case hx => exact rfl); (case hy => exact rfl); (case hg => exact box33 _ _ _ _)))
  refine row_back csrT rfl rfl rfl (set_row (box33 _ _ _ _)) (cV_size _) ⟨by rw [← K.out], (HO.out _).row _ _ (by omega)⟩
theorem keep_805 (c e : Nat → BitVec 64) (p q : Bool) (v : BitVec 64) (w : World) : Calls Try.prog 37 #[.agg (cV c), .int .i64 805, .int .u64 (u v), .agg (eV e p q)] w fun r w' => r = .returned (.agg (cV (kp c e 805 v))) ∧ On w w' := by
  by_cases h : 5 < (v &&& 7#64).toNat
  · exact keep_805_hi c e p q v h w
  · exact keep_805_lo c e p q v h w
set_option maxRecDepth 100000 in
set_option maxHeartbeats 1000000 in
theorem keep_806_hi (c e : Nat → BitVec 64) (p q : Bool) (v : BitVec 64) (h : 5 < (v &&& 7#64).toNat) (w : World) : Calls Try.prog 37 #[.agg (cV c), .int .i64 806, .int .u64 (u v), .agg (eV e p q)] w fun r w' => r = .returned (.agg (cV (kp c e 806 v))) ∧ On w w' := by
  have hZ := fun w => csr_zero w
  have HO : Hid (∀ c', On w (((w.alloc (.cells (cV c') 25)).alloc (.cells (eV e p q) 27)).alloc (.cells (cV zC) 25))) := Lib.hid (fun _ => on3 _ _ _ _)
  have c25 := blk_cell (box31 w (.cells (cV c) 25) (.cells (eV e p q) 27) (.cells (cV zC) 25)) 25 (cV_get c 25 (by omega))
  have S := fun v => cV_set c 25 v
  have f25 := blk_free (box31 w (.cells (cV c) 25) (.cells (eV e p q) 27) (.cells (cV zC) 25)) 25
  have A : bits .and .u64 (u v) 7 = u (v &&& 7#64) := u_and v 7#64
  have G := fun c' => cV_get c' 25 (by omega)
  have S0 : ∀ c', (cV c').setIfInBounds 25 (.int .u64 0) = cV (upd c' 25 0#64) := fun c' => cV_set c' 25 0#64
  have F := fun c' : Nat → BitVec 64 => blk_free (box31 w (.cells (cV c') 25) (.cells (eV e p q) 27) (.cells (cV zC) 25)) 25
  have us := upd_self c 25 (v &&& 7#64)
  have T : (5 : Int) < u (v &&& 7#64) := by unfold u; omega
  have K : Hid (upd (upd c 25 (v &&& 7#64)) 25 0#64 = kp c e 806 v) := Lib.hid (by rw [upd_upd]; show _ = upd c 25 (kev v); unfold kev; rw [if_pos h])
  clear h
  go_enter Try.func37, Try.ntmps37
  go_wp2_with (first | (go_at_call 46; (first | refine (four_no _ _ (by decide) (by decide) _).mono ?_ | refine (four_yes _ _ (by decide) (by decide) (by decide) _).mono ?_); rintro e w' ⟨rfl, rfl⟩) | ((with_reducible apply csr_ld); (case ho => exact rfl); (case hgd => exact rfl); (case hx => exact rfl); (case hg => exact box31 _ _ _ _)) | ((with_reducible apply csr_st); (case ho => exact rfl); (case hgd => exact rfl); (case hx => exact rfl); (case hy => exact rfl); (case hg => exact box33 _ _ _ _)))
  refine row_back csrT rfl rfl rfl (set_row (box33 _ _ _ _)) (cV_size _) ⟨by rw [← K.out], (HO.out _).row _ _ (by omega)⟩
set_option maxRecDepth 100000 in
set_option maxHeartbeats 1000000 in
theorem keep_806_lo (c e : Nat → BitVec 64) (p q : Bool) (v : BitVec 64) (h : ¬ 5 < (v &&& 7#64).toNat) (w : World) : Calls Try.prog 37 #[.agg (cV c), .int .i64 806, .int .u64 (u v), .agg (eV e p q)] w fun r w' => r = .returned (.agg (cV (kp c e 806 v))) ∧ On w w' := by
  have hZ := fun w => csr_zero w
  have HO : Hid (∀ c', On w (((w.alloc (.cells (cV c') 25)).alloc (.cells (eV e p q) 27)).alloc (.cells (cV zC) 25))) := Lib.hid (fun _ => on3 _ _ _ _)
  have c25 := blk_cell (box31 w (.cells (cV c) 25) (.cells (eV e p q) 27) (.cells (cV zC) 25)) 25 (cV_get c 25 (by omega))
  have S := fun v => cV_set c 25 v
  have f25 := blk_free (box31 w (.cells (cV c) 25) (.cells (eV e p q) 27) (.cells (cV zC) 25)) 25
  have A : bits .and .u64 (u v) 7 = u (v &&& 7#64) := u_and v 7#64
  have G := fun c' => cV_get c' 25 (by omega)
  have S0 : ∀ c', (cV c').setIfInBounds 25 (.int .u64 0) = cV (upd c' 25 0#64) := fun c' => cV_set c' 25 0#64
  have F := fun c' : Nat → BitVec 64 => blk_free (box31 w (.cells (cV c') 25) (.cells (eV e p q) 27) (.cells (cV zC) 25)) 25
  have us := upd_self c 25 (v &&& 7#64)
  have T : ¬ (5 : Int) < u (v &&& 7#64) := by unfold u; omega
  have K : Hid (upd c 25 (v &&& 7#64) = kp c e 806 v) := Lib.hid (by show _ = upd c 25 (kev v); unfold kev; rw [if_neg h])
  clear h
  go_enter Try.func37, Try.ntmps37
  go_wp2_with (first | (go_at_call 46; (first | refine (four_no _ _ (by decide) (by decide) _).mono ?_ | refine (four_yes _ _ (by decide) (by decide) (by decide) _).mono ?_); rintro e w' ⟨rfl, rfl⟩) | ((with_reducible apply csr_ld); (case ho => exact rfl); (case hgd => exact rfl); (case hx => exact rfl); (case hg => exact box31 _ _ _ _)) | ((with_reducible apply csr_st); (case ho => exact rfl); (case hgd => exact rfl); (case hx => exact rfl); (case hy => exact rfl); (case hg => exact box33 _ _ _ _)))
  refine row_back csrT rfl rfl rfl (set_row (box33 _ _ _ _)) (cV_size _) ⟨by rw [← K.out], (HO.out _).row _ _ (by omega)⟩
theorem keep_806 (c e : Nat → BitVec 64) (p q : Bool) (v : BitVec 64) (w : World) : Calls Try.prog 37 #[.agg (cV c), .int .i64 806, .int .u64 (u v), .agg (eV e p q)] w fun r w' => r = .returned (.agg (cV (kp c e 806 v))) ∧ On w w' := by
  by_cases h : 5 < (v &&& 7#64).toNat
  · exact keep_806_hi c e p q v h w
  · exact keep_806_lo c e p q v h w
set_option maxRecDepth 100000 in
set_option maxHeartbeats 1000000 in
theorem keep_2819 (c e : Nat → BitVec 64) (p q : Bool) (v : BitVec 64) (w : World) : Calls Try.prog 37 #[.agg (cV c), .int .i64 2819, .int .u64 (u v), .agg (eV e p q)] w fun r w' => r = .returned (.agg (cV (kp c e 2819 v))) ∧ On w w' := by
  have hZ := fun w => csr_zero w
  have HO : Hid (∀ c', On w (((w.alloc (.cells (cV c') 25)).alloc (.cells (eV e p q) 27)).alloc (.cells (cV zC) 25))) := Lib.hid (fun _ => on3 _ _ _ _)
  have c26 := blk_cell (box31 w (.cells (cV c) 25) (.cells (eV e p q) 27) (.cells (cV zC) 25)) 26 (cV_get c 26 (by omega))
  have e3 := blk_cell (box32 w (.cells (cV c) 25) (.cells (eV e p q) 27) (.cells (cV zC) 25)) 3 (eV_get e p q 3 (by omega))
  have S := fun v => cV_set c 26 v
  have f26 := blk_free (box31 w (.cells (cV c) 25) (.cells (eV e p q) 27) (.cells (cV zC) 25)) 26
  have M : IntKind.u64.wrap (u v - u (e 3)) = u (v - e 3) := u_sub _ _
  go_enter Try.func37, Try.ntmps37
  go_wp2_with (first | (go_at_call 46; (first | refine (four_no _ _ (by decide) (by decide) _).mono ?_ | refine (four_yes _ _ (by decide) (by decide) (by decide) _).mono ?_); rintro e w' ⟨rfl, rfl⟩) | ((with_reducible apply csr_ld); (case ho => exact rfl); (case hgd => exact rfl); (case hx => exact rfl); (case hg => exact box31 _ _ _ _)) | ((with_reducible apply csr_st); (case ho => exact rfl); (case hgd => exact rfl); (case hx => exact rfl); (case hy => exact rfl); (case hg => exact box33 _ _ _ _)))
  refine row_back csrT rfl rfl rfl (set_row (box33 _ _ _ _)) (cV_size _) ⟨rfl, (HO.out _).row _ _ (by omega)⟩
set_option maxRecDepth 100000 in
set_option maxHeartbeats 1000000 in
theorem keep_2820 (c e : Nat → BitVec 64) (p q : Bool) (v : BitVec 64) (w : World) : Calls Try.prog 37 #[.agg (cV c), .int .i64 2820, .int .u64 (u v), .agg (eV e p q)] w fun r w' => r = .returned (.agg (cV (kp c e 2820 v))) ∧ On w w' := by
  have hZ := fun w => csr_zero w
  have HO : Hid (∀ c', On w (((w.alloc (.cells (cV c') 25)).alloc (.cells (eV e p q) 27)).alloc (.cells (cV zC) 25))) := Lib.hid (fun _ => on3 _ _ _ _)
  have c27 := blk_cell (box31 w (.cells (cV c) 25) (.cells (eV e p q) 27) (.cells (cV zC) 25)) 27 (cV_get c 27 (by omega))
  have e4 := blk_cell (box32 w (.cells (cV c) 25) (.cells (eV e p q) 27) (.cells (cV zC) 25)) 4 (eV_get e p q 4 (by omega))
  have S := fun v => cV_set c 27 v
  have f27 := blk_free (box31 w (.cells (cV c) 25) (.cells (eV e p q) 27) (.cells (cV zC) 25)) 27
  have M : IntKind.u64.wrap (u v - u (e 4)) = u (v - e 4) := u_sub _ _
  go_enter Try.func37, Try.ntmps37
  go_wp2_with (first | (go_at_call 46; (first | refine (four_no _ _ (by decide) (by decide) _).mono ?_ | refine (four_yes _ _ (by decide) (by decide) (by decide) _).mono ?_); rintro e w' ⟨rfl, rfl⟩) | ((with_reducible apply csr_ld); (case ho => exact rfl); (case hgd => exact rfl); (case hx => exact rfl); (case hg => exact box31 _ _ _ _)) | ((with_reducible apply csr_st); (case ho => exact rfl); (case hgd => exact rfl); (case hx => exact rfl); (case hy => exact rfl); (case hg => exact box33 _ _ _ _)))
  refine row_back csrT rfl rfl rfl (set_row (box33 _ _ _ _)) (cV_size _) ⟨rfl, (HO.out _).row _ _ (by omega)⟩
set_option maxRecDepth 100000 in
set_option maxHeartbeats 1000000 in
theorem keep_2821 (c e : Nat → BitVec 64) (p q : Bool) (v : BitVec 64) (w : World) : Calls Try.prog 37 #[.agg (cV c), .int .i64 2821, .int .u64 (u v), .agg (eV e p q)] w fun r w' => r = .returned (.agg (cV (kp c e 2821 v))) ∧ On w w' := by
  have hZ := fun w => csr_zero w
  have HO : Hid (∀ c', On w (((w.alloc (.cells (cV c') 25)).alloc (.cells (eV e p q) 27)).alloc (.cells (cV zC) 25))) := Lib.hid (fun _ => on3 _ _ _ _)
  have c28 := blk_cell (box31 w (.cells (cV c) 25) (.cells (eV e p q) 27) (.cells (cV zC) 25)) 28 (cV_get c 28 (by omega))
  have e5 := blk_cell (box32 w (.cells (cV c) 25) (.cells (eV e p q) 27) (.cells (cV zC) 25)) 5 (eV_get e p q 5 (by omega))
  have S := fun v => cV_set c 28 v
  have f28 := blk_free (box31 w (.cells (cV c) 25) (.cells (eV e p q) 27) (.cells (cV zC) 25)) 28
  have M : IntKind.u64.wrap (u v - u (e 5)) = u (v - e 5) := u_sub _ _
  go_enter Try.func37, Try.ntmps37
  go_wp2_with (first | (go_at_call 46; (first | refine (four_no _ _ (by decide) (by decide) _).mono ?_ | refine (four_yes _ _ (by decide) (by decide) (by decide) _).mono ?_); rintro e w' ⟨rfl, rfl⟩) | ((with_reducible apply csr_ld); (case ho => exact rfl); (case hgd => exact rfl); (case hx => exact rfl); (case hg => exact box31 _ _ _ _)) | ((with_reducible apply csr_st); (case ho => exact rfl); (case hgd => exact rfl); (case hx => exact rfl); (case hy => exact rfl); (case hg => exact box33 _ _ _ _)))
  refine row_back csrT rfl rfl rfl (set_row (box33 _ _ _ _)) (cV_size _) ⟨rfl, (HO.out _).row _ _ (by omega)⟩
set_option maxRecDepth 100000 in
set_option maxHeartbeats 1000000 in
theorem keep_2822 (c e : Nat → BitVec 64) (p q : Bool) (v : BitVec 64) (w : World) : Calls Try.prog 37 #[.agg (cV c), .int .i64 2822, .int .u64 (u v), .agg (eV e p q)] w fun r w' => r = .returned (.agg (cV (kp c e 2822 v))) ∧ On w w' := by
  have hZ := fun w => csr_zero w
  have HO : Hid (∀ c', On w (((w.alloc (.cells (cV c') 25)).alloc (.cells (eV e p q) 27)).alloc (.cells (cV zC) 25))) := Lib.hid (fun _ => on3 _ _ _ _)
  have c29 := blk_cell (box31 w (.cells (cV c) 25) (.cells (eV e p q) 27) (.cells (cV zC) 25)) 29 (cV_get c 29 (by omega))
  have e6 := blk_cell (box32 w (.cells (cV c) 25) (.cells (eV e p q) 27) (.cells (cV zC) 25)) 6 (eV_get e p q 6 (by omega))
  have S := fun v => cV_set c 29 v
  have f29 := blk_free (box31 w (.cells (cV c) 25) (.cells (eV e p q) 27) (.cells (cV zC) 25)) 29
  have M : IntKind.u64.wrap (u v - u (e 6)) = u (v - e 6) := u_sub _ _
  go_enter Try.func37, Try.ntmps37
  go_wp2_with (first | (go_at_call 46; (first | refine (four_no _ _ (by decide) (by decide) _).mono ?_ | refine (four_yes _ _ (by decide) (by decide) (by decide) _).mono ?_); rintro e w' ⟨rfl, rfl⟩) | ((with_reducible apply csr_ld); (case ho => exact rfl); (case hgd => exact rfl); (case hx => exact rfl); (case hg => exact box31 _ _ _ _)) | ((with_reducible apply csr_st); (case ho => exact rfl); (case hgd => exact rfl); (case hx => exact rfl); (case hy => exact rfl); (case hg => exact box33 _ _ _ _)))
  refine row_back csrT rfl rfl rfl (set_row (box33 _ _ _ _)) (cV_size _) ⟨rfl, (HO.out _).row _ _ (by omega)⟩
set_option maxRecDepth 100000 in
set_option maxHeartbeats 1000000 in
theorem keep_800 (c e : Nat → BitVec 64) (p q : Bool) (v : BitVec 64) (w : World) : Calls Try.prog 37 #[.agg (cV c), .int .i64 800, .int .u64 (u v), .agg (eV e p q)] w fun r w' => r = .returned (.agg (cV (kp c e 800 v))) ∧ On w w' := by
  have hZ := fun w => csr_zero w
  have S18 := fun c' => cV_set c' 18 (v &&& 125#64)
  have M : bits .and .u64 (u v) 125 = u (v &&& 125#64) := u_and v 125#64
  go_enter Try.func37, Try.ntmps37
  go_wp2_with (go_at_call 46; (first | refine (four_no _ _ (by decide) (by decide) _).mono ?_ | refine (four_yes _ _ (by decide) (by decide) (by decide) _).mono ?_); rintro e w' ⟨rfl, rfl⟩)
  refine wp_region_slots (by kernel_rfl) (fun i => (#[.agg (cV c), .agg (eV e p q), .int .u64 (u (cyc c e)), .pointer (some ⟨w.heap.size + 1, 0, none⟩), .int .u64 (u (e 0)), .pointer (some ⟨w.heap.size, 20, none⟩), undef, .pointer (some ⟨w.heap.size, 21, none⟩), undef] : Array Value).getD i undef) (InhAt w c e p q (v &&& 125#64) 6 8 100) (lex_of (by kernel_rfl)) (oneDst_of (by kernel_rfl)) (InhAt.start ..) ?done ?step
  case step =>
    intro i o hi hi13 l a wr hS hW hl haft
    have hi13 : i < 9 := hi13
    have h13 : i = 0 ∨ i = 1 ∨ i = 2 ∨ i = 3 ∨ i = 4 ∨ i = 5 ∨ i = 6 ∨ i = 7 ∨ i = 8 := by omega
    rcases h13 with rfl | rfl | rfl | rfl | rfl | rfl | rfl | rfl | rfl
    · obtain rfl := Option.some.inj hi
      refine wpOp_of hi rfl ?_
      exact wp_load_at rfl (hS.old (by kernel_rfl)) (csr_at (hW.c0 hl)) ⟨hS.put (oneDst_of (by kernel_rfl)) hi (fun _ => rfl), hW.step 0 (by omega) (by omega) (by omega) (On.refl _)⟩
    · obtain rfl := Option.some.inj hi
      refine wpOp_of hi rfl ?_
      exact wp_load_at rfl (hS.old (by kernel_rfl)) (env_at hW.env) ⟨hS.put (oneDst_of (by kernel_rfl)) hi (fun _ => rfl), hW.step 1 (by omega) (by omega) (by omega) (On.refl _)⟩
    · obtain rfl := Option.some.inj hi
      refine wpOp_of hi rfl ?_
      refine wp_call_at (vs := #[.agg (cV c), .agg (eV e p q)]) rfl ?_ rfl (rcyc_any c e p q wr) (fun w' h' => ⟨hS.put (oneDst_of (by kernel_rfl)) hi (fun _ => rfl), hW.step 2 (by omega) (by omega) (by omega) h'⟩)
      show [a.eval (.tmp 159), a.eval (.tmp 160)] = _
      rw [(hS.val (i := 0) rfl rfl (haft ⟨0, .data⟩ (by simp) rfl)), (hS.val (i := 1) rfl rfl (haft ⟨1, .data⟩ (by simp) rfl))]
      rfl
    · obtain rfl := Option.some.inj hi
      refine wpOp_of hi rfl ?_
      exact wp_field_at rfl (hS.old (by kernel_rfl)) (show _ = Result.ok (.pointer (some ⟨w.heap.size + 1, 0, none⟩)) wr by go_simp) ⟨hS.put (oneDst_of (by kernel_rfl)) hi (fun _ => rfl), hW.step 3 (by omega) (by omega) (by omega) (On.refl _)⟩
    · obtain rfl := Option.some.inj hi
      refine wpOp_of hi rfl ?_
      exact wp_load_at rfl (hS.val (i := 3) rfl rfl (haft ⟨3, .data⟩ (by simp) rfl)) (ld_word _ _ _ (blk_cell hW.env 0 (eV_get e p q 0 (by omega)))) ⟨hS.put (oneDst_of (by kernel_rfl)) hi (fun _ => rfl), hW.step 4 (by omega) (by omega) (by omega) (On.refl _)⟩
    · obtain rfl := Option.some.inj hi
      refine wpOp_of hi rfl ?_
      exact wp_field_at rfl (hS.old (by kernel_rfl)) (show _ = Result.ok (.pointer (some ⟨w.heap.size, 20, none⟩)) wr by go_simp) ⟨hS.put (oneDst_of (by kernel_rfl)) hi (fun _ => rfl), hW.step 5 (by omega) (by omega) (by omega) (On.refl _)⟩
    · obtain rfl := Option.some.inj hi
      refine wpOp_of hi rfl ?_
      obtain ⟨v0, hv0⟩ := hW.cell 20 (by omega)
      exact wp_store_at rfl (hS.val (i := 5) rfl rfl (haft ⟨5, .data⟩ (by simp) rfl)) (hS.val (i := 2) rfl rfl (haft ⟨2, .data⟩ (by simp) rfl)) (st_word _ _ _ _ hv0 (hW.free 20)) ⟨hS.put (oneDst_of (by kernel_rfl)) hi (fun _ => rfl), hW.st8 (by rw [hS.size]; decide) hl (haft ⟨0, .phase⟩ (by simp) rfl) (by omega) (by omega)⟩
    · obtain rfl := Option.some.inj hi
      refine wpOp_of hi rfl ?_
      exact wp_field_at rfl (hS.old (by kernel_rfl)) (show _ = Result.ok (.pointer (some ⟨w.heap.size, 21, none⟩)) wr by go_simp) ⟨hS.put (oneDst_of (by kernel_rfl)) hi (fun _ => rfl), hW.step 7 (by omega) (by omega) (by omega) (On.refl _)⟩
    · obtain rfl := Option.some.inj hi
      refine wpOp_of hi rfl ?_
      obtain ⟨v0, hv0⟩ := hW.cell 21 (by omega)
      exact wp_store_at rfl (hS.val (i := 7) rfl rfl (haft ⟨7, .data⟩ (by simp) rfl)) (hS.val (i := 4) rfl rfl (haft ⟨4, .data⟩ (by simp) rfl)) (st_word _ _ _ _ hv0 (hW.free 21)) ⟨hS.put (oneDst_of (by kernel_rfl)) hi (fun _ => rfl), hW.st10 (by rw [hS.size]; decide) hl (haft ⟨0, .phase⟩ (by simp) rfl) (by omega) (by omega)⟩
  case done =>
    intro wr hW
    have hb : wr.heap[w.heap.size]? = some (.cells (cV (upd (upd c 20 (cyc c e)) 21 (e 0))) 25 (0, 0)) := hW.blk
    have hr := hW.res
    have ho := Lib.hid hW.on
    clear hW
    simp only [puts]
    go_simp
    have c18 := blk_cell hb 18 (cV_get _ 18 (by omega))
    have f18 := blk_free hb 18
    go_wp2_with (first | ((with_reducible apply csr_ld); (case ho => exact rfl); (case hgd => exact rfl); (case hx => exact rfl); (case hg => exact blk_upd hb 18 (v &&& 125#64))) | ((with_reducible apply csr_st); (case ho => exact rfl); (case hgd => exact rfl); (case hx => exact rfl); (case hy => exact rfl); (case hg => exact blk_other hr (by omega))))
    refine row_back csrT rfl rfl rfl (set_row (blk_other hr (by omega))) (cV_size _) ⟨rfl, (ho.out.set _ _ (Nat.le_refl _)).row _ _ (by omega)⟩
set_option maxRecDepth 100000 in
set_option maxHeartbeats 1000000 in
theorem keep_2816 (c e : Nat → BitVec 64) (p q : Bool) (v : BitVec 64) (w : World) : Calls Try.prog 37 #[.agg (cV c), .int .i64 2816, .int .u64 (u v), .agg (eV e p q)] w fun r w' => r = .returned (.agg (cV (kp c e 2816 v))) ∧ On w w' := by
  have hZ := fun w => csr_zero w
  have HO : Hid (∀ c', On w (((w.alloc (.cells (cV c') 25)).alloc (.cells (eV e p q) 27)).alloc (.cells (cV zC) 25))) := Lib.hid (fun _ => on3 _ _ _ _)
  have S20 := fun c v => cV_set c 20 v
  have S21 := fun c v => cV_set c 21 v
  have E0 := eV_get e p q 0 (by omega)
  have G20 := fun c' => cV_get c' 20 (by omega)
  have G21 := fun c' => cV_get c' 21 (by omega)
  have f20 := fun c' : Nat → BitVec 64 => blk_free (box31 w (.cells (cV c') 25) (.cells (eV e p q) 27) (.cells (cV zC) 25)) 20
  have f21 := fun c' : Nat → BitVec 64 => blk_free (box31 w (.cells (cV c') 25) (.cells (eV e p q) 27) (.cells (cV zC) 25)) 21
  go_enter Try.func37, Try.ntmps37
  go_wp2_with (go_at_call 46; (first | refine (four_no _ _ (by decide) (by decide) _).mono ?_ | refine (four_yes _ _ (by decide) (by decide) (by decide) _).mono ?_); rintro e w' ⟨rfl, rfl⟩)
  go_region
  clear S20 S21 E0 G20 G21 f20 f21
  go_wp2_with (first | ((with_reducible apply csr_ld); (case ho => exact rfl); (case hgd => exact rfl); (case hx => exact rfl); (case hg => exact box31 _ _ _ _)) | ((with_reducible apply csr_st); (case ho => exact rfl); (case hgd => exact rfl); (case hx => exact rfl); (case hy => exact rfl); (case hg => exact box33 _ _ _ _)))
  refine row_back csrT rfl rfl rfl (set_row (box33 _ _ _ _)) (cV_size _) ⟨rfl, (HO.out _).drew.row _ _ (by omega)⟩
theorem keep_any (c e : Nat → BitVec 64) (p q : Bool) (n : Int) (h : ex n = true) (hr : ron n = false) (v : BitVec 64) (w : World) : Calls Try.prog 37 #[.agg (cV c), .int .i64 n, .int .u64 (u v), .agg (eV e p q)] w fun r w' => r = .returned (.agg (cV (kp c e n v))) ∧ On w w' := by
  rcases wr_cases h hr with rfl | rfl | rfl | rfl | rfl | rfl | rfl | rfl | rfl | rfl | rfl | rfl | rfl | rfl | rfl | rfl | rfl | rfl | rfl | rfl | rfl | rfl | rfl | rfl | rfl | rfl | rfl | rfl | rfl | rfl | rfl | rfl | rfl
  · exact keep_768 c e p q v w
  · exact keep_256 c e p q v w
  · exact keep_769 c e p q v w
  · exact keep_770 c e p q v w
  · exact keep_771 c e p q v w
  · exact keep_772 c e p q v w
  · exact keep_260 c e p q v w
  · exact keep_836 c e p q v w
  · exact keep_324 c e p q v w
  · exact keep_773 c e p q v w
  · exact keep_261 c e p q v w
  · exact keep_774 c e p q v w
  · exact keep_262 c e p q v w
  · exact keep_800 c e p q v w
  · exact keep_832 c e p q v w
  · exact keep_320 c e p q v w
  · exact keep_835 c e p q v w
  · exact keep_323 c e p q v w
  · exact keep_833 c e p q v w
  · exact keep_321 c e p q v w
  · exact keep_834 c e p q v w
  · exact keep_322 c e p q v w
  · exact keep_384 c e p q v w
  · exact keep_2816 c e p q v w
  · exact keep_2818 c e p q v w
  · exact keep_803 c e p q v w
  · exact keep_804 c e p q v w
  · exact keep_805 c e p q v w
  · exact keep_806 c e p q v w
  · exact keep_2819 c e p q v w
  · exact keep_2820 c e p q v w
  · exact keep_2821 c e p q v w
  · exact keep_2822 c e p q v w
end Go.Proofs.Ytoobbapdjoajgaa
