/- Traps on a hart: what package trap makes of it. Conditions: named at each. -/
import Derived.Test.YtleolldgpoeabaaTrapP
namespace Go.Proofs.Ytleolldgpoeabaa
open Go.RowKit
theorem hset_row {w : World} {g : Nat} {h h' : Nat → BitVec 64} {p p' : Int} {r r' : Bool} {t : TypeId} (k : w.heap[g]? = some (.cells (hV h' p' r') t (0, 0))) : (w.setRow g (hV h p r)).heap[g]? = some (.cells (hV h p r) t (0, 0)) := setRow_heap _ _ _ _ _ _ k

set_option maxRecDepth 100000 in
set_option maxHeartbeats 1000000 in
theorem rel_any (h : Nat → BitVec 64) (p : Int) (r : Bool) (w : World) : Calls Try.prog 29 #[.agg (hV h p r)] w fun e w' => e = .returned (.agg (hV (upd h 65 0#64) p false)) ∧ On w w' := by
  have hZ := fun w => hrt_zero w
  have HO : Hid (∀ h' p' r', On w ((w.alloc (.cells (hV h' p' r') 28)).alloc (.cells (hV zC 0 false) 28))) := Lib.hid (fun _ _ _ => ((On.refl w).alloc _).alloc _)
  have c65 := fun (h' : Nat → BitVec 64) (p' : Int) (r' : Bool) => blk_cell (box1 w (.cells (hV h' p' r') 28) (.cells (hV zC 0 false) 28)) 65 (hV_get h' p' r' 65 (by omega) (by omega) (by omega))
  have cP := fun (h' : Nat → BitVec 64) (p' : Int) (r' : Bool) => blk_cell (box1 w (.cells (hV h' p' r') 28) (.cells (hV zC 0 false) 28)) 1 (hV_priv h' p' r')
  have SR := fun h p r v => hV_setr h p r v
  have GR := fun h p r => hV_res h p r
  have f64 := fun (h' : Nat → BitVec 64) (p' : Int) (r' : Bool) => blk_free (box1 w (.cells (hV h' p' r') 28) (.cells (hV zC 0 false) 28)) 64
  have G65 := fun h p r => hV_get h p r 65 (by omega) (by omega) (by omega)
  have S65 := fun h p r v => hV_set h p r 65 v (by omega) (by omega)
  have f65 := fun (h' : Nat → BitVec 64) (p' : Int) (r' : Bool) => blk_free (box1 w (.cells (hV h' p' r') 28) (.cells (hV zC 0 false) 28)) 65
  have U65 := fun h v => upd_self h 65 v
  have Z : ∀ (h : Nat → BitVec 64) (p : Int) (r : Bool), (hV h p r).setIfInBounds 65 (.int .u64 0) = hV (upd h 65 0#64) p r := fun h p r => hV_set h p r 65 0#64 (by omega) (by omega)
  go_enter Try.func29, Try.ntmps29
  go_wp2_with (first | ((with_reducible apply hrt_ld); (case ho => exact rfl); (case hgd => exact rfl); (case hx => exact rfl); (case hg => exact box1 _ _ _)) | ((with_reducible apply hrt_st); (case ho => exact rfl); (case hgd => exact rfl); (case hx => exact rfl); (case hy => exact rfl); (case hg => exact box2 _ _ _)))
  refine row_back hrtT rfl rfl rfl (hset_row (box2 _ _ _)) (hV_size ..) ⟨rfl, (HO.out _ _ _).row _ _ (by omega)⟩
set_option maxRecDepth 100000 in
set_option maxHeartbeats 1000000 in
theorem entS_any (h : Nat → BitVec 64) (p : Int) (r : Bool) (c t : BitVec 64) (w : World) : Calls Try.prog 30 #[.agg (hV h p r), .int .u64 (u c), .int .u64 (u t)] w fun e w' => e = .returned (.agg (hV (entS h p c t) 1 r)) ∧ On w w' := by
  have hZ := fun w => hrt_zero w
  have HO : Hid (∀ h' p' r', On w ((w.alloc (.cells (hV h' p' r') 28)).alloc (.cells (hV zC 0 false) 28))) := Lib.hid (fun _ _ _ => ((On.refl w).alloc _).alloc _)
  have c0 := fun (h' : Nat → BitVec 64) (p' : Int) (r' : Bool) => blk_cell (box1 w (.cells (hV h' p' r') 28) (.cells (hV zC 0 false) 28)) 0 (hV_get h' p' r' 0 (by omega) (by omega) (by omega))
  have c34 := fun (h' : Nat → BitVec 64) (p' : Int) (r' : Bool) => blk_cell (box1 w (.cells (hV h' p' r') 28) (.cells (hV zC 0 false) 28)) 34 (hV_get h' p' r' 34 (by omega) (by omega) (by omega))
  have c45 := fun (h' : Nat → BitVec 64) (p' : Int) (r' : Bool) => blk_cell (box1 w (.cells (hV h' p' r') 28) (.cells (hV zC 0 false) 28)) 45 (hV_get h' p' r' 45 (by omega) (by omega) (by omega))
  have cP := fun (h' : Nat → BitVec 64) (p' : Int) (r' : Bool) => blk_cell (box1 w (.cells (hV h' p' r') 28) (.cells (hV zC 0 false) 28)) 1 (hV_priv h' p' r')
  have G0 := fun h p r => hV_get h p r 0 (by omega) (by omega) (by omega)
  have S0 := fun h p r v => hV_set h p r 0 v (by omega) (by omega)
  have f0 := fun (h' : Nat → BitVec 64) (p' : Int) (r' : Bool) => blk_free (box1 w (.cells (hV h' p' r') 28) (.cells (hV zC 0 false) 28)) 0
  have U0 := fun h v => upd_self h 0 v
  have SP := fun h p r v => hV_setp h p r v
  have GP := fun h p r => hV_priv h p r
  have f1 := fun (h' : Nat → BitVec 64) (p' : Int) (r' : Bool) => blk_free (box1 w (.cells (hV h' p' r') 28) (.cells (hV zC 0 false) 28)) 1
  have G34 := fun h p r => hV_get h p r 34 (by omega) (by omega) (by omega)
  have S34 := fun h p r v => hV_set h p r 34 v (by omega) (by omega)
  have f34 := fun (h' : Nat → BitVec 64) (p' : Int) (r' : Bool) => blk_free (box1 w (.cells (hV h' p' r') 28) (.cells (hV zC 0 false) 28)) 34
  have U34 := fun h v => upd_self h 34 v
  have G49 := fun h p r => hV_get h p r 49 (by omega) (by omega) (by omega)
  have S49 := fun h p r v => hV_set h p r 49 v (by omega) (by omega)
  have f49 := fun (h' : Nat → BitVec 64) (p' : Int) (r' : Bool) => blk_free (box1 w (.cells (hV h' p' r') 28) (.cells (hV zC 0 false) 28)) 49
  have U49 := fun h v => upd_self h 49 v
  have G48 := fun h p r => hV_get h p r 48 (by omega) (by omega) (by omega)
  have S48 := fun h p r v => hV_set h p r 48 v (by omega) (by omega)
  have f48 := fun (h' : Nat → BitVec 64) (p' : Int) (r' : Bool) => blk_free (box1 w (.cells (hV h' p' r') 28) (.cells (hV zC 0 false) 28)) 48
  have U48 := fun h v => upd_self h 48 v
  have G50 := fun h p r => hV_get h p r 50 (by omega) (by omega) (by omega)
  have S50 := fun h p r v => hV_set h p r 50 v (by omega) (by omega)
  have f50 := fun (h' : Nat → BitVec 64) (p' : Int) (r' : Bool) => blk_free (box1 w (.cells (hV h' p' r') 28) (.cells (hV zC 0 false) 28)) 50
  have U50 := fun h v => upd_self h 50 v
  have N0_34 := fun h v => upd_ne h (i := 0) (j := 34) v (by omega)
  have N0_45 := fun h v => upd_ne h (i := 0) (j := 45) v (by omega)
  have N34_0 := fun h v => upd_ne h (i := 34) (j := 0) v (by omega)
  have N34_45 := fun h v => upd_ne h (i := 34) (j := 45) v (by omega)
  have N49_0 := fun h v => upd_ne h (i := 49) (j := 0) v (by omega)
  have N49_34 := fun h v => upd_ne h (i := 49) (j := 34) v (by omega)
  have N49_45 := fun h v => upd_ne h (i := 49) (j := 45) v (by omega)
  have N48_0 := fun h v => upd_ne h (i := 48) (j := 0) v (by omega)
  have N48_34 := fun h v => upd_ne h (i := 48) (j := 34) v (by omega)
  have N48_45 := fun h v => upd_ne h (i := 48) (j := 45) v (by omega)
  have N50_0 := fun h v => upd_ne h (i := 50) (j := 0) v (by omega)
  have N50_34 := fun h v => upd_ne h (i := 50) (j := 34) v (by omega)
  have N50_45 := fun h v => upd_ne h (i := 50) (j := 45) v (by omega)
  have A : bits .andNot .u64 (u (h 0)) 3 = u (h 0 &&& ~~~3#64) := u_andNot (h 0) 3#64
  have K1 : Hid (∀ (v : BitVec 64) w, Calls Try.prog 34 #[.int .u64 (u v), .int .u64 32, .int .u64 2] w fun e w' => e = .returned (.int .u64 (u (movB v 32#64 2#64))) ∧ w = w') := Lib.hid (fun v w => mov_any v 32#64 2#64 w)
  have K2 : Hid (∀ (v : BitVec 64) w, Calls Try.prog 35 #[.int .u64 (u v), .int .u64 2, .bool false] w fun e w' => e = .returned (.int .u64 (u (putB v 2#64 false))) ∧ w = w') := Lib.hid (fun v w => putb_any v 2#64 false w)
  have K3 : Hid (∀ (v : BitVec 64) on w, Calls Try.prog 35 #[.int .u64 (u v), .int .u64 256, .bool on] w fun e w' => e = .returned (.int .u64 (u (putB v 256#64 on))) ∧ w = w') := Lib.hid (fun v on w => putb_any v 256#64 on w)
  go_enter Try.func30, Try.ntmps30
  go_wp2_with (first | ((with_reducible apply hrt_ld); (case ho => exact rfl); (case hgd => exact rfl); (case hx => exact rfl); (case hg => exact box1 _ _ _)) | ((with_reducible apply hrt_st); (case ho => exact rfl); (case hgd => exact rfl); (case hx => exact rfl); (case hy => exact rfl); (case hg => exact box2 _ _ _)))
  go_at_call 34; refine (K1.out _ _).mono ?_; rintro _ _ ⟨rfl, rfl⟩
  go_wp2_with (first | ((with_reducible apply hrt_ld); (case ho => exact rfl); (case hgd => exact rfl); (case hx => exact rfl); (case hg => exact box1 _ _ _)) | ((with_reducible apply hrt_st); (case ho => exact rfl); (case hgd => exact rfl); (case hx => exact rfl); (case hy => exact rfl); (case hg => exact box2 _ _ _)))
  go_at_call 35; refine (K2.out _ _).mono ?_; rintro _ _ ⟨rfl, rfl⟩
  go_wp2_with (first | ((with_reducible apply hrt_ld); (case ho => exact rfl); (case hgd => exact rfl); (case hx => exact rfl); (case hg => exact box1 _ _ _)) | ((with_reducible apply hrt_st); (case ho => exact rfl); (case hgd => exact rfl); (case hx => exact rfl); (case hy => exact rfl); (case hg => exact box2 _ _ _)))
  go_at_call 35; refine (K3.out _ _ _).mono ?_; rintro _ _ ⟨rfl, rfl⟩
  go_wp2_with (first | ((with_reducible apply hrt_ld); (case ho => exact rfl); (case hgd => exact rfl); (case hx => exact rfl); (case hg => exact box1 _ _ _)) | ((with_reducible apply hrt_st); (case ho => exact rfl); (case hgd => exact rfl); (case hx => exact rfl); (case hy => exact rfl); (case hg => exact box2 _ _ _)))
  go_at_call 43; refine (hdl_any _ _ _).mono ?_; rintro _ _ ⟨rfl, rfl⟩
  go_wp2_with (first | ((with_reducible apply hrt_ld); (case ho => exact rfl); (case hgd => exact rfl); (case hx => exact rfl); (case hg => exact box1 _ _ _)) | ((with_reducible apply hrt_st); (case ho => exact rfl); (case hgd => exact rfl); (case hx => exact rfl); (case hy => exact rfl); (case hg => exact box2 _ _ _)))
  have E : Hid (upd (upd (upd (upd (upd (upd (upd h 49 c) 48 (h 0 &&& ~~~3#64)) 50 t) 34 (movB (h 34) 32#64 2#64)) 34 (putB (movB (h 34) 32#64 2#64) 2#64 false)) 34 (putB (putB (movB (h 34) 32#64 2#64) 2#64 false) 256#64 (p == 1))) 0 (hdl (h 45) c) = entS h p c t) := Lib.hid (by unfold entS stS; rw [upd_upd, upd_upd])
  refine row_back hrtT rfl rfl rfl (hset_row (box2 _ _ _)) (hV_size ..) ⟨by rw [← E.out]; rfl, (HO.out _ _ _).row _ _ (by omega)⟩
set_option maxRecDepth 100000 in
set_option maxHeartbeats 1000000 in
theorem entM_any (h : Nat → BitVec 64) (p : Int) (r : Bool) (c t : BitVec 64) (w : World) : Calls Try.prog 31 #[.agg (hV h p r), .int .u64 (u c), .int .u64 (u t)] w fun e w' => e = .returned (.agg (hV (entM h p c t) 3 r)) ∧ On w w' := by
  have hZ := fun w => hrt_zero w
  have HO : Hid (∀ h' p' r', On w ((w.alloc (.cells (hV h' p' r') 28)).alloc (.cells (hV zC 0 false) 28))) := Lib.hid (fun _ _ _ => ((On.refl w).alloc _).alloc _)
  have c0 := fun (h' : Nat → BitVec 64) (p' : Int) (r' : Bool) => blk_cell (box1 w (.cells (hV h' p' r') 28) (.cells (hV zC 0 false) 28)) 0 (hV_get h' p' r' 0 (by omega) (by omega) (by omega))
  have c34 := fun (h' : Nat → BitVec 64) (p' : Int) (r' : Bool) => blk_cell (box1 w (.cells (hV h' p' r') 28) (.cells (hV zC 0 false) 28)) 34 (hV_get h' p' r' 34 (by omega) (by omega) (by omega))
  have c39 := fun (h' : Nat → BitVec 64) (p' : Int) (r' : Bool) => blk_cell (box1 w (.cells (hV h' p' r') 28) (.cells (hV zC 0 false) 28)) 39 (hV_get h' p' r' 39 (by omega) (by omega) (by omega))
  have cP := fun (h' : Nat → BitVec 64) (p' : Int) (r' : Bool) => blk_cell (box1 w (.cells (hV h' p' r') 28) (.cells (hV zC 0 false) 28)) 1 (hV_priv h' p' r')
  have G0 := fun h p r => hV_get h p r 0 (by omega) (by omega) (by omega)
  have S0 := fun h p r v => hV_set h p r 0 v (by omega) (by omega)
  have f0 := fun (h' : Nat → BitVec 64) (p' : Int) (r' : Bool) => blk_free (box1 w (.cells (hV h' p' r') 28) (.cells (hV zC 0 false) 28)) 0
  have U0 := fun h v => upd_self h 0 v
  have SP := fun h p r v => hV_setp h p r v
  have GP := fun h p r => hV_priv h p r
  have f1 := fun (h' : Nat → BitVec 64) (p' : Int) (r' : Bool) => blk_free (box1 w (.cells (hV h' p' r') 28) (.cells (hV zC 0 false) 28)) 1
  have G34 := fun h p r => hV_get h p r 34 (by omega) (by omega) (by omega)
  have S34 := fun h p r v => hV_set h p r 34 v (by omega) (by omega)
  have f34 := fun (h' : Nat → BitVec 64) (p' : Int) (r' : Bool) => blk_free (box1 w (.cells (hV h' p' r') 28) (.cells (hV zC 0 false) 28)) 34
  have U34 := fun h v => upd_self h 34 v
  have G43 := fun h p r => hV_get h p r 43 (by omega) (by omega) (by omega)
  have S43 := fun h p r v => hV_set h p r 43 v (by omega) (by omega)
  have f43 := fun (h' : Nat → BitVec 64) (p' : Int) (r' : Bool) => blk_free (box1 w (.cells (hV h' p' r') 28) (.cells (hV zC 0 false) 28)) 43
  have U43 := fun h v => upd_self h 43 v
  have G42 := fun h p r => hV_get h p r 42 (by omega) (by omega) (by omega)
  have S42 := fun h p r v => hV_set h p r 42 v (by omega) (by omega)
  have f42 := fun (h' : Nat → BitVec 64) (p' : Int) (r' : Bool) => blk_free (box1 w (.cells (hV h' p' r') 28) (.cells (hV zC 0 false) 28)) 42
  have U42 := fun h v => upd_self h 42 v
  have G44 := fun h p r => hV_get h p r 44 (by omega) (by omega) (by omega)
  have S44 := fun h p r v => hV_set h p r 44 v (by omega) (by omega)
  have f44 := fun (h' : Nat → BitVec 64) (p' : Int) (r' : Bool) => blk_free (box1 w (.cells (hV h' p' r') 28) (.cells (hV zC 0 false) 28)) 44
  have U44 := fun h v => upd_self h 44 v
  have N0_34 := fun h v => upd_ne h (i := 0) (j := 34) v (by omega)
  have N0_39 := fun h v => upd_ne h (i := 0) (j := 39) v (by omega)
  have N34_0 := fun h v => upd_ne h (i := 34) (j := 0) v (by omega)
  have N34_39 := fun h v => upd_ne h (i := 34) (j := 39) v (by omega)
  have N43_0 := fun h v => upd_ne h (i := 43) (j := 0) v (by omega)
  have N43_34 := fun h v => upd_ne h (i := 43) (j := 34) v (by omega)
  have N43_39 := fun h v => upd_ne h (i := 43) (j := 39) v (by omega)
  have N42_0 := fun h v => upd_ne h (i := 42) (j := 0) v (by omega)
  have N42_34 := fun h v => upd_ne h (i := 42) (j := 34) v (by omega)
  have N42_39 := fun h v => upd_ne h (i := 42) (j := 39) v (by omega)
  have N44_0 := fun h v => upd_ne h (i := 44) (j := 0) v (by omega)
  have N44_34 := fun h v => upd_ne h (i := 44) (j := 34) v (by omega)
  have N44_39 := fun h v => upd_ne h (i := 44) (j := 39) v (by omega)
  have A : bits .andNot .u64 (u (h 0)) 3 = u (h 0 &&& ~~~3#64) := u_andNot (h 0) 3#64
  have K1 : Hid (∀ (v : BitVec 64) w, Calls Try.prog 34 #[.int .u64 (u v), .int .u64 128, .int .u64 8] w fun e w' => e = .returned (.int .u64 (u (movB v 128#64 8#64))) ∧ w = w') := Lib.hid (fun v w => mov_any v 128#64 8#64 w)
  have K2 : Hid (∀ (v : BitVec 64) w, Calls Try.prog 35 #[.int .u64 (u v), .int .u64 8, .bool false] w fun e w' => e = .returned (.int .u64 (u (putB v 8#64 false))) ∧ w = w') := Lib.hid (fun v w => putb_any v 8#64 false w)
  go_enter Try.func31, Try.ntmps31
  go_wp2_with (first | ((with_reducible apply hrt_ld); (case ho => exact rfl); (case hgd => exact rfl); (case hx => exact rfl); (case hg => exact box1 _ _ _)) | ((with_reducible apply hrt_st); (case ho => exact rfl); (case hgd => exact rfl); (case hx => exact rfl); (case hy => exact rfl); (case hg => exact box2 _ _ _)))
  go_at_call 34; refine (K1.out _ _).mono ?_; rintro _ _ ⟨rfl, rfl⟩
  go_wp2_with (first | ((with_reducible apply hrt_ld); (case ho => exact rfl); (case hgd => exact rfl); (case hx => exact rfl); (case hg => exact box1 _ _ _)) | ((with_reducible apply hrt_st); (case ho => exact rfl); (case hgd => exact rfl); (case hx => exact rfl); (case hy => exact rfl); (case hg => exact box2 _ _ _)))
  go_at_call 35; refine (K2.out _ _).mono ?_; rintro _ _ ⟨rfl, rfl⟩
  go_wp2_with (first | ((with_reducible apply hrt_ld); (case ho => exact rfl); (case hgd => exact rfl); (case hx => exact rfl); (case hg => exact box1 _ _ _)) | ((with_reducible apply hrt_st); (case ho => exact rfl); (case hgd => exact rfl); (case hx => exact rfl); (case hy => exact rfl); (case hg => exact box2 _ _ _)))
  go_at_call 36; refine (wmp_any _ _ _).mono ?_; rintro _ _ ⟨rfl, rfl⟩
  go_wp2_with (first | ((with_reducible apply hrt_ld); (case ho => exact rfl); (case hgd => exact rfl); (case hx => exact rfl); (case hg => exact box1 _ _ _)) | ((with_reducible apply hrt_st); (case ho => exact rfl); (case hgd => exact rfl); (case hx => exact rfl); (case hy => exact rfl); (case hg => exact box2 _ _ _)))
  go_at_call 43; refine (hdl_any _ _ _).mono ?_; rintro _ _ ⟨rfl, rfl⟩
  go_wp2_with (first | ((with_reducible apply hrt_ld); (case ho => exact rfl); (case hgd => exact rfl); (case hx => exact rfl); (case hg => exact box1 _ _ _)) | ((with_reducible apply hrt_st); (case ho => exact rfl); (case hgd => exact rfl); (case hx => exact rfl); (case hy => exact rfl); (case hg => exact box2 _ _ _)))
  have E : Hid (upd (upd (upd (upd (upd (upd (upd h 43 c) 42 (h 0 &&& ~~~3#64)) 44 t) 34 (movB (h 34) 128#64 8#64)) 34 (putB (movB (h 34) 128#64 8#64) 8#64 false)) 34 (wmp (putB (movB (h 34) 128#64 8#64) 8#64 false) p)) 0 (hdl (h 39) c) = entM h p c t) := Lib.hid (by unfold entM stM; rw [upd_upd, upd_upd])
  refine row_back hrtT rfl rfl rfl (hset_row (box2 _ _ _)) (hV_size ..) ⟨by rw [← E.out]; rfl, (HO.out _ _ _).row _ _ (by omega)⟩
end Go.Proofs.Ytleolldgpoeabaa
