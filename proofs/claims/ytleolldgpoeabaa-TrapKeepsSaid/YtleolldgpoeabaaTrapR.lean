/- Traps on a hart: what the reference makes of it. Conditions: named at each. -/
import Derived.Test.YtleolldgpoeabaaTrapD
namespace Go.Proofs.Ytleolldgpoeabaa
open Go.RowKit
theorem top_div (c : BitVec 64) : (u c / 9223372036854775808 == 1) = c.getLsbD 63 := by
  have h : u c / (9223372036854775808 : Int) = u (c >>> 63) := u_shr c 63
  rw [h]; exact top_shr1 c
theorem shl11 (v : BitVec 64) : IntKind.u64.wrap (u v * 2048) = u (v <<< 11) := u_shl v 11

set_option maxRecDepth 100000 in
set_option maxHeartbeats 1000000 in
theorem rent_0_000 (h : Nat → BitVec 64) (r : Bool) (c t n : BitVec 64) (hn : c &&& 63#64 = n) (h63 : c.getLsbD 63 = false) (hb : (h 35).getLsbD n.toNat = false) (hv : (h 39).getLsbD 0 = false) (w : World) : Calls Try.prog 13 #[.agg (hV h 0 r), .int .u64 (u c), .int .u64 (u t)] w fun e w' => e = .returned (.agg (hV (upd (upd (upd (upd (upd (upd h 65 0#64) 43 (cau c)) 42 (h 0 &&& ~~~3#64)) 44 t) 34 ((putB (h 34) 128#64 (!(h 34 &&& 8#64 == 0#64)) &&& ~~~8#64) &&& ~~~6144#64 ||| (wd64 0 &&& 3#64) <<< 11)) 0 (h 39 &&& ~~~3#64)) 3 false)) ∧ On w w' := by
  have hZ := fun w => hrt_zero w
  have HO : Hid (∀ h' p' r', On w ((w.alloc (.cells (hV h' p' r') 28)).alloc (.cells (hV zC 0 false) 28))) := Lib.hid (fun _ _ _ => ((On.refl w).alloc _).alloc _)
  have c0 := fun (h' : Nat → BitVec 64) (p' : Int) (r' : Bool) => blk_cell (box1 w (.cells (hV h' p' r') 28) (.cells (hV zC 0 false) 28)) 0 (hV_get h' p' r' 0 (by omega) (by omega) (by omega))
  have c34 := fun (h' : Nat → BitVec 64) (p' : Int) (r' : Bool) => blk_cell (box1 w (.cells (hV h' p' r') 28) (.cells (hV zC 0 false) 28)) 34 (hV_get h' p' r' 34 (by omega) (by omega) (by omega))
  have c35 := fun (h' : Nat → BitVec 64) (p' : Int) (r' : Bool) => blk_cell (box1 w (.cells (hV h' p' r') 28) (.cells (hV zC 0 false) 28)) 35 (hV_get h' p' r' 35 (by omega) (by omega) (by omega))
  have c36 := fun (h' : Nat → BitVec 64) (p' : Int) (r' : Bool) => blk_cell (box1 w (.cells (hV h' p' r') 28) (.cells (hV zC 0 false) 28)) 36 (hV_get h' p' r' 36 (by omega) (by omega) (by omega))
  have c39 := fun (h' : Nat → BitVec 64) (p' : Int) (r' : Bool) => blk_cell (box1 w (.cells (hV h' p' r') 28) (.cells (hV zC 0 false) 28)) 39 (hV_get h' p' r' 39 (by omega) (by omega) (by omega))
  have c45 := fun (h' : Nat → BitVec 64) (p' : Int) (r' : Bool) => blk_cell (box1 w (.cells (hV h' p' r') 28) (.cells (hV zC 0 false) 28)) 45 (hV_get h' p' r' 45 (by omega) (by omega) (by omega))
  have cP := fun (h' : Nat → BitVec 64) (p' : Int) (r' : Bool) => blk_cell (box1 w (.cells (hV h' p' r') 28) (.cells (hV zC 0 false) 28)) 1 (hV_priv h' p' r')
  have G0 := fun h p r => hV_get h p r 0 (by omega) (by omega) (by omega)
  have S0 := fun h p r v => hV_set h p r 0 v (by omega) (by omega)
  have f0 := fun (h' : Nat → BitVec 64) (p' : Int) (r' : Bool) => blk_free (box1 w (.cells (hV h' p' r') 28) (.cells (hV zC 0 false) 28)) 0
  have U0 := fun h v => upd_self h 0 v
  have SP := fun h p r v => hV_setp h p r v
  have GP := fun h p r => hV_priv h p r
  have f1 := fun (h' : Nat → BitVec 64) (p' : Int) (r' : Bool) => blk_free (box1 w (.cells (hV h' p' r') 28) (.cells (hV zC 0 false) 28)) 1
  have G34 := fun h p r => hV_get h p r 34 (by omega) (by omega) (by omega)
  have S34 := fun h p r v => hV_set h p r 34 v (by omega) (by omega)
  have f34 := fun (h' : Nat → BitVec 64) (p' : Int) (r' : Bool) => blk_free (box1 w (.cells (hV h' p' r') 28) (.cells (hV zC 0 false) 28)) 34
  have U34 := fun h v => upd_self h 34 v
  have SR := fun h p r v => hV_setr h p r v
  have GR := fun h p r => hV_res h p r
  have f64 := fun (h' : Nat → BitVec 64) (p' : Int) (r' : Bool) => blk_free (box1 w (.cells (hV h' p' r') 28) (.cells (hV zC 0 false) 28)) 64
  have G65 := fun h p r => hV_get h p r 65 (by omega) (by omega) (by omega)
  have S65 := fun h p r v => hV_set h p r 65 v (by omega) (by omega)
  have f65 := fun (h' : Nat → BitVec 64) (p' : Int) (r' : Bool) => blk_free (box1 w (.cells (hV h' p' r') 28) (.cells (hV zC 0 false) 28)) 65
  have U65 := fun h v => upd_self h 65 v
  have G43 := fun h p r => hV_get h p r 43 (by omega) (by omega) (by omega)
  have S43 := fun h p r v => hV_set h p r 43 v (by omega) (by omega)
  have f43 := fun (h' : Nat → BitVec 64) (p' : Int) (r' : Bool) => blk_free (box1 w (.cells (hV h' p' r') 28) (.cells (hV zC 0 false) 28)) 43
  have U43 := fun h v => upd_self h 43 v
  have G42 := fun h p r => hV_get h p r 42 (by omega) (by omega) (by omega)
  have S42 := fun h p r v => hV_set h p r 42 v (by omega) (by omega)
  have f42 := fun (h' : Nat → BitVec 64) (p' : Int) (r' : Bool) => blk_free (box1 w (.cells (hV h' p' r') 28) (.cells (hV zC 0 false) 28)) 42
  have U42 := fun h v => upd_self h 42 v
  have G44 := fun h p r => hV_get h p r 44 (by omega) (by omega) (by omega)
  have S44 := fun h p r v => hV_set h p r 44 v (by omega) (by omega)
  have f44 := fun (h' : Nat → BitVec 64) (p' : Int) (r' : Bool) => blk_free (box1 w (.cells (hV h' p' r') 28) (.cells (hV zC 0 false) 28)) 44
  have U44 := fun h v => upd_self h 44 v
  have N0_34 := fun h v => upd_ne h (i := 0) (j := 34) v (by omega)
  have N0_35 := fun h v => upd_ne h (i := 0) (j := 35) v (by omega)
  have N0_36 := fun h v => upd_ne h (i := 0) (j := 36) v (by omega)
  have N0_39 := fun h v => upd_ne h (i := 0) (j := 39) v (by omega)
  have N0_45 := fun h v => upd_ne h (i := 0) (j := 45) v (by omega)
  have N34_0 := fun h v => upd_ne h (i := 34) (j := 0) v (by omega)
  have N34_35 := fun h v => upd_ne h (i := 34) (j := 35) v (by omega)
  have N34_36 := fun h v => upd_ne h (i := 34) (j := 36) v (by omega)
  have N34_39 := fun h v => upd_ne h (i := 34) (j := 39) v (by omega)
  have N34_45 := fun h v => upd_ne h (i := 34) (j := 45) v (by omega)
  have N65_0 := fun h v => upd_ne h (i := 65) (j := 0) v (by omega)
  have N65_34 := fun h v => upd_ne h (i := 65) (j := 34) v (by omega)
  have N65_35 := fun h v => upd_ne h (i := 65) (j := 35) v (by omega)
  have N65_36 := fun h v => upd_ne h (i := 65) (j := 36) v (by omega)
  have N65_39 := fun h v => upd_ne h (i := 65) (j := 39) v (by omega)
  have N65_45 := fun h v => upd_ne h (i := 65) (j := 45) v (by omega)
  have N43_0 := fun h v => upd_ne h (i := 43) (j := 0) v (by omega)
  have N43_34 := fun h v => upd_ne h (i := 43) (j := 34) v (by omega)
  have N43_35 := fun h v => upd_ne h (i := 43) (j := 35) v (by omega)
  have N43_36 := fun h v => upd_ne h (i := 43) (j := 36) v (by omega)
  have N43_39 := fun h v => upd_ne h (i := 43) (j := 39) v (by omega)
  have N43_45 := fun h v => upd_ne h (i := 43) (j := 45) v (by omega)
  have N42_0 := fun h v => upd_ne h (i := 42) (j := 0) v (by omega)
  have N42_34 := fun h v => upd_ne h (i := 42) (j := 34) v (by omega)
  have N42_35 := fun h v => upd_ne h (i := 42) (j := 35) v (by omega)
  have N42_36 := fun h v => upd_ne h (i := 42) (j := 36) v (by omega)
  have N42_39 := fun h v => upd_ne h (i := 42) (j := 39) v (by omega)
  have N42_45 := fun h v => upd_ne h (i := 42) (j := 45) v (by omega)
  have N44_0 := fun h v => upd_ne h (i := 44) (j := 0) v (by omega)
  have N44_34 := fun h v => upd_ne h (i := 44) (j := 34) v (by omega)
  have N44_35 := fun h v => upd_ne h (i := 44) (j := 35) v (by omega)
  have N44_36 := fun h v => upd_ne h (i := 44) (j := 36) v (by omega)
  have N44_39 := fun h v => upd_ne h (i := 44) (j := 39) v (by omega)
  have N44_45 := fun h v => upd_ne h (i := 44) (j := 45) v (by omega)
  have Z : ∀ (h : Nat → BitVec 64) (p : Int) (r : Bool), (hV h p r).setIfInBounds 65 (.int .u64 0) = hV (upd h 65 0#64) p r := fun h p r => hV_set h p r 65 0#64 (by omega) (by omega)
  have T : (u c / 9223372036854775808 == 1) = false := (top_div c).trans h63
  have T2 : (u (cau c) / 9223372036854775808 == 1) = false := (top_div _).trans ((cau_top c).trans h63)
  have P1 : ¬ u c / 9223372036854775808 = 1 := by simpa using T
  have P2 : ¬ u (cau c) / 9223372036854775808 = 1 := by simpa using T2
  have A : bits .and .u64 (u c) 9223372036854775871 = u (cau c) := u_and c 0x800000000000003f#64
  have B : bits .and .u64 (u c) 63 = u n := hn ▸ u_and c 63#64
  have A0 : bits .andNot .u64 (u (h 0)) 3 = u (h 0 &&& ~~~3#64) := u_andNot (h 0) 3#64
  have sh := fun v => shr_run Try.prog v n (hn ▸ and_lt64 c)
  have V0 : bits .andNot .u64 (u (h 39)) 3 = u (h 39 &&& ~~~3#64) := u_andNot (h 39) 3#64
  have V1 : (bits .and .u64 (u (h 39)) 1 == 1) = false := (low_test1' _).trans hv
  have V2 : ¬ bits .and .u64 (u (h 39)) 1 = 1 := by simpa using V1
  have D1 : (bits .and .u64 (u (h 35 >>> n.toNat)) 1 == 1) = false := (bit_at1 _ _).trans hb
  have D2 : ¬ bits .and .u64 (u (h 35 >>> n.toNat)) 1 = 1 := by simpa using D1
  have Q1 : (bits .and .u64 (u (h 34)) 8 != 0) = (!(h 34 &&& 8#64 == 0#64)) := by unfold bne; rw [show (8 : Int) = u 8#64 from rfl, u_and, show (0 : Int) = u 0#64 from rfl, u_beq]
  have Q2 := fun v : BitVec 64 => (show bits .andNot .u64 (u v) 8 = u (v &&& ~~~8#64) from u_andNot v 8#64)
  have K1 : Hid (∀ (v : BitVec 64) on w, Calls Try.prog 32 #[.int .u64 (u v), .int .u64 128, .bool on] w fun e w' => e = .returned (.int .u64 (u (putB v 128#64 on))) ∧ w = w') := Lib.hid (fun v on w => rputb_any v 128#64 on w)
  have M1 := fun v : BitVec 64 => (show bits .andNot .u64 (u v) 6144 = u (v &&& ~~~6144#64) from u_andNot v 6144#64)
  have M2 : IntKind.u64.wrap (bits .and .i64 0 3) = u (wd64 0 &&& 3#64) := i64_and3 0
  have M3 := fun v => shl11 v
  have M4 := fun a b => u_or a b
  clear h63 hv hn hb
  go_enter Try.func13, Try.ntmps13
  go_wp2_with (first | ((with_reducible apply hrt_ld); (case ho => exact rfl); (case hgd => exact rfl); (case hx => exact rfl); (case hg => exact box1 _ _ _)) | ((with_reducible apply hrt_st); (case ho => exact rfl); (case hgd => exact rfl); (case hx => exact rfl); (case hy => exact rfl); (case hg => exact box2 _ _ _)))
  go_at_call 32; refine (K1.out _ _ _).mono ?_; rintro _ _ ⟨rfl, rfl⟩
  go_wp2_with (first | ((with_reducible apply hrt_ld); (case ho => exact rfl); (case hgd => exact rfl); (case hx => exact rfl); (case hg => exact box1 _ _ _)) | ((with_reducible apply hrt_st); (case ho => exact rfl); (case hgd => exact rfl); (case hx => exact rfl); (case hy => exact rfl); (case hg => exact box2 _ _ _)))
  skip
  refine row_back hrtT rfl rfl rfl (hset_row (box2 _ _ _)) (hV_size ..) ⟨(?_ : Ending.returned (.agg (hV _ 3 false)) = _), (HO.out _ _ _).row _ _ (by omega)⟩
  rfl
set_option maxRecDepth 100000 in
set_option maxHeartbeats 1000000 in
theorem rent_0_001 (h : Nat → BitVec 64) (r : Bool) (c t n : BitVec 64) (hn : c &&& 63#64 = n) (h63 : c.getLsbD 63 = false) (hb : (h 35).getLsbD n.toNat = false) (hv : (h 39).getLsbD 0 = true) (w : World) : Calls Try.prog 13 #[.agg (hV h 0 r), .int .u64 (u c), .int .u64 (u t)] w fun e w' => e = .returned (.agg (hV (upd (upd (upd (upd (upd (upd h 65 0#64) 43 (cau c)) 42 (h 0 &&& ~~~3#64)) 44 t) 34 ((putB (h 34) 128#64 (!(h 34 &&& 8#64 == 0#64)) &&& ~~~8#64) &&& ~~~6144#64 ||| (wd64 0 &&& 3#64) <<< 11)) 0 (h 39 &&& ~~~3#64)) 3 false)) ∧ On w w' := by
  have hZ := fun w => hrt_zero w
  have HO : Hid (∀ h' p' r', On w ((w.alloc (.cells (hV h' p' r') 28)).alloc (.cells (hV zC 0 false) 28))) := Lib.hid (fun _ _ _ => ((On.refl w).alloc _).alloc _)
  have c0 := fun (h' : Nat → BitVec 64) (p' : Int) (r' : Bool) => blk_cell (box1 w (.cells (hV h' p' r') 28) (.cells (hV zC 0 false) 28)) 0 (hV_get h' p' r' 0 (by omega) (by omega) (by omega))
  have c34 := fun (h' : Nat → BitVec 64) (p' : Int) (r' : Bool) => blk_cell (box1 w (.cells (hV h' p' r') 28) (.cells (hV zC 0 false) 28)) 34 (hV_get h' p' r' 34 (by omega) (by omega) (by omega))
  have c35 := fun (h' : Nat → BitVec 64) (p' : Int) (r' : Bool) => blk_cell (box1 w (.cells (hV h' p' r') 28) (.cells (hV zC 0 false) 28)) 35 (hV_get h' p' r' 35 (by omega) (by omega) (by omega))
  have c36 := fun (h' : Nat → BitVec 64) (p' : Int) (r' : Bool) => blk_cell (box1 w (.cells (hV h' p' r') 28) (.cells (hV zC 0 false) 28)) 36 (hV_get h' p' r' 36 (by omega) (by omega) (by omega))
  have c39 := fun (h' : Nat → BitVec 64) (p' : Int) (r' : Bool) => blk_cell (box1 w (.cells (hV h' p' r') 28) (.cells (hV zC 0 false) 28)) 39 (hV_get h' p' r' 39 (by omega) (by omega) (by omega))
  have c45 := fun (h' : Nat → BitVec 64) (p' : Int) (r' : Bool) => blk_cell (box1 w (.cells (hV h' p' r') 28) (.cells (hV zC 0 false) 28)) 45 (hV_get h' p' r' 45 (by omega) (by omega) (by omega))
  have cP := fun (h' : Nat → BitVec 64) (p' : Int) (r' : Bool) => blk_cell (box1 w (.cells (hV h' p' r') 28) (.cells (hV zC 0 false) 28)) 1 (hV_priv h' p' r')
  have G0 := fun h p r => hV_get h p r 0 (by omega) (by omega) (by omega)
  have S0 := fun h p r v => hV_set h p r 0 v (by omega) (by omega)
  have f0 := fun (h' : Nat → BitVec 64) (p' : Int) (r' : Bool) => blk_free (box1 w (.cells (hV h' p' r') 28) (.cells (hV zC 0 false) 28)) 0
  have U0 := fun h v => upd_self h 0 v
  have SP := fun h p r v => hV_setp h p r v
  have GP := fun h p r => hV_priv h p r
  have f1 := fun (h' : Nat → BitVec 64) (p' : Int) (r' : Bool) => blk_free (box1 w (.cells (hV h' p' r') 28) (.cells (hV zC 0 false) 28)) 1
  have G34 := fun h p r => hV_get h p r 34 (by omega) (by omega) (by omega)
  have S34 := fun h p r v => hV_set h p r 34 v (by omega) (by omega)
  have f34 := fun (h' : Nat → BitVec 64) (p' : Int) (r' : Bool) => blk_free (box1 w (.cells (hV h' p' r') 28) (.cells (hV zC 0 false) 28)) 34
  have U34 := fun h v => upd_self h 34 v
  have SR := fun h p r v => hV_setr h p r v
  have GR := fun h p r => hV_res h p r
  have f64 := fun (h' : Nat → BitVec 64) (p' : Int) (r' : Bool) => blk_free (box1 w (.cells (hV h' p' r') 28) (.cells (hV zC 0 false) 28)) 64
  have G65 := fun h p r => hV_get h p r 65 (by omega) (by omega) (by omega)
  have S65 := fun h p r v => hV_set h p r 65 v (by omega) (by omega)
  have f65 := fun (h' : Nat → BitVec 64) (p' : Int) (r' : Bool) => blk_free (box1 w (.cells (hV h' p' r') 28) (.cells (hV zC 0 false) 28)) 65
  have U65 := fun h v => upd_self h 65 v
  have G43 := fun h p r => hV_get h p r 43 (by omega) (by omega) (by omega)
  have S43 := fun h p r v => hV_set h p r 43 v (by omega) (by omega)
  have f43 := fun (h' : Nat → BitVec 64) (p' : Int) (r' : Bool) => blk_free (box1 w (.cells (hV h' p' r') 28) (.cells (hV zC 0 false) 28)) 43
  have U43 := fun h v => upd_self h 43 v
  have G42 := fun h p r => hV_get h p r 42 (by omega) (by omega) (by omega)
  have S42 := fun h p r v => hV_set h p r 42 v (by omega) (by omega)
  have f42 := fun (h' : Nat → BitVec 64) (p' : Int) (r' : Bool) => blk_free (box1 w (.cells (hV h' p' r') 28) (.cells (hV zC 0 false) 28)) 42
  have U42 := fun h v => upd_self h 42 v
  have G44 := fun h p r => hV_get h p r 44 (by omega) (by omega) (by omega)
  have S44 := fun h p r v => hV_set h p r 44 v (by omega) (by omega)
  have f44 := fun (h' : Nat → BitVec 64) (p' : Int) (r' : Bool) => blk_free (box1 w (.cells (hV h' p' r') 28) (.cells (hV zC 0 false) 28)) 44
  have U44 := fun h v => upd_self h 44 v
  have N0_34 := fun h v => upd_ne h (i := 0) (j := 34) v (by omega)
  have N0_35 := fun h v => upd_ne h (i := 0) (j := 35) v (by omega)
  have N0_36 := fun h v => upd_ne h (i := 0) (j := 36) v (by omega)
  have N0_39 := fun h v => upd_ne h (i := 0) (j := 39) v (by omega)
  have N0_45 := fun h v => upd_ne h (i := 0) (j := 45) v (by omega)
  have N34_0 := fun h v => upd_ne h (i := 34) (j := 0) v (by omega)
  have N34_35 := fun h v => upd_ne h (i := 34) (j := 35) v (by omega)
  have N34_36 := fun h v => upd_ne h (i := 34) (j := 36) v (by omega)
  have N34_39 := fun h v => upd_ne h (i := 34) (j := 39) v (by omega)
  have N34_45 := fun h v => upd_ne h (i := 34) (j := 45) v (by omega)
  have N65_0 := fun h v => upd_ne h (i := 65) (j := 0) v (by omega)
  have N65_34 := fun h v => upd_ne h (i := 65) (j := 34) v (by omega)
  have N65_35 := fun h v => upd_ne h (i := 65) (j := 35) v (by omega)
  have N65_36 := fun h v => upd_ne h (i := 65) (j := 36) v (by omega)
  have N65_39 := fun h v => upd_ne h (i := 65) (j := 39) v (by omega)
  have N65_45 := fun h v => upd_ne h (i := 65) (j := 45) v (by omega)
  have N43_0 := fun h v => upd_ne h (i := 43) (j := 0) v (by omega)
  have N43_34 := fun h v => upd_ne h (i := 43) (j := 34) v (by omega)
  have N43_35 := fun h v => upd_ne h (i := 43) (j := 35) v (by omega)
  have N43_36 := fun h v => upd_ne h (i := 43) (j := 36) v (by omega)
  have N43_39 := fun h v => upd_ne h (i := 43) (j := 39) v (by omega)
  have N43_45 := fun h v => upd_ne h (i := 43) (j := 45) v (by omega)
  have N42_0 := fun h v => upd_ne h (i := 42) (j := 0) v (by omega)
  have N42_34 := fun h v => upd_ne h (i := 42) (j := 34) v (by omega)
  have N42_35 := fun h v => upd_ne h (i := 42) (j := 35) v (by omega)
  have N42_36 := fun h v => upd_ne h (i := 42) (j := 36) v (by omega)
  have N42_39 := fun h v => upd_ne h (i := 42) (j := 39) v (by omega)
  have N42_45 := fun h v => upd_ne h (i := 42) (j := 45) v (by omega)
  have N44_0 := fun h v => upd_ne h (i := 44) (j := 0) v (by omega)
  have N44_34 := fun h v => upd_ne h (i := 44) (j := 34) v (by omega)
  have N44_35 := fun h v => upd_ne h (i := 44) (j := 35) v (by omega)
  have N44_36 := fun h v => upd_ne h (i := 44) (j := 36) v (by omega)
  have N44_39 := fun h v => upd_ne h (i := 44) (j := 39) v (by omega)
  have N44_45 := fun h v => upd_ne h (i := 44) (j := 45) v (by omega)
  have Z : ∀ (h : Nat → BitVec 64) (p : Int) (r : Bool), (hV h p r).setIfInBounds 65 (.int .u64 0) = hV (upd h 65 0#64) p r := fun h p r => hV_set h p r 65 0#64 (by omega) (by omega)
  have T : (u c / 9223372036854775808 == 1) = false := (top_div c).trans h63
  have T2 : (u (cau c) / 9223372036854775808 == 1) = false := (top_div _).trans ((cau_top c).trans h63)
  have P1 : ¬ u c / 9223372036854775808 = 1 := by simpa using T
  have P2 : ¬ u (cau c) / 9223372036854775808 = 1 := by simpa using T2
  have A : bits .and .u64 (u c) 9223372036854775871 = u (cau c) := u_and c 0x800000000000003f#64
  have B : bits .and .u64 (u c) 63 = u n := hn ▸ u_and c 63#64
  have A0 : bits .andNot .u64 (u (h 0)) 3 = u (h 0 &&& ~~~3#64) := u_andNot (h 0) 3#64
  have sh := fun v => shr_run Try.prog v n (hn ▸ and_lt64 c)
  have V0 : bits .andNot .u64 (u (h 39)) 3 = u (h 39 &&& ~~~3#64) := u_andNot (h 39) 3#64
  have V1 : (bits .and .u64 (u (h 39)) 1 == 1) = true := (low_test1' _).trans hv
  have V2 : bits .and .u64 (u (h 39)) 1 = 1 := by simpa using V1
  have D1 : (bits .and .u64 (u (h 35 >>> n.toNat)) 1 == 1) = false := (bit_at1 _ _).trans hb
  have D2 : ¬ bits .and .u64 (u (h 35 >>> n.toNat)) 1 = 1 := by simpa using D1
  have Q1 : (bits .and .u64 (u (h 34)) 8 != 0) = (!(h 34 &&& 8#64 == 0#64)) := by unfold bne; rw [show (8 : Int) = u 8#64 from rfl, u_and, show (0 : Int) = u 0#64 from rfl, u_beq]
  have Q2 := fun v : BitVec 64 => (show bits .andNot .u64 (u v) 8 = u (v &&& ~~~8#64) from u_andNot v 8#64)
  have K1 : Hid (∀ (v : BitVec 64) on w, Calls Try.prog 32 #[.int .u64 (u v), .int .u64 128, .bool on] w fun e w' => e = .returned (.int .u64 (u (putB v 128#64 on))) ∧ w = w') := Lib.hid (fun v on w => rputb_any v 128#64 on w)
  have M1 := fun v : BitVec 64 => (show bits .andNot .u64 (u v) 6144 = u (v &&& ~~~6144#64) from u_andNot v 6144#64)
  have M2 : IntKind.u64.wrap (bits .and .i64 0 3) = u (wd64 0 &&& 3#64) := i64_and3 0
  have M3 := fun v => shl11 v
  have M4 := fun a b => u_or a b
  clear h63 hv hn hb
  go_enter Try.func13, Try.ntmps13
  go_wp2_with (first | ((with_reducible apply hrt_ld); (case ho => exact rfl); (case hgd => exact rfl); (case hx => exact rfl); (case hg => exact box1 _ _ _)) | ((with_reducible apply hrt_st); (case ho => exact rfl); (case hgd => exact rfl); (case hx => exact rfl); (case hy => exact rfl); (case hg => exact box2 _ _ _)))
  go_at_call 32; refine (K1.out _ _ _).mono ?_; rintro _ _ ⟨rfl, rfl⟩
  go_wp2_with (first | ((with_reducible apply hrt_ld); (case ho => exact rfl); (case hgd => exact rfl); (case hx => exact rfl); (case hg => exact box1 _ _ _)) | ((with_reducible apply hrt_st); (case ho => exact rfl); (case hgd => exact rfl); (case hx => exact rfl); (case hy => exact rfl); (case hg => exact box2 _ _ _)))
  skip
  refine row_back hrtT rfl rfl rfl (hset_row (box2 _ _ _)) (hV_size ..) ⟨(?_ : Ending.returned (.agg (hV _ 3 false)) = _), (HO.out _ _ _).row _ _ (by omega)⟩
  rfl
set_option maxRecDepth 100000 in
set_option maxHeartbeats 1000000 in
theorem rent_0_010 (h : Nat → BitVec 64) (r : Bool) (c t n : BitVec 64) (hn : c &&& 63#64 = n) (h63 : c.getLsbD 63 = false) (hb : (h 35).getLsbD n.toNat = true) (hv : (h 45).getLsbD 0 = false) (w : World) : Calls Try.prog 13 #[.agg (hV h 0 r), .int .u64 (u c), .int .u64 (u t)] w fun e w' => e = .returned (.agg (hV (upd (upd (upd (upd (upd (upd h 65 0#64) 49 (cau c)) 48 (h 0 &&& ~~~3#64)) 50 t) 34 (putB (putB (h 34) 32#64 (!(h 34 &&& 2#64 == 0#64)) &&& ~~~2#64) 256#64 (0 == 1))) 0 (h 45 &&& ~~~3#64)) 1 false)) ∧ On w w' := by
  have hZ := fun w => hrt_zero w
  have HO : Hid (∀ h' p' r', On w ((w.alloc (.cells (hV h' p' r') 28)).alloc (.cells (hV zC 0 false) 28))) := Lib.hid (fun _ _ _ => ((On.refl w).alloc _).alloc _)
  have c0 := fun (h' : Nat → BitVec 64) (p' : Int) (r' : Bool) => blk_cell (box1 w (.cells (hV h' p' r') 28) (.cells (hV zC 0 false) 28)) 0 (hV_get h' p' r' 0 (by omega) (by omega) (by omega))
  have c34 := fun (h' : Nat → BitVec 64) (p' : Int) (r' : Bool) => blk_cell (box1 w (.cells (hV h' p' r') 28) (.cells (hV zC 0 false) 28)) 34 (hV_get h' p' r' 34 (by omega) (by omega) (by omega))
  have c35 := fun (h' : Nat → BitVec 64) (p' : Int) (r' : Bool) => blk_cell (box1 w (.cells (hV h' p' r') 28) (.cells (hV zC 0 false) 28)) 35 (hV_get h' p' r' 35 (by omega) (by omega) (by omega))
  have c36 := fun (h' : Nat → BitVec 64) (p' : Int) (r' : Bool) => blk_cell (box1 w (.cells (hV h' p' r') 28) (.cells (hV zC 0 false) 28)) 36 (hV_get h' p' r' 36 (by omega) (by omega) (by omega))
  have c39 := fun (h' : Nat → BitVec 64) (p' : Int) (r' : Bool) => blk_cell (box1 w (.cells (hV h' p' r') 28) (.cells (hV zC 0 false) 28)) 39 (hV_get h' p' r' 39 (by omega) (by omega) (by omega))
  have c45 := fun (h' : Nat → BitVec 64) (p' : Int) (r' : Bool) => blk_cell (box1 w (.cells (hV h' p' r') 28) (.cells (hV zC 0 false) 28)) 45 (hV_get h' p' r' 45 (by omega) (by omega) (by omega))
  have cP := fun (h' : Nat → BitVec 64) (p' : Int) (r' : Bool) => blk_cell (box1 w (.cells (hV h' p' r') 28) (.cells (hV zC 0 false) 28)) 1 (hV_priv h' p' r')
  have G0 := fun h p r => hV_get h p r 0 (by omega) (by omega) (by omega)
  have S0 := fun h p r v => hV_set h p r 0 v (by omega) (by omega)
  have f0 := fun (h' : Nat → BitVec 64) (p' : Int) (r' : Bool) => blk_free (box1 w (.cells (hV h' p' r') 28) (.cells (hV zC 0 false) 28)) 0
  have U0 := fun h v => upd_self h 0 v
  have SP := fun h p r v => hV_setp h p r v
  have GP := fun h p r => hV_priv h p r
  have f1 := fun (h' : Nat → BitVec 64) (p' : Int) (r' : Bool) => blk_free (box1 w (.cells (hV h' p' r') 28) (.cells (hV zC 0 false) 28)) 1
  have G34 := fun h p r => hV_get h p r 34 (by omega) (by omega) (by omega)
  have S34 := fun h p r v => hV_set h p r 34 v (by omega) (by omega)
  have f34 := fun (h' : Nat → BitVec 64) (p' : Int) (r' : Bool) => blk_free (box1 w (.cells (hV h' p' r') 28) (.cells (hV zC 0 false) 28)) 34
  have U34 := fun h v => upd_self h 34 v
  have SR := fun h p r v => hV_setr h p r v
  have GR := fun h p r => hV_res h p r
  have f64 := fun (h' : Nat → BitVec 64) (p' : Int) (r' : Bool) => blk_free (box1 w (.cells (hV h' p' r') 28) (.cells (hV zC 0 false) 28)) 64
  have G65 := fun h p r => hV_get h p r 65 (by omega) (by omega) (by omega)
  have S65 := fun h p r v => hV_set h p r 65 v (by omega) (by omega)
  have f65 := fun (h' : Nat → BitVec 64) (p' : Int) (r' : Bool) => blk_free (box1 w (.cells (hV h' p' r') 28) (.cells (hV zC 0 false) 28)) 65
  have U65 := fun h v => upd_self h 65 v
  have G49 := fun h p r => hV_get h p r 49 (by omega) (by omega) (by omega)
  have S49 := fun h p r v => hV_set h p r 49 v (by omega) (by omega)
  have f49 := fun (h' : Nat → BitVec 64) (p' : Int) (r' : Bool) => blk_free (box1 w (.cells (hV h' p' r') 28) (.cells (hV zC 0 false) 28)) 49
  have U49 := fun h v => upd_self h 49 v
  have G48 := fun h p r => hV_get h p r 48 (by omega) (by omega) (by omega)
  have S48 := fun h p r v => hV_set h p r 48 v (by omega) (by omega)
  have f48 := fun (h' : Nat → BitVec 64) (p' : Int) (r' : Bool) => blk_free (box1 w (.cells (hV h' p' r') 28) (.cells (hV zC 0 false) 28)) 48
  have U48 := fun h v => upd_self h 48 v
  have G50 := fun h p r => hV_get h p r 50 (by omega) (by omega) (by omega)
  have S50 := fun h p r v => hV_set h p r 50 v (by omega) (by omega)
  have f50 := fun (h' : Nat → BitVec 64) (p' : Int) (r' : Bool) => blk_free (box1 w (.cells (hV h' p' r') 28) (.cells (hV zC 0 false) 28)) 50
  have U50 := fun h v => upd_self h 50 v
  have N0_34 := fun h v => upd_ne h (i := 0) (j := 34) v (by omega)
  have N0_35 := fun h v => upd_ne h (i := 0) (j := 35) v (by omega)
  have N0_36 := fun h v => upd_ne h (i := 0) (j := 36) v (by omega)
  have N0_39 := fun h v => upd_ne h (i := 0) (j := 39) v (by omega)
  have N0_45 := fun h v => upd_ne h (i := 0) (j := 45) v (by omega)
  have N34_0 := fun h v => upd_ne h (i := 34) (j := 0) v (by omega)
  have N34_35 := fun h v => upd_ne h (i := 34) (j := 35) v (by omega)
  have N34_36 := fun h v => upd_ne h (i := 34) (j := 36) v (by omega)
  have N34_39 := fun h v => upd_ne h (i := 34) (j := 39) v (by omega)
  have N34_45 := fun h v => upd_ne h (i := 34) (j := 45) v (by omega)
  have N65_0 := fun h v => upd_ne h (i := 65) (j := 0) v (by omega)
  have N65_34 := fun h v => upd_ne h (i := 65) (j := 34) v (by omega)
  have N65_35 := fun h v => upd_ne h (i := 65) (j := 35) v (by omega)
  have N65_36 := fun h v => upd_ne h (i := 65) (j := 36) v (by omega)
  have N65_39 := fun h v => upd_ne h (i := 65) (j := 39) v (by omega)
  have N65_45 := fun h v => upd_ne h (i := 65) (j := 45) v (by omega)
  have N49_0 := fun h v => upd_ne h (i := 49) (j := 0) v (by omega)
  have N49_34 := fun h v => upd_ne h (i := 49) (j := 34) v (by omega)
  have N49_35 := fun h v => upd_ne h (i := 49) (j := 35) v (by omega)
  have N49_36 := fun h v => upd_ne h (i := 49) (j := 36) v (by omega)
  have N49_39 := fun h v => upd_ne h (i := 49) (j := 39) v (by omega)
  have N49_45 := fun h v => upd_ne h (i := 49) (j := 45) v (by omega)
  have N48_0 := fun h v => upd_ne h (i := 48) (j := 0) v (by omega)
  have N48_34 := fun h v => upd_ne h (i := 48) (j := 34) v (by omega)
  have N48_35 := fun h v => upd_ne h (i := 48) (j := 35) v (by omega)
  have N48_36 := fun h v => upd_ne h (i := 48) (j := 36) v (by omega)
  have N48_39 := fun h v => upd_ne h (i := 48) (j := 39) v (by omega)
  have N48_45 := fun h v => upd_ne h (i := 48) (j := 45) v (by omega)
  have N50_0 := fun h v => upd_ne h (i := 50) (j := 0) v (by omega)
  have N50_34 := fun h v => upd_ne h (i := 50) (j := 34) v (by omega)
  have N50_35 := fun h v => upd_ne h (i := 50) (j := 35) v (by omega)
  have N50_36 := fun h v => upd_ne h (i := 50) (j := 36) v (by omega)
  have N50_39 := fun h v => upd_ne h (i := 50) (j := 39) v (by omega)
  have N50_45 := fun h v => upd_ne h (i := 50) (j := 45) v (by omega)
  have Z : ∀ (h : Nat → BitVec 64) (p : Int) (r : Bool), (hV h p r).setIfInBounds 65 (.int .u64 0) = hV (upd h 65 0#64) p r := fun h p r => hV_set h p r 65 0#64 (by omega) (by omega)
  have T : (u c / 9223372036854775808 == 1) = false := (top_div c).trans h63
  have T2 : (u (cau c) / 9223372036854775808 == 1) = false := (top_div _).trans ((cau_top c).trans h63)
  have P1 : ¬ u c / 9223372036854775808 = 1 := by simpa using T
  have P2 : ¬ u (cau c) / 9223372036854775808 = 1 := by simpa using T2
  have A : bits .and .u64 (u c) 9223372036854775871 = u (cau c) := u_and c 0x800000000000003f#64
  have B : bits .and .u64 (u c) 63 = u n := hn ▸ u_and c 63#64
  have A0 : bits .andNot .u64 (u (h 0)) 3 = u (h 0 &&& ~~~3#64) := u_andNot (h 0) 3#64
  have sh := fun v => shr_run Try.prog v n (hn ▸ and_lt64 c)
  have V0 : bits .andNot .u64 (u (h 45)) 3 = u (h 45 &&& ~~~3#64) := u_andNot (h 45) 3#64
  have V1 : (bits .and .u64 (u (h 45)) 1 == 1) = false := (low_test1' _).trans hv
  have V2 : ¬ bits .and .u64 (u (h 45)) 1 = 1 := by simpa using V1
  have D1 : (bits .and .u64 (u (h 35 >>> n.toNat)) 1 == 1) = true := (bit_at1 _ _).trans hb
  have D2 : bits .and .u64 (u (h 35 >>> n.toNat)) 1 = 1 := by simpa using D1
  have Q1 : (bits .and .u64 (u (h 34)) 2 != 0) = (!(h 34 &&& 2#64 == 0#64)) := by unfold bne; rw [show (2 : Int) = u 2#64 from rfl, u_and, show (0 : Int) = u 0#64 from rfl, u_beq]
  have Q2 := fun v : BitVec 64 => (show bits .andNot .u64 (u v) 2 = u (v &&& ~~~2#64) from u_andNot v 2#64)
  have K1 : Hid (∀ (v : BitVec 64) on w, Calls Try.prog 32 #[.int .u64 (u v), .int .u64 32, .bool on] w fun e w' => e = .returned (.int .u64 (u (putB v 32#64 on))) ∧ w = w') := Lib.hid (fun v on w => rputb_any v 32#64 on w)
  have K2 : Hid (∀ (v : BitVec 64) on w, Calls Try.prog 32 #[.int .u64 (u v), .int .u64 256, .bool on] w fun e w' => e = .returned (.int .u64 (u (putB v 256#64 on))) ∧ w = w') := Lib.hid (fun v on w => rputb_any v 256#64 on w)
  clear h63 hv hn hb
  go_enter Try.func13, Try.ntmps13
  go_wp2_with (first | ((with_reducible apply hrt_ld); (case ho => exact rfl); (case hgd => exact rfl); (case hx => exact rfl); (case hg => exact box1 _ _ _)) | ((with_reducible apply hrt_st); (case ho => exact rfl); (case hgd => exact rfl); (case hx => exact rfl); (case hy => exact rfl); (case hg => exact box2 _ _ _)))
  go_at_call 32; refine (K1.out _ _ _).mono ?_; rintro _ _ ⟨rfl, rfl⟩
  go_wp2_with (first | ((with_reducible apply hrt_ld); (case ho => exact rfl); (case hgd => exact rfl); (case hx => exact rfl); (case hg => exact box1 _ _ _)) | ((with_reducible apply hrt_st); (case ho => exact rfl); (case hgd => exact rfl); (case hx => exact rfl); (case hy => exact rfl); (case hg => exact box2 _ _ _)))
  go_at_call 32; refine (K2.out _ _ _).mono ?_; rintro _ _ ⟨rfl, rfl⟩
  go_wp2_with (first | ((with_reducible apply hrt_ld); (case ho => exact rfl); (case hgd => exact rfl); (case hx => exact rfl); (case hg => exact box1 _ _ _)) | ((with_reducible apply hrt_st); (case ho => exact rfl); (case hgd => exact rfl); (case hx => exact rfl); (case hy => exact rfl); (case hg => exact box2 _ _ _)))
  skip
  refine row_back hrtT rfl rfl rfl (hset_row (box2 _ _ _)) (hV_size ..) ⟨(?_ : Ending.returned (.agg (hV _ 1 false)) = _), (HO.out _ _ _).row _ _ (by omega)⟩
  rfl
set_option maxRecDepth 100000 in
set_option maxHeartbeats 1000000 in
theorem rent_0_011 (h : Nat → BitVec 64) (r : Bool) (c t n : BitVec 64) (hn : c &&& 63#64 = n) (h63 : c.getLsbD 63 = false) (hb : (h 35).getLsbD n.toNat = true) (hv : (h 45).getLsbD 0 = true) (w : World) : Calls Try.prog 13 #[.agg (hV h 0 r), .int .u64 (u c), .int .u64 (u t)] w fun e w' => e = .returned (.agg (hV (upd (upd (upd (upd (upd (upd h 65 0#64) 49 (cau c)) 48 (h 0 &&& ~~~3#64)) 50 t) 34 (putB (putB (h 34) 32#64 (!(h 34 &&& 2#64 == 0#64)) &&& ~~~2#64) 256#64 (0 == 1))) 0 (h 45 &&& ~~~3#64)) 1 false)) ∧ On w w' := by
  have hZ := fun w => hrt_zero w
  have HO : Hid (∀ h' p' r', On w ((w.alloc (.cells (hV h' p' r') 28)).alloc (.cells (hV zC 0 false) 28))) := Lib.hid (fun _ _ _ => ((On.refl w).alloc _).alloc _)
  have c0 := fun (h' : Nat → BitVec 64) (p' : Int) (r' : Bool) => blk_cell (box1 w (.cells (hV h' p' r') 28) (.cells (hV zC 0 false) 28)) 0 (hV_get h' p' r' 0 (by omega) (by omega) (by omega))
  have c34 := fun (h' : Nat → BitVec 64) (p' : Int) (r' : Bool) => blk_cell (box1 w (.cells (hV h' p' r') 28) (.cells (hV zC 0 false) 28)) 34 (hV_get h' p' r' 34 (by omega) (by omega) (by omega))
  have c35 := fun (h' : Nat → BitVec 64) (p' : Int) (r' : Bool) => blk_cell (box1 w (.cells (hV h' p' r') 28) (.cells (hV zC 0 false) 28)) 35 (hV_get h' p' r' 35 (by omega) (by omega) (by omega))
  have c36 := fun (h' : Nat → BitVec 64) (p' : Int) (r' : Bool) => blk_cell (box1 w (.cells (hV h' p' r') 28) (.cells (hV zC 0 false) 28)) 36 (hV_get h' p' r' 36 (by omega) (by omega) (by omega))
  have c39 := fun (h' : Nat → BitVec 64) (p' : Int) (r' : Bool) => blk_cell (box1 w (.cells (hV h' p' r') 28) (.cells (hV zC 0 false) 28)) 39 (hV_get h' p' r' 39 (by omega) (by omega) (by omega))
  have c45 := fun (h' : Nat → BitVec 64) (p' : Int) (r' : Bool) => blk_cell (box1 w (.cells (hV h' p' r') 28) (.cells (hV zC 0 false) 28)) 45 (hV_get h' p' r' 45 (by omega) (by omega) (by omega))
  have cP := fun (h' : Nat → BitVec 64) (p' : Int) (r' : Bool) => blk_cell (box1 w (.cells (hV h' p' r') 28) (.cells (hV zC 0 false) 28)) 1 (hV_priv h' p' r')
  have G0 := fun h p r => hV_get h p r 0 (by omega) (by omega) (by omega)
  have S0 := fun h p r v => hV_set h p r 0 v (by omega) (by omega)
  have f0 := fun (h' : Nat → BitVec 64) (p' : Int) (r' : Bool) => blk_free (box1 w (.cells (hV h' p' r') 28) (.cells (hV zC 0 false) 28)) 0
  have U0 := fun h v => upd_self h 0 v
  have SP := fun h p r v => hV_setp h p r v
  have GP := fun h p r => hV_priv h p r
  have f1 := fun (h' : Nat → BitVec 64) (p' : Int) (r' : Bool) => blk_free (box1 w (.cells (hV h' p' r') 28) (.cells (hV zC 0 false) 28)) 1
  have G34 := fun h p r => hV_get h p r 34 (by omega) (by omega) (by omega)
  have S34 := fun h p r v => hV_set h p r 34 v (by omega) (by omega)
  have f34 := fun (h' : Nat → BitVec 64) (p' : Int) (r' : Bool) => blk_free (box1 w (.cells (hV h' p' r') 28) (.cells (hV zC 0 false) 28)) 34
  have U34 := fun h v => upd_self h 34 v
  have SR := fun h p r v => hV_setr h p r v
  have GR := fun h p r => hV_res h p r
  have f64 := fun (h' : Nat → BitVec 64) (p' : Int) (r' : Bool) => blk_free (box1 w (.cells (hV h' p' r') 28) (.cells (hV zC 0 false) 28)) 64
  have G65 := fun h p r => hV_get h p r 65 (by omega) (by omega) (by omega)
  have S65 := fun h p r v => hV_set h p r 65 v (by omega) (by omega)
  have f65 := fun (h' : Nat → BitVec 64) (p' : Int) (r' : Bool) => blk_free (box1 w (.cells (hV h' p' r') 28) (.cells (hV zC 0 false) 28)) 65
  have U65 := fun h v => upd_self h 65 v
  have G49 := fun h p r => hV_get h p r 49 (by omega) (by omega) (by omega)
  have S49 := fun h p r v => hV_set h p r 49 v (by omega) (by omega)
  have f49 := fun (h' : Nat → BitVec 64) (p' : Int) (r' : Bool) => blk_free (box1 w (.cells (hV h' p' r') 28) (.cells (hV zC 0 false) 28)) 49
  have U49 := fun h v => upd_self h 49 v
  have G48 := fun h p r => hV_get h p r 48 (by omega) (by omega) (by omega)
  have S48 := fun h p r v => hV_set h p r 48 v (by omega) (by omega)
  have f48 := fun (h' : Nat → BitVec 64) (p' : Int) (r' : Bool) => blk_free (box1 w (.cells (hV h' p' r') 28) (.cells (hV zC 0 false) 28)) 48
  have U48 := fun h v => upd_self h 48 v
  have G50 := fun h p r => hV_get h p r 50 (by omega) (by omega) (by omega)
  have S50 := fun h p r v => hV_set h p r 50 v (by omega) (by omega)
  have f50 := fun (h' : Nat → BitVec 64) (p' : Int) (r' : Bool) => blk_free (box1 w (.cells (hV h' p' r') 28) (.cells (hV zC 0 false) 28)) 50
  have U50 := fun h v => upd_self h 50 v
  have N0_34 := fun h v => upd_ne h (i := 0) (j := 34) v (by omega)
  have N0_35 := fun h v => upd_ne h (i := 0) (j := 35) v (by omega)
  have N0_36 := fun h v => upd_ne h (i := 0) (j := 36) v (by omega)
  have N0_39 := fun h v => upd_ne h (i := 0) (j := 39) v (by omega)
  have N0_45 := fun h v => upd_ne h (i := 0) (j := 45) v (by omega)
  have N34_0 := fun h v => upd_ne h (i := 34) (j := 0) v (by omega)
  have N34_35 := fun h v => upd_ne h (i := 34) (j := 35) v (by omega)
  have N34_36 := fun h v => upd_ne h (i := 34) (j := 36) v (by omega)
  have N34_39 := fun h v => upd_ne h (i := 34) (j := 39) v (by omega)
  have N34_45 := fun h v => upd_ne h (i := 34) (j := 45) v (by omega)
  have N65_0 := fun h v => upd_ne h (i := 65) (j := 0) v (by omega)
  have N65_34 := fun h v => upd_ne h (i := 65) (j := 34) v (by omega)
  have N65_35 := fun h v => upd_ne h (i := 65) (j := 35) v (by omega)
  have N65_36 := fun h v => upd_ne h (i := 65) (j := 36) v (by omega)
  have N65_39 := fun h v => upd_ne h (i := 65) (j := 39) v (by omega)
  have N65_45 := fun h v => upd_ne h (i := 65) (j := 45) v (by omega)
  have N49_0 := fun h v => upd_ne h (i := 49) (j := 0) v (by omega)
  have N49_34 := fun h v => upd_ne h (i := 49) (j := 34) v (by omega)
  have N49_35 := fun h v => upd_ne h (i := 49) (j := 35) v (by omega)
  have N49_36 := fun h v => upd_ne h (i := 49) (j := 36) v (by omega)
  have N49_39 := fun h v => upd_ne h (i := 49) (j := 39) v (by omega)
  have N49_45 := fun h v => upd_ne h (i := 49) (j := 45) v (by omega)
  have N48_0 := fun h v => upd_ne h (i := 48) (j := 0) v (by omega)
  have N48_34 := fun h v => upd_ne h (i := 48) (j := 34) v (by omega)
  have N48_35 := fun h v => upd_ne h (i := 48) (j := 35) v (by omega)
  have N48_36 := fun h v => upd_ne h (i := 48) (j := 36) v (by omega)
  have N48_39 := fun h v => upd_ne h (i := 48) (j := 39) v (by omega)
  have N48_45 := fun h v => upd_ne h (i := 48) (j := 45) v (by omega)
  have N50_0 := fun h v => upd_ne h (i := 50) (j := 0) v (by omega)
  have N50_34 := fun h v => upd_ne h (i := 50) (j := 34) v (by omega)
  have N50_35 := fun h v => upd_ne h (i := 50) (j := 35) v (by omega)
  have N50_36 := fun h v => upd_ne h (i := 50) (j := 36) v (by omega)
  have N50_39 := fun h v => upd_ne h (i := 50) (j := 39) v (by omega)
  have N50_45 := fun h v => upd_ne h (i := 50) (j := 45) v (by omega)
  have Z : ∀ (h : Nat → BitVec 64) (p : Int) (r : Bool), (hV h p r).setIfInBounds 65 (.int .u64 0) = hV (upd h 65 0#64) p r := fun h p r => hV_set h p r 65 0#64 (by omega) (by omega)
  have T : (u c / 9223372036854775808 == 1) = false := (top_div c).trans h63
  have T2 : (u (cau c) / 9223372036854775808 == 1) = false := (top_div _).trans ((cau_top c).trans h63)
  have P1 : ¬ u c / 9223372036854775808 = 1 := by simpa using T
  have P2 : ¬ u (cau c) / 9223372036854775808 = 1 := by simpa using T2
  have A : bits .and .u64 (u c) 9223372036854775871 = u (cau c) := u_and c 0x800000000000003f#64
  have B : bits .and .u64 (u c) 63 = u n := hn ▸ u_and c 63#64
  have A0 : bits .andNot .u64 (u (h 0)) 3 = u (h 0 &&& ~~~3#64) := u_andNot (h 0) 3#64
  have sh := fun v => shr_run Try.prog v n (hn ▸ and_lt64 c)
  have V0 : bits .andNot .u64 (u (h 45)) 3 = u (h 45 &&& ~~~3#64) := u_andNot (h 45) 3#64
  have V1 : (bits .and .u64 (u (h 45)) 1 == 1) = true := (low_test1' _).trans hv
  have V2 : bits .and .u64 (u (h 45)) 1 = 1 := by simpa using V1
  have D1 : (bits .and .u64 (u (h 35 >>> n.toNat)) 1 == 1) = true := (bit_at1 _ _).trans hb
  have D2 : bits .and .u64 (u (h 35 >>> n.toNat)) 1 = 1 := by simpa using D1
  have Q1 : (bits .and .u64 (u (h 34)) 2 != 0) = (!(h 34 &&& 2#64 == 0#64)) := by unfold bne; rw [show (2 : Int) = u 2#64 from rfl, u_and, show (0 : Int) = u 0#64 from rfl, u_beq]
  have Q2 := fun v : BitVec 64 => (show bits .andNot .u64 (u v) 2 = u (v &&& ~~~2#64) from u_andNot v 2#64)
  have K1 : Hid (∀ (v : BitVec 64) on w, Calls Try.prog 32 #[.int .u64 (u v), .int .u64 32, .bool on] w fun e w' => e = .returned (.int .u64 (u (putB v 32#64 on))) ∧ w = w') := Lib.hid (fun v on w => rputb_any v 32#64 on w)
  have K2 : Hid (∀ (v : BitVec 64) on w, Calls Try.prog 32 #[.int .u64 (u v), .int .u64 256, .bool on] w fun e w' => e = .returned (.int .u64 (u (putB v 256#64 on))) ∧ w = w') := Lib.hid (fun v on w => rputb_any v 256#64 on w)
  clear h63 hv hn hb
  go_enter Try.func13, Try.ntmps13
  go_wp2_with (first | ((with_reducible apply hrt_ld); (case ho => exact rfl); (case hgd => exact rfl); (case hx => exact rfl); (case hg => exact box1 _ _ _)) | ((with_reducible apply hrt_st); (case ho => exact rfl); (case hgd => exact rfl); (case hx => exact rfl); (case hy => exact rfl); (case hg => exact box2 _ _ _)))
  go_at_call 32; refine (K1.out _ _ _).mono ?_; rintro _ _ ⟨rfl, rfl⟩
  go_wp2_with (first | ((with_reducible apply hrt_ld); (case ho => exact rfl); (case hgd => exact rfl); (case hx => exact rfl); (case hg => exact box1 _ _ _)) | ((with_reducible apply hrt_st); (case ho => exact rfl); (case hgd => exact rfl); (case hx => exact rfl); (case hy => exact rfl); (case hg => exact box2 _ _ _)))
  go_at_call 32; refine (K2.out _ _ _).mono ?_; rintro _ _ ⟨rfl, rfl⟩
  go_wp2_with (first | ((with_reducible apply hrt_ld); (case ho => exact rfl); (case hgd => exact rfl); (case hx => exact rfl); (case hg => exact box1 _ _ _)) | ((with_reducible apply hrt_st); (case ho => exact rfl); (case hgd => exact rfl); (case hx => exact rfl); (case hy => exact rfl); (case hg => exact box2 _ _ _)))
  skip
  refine row_back hrtT rfl rfl rfl (hset_row (box2 _ _ _)) (hV_size ..) ⟨(?_ : Ending.returned (.agg (hV _ 1 false)) = _), (HO.out _ _ _).row _ _ (by omega)⟩
  rfl
set_option maxRecDepth 100000 in
set_option maxHeartbeats 1000000 in
theorem rent_0_100 (h : Nat → BitVec 64) (r : Bool) (c t n : BitVec 64) (hn : c &&& 63#64 = n) (h63 : c.getLsbD 63 = true) (hb : (h 36).getLsbD n.toNat = false) (hv : (h 39).getLsbD 0 = false) (w : World) : Calls Try.prog 13 #[.agg (hV h 0 r), .int .u64 (u c), .int .u64 (u t)] w fun e w' => e = .returned (.agg (hV (upd (upd (upd (upd (upd (upd h 65 0#64) 43 (cau c)) 42 (h 0 &&& ~~~3#64)) 44 t) 34 ((putB (h 34) 128#64 (!(h 34 &&& 8#64 == 0#64)) &&& ~~~8#64) &&& ~~~6144#64 ||| (wd64 0 &&& 3#64) <<< 11)) 0 (h 39 &&& ~~~3#64)) 3 false)) ∧ On w w' := by
  have hZ := fun w => hrt_zero w
  have HO : Hid (∀ h' p' r', On w ((w.alloc (.cells (hV h' p' r') 28)).alloc (.cells (hV zC 0 false) 28))) := Lib.hid (fun _ _ _ => ((On.refl w).alloc _).alloc _)
  have c0 := fun (h' : Nat → BitVec 64) (p' : Int) (r' : Bool) => blk_cell (box1 w (.cells (hV h' p' r') 28) (.cells (hV zC 0 false) 28)) 0 (hV_get h' p' r' 0 (by omega) (by omega) (by omega))
  have c34 := fun (h' : Nat → BitVec 64) (p' : Int) (r' : Bool) => blk_cell (box1 w (.cells (hV h' p' r') 28) (.cells (hV zC 0 false) 28)) 34 (hV_get h' p' r' 34 (by omega) (by omega) (by omega))
  have c35 := fun (h' : Nat → BitVec 64) (p' : Int) (r' : Bool) => blk_cell (box1 w (.cells (hV h' p' r') 28) (.cells (hV zC 0 false) 28)) 35 (hV_get h' p' r' 35 (by omega) (by omega) (by omega))
  have c36 := fun (h' : Nat → BitVec 64) (p' : Int) (r' : Bool) => blk_cell (box1 w (.cells (hV h' p' r') 28) (.cells (hV zC 0 false) 28)) 36 (hV_get h' p' r' 36 (by omega) (by omega) (by omega))
  have c39 := fun (h' : Nat → BitVec 64) (p' : Int) (r' : Bool) => blk_cell (box1 w (.cells (hV h' p' r') 28) (.cells (hV zC 0 false) 28)) 39 (hV_get h' p' r' 39 (by omega) (by omega) (by omega))
  have c45 := fun (h' : Nat → BitVec 64) (p' : Int) (r' : Bool) => blk_cell (box1 w (.cells (hV h' p' r') 28) (.cells (hV zC 0 false) 28)) 45 (hV_get h' p' r' 45 (by omega) (by omega) (by omega))
  have cP := fun (h' : Nat → BitVec 64) (p' : Int) (r' : Bool) => blk_cell (box1 w (.cells (hV h' p' r') 28) (.cells (hV zC 0 false) 28)) 1 (hV_priv h' p' r')
  have G0 := fun h p r => hV_get h p r 0 (by omega) (by omega) (by omega)
  have S0 := fun h p r v => hV_set h p r 0 v (by omega) (by omega)
  have f0 := fun (h' : Nat → BitVec 64) (p' : Int) (r' : Bool) => blk_free (box1 w (.cells (hV h' p' r') 28) (.cells (hV zC 0 false) 28)) 0
  have U0 := fun h v => upd_self h 0 v
  have SP := fun h p r v => hV_setp h p r v
  have GP := fun h p r => hV_priv h p r
  have f1 := fun (h' : Nat → BitVec 64) (p' : Int) (r' : Bool) => blk_free (box1 w (.cells (hV h' p' r') 28) (.cells (hV zC 0 false) 28)) 1
  have G34 := fun h p r => hV_get h p r 34 (by omega) (by omega) (by omega)
  have S34 := fun h p r v => hV_set h p r 34 v (by omega) (by omega)
  have f34 := fun (h' : Nat → BitVec 64) (p' : Int) (r' : Bool) => blk_free (box1 w (.cells (hV h' p' r') 28) (.cells (hV zC 0 false) 28)) 34
  have U34 := fun h v => upd_self h 34 v
  have SR := fun h p r v => hV_setr h p r v
  have GR := fun h p r => hV_res h p r
  have f64 := fun (h' : Nat → BitVec 64) (p' : Int) (r' : Bool) => blk_free (box1 w (.cells (hV h' p' r') 28) (.cells (hV zC 0 false) 28)) 64
  have G65 := fun h p r => hV_get h p r 65 (by omega) (by omega) (by omega)
  have S65 := fun h p r v => hV_set h p r 65 v (by omega) (by omega)
  have f65 := fun (h' : Nat → BitVec 64) (p' : Int) (r' : Bool) => blk_free (box1 w (.cells (hV h' p' r') 28) (.cells (hV zC 0 false) 28)) 65
  have U65 := fun h v => upd_self h 65 v
  have G43 := fun h p r => hV_get h p r 43 (by omega) (by omega) (by omega)
  have S43 := fun h p r v => hV_set h p r 43 v (by omega) (by omega)
  have f43 := fun (h' : Nat → BitVec 64) (p' : Int) (r' : Bool) => blk_free (box1 w (.cells (hV h' p' r') 28) (.cells (hV zC 0 false) 28)) 43
  have U43 := fun h v => upd_self h 43 v
  have G42 := fun h p r => hV_get h p r 42 (by omega) (by omega) (by omega)
  have S42 := fun h p r v => hV_set h p r 42 v (by omega) (by omega)
  have f42 := fun (h' : Nat → BitVec 64) (p' : Int) (r' : Bool) => blk_free (box1 w (.cells (hV h' p' r') 28) (.cells (hV zC 0 false) 28)) 42
  have U42 := fun h v => upd_self h 42 v
  have G44 := fun h p r => hV_get h p r 44 (by omega) (by omega) (by omega)
  have S44 := fun h p r v => hV_set h p r 44 v (by omega) (by omega)
  have f44 := fun (h' : Nat → BitVec 64) (p' : Int) (r' : Bool) => blk_free (box1 w (.cells (hV h' p' r') 28) (.cells (hV zC 0 false) 28)) 44
  have U44 := fun h v => upd_self h 44 v
  have N0_34 := fun h v => upd_ne h (i := 0) (j := 34) v (by omega)
  have N0_35 := fun h v => upd_ne h (i := 0) (j := 35) v (by omega)
  have N0_36 := fun h v => upd_ne h (i := 0) (j := 36) v (by omega)
  have N0_39 := fun h v => upd_ne h (i := 0) (j := 39) v (by omega)
  have N0_45 := fun h v => upd_ne h (i := 0) (j := 45) v (by omega)
  have N34_0 := fun h v => upd_ne h (i := 34) (j := 0) v (by omega)
  have N34_35 := fun h v => upd_ne h (i := 34) (j := 35) v (by omega)
  have N34_36 := fun h v => upd_ne h (i := 34) (j := 36) v (by omega)
  have N34_39 := fun h v => upd_ne h (i := 34) (j := 39) v (by omega)
  have N34_45 := fun h v => upd_ne h (i := 34) (j := 45) v (by omega)
  have N65_0 := fun h v => upd_ne h (i := 65) (j := 0) v (by omega)
  have N65_34 := fun h v => upd_ne h (i := 65) (j := 34) v (by omega)
  have N65_35 := fun h v => upd_ne h (i := 65) (j := 35) v (by omega)
  have N65_36 := fun h v => upd_ne h (i := 65) (j := 36) v (by omega)
  have N65_39 := fun h v => upd_ne h (i := 65) (j := 39) v (by omega)
  have N65_45 := fun h v => upd_ne h (i := 65) (j := 45) v (by omega)
  have N43_0 := fun h v => upd_ne h (i := 43) (j := 0) v (by omega)
  have N43_34 := fun h v => upd_ne h (i := 43) (j := 34) v (by omega)
  have N43_35 := fun h v => upd_ne h (i := 43) (j := 35) v (by omega)
  have N43_36 := fun h v => upd_ne h (i := 43) (j := 36) v (by omega)
  have N43_39 := fun h v => upd_ne h (i := 43) (j := 39) v (by omega)
  have N43_45 := fun h v => upd_ne h (i := 43) (j := 45) v (by omega)
  have N42_0 := fun h v => upd_ne h (i := 42) (j := 0) v (by omega)
  have N42_34 := fun h v => upd_ne h (i := 42) (j := 34) v (by omega)
  have N42_35 := fun h v => upd_ne h (i := 42) (j := 35) v (by omega)
  have N42_36 := fun h v => upd_ne h (i := 42) (j := 36) v (by omega)
  have N42_39 := fun h v => upd_ne h (i := 42) (j := 39) v (by omega)
  have N42_45 := fun h v => upd_ne h (i := 42) (j := 45) v (by omega)
  have N44_0 := fun h v => upd_ne h (i := 44) (j := 0) v (by omega)
  have N44_34 := fun h v => upd_ne h (i := 44) (j := 34) v (by omega)
  have N44_35 := fun h v => upd_ne h (i := 44) (j := 35) v (by omega)
  have N44_36 := fun h v => upd_ne h (i := 44) (j := 36) v (by omega)
  have N44_39 := fun h v => upd_ne h (i := 44) (j := 39) v (by omega)
  have N44_45 := fun h v => upd_ne h (i := 44) (j := 45) v (by omega)
  have Z : ∀ (h : Nat → BitVec 64) (p : Int) (r : Bool), (hV h p r).setIfInBounds 65 (.int .u64 0) = hV (upd h 65 0#64) p r := fun h p r => hV_set h p r 65 0#64 (by omega) (by omega)
  have T : (u c / 9223372036854775808 == 1) = true := (top_div c).trans h63
  have T2 : (u (cau c) / 9223372036854775808 == 1) = true := (top_div _).trans ((cau_top c).trans h63)
  have P1 : u c / 9223372036854775808 = 1 := by simpa using T
  have P2 : u (cau c) / 9223372036854775808 = 1 := by simpa using T2
  have A : bits .and .u64 (u c) 9223372036854775871 = u (cau c) := u_and c 0x800000000000003f#64
  have B : bits .and .u64 (u c) 63 = u n := hn ▸ u_and c 63#64
  have A0 : bits .andNot .u64 (u (h 0)) 3 = u (h 0 &&& ~~~3#64) := u_andNot (h 0) 3#64
  have sh := fun v => shr_run Try.prog v n (hn ▸ and_lt64 c)
  have V0 : bits .andNot .u64 (u (h 39)) 3 = u (h 39 &&& ~~~3#64) := u_andNot (h 39) 3#64
  have V1 : (bits .and .u64 (u (h 39)) 1 == 1) = false := (low_test1' _).trans hv
  have V2 : ¬ bits .and .u64 (u (h 39)) 1 = 1 := by simpa using V1
  have D1 : (bits .and .u64 (u (h 36 >>> n.toNat)) 1 == 1) = false := (bit_at1 _ _).trans hb
  have D2 : ¬ bits .and .u64 (u (h 36 >>> n.toNat)) 1 = 1 := by simpa using D1
  have Q1 : (bits .and .u64 (u (h 34)) 8 != 0) = (!(h 34 &&& 8#64 == 0#64)) := by unfold bne; rw [show (8 : Int) = u 8#64 from rfl, u_and, show (0 : Int) = u 0#64 from rfl, u_beq]
  have Q2 := fun v : BitVec 64 => (show bits .andNot .u64 (u v) 8 = u (v &&& ~~~8#64) from u_andNot v 8#64)
  have K1 : Hid (∀ (v : BitVec 64) on w, Calls Try.prog 32 #[.int .u64 (u v), .int .u64 128, .bool on] w fun e w' => e = .returned (.int .u64 (u (putB v 128#64 on))) ∧ w = w') := Lib.hid (fun v on w => rputb_any v 128#64 on w)
  have M1 := fun v : BitVec 64 => (show bits .andNot .u64 (u v) 6144 = u (v &&& ~~~6144#64) from u_andNot v 6144#64)
  have M2 : IntKind.u64.wrap (bits .and .i64 0 3) = u (wd64 0 &&& 3#64) := i64_and3 0
  have M3 := fun v => shl11 v
  have M4 := fun a b => u_or a b
  clear h63 hv hn hb
  go_enter Try.func13, Try.ntmps13
  go_wp2_with (first | ((with_reducible apply hrt_ld); (case ho => exact rfl); (case hgd => exact rfl); (case hx => exact rfl); (case hg => exact box1 _ _ _)) | ((with_reducible apply hrt_st); (case ho => exact rfl); (case hgd => exact rfl); (case hx => exact rfl); (case hy => exact rfl); (case hg => exact box2 _ _ _)))
  go_at_call 32; refine (K1.out _ _ _).mono ?_; rintro _ _ ⟨rfl, rfl⟩
  go_wp2_with (first | ((with_reducible apply hrt_ld); (case ho => exact rfl); (case hgd => exact rfl); (case hx => exact rfl); (case hg => exact box1 _ _ _)) | ((with_reducible apply hrt_st); (case ho => exact rfl); (case hgd => exact rfl); (case hx => exact rfl); (case hy => exact rfl); (case hg => exact box2 _ _ _)))
  skip
  refine row_back hrtT rfl rfl rfl (hset_row (box2 _ _ _)) (hV_size ..) ⟨(?_ : Ending.returned (.agg (hV _ 3 false)) = _), (HO.out _ _ _).row _ _ (by omega)⟩
  rfl
set_option maxRecDepth 100000 in
set_option maxHeartbeats 1000000 in
theorem rent_0_101 (h : Nat → BitVec 64) (r : Bool) (c t n : BitVec 64) (hn : c &&& 63#64 = n) (h63 : c.getLsbD 63 = true) (hb : (h 36).getLsbD n.toNat = false) (hv : (h 39).getLsbD 0 = true) (w : World) : Calls Try.prog 13 #[.agg (hV h 0 r), .int .u64 (u c), .int .u64 (u t)] w fun e w' => e = .returned (.agg (hV (upd (upd (upd (upd (upd (upd (upd h 65 0#64) 43 (cau c)) 42 (h 0 &&& ~~~3#64)) 44 t) 34 ((putB (h 34) 128#64 (!(h 34 &&& 8#64 == 0#64)) &&& ~~~8#64) &&& ~~~6144#64 ||| (wd64 0 &&& 3#64) <<< 11)) 0 (h 39 &&& ~~~3#64)) 0 ((h 39 &&& ~~~3#64) + 4#64 * n)) 3 false)) ∧ On w w' := by
  have hZ := fun w => hrt_zero w
  have HO : Hid (∀ h' p' r', On w ((w.alloc (.cells (hV h' p' r') 28)).alloc (.cells (hV zC 0 false) 28))) := Lib.hid (fun _ _ _ => ((On.refl w).alloc _).alloc _)
  have c0 := fun (h' : Nat → BitVec 64) (p' : Int) (r' : Bool) => blk_cell (box1 w (.cells (hV h' p' r') 28) (.cells (hV zC 0 false) 28)) 0 (hV_get h' p' r' 0 (by omega) (by omega) (by omega))
  have c34 := fun (h' : Nat → BitVec 64) (p' : Int) (r' : Bool) => blk_cell (box1 w (.cells (hV h' p' r') 28) (.cells (hV zC 0 false) 28)) 34 (hV_get h' p' r' 34 (by omega) (by omega) (by omega))
  have c35 := fun (h' : Nat → BitVec 64) (p' : Int) (r' : Bool) => blk_cell (box1 w (.cells (hV h' p' r') 28) (.cells (hV zC 0 false) 28)) 35 (hV_get h' p' r' 35 (by omega) (by omega) (by omega))
  have c36 := fun (h' : Nat → BitVec 64) (p' : Int) (r' : Bool) => blk_cell (box1 w (.cells (hV h' p' r') 28) (.cells (hV zC 0 false) 28)) 36 (hV_get h' p' r' 36 (by omega) (by omega) (by omega))
  have c39 := fun (h' : Nat → BitVec 64) (p' : Int) (r' : Bool) => blk_cell (box1 w (.cells (hV h' p' r') 28) (.cells (hV zC 0 false) 28)) 39 (hV_get h' p' r' 39 (by omega) (by omega) (by omega))
  have c45 := fun (h' : Nat → BitVec 64) (p' : Int) (r' : Bool) => blk_cell (box1 w (.cells (hV h' p' r') 28) (.cells (hV zC 0 false) 28)) 45 (hV_get h' p' r' 45 (by omega) (by omega) (by omega))
  have cP := fun (h' : Nat → BitVec 64) (p' : Int) (r' : Bool) => blk_cell (box1 w (.cells (hV h' p' r') 28) (.cells (hV zC 0 false) 28)) 1 (hV_priv h' p' r')
  have G0 := fun h p r => hV_get h p r 0 (by omega) (by omega) (by omega)
  have S0 := fun h p r v => hV_set h p r 0 v (by omega) (by omega)
  have f0 := fun (h' : Nat → BitVec 64) (p' : Int) (r' : Bool) => blk_free (box1 w (.cells (hV h' p' r') 28) (.cells (hV zC 0 false) 28)) 0
  have U0 := fun h v => upd_self h 0 v
  have SP := fun h p r v => hV_setp h p r v
  have GP := fun h p r => hV_priv h p r
  have f1 := fun (h' : Nat → BitVec 64) (p' : Int) (r' : Bool) => blk_free (box1 w (.cells (hV h' p' r') 28) (.cells (hV zC 0 false) 28)) 1
  have G34 := fun h p r => hV_get h p r 34 (by omega) (by omega) (by omega)
  have S34 := fun h p r v => hV_set h p r 34 v (by omega) (by omega)
  have f34 := fun (h' : Nat → BitVec 64) (p' : Int) (r' : Bool) => blk_free (box1 w (.cells (hV h' p' r') 28) (.cells (hV zC 0 false) 28)) 34
  have U34 := fun h v => upd_self h 34 v
  have SR := fun h p r v => hV_setr h p r v
  have GR := fun h p r => hV_res h p r
  have f64 := fun (h' : Nat → BitVec 64) (p' : Int) (r' : Bool) => blk_free (box1 w (.cells (hV h' p' r') 28) (.cells (hV zC 0 false) 28)) 64
  have G65 := fun h p r => hV_get h p r 65 (by omega) (by omega) (by omega)
  have S65 := fun h p r v => hV_set h p r 65 v (by omega) (by omega)
  have f65 := fun (h' : Nat → BitVec 64) (p' : Int) (r' : Bool) => blk_free (box1 w (.cells (hV h' p' r') 28) (.cells (hV zC 0 false) 28)) 65
  have U65 := fun h v => upd_self h 65 v
  have G43 := fun h p r => hV_get h p r 43 (by omega) (by omega) (by omega)
  have S43 := fun h p r v => hV_set h p r 43 v (by omega) (by omega)
  have f43 := fun (h' : Nat → BitVec 64) (p' : Int) (r' : Bool) => blk_free (box1 w (.cells (hV h' p' r') 28) (.cells (hV zC 0 false) 28)) 43
  have U43 := fun h v => upd_self h 43 v
  have G42 := fun h p r => hV_get h p r 42 (by omega) (by omega) (by omega)
  have S42 := fun h p r v => hV_set h p r 42 v (by omega) (by omega)
  have f42 := fun (h' : Nat → BitVec 64) (p' : Int) (r' : Bool) => blk_free (box1 w (.cells (hV h' p' r') 28) (.cells (hV zC 0 false) 28)) 42
  have U42 := fun h v => upd_self h 42 v
  have G44 := fun h p r => hV_get h p r 44 (by omega) (by omega) (by omega)
  have S44 := fun h p r v => hV_set h p r 44 v (by omega) (by omega)
  have f44 := fun (h' : Nat → BitVec 64) (p' : Int) (r' : Bool) => blk_free (box1 w (.cells (hV h' p' r') 28) (.cells (hV zC 0 false) 28)) 44
  have U44 := fun h v => upd_self h 44 v
  have N0_34 := fun h v => upd_ne h (i := 0) (j := 34) v (by omega)
  have N0_35 := fun h v => upd_ne h (i := 0) (j := 35) v (by omega)
  have N0_36 := fun h v => upd_ne h (i := 0) (j := 36) v (by omega)
  have N0_39 := fun h v => upd_ne h (i := 0) (j := 39) v (by omega)
  have N0_45 := fun h v => upd_ne h (i := 0) (j := 45) v (by omega)
  have N34_0 := fun h v => upd_ne h (i := 34) (j := 0) v (by omega)
  have N34_35 := fun h v => upd_ne h (i := 34) (j := 35) v (by omega)
  have N34_36 := fun h v => upd_ne h (i := 34) (j := 36) v (by omega)
  have N34_39 := fun h v => upd_ne h (i := 34) (j := 39) v (by omega)
  have N34_45 := fun h v => upd_ne h (i := 34) (j := 45) v (by omega)
  have N65_0 := fun h v => upd_ne h (i := 65) (j := 0) v (by omega)
  have N65_34 := fun h v => upd_ne h (i := 65) (j := 34) v (by omega)
  have N65_35 := fun h v => upd_ne h (i := 65) (j := 35) v (by omega)
  have N65_36 := fun h v => upd_ne h (i := 65) (j := 36) v (by omega)
  have N65_39 := fun h v => upd_ne h (i := 65) (j := 39) v (by omega)
  have N65_45 := fun h v => upd_ne h (i := 65) (j := 45) v (by omega)
  have N43_0 := fun h v => upd_ne h (i := 43) (j := 0) v (by omega)
  have N43_34 := fun h v => upd_ne h (i := 43) (j := 34) v (by omega)
  have N43_35 := fun h v => upd_ne h (i := 43) (j := 35) v (by omega)
  have N43_36 := fun h v => upd_ne h (i := 43) (j := 36) v (by omega)
  have N43_39 := fun h v => upd_ne h (i := 43) (j := 39) v (by omega)
  have N43_45 := fun h v => upd_ne h (i := 43) (j := 45) v (by omega)
  have N42_0 := fun h v => upd_ne h (i := 42) (j := 0) v (by omega)
  have N42_34 := fun h v => upd_ne h (i := 42) (j := 34) v (by omega)
  have N42_35 := fun h v => upd_ne h (i := 42) (j := 35) v (by omega)
  have N42_36 := fun h v => upd_ne h (i := 42) (j := 36) v (by omega)
  have N42_39 := fun h v => upd_ne h (i := 42) (j := 39) v (by omega)
  have N42_45 := fun h v => upd_ne h (i := 42) (j := 45) v (by omega)
  have N44_0 := fun h v => upd_ne h (i := 44) (j := 0) v (by omega)
  have N44_34 := fun h v => upd_ne h (i := 44) (j := 34) v (by omega)
  have N44_35 := fun h v => upd_ne h (i := 44) (j := 35) v (by omega)
  have N44_36 := fun h v => upd_ne h (i := 44) (j := 36) v (by omega)
  have N44_39 := fun h v => upd_ne h (i := 44) (j := 39) v (by omega)
  have N44_45 := fun h v => upd_ne h (i := 44) (j := 45) v (by omega)
  have Z : ∀ (h : Nat → BitVec 64) (p : Int) (r : Bool), (hV h p r).setIfInBounds 65 (.int .u64 0) = hV (upd h 65 0#64) p r := fun h p r => hV_set h p r 65 0#64 (by omega) (by omega)
  have T : (u c / 9223372036854775808 == 1) = true := (top_div c).trans h63
  have T2 : (u (cau c) / 9223372036854775808 == 1) = true := (top_div _).trans ((cau_top c).trans h63)
  have P1 : u c / 9223372036854775808 = 1 := by simpa using T
  have P2 : u (cau c) / 9223372036854775808 = 1 := by simpa using T2
  have A : bits .and .u64 (u c) 9223372036854775871 = u (cau c) := u_and c 0x800000000000003f#64
  have B : bits .and .u64 (u c) 63 = u n := hn ▸ u_and c 63#64
  have A0 : bits .andNot .u64 (u (h 0)) 3 = u (h 0 &&& ~~~3#64) := u_andNot (h 0) 3#64
  have sh := fun v => shr_run Try.prog v n (hn ▸ and_lt64 c)
  have V0 : bits .andNot .u64 (u (h 39)) 3 = u (h 39 &&& ~~~3#64) := u_andNot (h 39) 3#64
  have V1 : (bits .and .u64 (u (h 39)) 1 == 1) = true := (low_test1' _).trans hv
  have V2 : bits .and .u64 (u (h 39)) 1 = 1 := by simpa using V1
  have D1 : (bits .and .u64 (u (h 36 >>> n.toNat)) 1 == 1) = false := (bit_at1 _ _).trans hb
  have D2 : ¬ bits .and .u64 (u (h 36 >>> n.toNat)) 1 = 1 := by simpa using D1
  have Q1 : (bits .and .u64 (u (h 34)) 8 != 0) = (!(h 34 &&& 8#64 == 0#64)) := by unfold bne; rw [show (8 : Int) = u 8#64 from rfl, u_and, show (0 : Int) = u 0#64 from rfl, u_beq]
  have Q2 := fun v : BitVec 64 => (show bits .andNot .u64 (u v) 8 = u (v &&& ~~~8#64) from u_andNot v 8#64)
  have K1 : Hid (∀ (v : BitVec 64) on w, Calls Try.prog 32 #[.int .u64 (u v), .int .u64 128, .bool on] w fun e w' => e = .returned (.int .u64 (u (putB v 128#64 on))) ∧ w = w') := Lib.hid (fun v on w => rputb_any v 128#64 on w)
  have M1 := fun v : BitVec 64 => (show bits .andNot .u64 (u v) 6144 = u (v &&& ~~~6144#64) from u_andNot v 6144#64)
  have M2 : IntKind.u64.wrap (bits .and .i64 0 3) = u (wd64 0 &&& 3#64) := i64_and3 0
  have M3 := fun v => shl11 v
  have M4 := fun a b => u_or a b
  have X1 : IntKind.u64.wrap (4 * u n) = u (4#64 * n) := u_mul 4#64 _
  have X2 := fun a b => u_add a b
  clear h63 hv hn hb
  go_enter Try.func13, Try.ntmps13
  go_wp2_with (first | ((with_reducible apply hrt_ld); (case ho => exact rfl); (case hgd => exact rfl); (case hx => exact rfl); (case hg => exact box1 _ _ _)) | ((with_reducible apply hrt_st); (case ho => exact rfl); (case hgd => exact rfl); (case hx => exact rfl); (case hy => exact rfl); (case hg => exact box2 _ _ _)))
  go_at_call 32; refine (K1.out _ _ _).mono ?_; rintro _ _ ⟨rfl, rfl⟩
  go_wp2_with (first | ((with_reducible apply hrt_ld); (case ho => exact rfl); (case hgd => exact rfl); (case hx => exact rfl); (case hg => exact box1 _ _ _)) | ((with_reducible apply hrt_st); (case ho => exact rfl); (case hgd => exact rfl); (case hx => exact rfl); (case hy => exact rfl); (case hg => exact box2 _ _ _)))
  skip
  refine row_back hrtT rfl rfl rfl (hset_row (box2 _ _ _)) (hV_size ..) ⟨(?_ : Ending.returned (.agg (hV _ 3 false)) = _), (HO.out _ _ _).row _ _ (by omega)⟩
  rfl
set_option maxRecDepth 100000 in
set_option maxHeartbeats 1000000 in
theorem rent_0_110 (h : Nat → BitVec 64) (r : Bool) (c t n : BitVec 64) (hn : c &&& 63#64 = n) (h63 : c.getLsbD 63 = true) (hb : (h 36).getLsbD n.toNat = true) (hv : (h 45).getLsbD 0 = false) (w : World) : Calls Try.prog 13 #[.agg (hV h 0 r), .int .u64 (u c), .int .u64 (u t)] w fun e w' => e = .returned (.agg (hV (upd (upd (upd (upd (upd (upd h 65 0#64) 49 (cau c)) 48 (h 0 &&& ~~~3#64)) 50 t) 34 (putB (putB (h 34) 32#64 (!(h 34 &&& 2#64 == 0#64)) &&& ~~~2#64) 256#64 (0 == 1))) 0 (h 45 &&& ~~~3#64)) 1 false)) ∧ On w w' := by
  have hZ := fun w => hrt_zero w
  have HO : Hid (∀ h' p' r', On w ((w.alloc (.cells (hV h' p' r') 28)).alloc (.cells (hV zC 0 false) 28))) := Lib.hid (fun _ _ _ => ((On.refl w).alloc _).alloc _)
  have c0 := fun (h' : Nat → BitVec 64) (p' : Int) (r' : Bool) => blk_cell (box1 w (.cells (hV h' p' r') 28) (.cells (hV zC 0 false) 28)) 0 (hV_get h' p' r' 0 (by omega) (by omega) (by omega))
  have c34 := fun (h' : Nat → BitVec 64) (p' : Int) (r' : Bool) => blk_cell (box1 w (.cells (hV h' p' r') 28) (.cells (hV zC 0 false) 28)) 34 (hV_get h' p' r' 34 (by omega) (by omega) (by omega))
  have c35 := fun (h' : Nat → BitVec 64) (p' : Int) (r' : Bool) => blk_cell (box1 w (.cells (hV h' p' r') 28) (.cells (hV zC 0 false) 28)) 35 (hV_get h' p' r' 35 (by omega) (by omega) (by omega))
  have c36 := fun (h' : Nat → BitVec 64) (p' : Int) (r' : Bool) => blk_cell (box1 w (.cells (hV h' p' r') 28) (.cells (hV zC 0 false) 28)) 36 (hV_get h' p' r' 36 (by omega) (by omega) (by omega))
  have c39 := fun (h' : Nat → BitVec 64) (p' : Int) (r' : Bool) => blk_cell (box1 w (.cells (hV h' p' r') 28) (.cells (hV zC 0 false) 28)) 39 (hV_get h' p' r' 39 (by omega) (by omega) (by omega))
  have c45 := fun (h' : Nat → BitVec 64) (p' : Int) (r' : Bool) => blk_cell (box1 w (.cells (hV h' p' r') 28) (.cells (hV zC 0 false) 28)) 45 (hV_get h' p' r' 45 (by omega) (by omega) (by omega))
  have cP := fun (h' : Nat → BitVec 64) (p' : Int) (r' : Bool) => blk_cell (box1 w (.cells (hV h' p' r') 28) (.cells (hV zC 0 false) 28)) 1 (hV_priv h' p' r')
  have G0 := fun h p r => hV_get h p r 0 (by omega) (by omega) (by omega)
  have S0 := fun h p r v => hV_set h p r 0 v (by omega) (by omega)
  have f0 := fun (h' : Nat → BitVec 64) (p' : Int) (r' : Bool) => blk_free (box1 w (.cells (hV h' p' r') 28) (.cells (hV zC 0 false) 28)) 0
  have U0 := fun h v => upd_self h 0 v
  have SP := fun h p r v => hV_setp h p r v
  have GP := fun h p r => hV_priv h p r
  have f1 := fun (h' : Nat → BitVec 64) (p' : Int) (r' : Bool) => blk_free (box1 w (.cells (hV h' p' r') 28) (.cells (hV zC 0 false) 28)) 1
  have G34 := fun h p r => hV_get h p r 34 (by omega) (by omega) (by omega)
  have S34 := fun h p r v => hV_set h p r 34 v (by omega) (by omega)
  have f34 := fun (h' : Nat → BitVec 64) (p' : Int) (r' : Bool) => blk_free (box1 w (.cells (hV h' p' r') 28) (.cells (hV zC 0 false) 28)) 34
  have U34 := fun h v => upd_self h 34 v
  have SR := fun h p r v => hV_setr h p r v
  have GR := fun h p r => hV_res h p r
  have f64 := fun (h' : Nat → BitVec 64) (p' : Int) (r' : Bool) => blk_free (box1 w (.cells (hV h' p' r') 28) (.cells (hV zC 0 false) 28)) 64
  have G65 := fun h p r => hV_get h p r 65 (by omega) (by omega) (by omega)
  have S65 := fun h p r v => hV_set h p r 65 v (by omega) (by omega)
  have f65 := fun (h' : Nat → BitVec 64) (p' : Int) (r' : Bool) => blk_free (box1 w (.cells (hV h' p' r') 28) (.cells (hV zC 0 false) 28)) 65
  have U65 := fun h v => upd_self h 65 v
  have G49 := fun h p r => hV_get h p r 49 (by omega) (by omega) (by omega)
  have S49 := fun h p r v => hV_set h p r 49 v (by omega) (by omega)
  have f49 := fun (h' : Nat → BitVec 64) (p' : Int) (r' : Bool) => blk_free (box1 w (.cells (hV h' p' r') 28) (.cells (hV zC 0 false) 28)) 49
  have U49 := fun h v => upd_self h 49 v
  have G48 := fun h p r => hV_get h p r 48 (by omega) (by omega) (by omega)
  have S48 := fun h p r v => hV_set h p r 48 v (by omega) (by omega)
  have f48 := fun (h' : Nat → BitVec 64) (p' : Int) (r' : Bool) => blk_free (box1 w (.cells (hV h' p' r') 28) (.cells (hV zC 0 false) 28)) 48
  have U48 := fun h v => upd_self h 48 v
  have G50 := fun h p r => hV_get h p r 50 (by omega) (by omega) (by omega)
  have S50 := fun h p r v => hV_set h p r 50 v (by omega) (by omega)
  have f50 := fun (h' : Nat → BitVec 64) (p' : Int) (r' : Bool) => blk_free (box1 w (.cells (hV h' p' r') 28) (.cells (hV zC 0 false) 28)) 50
  have U50 := fun h v => upd_self h 50 v
  have N0_34 := fun h v => upd_ne h (i := 0) (j := 34) v (by omega)
  have N0_35 := fun h v => upd_ne h (i := 0) (j := 35) v (by omega)
  have N0_36 := fun h v => upd_ne h (i := 0) (j := 36) v (by omega)
  have N0_39 := fun h v => upd_ne h (i := 0) (j := 39) v (by omega)
  have N0_45 := fun h v => upd_ne h (i := 0) (j := 45) v (by omega)
  have N34_0 := fun h v => upd_ne h (i := 34) (j := 0) v (by omega)
  have N34_35 := fun h v => upd_ne h (i := 34) (j := 35) v (by omega)
  have N34_36 := fun h v => upd_ne h (i := 34) (j := 36) v (by omega)
  have N34_39 := fun h v => upd_ne h (i := 34) (j := 39) v (by omega)
  have N34_45 := fun h v => upd_ne h (i := 34) (j := 45) v (by omega)
  have N65_0 := fun h v => upd_ne h (i := 65) (j := 0) v (by omega)
  have N65_34 := fun h v => upd_ne h (i := 65) (j := 34) v (by omega)
  have N65_35 := fun h v => upd_ne h (i := 65) (j := 35) v (by omega)
  have N65_36 := fun h v => upd_ne h (i := 65) (j := 36) v (by omega)
  have N65_39 := fun h v => upd_ne h (i := 65) (j := 39) v (by omega)
  have N65_45 := fun h v => upd_ne h (i := 65) (j := 45) v (by omega)
  have N49_0 := fun h v => upd_ne h (i := 49) (j := 0) v (by omega)
  have N49_34 := fun h v => upd_ne h (i := 49) (j := 34) v (by omega)
  have N49_35 := fun h v => upd_ne h (i := 49) (j := 35) v (by omega)
  have N49_36 := fun h v => upd_ne h (i := 49) (j := 36) v (by omega)
  have N49_39 := fun h v => upd_ne h (i := 49) (j := 39) v (by omega)
  have N49_45 := fun h v => upd_ne h (i := 49) (j := 45) v (by omega)
  have N48_0 := fun h v => upd_ne h (i := 48) (j := 0) v (by omega)
  have N48_34 := fun h v => upd_ne h (i := 48) (j := 34) v (by omega)
  have N48_35 := fun h v => upd_ne h (i := 48) (j := 35) v (by omega)
  have N48_36 := fun h v => upd_ne h (i := 48) (j := 36) v (by omega)
  have N48_39 := fun h v => upd_ne h (i := 48) (j := 39) v (by omega)
  have N48_45 := fun h v => upd_ne h (i := 48) (j := 45) v (by omega)
  have N50_0 := fun h v => upd_ne h (i := 50) (j := 0) v (by omega)
  have N50_34 := fun h v => upd_ne h (i := 50) (j := 34) v (by omega)
  have N50_35 := fun h v => upd_ne h (i := 50) (j := 35) v (by omega)
  have N50_36 := fun h v => upd_ne h (i := 50) (j := 36) v (by omega)
  have N50_39 := fun h v => upd_ne h (i := 50) (j := 39) v (by omega)
  have N50_45 := fun h v => upd_ne h (i := 50) (j := 45) v (by omega)
  have Z : ∀ (h : Nat → BitVec 64) (p : Int) (r : Bool), (hV h p r).setIfInBounds 65 (.int .u64 0) = hV (upd h 65 0#64) p r := fun h p r => hV_set h p r 65 0#64 (by omega) (by omega)
  have T : (u c / 9223372036854775808 == 1) = true := (top_div c).trans h63
  have T2 : (u (cau c) / 9223372036854775808 == 1) = true := (top_div _).trans ((cau_top c).trans h63)
  have P1 : u c / 9223372036854775808 = 1 := by simpa using T
  have P2 : u (cau c) / 9223372036854775808 = 1 := by simpa using T2
  have A : bits .and .u64 (u c) 9223372036854775871 = u (cau c) := u_and c 0x800000000000003f#64
  have B : bits .and .u64 (u c) 63 = u n := hn ▸ u_and c 63#64
  have A0 : bits .andNot .u64 (u (h 0)) 3 = u (h 0 &&& ~~~3#64) := u_andNot (h 0) 3#64
  have sh := fun v => shr_run Try.prog v n (hn ▸ and_lt64 c)
  have V0 : bits .andNot .u64 (u (h 45)) 3 = u (h 45 &&& ~~~3#64) := u_andNot (h 45) 3#64
  have V1 : (bits .and .u64 (u (h 45)) 1 == 1) = false := (low_test1' _).trans hv
  have V2 : ¬ bits .and .u64 (u (h 45)) 1 = 1 := by simpa using V1
  have D1 : (bits .and .u64 (u (h 36 >>> n.toNat)) 1 == 1) = true := (bit_at1 _ _).trans hb
  have D2 : bits .and .u64 (u (h 36 >>> n.toNat)) 1 = 1 := by simpa using D1
  have Q1 : (bits .and .u64 (u (h 34)) 2 != 0) = (!(h 34 &&& 2#64 == 0#64)) := by unfold bne; rw [show (2 : Int) = u 2#64 from rfl, u_and, show (0 : Int) = u 0#64 from rfl, u_beq]
  have Q2 := fun v : BitVec 64 => (show bits .andNot .u64 (u v) 2 = u (v &&& ~~~2#64) from u_andNot v 2#64)
  have K1 : Hid (∀ (v : BitVec 64) on w, Calls Try.prog 32 #[.int .u64 (u v), .int .u64 32, .bool on] w fun e w' => e = .returned (.int .u64 (u (putB v 32#64 on))) ∧ w = w') := Lib.hid (fun v on w => rputb_any v 32#64 on w)
  have K2 : Hid (∀ (v : BitVec 64) on w, Calls Try.prog 32 #[.int .u64 (u v), .int .u64 256, .bool on] w fun e w' => e = .returned (.int .u64 (u (putB v 256#64 on))) ∧ w = w') := Lib.hid (fun v on w => rputb_any v 256#64 on w)
  clear h63 hv hn hb
  go_enter Try.func13, Try.ntmps13
  go_wp2_with (first | ((with_reducible apply hrt_ld); (case ho => exact rfl); (case hgd => exact rfl); (case hx => exact rfl); (case hg => exact box1 _ _ _)) | ((with_reducible apply hrt_st); (case ho => exact rfl); (case hgd => exact rfl); (case hx => exact rfl); (case hy => exact rfl); (case hg => exact box2 _ _ _)))
  go_at_call 32; refine (K1.out _ _ _).mono ?_; rintro _ _ ⟨rfl, rfl⟩
  go_wp2_with (first | ((with_reducible apply hrt_ld); (case ho => exact rfl); (case hgd => exact rfl); (case hx => exact rfl); (case hg => exact box1 _ _ _)) | ((with_reducible apply hrt_st); (case ho => exact rfl); (case hgd => exact rfl); (case hx => exact rfl); (case hy => exact rfl); (case hg => exact box2 _ _ _)))
  go_at_call 32; refine (K2.out _ _ _).mono ?_; rintro _ _ ⟨rfl, rfl⟩
  go_wp2_with (first | ((with_reducible apply hrt_ld); (case ho => exact rfl); (case hgd => exact rfl); (case hx => exact rfl); (case hg => exact box1 _ _ _)) | ((with_reducible apply hrt_st); (case ho => exact rfl); (case hgd => exact rfl); (case hx => exact rfl); (case hy => exact rfl); (case hg => exact box2 _ _ _)))
  skip
  refine row_back hrtT rfl rfl rfl (hset_row (box2 _ _ _)) (hV_size ..) ⟨(?_ : Ending.returned (.agg (hV _ 1 false)) = _), (HO.out _ _ _).row _ _ (by omega)⟩
  rfl
set_option maxRecDepth 100000 in
set_option maxHeartbeats 1000000 in
theorem rent_0_111 (h : Nat → BitVec 64) (r : Bool) (c t n : BitVec 64) (hn : c &&& 63#64 = n) (h63 : c.getLsbD 63 = true) (hb : (h 36).getLsbD n.toNat = true) (hv : (h 45).getLsbD 0 = true) (w : World) : Calls Try.prog 13 #[.agg (hV h 0 r), .int .u64 (u c), .int .u64 (u t)] w fun e w' => e = .returned (.agg (hV (upd (upd (upd (upd (upd (upd (upd h 65 0#64) 49 (cau c)) 48 (h 0 &&& ~~~3#64)) 50 t) 34 (putB (putB (h 34) 32#64 (!(h 34 &&& 2#64 == 0#64)) &&& ~~~2#64) 256#64 (0 == 1))) 0 (h 45 &&& ~~~3#64)) 0 ((h 45 &&& ~~~3#64) + 4#64 * n)) 1 false)) ∧ On w w' := by
  have hZ := fun w => hrt_zero w
  have HO : Hid (∀ h' p' r', On w ((w.alloc (.cells (hV h' p' r') 28)).alloc (.cells (hV zC 0 false) 28))) := Lib.hid (fun _ _ _ => ((On.refl w).alloc _).alloc _)
  have c0 := fun (h' : Nat → BitVec 64) (p' : Int) (r' : Bool) => blk_cell (box1 w (.cells (hV h' p' r') 28) (.cells (hV zC 0 false) 28)) 0 (hV_get h' p' r' 0 (by omega) (by omega) (by omega))
  have c34 := fun (h' : Nat → BitVec 64) (p' : Int) (r' : Bool) => blk_cell (box1 w (.cells (hV h' p' r') 28) (.cells (hV zC 0 false) 28)) 34 (hV_get h' p' r' 34 (by omega) (by omega) (by omega))
  have c35 := fun (h' : Nat → BitVec 64) (p' : Int) (r' : Bool) => blk_cell (box1 w (.cells (hV h' p' r') 28) (.cells (hV zC 0 false) 28)) 35 (hV_get h' p' r' 35 (by omega) (by omega) (by omega))
  have c36 := fun (h' : Nat → BitVec 64) (p' : Int) (r' : Bool) => blk_cell (box1 w (.cells (hV h' p' r') 28) (.cells (hV zC 0 false) 28)) 36 (hV_get h' p' r' 36 (by omega) (by omega) (by omega))
  have c39 := fun (h' : Nat → BitVec 64) (p' : Int) (r' : Bool) => blk_cell (box1 w (.cells (hV h' p' r') 28) (.cells (hV zC 0 false) 28)) 39 (hV_get h' p' r' 39 (by omega) (by omega) (by omega))
  have c45 := fun (h' : Nat → BitVec 64) (p' : Int) (r' : Bool) => blk_cell (box1 w (.cells (hV h' p' r') 28) (.cells (hV zC 0 false) 28)) 45 (hV_get h' p' r' 45 (by omega) (by omega) (by omega))
  have cP := fun (h' : Nat → BitVec 64) (p' : Int) (r' : Bool) => blk_cell (box1 w (.cells (hV h' p' r') 28) (.cells (hV zC 0 false) 28)) 1 (hV_priv h' p' r')
  have G0 := fun h p r => hV_get h p r 0 (by omega) (by omega) (by omega)
  have S0 := fun h p r v => hV_set h p r 0 v (by omega) (by omega)
  have f0 := fun (h' : Nat → BitVec 64) (p' : Int) (r' : Bool) => blk_free (box1 w (.cells (hV h' p' r') 28) (.cells (hV zC 0 false) 28)) 0
  have U0 := fun h v => upd_self h 0 v
  have SP := fun h p r v => hV_setp h p r v
  have GP := fun h p r => hV_priv h p r
  have f1 := fun (h' : Nat → BitVec 64) (p' : Int) (r' : Bool) => blk_free (box1 w (.cells (hV h' p' r') 28) (.cells (hV zC 0 false) 28)) 1
  have G34 := fun h p r => hV_get h p r 34 (by omega) (by omega) (by omega)
  have S34 := fun h p r v => hV_set h p r 34 v (by omega) (by omega)
  have f34 := fun (h' : Nat → BitVec 64) (p' : Int) (r' : Bool) => blk_free (box1 w (.cells (hV h' p' r') 28) (.cells (hV zC 0 false) 28)) 34
  have U34 := fun h v => upd_self h 34 v
  have SR := fun h p r v => hV_setr h p r v
  have GR := fun h p r => hV_res h p r
  have f64 := fun (h' : Nat → BitVec 64) (p' : Int) (r' : Bool) => blk_free (box1 w (.cells (hV h' p' r') 28) (.cells (hV zC 0 false) 28)) 64
  have G65 := fun h p r => hV_get h p r 65 (by omega) (by omega) (by omega)
  have S65 := fun h p r v => hV_set h p r 65 v (by omega) (by omega)
  have f65 := fun (h' : Nat → BitVec 64) (p' : Int) (r' : Bool) => blk_free (box1 w (.cells (hV h' p' r') 28) (.cells (hV zC 0 false) 28)) 65
  have U65 := fun h v => upd_self h 65 v
  have G49 := fun h p r => hV_get h p r 49 (by omega) (by omega) (by omega)
  have S49 := fun h p r v => hV_set h p r 49 v (by omega) (by omega)
  have f49 := fun (h' : Nat → BitVec 64) (p' : Int) (r' : Bool) => blk_free (box1 w (.cells (hV h' p' r') 28) (.cells (hV zC 0 false) 28)) 49
  have U49 := fun h v => upd_self h 49 v
  have G48 := fun h p r => hV_get h p r 48 (by omega) (by omega) (by omega)
  have S48 := fun h p r v => hV_set h p r 48 v (by omega) (by omega)
  have f48 := fun (h' : Nat → BitVec 64) (p' : Int) (r' : Bool) => blk_free (box1 w (.cells (hV h' p' r') 28) (.cells (hV zC 0 false) 28)) 48
  have U48 := fun h v => upd_self h 48 v
  have G50 := fun h p r => hV_get h p r 50 (by omega) (by omega) (by omega)
  have S50 := fun h p r v => hV_set h p r 50 v (by omega) (by omega)
  have f50 := fun (h' : Nat → BitVec 64) (p' : Int) (r' : Bool) => blk_free (box1 w (.cells (hV h' p' r') 28) (.cells (hV zC 0 false) 28)) 50
  have U50 := fun h v => upd_self h 50 v
  have N0_34 := fun h v => upd_ne h (i := 0) (j := 34) v (by omega)
  have N0_35 := fun h v => upd_ne h (i := 0) (j := 35) v (by omega)
  have N0_36 := fun h v => upd_ne h (i := 0) (j := 36) v (by omega)
  have N0_39 := fun h v => upd_ne h (i := 0) (j := 39) v (by omega)
  have N0_45 := fun h v => upd_ne h (i := 0) (j := 45) v (by omega)
  have N34_0 := fun h v => upd_ne h (i := 34) (j := 0) v (by omega)
  have N34_35 := fun h v => upd_ne h (i := 34) (j := 35) v (by omega)
  have N34_36 := fun h v => upd_ne h (i := 34) (j := 36) v (by omega)
  have N34_39 := fun h v => upd_ne h (i := 34) (j := 39) v (by omega)
  have N34_45 := fun h v => upd_ne h (i := 34) (j := 45) v (by omega)
  have N65_0 := fun h v => upd_ne h (i := 65) (j := 0) v (by omega)
  have N65_34 := fun h v => upd_ne h (i := 65) (j := 34) v (by omega)
  have N65_35 := fun h v => upd_ne h (i := 65) (j := 35) v (by omega)
  have N65_36 := fun h v => upd_ne h (i := 65) (j := 36) v (by omega)
  have N65_39 := fun h v => upd_ne h (i := 65) (j := 39) v (by omega)
  have N65_45 := fun h v => upd_ne h (i := 65) (j := 45) v (by omega)
  have N49_0 := fun h v => upd_ne h (i := 49) (j := 0) v (by omega)
  have N49_34 := fun h v => upd_ne h (i := 49) (j := 34) v (by omega)
  have N49_35 := fun h v => upd_ne h (i := 49) (j := 35) v (by omega)
  have N49_36 := fun h v => upd_ne h (i := 49) (j := 36) v (by omega)
  have N49_39 := fun h v => upd_ne h (i := 49) (j := 39) v (by omega)
  have N49_45 := fun h v => upd_ne h (i := 49) (j := 45) v (by omega)
  have N48_0 := fun h v => upd_ne h (i := 48) (j := 0) v (by omega)
  have N48_34 := fun h v => upd_ne h (i := 48) (j := 34) v (by omega)
  have N48_35 := fun h v => upd_ne h (i := 48) (j := 35) v (by omega)
  have N48_36 := fun h v => upd_ne h (i := 48) (j := 36) v (by omega)
  have N48_39 := fun h v => upd_ne h (i := 48) (j := 39) v (by omega)
  have N48_45 := fun h v => upd_ne h (i := 48) (j := 45) v (by omega)
  have N50_0 := fun h v => upd_ne h (i := 50) (j := 0) v (by omega)
  have N50_34 := fun h v => upd_ne h (i := 50) (j := 34) v (by omega)
  have N50_35 := fun h v => upd_ne h (i := 50) (j := 35) v (by omega)
  have N50_36 := fun h v => upd_ne h (i := 50) (j := 36) v (by omega)
  have N50_39 := fun h v => upd_ne h (i := 50) (j := 39) v (by omega)
  have N50_45 := fun h v => upd_ne h (i := 50) (j := 45) v (by omega)
  have Z : ∀ (h : Nat → BitVec 64) (p : Int) (r : Bool), (hV h p r).setIfInBounds 65 (.int .u64 0) = hV (upd h 65 0#64) p r := fun h p r => hV_set h p r 65 0#64 (by omega) (by omega)
  have T : (u c / 9223372036854775808 == 1) = true := (top_div c).trans h63
  have T2 : (u (cau c) / 9223372036854775808 == 1) = true := (top_div _).trans ((cau_top c).trans h63)
  have P1 : u c / 9223372036854775808 = 1 := by simpa using T
  have P2 : u (cau c) / 9223372036854775808 = 1 := by simpa using T2
  have A : bits .and .u64 (u c) 9223372036854775871 = u (cau c) := u_and c 0x800000000000003f#64
  have B : bits .and .u64 (u c) 63 = u n := hn ▸ u_and c 63#64
  have A0 : bits .andNot .u64 (u (h 0)) 3 = u (h 0 &&& ~~~3#64) := u_andNot (h 0) 3#64
  have sh := fun v => shr_run Try.prog v n (hn ▸ and_lt64 c)
  have V0 : bits .andNot .u64 (u (h 45)) 3 = u (h 45 &&& ~~~3#64) := u_andNot (h 45) 3#64
  have V1 : (bits .and .u64 (u (h 45)) 1 == 1) = true := (low_test1' _).trans hv
  have V2 : bits .and .u64 (u (h 45)) 1 = 1 := by simpa using V1
  have D1 : (bits .and .u64 (u (h 36 >>> n.toNat)) 1 == 1) = true := (bit_at1 _ _).trans hb
  have D2 : bits .and .u64 (u (h 36 >>> n.toNat)) 1 = 1 := by simpa using D1
  have Q1 : (bits .and .u64 (u (h 34)) 2 != 0) = (!(h 34 &&& 2#64 == 0#64)) := by unfold bne; rw [show (2 : Int) = u 2#64 from rfl, u_and, show (0 : Int) = u 0#64 from rfl, u_beq]
  have Q2 := fun v : BitVec 64 => (show bits .andNot .u64 (u v) 2 = u (v &&& ~~~2#64) from u_andNot v 2#64)
  have K1 : Hid (∀ (v : BitVec 64) on w, Calls Try.prog 32 #[.int .u64 (u v), .int .u64 32, .bool on] w fun e w' => e = .returned (.int .u64 (u (putB v 32#64 on))) ∧ w = w') := Lib.hid (fun v on w => rputb_any v 32#64 on w)
  have K2 : Hid (∀ (v : BitVec 64) on w, Calls Try.prog 32 #[.int .u64 (u v), .int .u64 256, .bool on] w fun e w' => e = .returned (.int .u64 (u (putB v 256#64 on))) ∧ w = w') := Lib.hid (fun v on w => rputb_any v 256#64 on w)
  have X1 : IntKind.u64.wrap (4 * u n) = u (4#64 * n) := u_mul 4#64 _
  have X2 := fun a b => u_add a b
  clear h63 hv hn hb
  go_enter Try.func13, Try.ntmps13
  go_wp2_with (first | ((with_reducible apply hrt_ld); (case ho => exact rfl); (case hgd => exact rfl); (case hx => exact rfl); (case hg => exact box1 _ _ _)) | ((with_reducible apply hrt_st); (case ho => exact rfl); (case hgd => exact rfl); (case hx => exact rfl); (case hy => exact rfl); (case hg => exact box2 _ _ _)))
  go_at_call 32; refine (K1.out _ _ _).mono ?_; rintro _ _ ⟨rfl, rfl⟩
  go_wp2_with (first | ((with_reducible apply hrt_ld); (case ho => exact rfl); (case hgd => exact rfl); (case hx => exact rfl); (case hg => exact box1 _ _ _)) | ((with_reducible apply hrt_st); (case ho => exact rfl); (case hgd => exact rfl); (case hx => exact rfl); (case hy => exact rfl); (case hg => exact box2 _ _ _)))
  go_at_call 32; refine (K2.out _ _ _).mono ?_; rintro _ _ ⟨rfl, rfl⟩
  go_wp2_with (first | ((with_reducible apply hrt_ld); (case ho => exact rfl); (case hgd => exact rfl); (case hx => exact rfl); (case hg => exact box1 _ _ _)) | ((with_reducible apply hrt_st); (case ho => exact rfl); (case hgd => exact rfl); (case hx => exact rfl); (case hy => exact rfl); (case hg => exact box2 _ _ _)))
  skip
  refine row_back hrtT rfl rfl rfl (hset_row (box2 _ _ _)) (hV_size ..) ⟨(?_ : Ending.returned (.agg (hV _ 1 false)) = _), (HO.out _ _ _).row _ _ (by omega)⟩
  rfl
set_option maxRecDepth 100000 in
set_option maxHeartbeats 1000000 in
theorem rent_1_000 (h : Nat → BitVec 64) (r : Bool) (c t n : BitVec 64) (hn : c &&& 63#64 = n) (h63 : c.getLsbD 63 = false) (hb : (h 35).getLsbD n.toNat = false) (hv : (h 39).getLsbD 0 = false) (w : World) : Calls Try.prog 13 #[.agg (hV h 1 r), .int .u64 (u c), .int .u64 (u t)] w fun e w' => e = .returned (.agg (hV (upd (upd (upd (upd (upd (upd h 65 0#64) 43 (cau c)) 42 (h 0 &&& ~~~3#64)) 44 t) 34 ((putB (h 34) 128#64 (!(h 34 &&& 8#64 == 0#64)) &&& ~~~8#64) &&& ~~~6144#64 ||| (wd64 1 &&& 3#64) <<< 11)) 0 (h 39 &&& ~~~3#64)) 3 false)) ∧ On w w' := by
  have hZ := fun w => hrt_zero w
  have HO : Hid (∀ h' p' r', On w ((w.alloc (.cells (hV h' p' r') 28)).alloc (.cells (hV zC 0 false) 28))) := Lib.hid (fun _ _ _ => ((On.refl w).alloc _).alloc _)
  have c0 := fun (h' : Nat → BitVec 64) (p' : Int) (r' : Bool) => blk_cell (box1 w (.cells (hV h' p' r') 28) (.cells (hV zC 0 false) 28)) 0 (hV_get h' p' r' 0 (by omega) (by omega) (by omega))
  have c34 := fun (h' : Nat → BitVec 64) (p' : Int) (r' : Bool) => blk_cell (box1 w (.cells (hV h' p' r') 28) (.cells (hV zC 0 false) 28)) 34 (hV_get h' p' r' 34 (by omega) (by omega) (by omega))
  have c35 := fun (h' : Nat → BitVec 64) (p' : Int) (r' : Bool) => blk_cell (box1 w (.cells (hV h' p' r') 28) (.cells (hV zC 0 false) 28)) 35 (hV_get h' p' r' 35 (by omega) (by omega) (by omega))
  have c36 := fun (h' : Nat → BitVec 64) (p' : Int) (r' : Bool) => blk_cell (box1 w (.cells (hV h' p' r') 28) (.cells (hV zC 0 false) 28)) 36 (hV_get h' p' r' 36 (by omega) (by omega) (by omega))
  have c39 := fun (h' : Nat → BitVec 64) (p' : Int) (r' : Bool) => blk_cell (box1 w (.cells (hV h' p' r') 28) (.cells (hV zC 0 false) 28)) 39 (hV_get h' p' r' 39 (by omega) (by omega) (by omega))
  have c45 := fun (h' : Nat → BitVec 64) (p' : Int) (r' : Bool) => blk_cell (box1 w (.cells (hV h' p' r') 28) (.cells (hV zC 0 false) 28)) 45 (hV_get h' p' r' 45 (by omega) (by omega) (by omega))
  have cP := fun (h' : Nat → BitVec 64) (p' : Int) (r' : Bool) => blk_cell (box1 w (.cells (hV h' p' r') 28) (.cells (hV zC 0 false) 28)) 1 (hV_priv h' p' r')
  have G0 := fun h p r => hV_get h p r 0 (by omega) (by omega) (by omega)
  have S0 := fun h p r v => hV_set h p r 0 v (by omega) (by omega)
  have f0 := fun (h' : Nat → BitVec 64) (p' : Int) (r' : Bool) => blk_free (box1 w (.cells (hV h' p' r') 28) (.cells (hV zC 0 false) 28)) 0
  have U0 := fun h v => upd_self h 0 v
  have SP := fun h p r v => hV_setp h p r v
  have GP := fun h p r => hV_priv h p r
  have f1 := fun (h' : Nat → BitVec 64) (p' : Int) (r' : Bool) => blk_free (box1 w (.cells (hV h' p' r') 28) (.cells (hV zC 0 false) 28)) 1
  have G34 := fun h p r => hV_get h p r 34 (by omega) (by omega) (by omega)
  have S34 := fun h p r v => hV_set h p r 34 v (by omega) (by omega)
  have f34 := fun (h' : Nat → BitVec 64) (p' : Int) (r' : Bool) => blk_free (box1 w (.cells (hV h' p' r') 28) (.cells (hV zC 0 false) 28)) 34
  have U34 := fun h v => upd_self h 34 v
  have SR := fun h p r v => hV_setr h p r v
  have GR := fun h p r => hV_res h p r
  have f64 := fun (h' : Nat → BitVec 64) (p' : Int) (r' : Bool) => blk_free (box1 w (.cells (hV h' p' r') 28) (.cells (hV zC 0 false) 28)) 64
  have G65 := fun h p r => hV_get h p r 65 (by omega) (by omega) (by omega)
  have S65 := fun h p r v => hV_set h p r 65 v (by omega) (by omega)
  have f65 := fun (h' : Nat → BitVec 64) (p' : Int) (r' : Bool) => blk_free (box1 w (.cells (hV h' p' r') 28) (.cells (hV zC 0 false) 28)) 65
  have U65 := fun h v => upd_self h 65 v
  have G43 := fun h p r => hV_get h p r 43 (by omega) (by omega) (by omega)
  have S43 := fun h p r v => hV_set h p r 43 v (by omega) (by omega)
  have f43 := fun (h' : Nat → BitVec 64) (p' : Int) (r' : Bool) => blk_free (box1 w (.cells (hV h' p' r') 28) (.cells (hV zC 0 false) 28)) 43
  have U43 := fun h v => upd_self h 43 v
  have G42 := fun h p r => hV_get h p r 42 (by omega) (by omega) (by omega)
  have S42 := fun h p r v => hV_set h p r 42 v (by omega) (by omega)
  have f42 := fun (h' : Nat → BitVec 64) (p' : Int) (r' : Bool) => blk_free (box1 w (.cells (hV h' p' r') 28) (.cells (hV zC 0 false) 28)) 42
  have U42 := fun h v => upd_self h 42 v
  have G44 := fun h p r => hV_get h p r 44 (by omega) (by omega) (by omega)
  have S44 := fun h p r v => hV_set h p r 44 v (by omega) (by omega)
  have f44 := fun (h' : Nat → BitVec 64) (p' : Int) (r' : Bool) => blk_free (box1 w (.cells (hV h' p' r') 28) (.cells (hV zC 0 false) 28)) 44
  have U44 := fun h v => upd_self h 44 v
  have N0_34 := fun h v => upd_ne h (i := 0) (j := 34) v (by omega)
  have N0_35 := fun h v => upd_ne h (i := 0) (j := 35) v (by omega)
  have N0_36 := fun h v => upd_ne h (i := 0) (j := 36) v (by omega)
  have N0_39 := fun h v => upd_ne h (i := 0) (j := 39) v (by omega)
  have N0_45 := fun h v => upd_ne h (i := 0) (j := 45) v (by omega)
  have N34_0 := fun h v => upd_ne h (i := 34) (j := 0) v (by omega)
  have N34_35 := fun h v => upd_ne h (i := 34) (j := 35) v (by omega)
  have N34_36 := fun h v => upd_ne h (i := 34) (j := 36) v (by omega)
  have N34_39 := fun h v => upd_ne h (i := 34) (j := 39) v (by omega)
  have N34_45 := fun h v => upd_ne h (i := 34) (j := 45) v (by omega)
  have N65_0 := fun h v => upd_ne h (i := 65) (j := 0) v (by omega)
  have N65_34 := fun h v => upd_ne h (i := 65) (j := 34) v (by omega)
  have N65_35 := fun h v => upd_ne h (i := 65) (j := 35) v (by omega)
  have N65_36 := fun h v => upd_ne h (i := 65) (j := 36) v (by omega)
  have N65_39 := fun h v => upd_ne h (i := 65) (j := 39) v (by omega)
  have N65_45 := fun h v => upd_ne h (i := 65) (j := 45) v (by omega)
  have N43_0 := fun h v => upd_ne h (i := 43) (j := 0) v (by omega)
  have N43_34 := fun h v => upd_ne h (i := 43) (j := 34) v (by omega)
  have N43_35 := fun h v => upd_ne h (i := 43) (j := 35) v (by omega)
  have N43_36 := fun h v => upd_ne h (i := 43) (j := 36) v (by omega)
  have N43_39 := fun h v => upd_ne h (i := 43) (j := 39) v (by omega)
  have N43_45 := fun h v => upd_ne h (i := 43) (j := 45) v (by omega)
  have N42_0 := fun h v => upd_ne h (i := 42) (j := 0) v (by omega)
  have N42_34 := fun h v => upd_ne h (i := 42) (j := 34) v (by omega)
  have N42_35 := fun h v => upd_ne h (i := 42) (j := 35) v (by omega)
  have N42_36 := fun h v => upd_ne h (i := 42) (j := 36) v (by omega)
  have N42_39 := fun h v => upd_ne h (i := 42) (j := 39) v (by omega)
  have N42_45 := fun h v => upd_ne h (i := 42) (j := 45) v (by omega)
  have N44_0 := fun h v => upd_ne h (i := 44) (j := 0) v (by omega)
  have N44_34 := fun h v => upd_ne h (i := 44) (j := 34) v (by omega)
  have N44_35 := fun h v => upd_ne h (i := 44) (j := 35) v (by omega)
  have N44_36 := fun h v => upd_ne h (i := 44) (j := 36) v (by omega)
  have N44_39 := fun h v => upd_ne h (i := 44) (j := 39) v (by omega)
  have N44_45 := fun h v => upd_ne h (i := 44) (j := 45) v (by omega)
  have Z : ∀ (h : Nat → BitVec 64) (p : Int) (r : Bool), (hV h p r).setIfInBounds 65 (.int .u64 0) = hV (upd h 65 0#64) p r := fun h p r => hV_set h p r 65 0#64 (by omega) (by omega)
  have T : (u c / 9223372036854775808 == 1) = false := (top_div c).trans h63
  have T2 : (u (cau c) / 9223372036854775808 == 1) = false := (top_div _).trans ((cau_top c).trans h63)
  have P1 : ¬ u c / 9223372036854775808 = 1 := by simpa using T
  have P2 : ¬ u (cau c) / 9223372036854775808 = 1 := by simpa using T2
  have A : bits .and .u64 (u c) 9223372036854775871 = u (cau c) := u_and c 0x800000000000003f#64
  have B : bits .and .u64 (u c) 63 = u n := hn ▸ u_and c 63#64
  have A0 : bits .andNot .u64 (u (h 0)) 3 = u (h 0 &&& ~~~3#64) := u_andNot (h 0) 3#64
  have sh := fun v => shr_run Try.prog v n (hn ▸ and_lt64 c)
  have V0 : bits .andNot .u64 (u (h 39)) 3 = u (h 39 &&& ~~~3#64) := u_andNot (h 39) 3#64
  have V1 : (bits .and .u64 (u (h 39)) 1 == 1) = false := (low_test1' _).trans hv
  have V2 : ¬ bits .and .u64 (u (h 39)) 1 = 1 := by simpa using V1
  have D1 : (bits .and .u64 (u (h 35 >>> n.toNat)) 1 == 1) = false := (bit_at1 _ _).trans hb
  have D2 : ¬ bits .and .u64 (u (h 35 >>> n.toNat)) 1 = 1 := by simpa using D1
  have Q1 : (bits .and .u64 (u (h 34)) 8 != 0) = (!(h 34 &&& 8#64 == 0#64)) := by unfold bne; rw [show (8 : Int) = u 8#64 from rfl, u_and, show (0 : Int) = u 0#64 from rfl, u_beq]
  have Q2 := fun v : BitVec 64 => (show bits .andNot .u64 (u v) 8 = u (v &&& ~~~8#64) from u_andNot v 8#64)
  have K1 : Hid (∀ (v : BitVec 64) on w, Calls Try.prog 32 #[.int .u64 (u v), .int .u64 128, .bool on] w fun e w' => e = .returned (.int .u64 (u (putB v 128#64 on))) ∧ w = w') := Lib.hid (fun v on w => rputb_any v 128#64 on w)
  have M1 := fun v : BitVec 64 => (show bits .andNot .u64 (u v) 6144 = u (v &&& ~~~6144#64) from u_andNot v 6144#64)
  have M2 : IntKind.u64.wrap (bits .and .i64 1 3) = u (wd64 1 &&& 3#64) := i64_and3 1
  have M3 := fun v => shl11 v
  have M4 := fun a b => u_or a b
  clear h63 hv hn hb
  go_enter Try.func13, Try.ntmps13
  go_wp2_with (first | ((with_reducible apply hrt_ld); (case ho => exact rfl); (case hgd => exact rfl); (case hx => exact rfl); (case hg => exact box1 _ _ _)) | ((with_reducible apply hrt_st); (case ho => exact rfl); (case hgd => exact rfl); (case hx => exact rfl); (case hy => exact rfl); (case hg => exact box2 _ _ _)))
  go_at_call 32; refine (K1.out _ _ _).mono ?_; rintro _ _ ⟨rfl, rfl⟩
  go_wp2_with (first | ((with_reducible apply hrt_ld); (case ho => exact rfl); (case hgd => exact rfl); (case hx => exact rfl); (case hg => exact box1 _ _ _)) | ((with_reducible apply hrt_st); (case ho => exact rfl); (case hgd => exact rfl); (case hx => exact rfl); (case hy => exact rfl); (case hg => exact box2 _ _ _)))
  skip
  refine row_back hrtT rfl rfl rfl (hset_row (box2 _ _ _)) (hV_size ..) ⟨(?_ : Ending.returned (.agg (hV _ 3 false)) = _), (HO.out _ _ _).row _ _ (by omega)⟩
  rfl
set_option maxRecDepth 100000 in
set_option maxHeartbeats 1000000 in
theorem rent_1_001 (h : Nat → BitVec 64) (r : Bool) (c t n : BitVec 64) (hn : c &&& 63#64 = n) (h63 : c.getLsbD 63 = false) (hb : (h 35).getLsbD n.toNat = false) (hv : (h 39).getLsbD 0 = true) (w : World) : Calls Try.prog 13 #[.agg (hV h 1 r), .int .u64 (u c), .int .u64 (u t)] w fun e w' => e = .returned (.agg (hV (upd (upd (upd (upd (upd (upd h 65 0#64) 43 (cau c)) 42 (h 0 &&& ~~~3#64)) 44 t) 34 ((putB (h 34) 128#64 (!(h 34 &&& 8#64 == 0#64)) &&& ~~~8#64) &&& ~~~6144#64 ||| (wd64 1 &&& 3#64) <<< 11)) 0 (h 39 &&& ~~~3#64)) 3 false)) ∧ On w w' := by
  have hZ := fun w => hrt_zero w
  have HO : Hid (∀ h' p' r', On w ((w.alloc (.cells (hV h' p' r') 28)).alloc (.cells (hV zC 0 false) 28))) := Lib.hid (fun _ _ _ => ((On.refl w).alloc _).alloc _)
  have c0 := fun (h' : Nat → BitVec 64) (p' : Int) (r' : Bool) => blk_cell (box1 w (.cells (hV h' p' r') 28) (.cells (hV zC 0 false) 28)) 0 (hV_get h' p' r' 0 (by omega) (by omega) (by omega))
  have c34 := fun (h' : Nat → BitVec 64) (p' : Int) (r' : Bool) => blk_cell (box1 w (.cells (hV h' p' r') 28) (.cells (hV zC 0 false) 28)) 34 (hV_get h' p' r' 34 (by omega) (by omega) (by omega))
  have c35 := fun (h' : Nat → BitVec 64) (p' : Int) (r' : Bool) => blk_cell (box1 w (.cells (hV h' p' r') 28) (.cells (hV zC 0 false) 28)) 35 (hV_get h' p' r' 35 (by omega) (by omega) (by omega))
  have c36 := fun (h' : Nat → BitVec 64) (p' : Int) (r' : Bool) => blk_cell (box1 w (.cells (hV h' p' r') 28) (.cells (hV zC 0 false) 28)) 36 (hV_get h' p' r' 36 (by omega) (by omega) (by omega))
  have c39 := fun (h' : Nat → BitVec 64) (p' : Int) (r' : Bool) => blk_cell (box1 w (.cells (hV h' p' r') 28) (.cells (hV zC 0 false) 28)) 39 (hV_get h' p' r' 39 (by omega) (by omega) (by omega))
  have c45 := fun (h' : Nat → BitVec 64) (p' : Int) (r' : Bool) => blk_cell (box1 w (.cells (hV h' p' r') 28) (.cells (hV zC 0 false) 28)) 45 (hV_get h' p' r' 45 (by omega) (by omega) (by omega))
  have cP := fun (h' : Nat → BitVec 64) (p' : Int) (r' : Bool) => blk_cell (box1 w (.cells (hV h' p' r') 28) (.cells (hV zC 0 false) 28)) 1 (hV_priv h' p' r')
  have G0 := fun h p r => hV_get h p r 0 (by omega) (by omega) (by omega)
  have S0 := fun h p r v => hV_set h p r 0 v (by omega) (by omega)
  have f0 := fun (h' : Nat → BitVec 64) (p' : Int) (r' : Bool) => blk_free (box1 w (.cells (hV h' p' r') 28) (.cells (hV zC 0 false) 28)) 0
  have U0 := fun h v => upd_self h 0 v
  have SP := fun h p r v => hV_setp h p r v
  have GP := fun h p r => hV_priv h p r
  have f1 := fun (h' : Nat → BitVec 64) (p' : Int) (r' : Bool) => blk_free (box1 w (.cells (hV h' p' r') 28) (.cells (hV zC 0 false) 28)) 1
  have G34 := fun h p r => hV_get h p r 34 (by omega) (by omega) (by omega)
  have S34 := fun h p r v => hV_set h p r 34 v (by omega) (by omega)
  have f34 := fun (h' : Nat → BitVec 64) (p' : Int) (r' : Bool) => blk_free (box1 w (.cells (hV h' p' r') 28) (.cells (hV zC 0 false) 28)) 34
  have U34 := fun h v => upd_self h 34 v
  have SR := fun h p r v => hV_setr h p r v
  have GR := fun h p r => hV_res h p r
  have f64 := fun (h' : Nat → BitVec 64) (p' : Int) (r' : Bool) => blk_free (box1 w (.cells (hV h' p' r') 28) (.cells (hV zC 0 false) 28)) 64
  have G65 := fun h p r => hV_get h p r 65 (by omega) (by omega) (by omega)
  have S65 := fun h p r v => hV_set h p r 65 v (by omega) (by omega)
  have f65 := fun (h' : Nat → BitVec 64) (p' : Int) (r' : Bool) => blk_free (box1 w (.cells (hV h' p' r') 28) (.cells (hV zC 0 false) 28)) 65
  have U65 := fun h v => upd_self h 65 v
  have G43 := fun h p r => hV_get h p r 43 (by omega) (by omega) (by omega)
  have S43 := fun h p r v => hV_set h p r 43 v (by omega) (by omega)
  have f43 := fun (h' : Nat → BitVec 64) (p' : Int) (r' : Bool) => blk_free (box1 w (.cells (hV h' p' r') 28) (.cells (hV zC 0 false) 28)) 43
  have U43 := fun h v => upd_self h 43 v
  have G42 := fun h p r => hV_get h p r 42 (by omega) (by omega) (by omega)
  have S42 := fun h p r v => hV_set h p r 42 v (by omega) (by omega)
  have f42 := fun (h' : Nat → BitVec 64) (p' : Int) (r' : Bool) => blk_free (box1 w (.cells (hV h' p' r') 28) (.cells (hV zC 0 false) 28)) 42
  have U42 := fun h v => upd_self h 42 v
  have G44 := fun h p r => hV_get h p r 44 (by omega) (by omega) (by omega)
  have S44 := fun h p r v => hV_set h p r 44 v (by omega) (by omega)
  have f44 := fun (h' : Nat → BitVec 64) (p' : Int) (r' : Bool) => blk_free (box1 w (.cells (hV h' p' r') 28) (.cells (hV zC 0 false) 28)) 44
  have U44 := fun h v => upd_self h 44 v
  have N0_34 := fun h v => upd_ne h (i := 0) (j := 34) v (by omega)
  have N0_35 := fun h v => upd_ne h (i := 0) (j := 35) v (by omega)
  have N0_36 := fun h v => upd_ne h (i := 0) (j := 36) v (by omega)
  have N0_39 := fun h v => upd_ne h (i := 0) (j := 39) v (by omega)
  have N0_45 := fun h v => upd_ne h (i := 0) (j := 45) v (by omega)
  have N34_0 := fun h v => upd_ne h (i := 34) (j := 0) v (by omega)
  have N34_35 := fun h v => upd_ne h (i := 34) (j := 35) v (by omega)
  have N34_36 := fun h v => upd_ne h (i := 34) (j := 36) v (by omega)
  have N34_39 := fun h v => upd_ne h (i := 34) (j := 39) v (by omega)
  have N34_45 := fun h v => upd_ne h (i := 34) (j := 45) v (by omega)
  have N65_0 := fun h v => upd_ne h (i := 65) (j := 0) v (by omega)
  have N65_34 := fun h v => upd_ne h (i := 65) (j := 34) v (by omega)
  have N65_35 := fun h v => upd_ne h (i := 65) (j := 35) v (by omega)
  have N65_36 := fun h v => upd_ne h (i := 65) (j := 36) v (by omega)
  have N65_39 := fun h v => upd_ne h (i := 65) (j := 39) v (by omega)
  have N65_45 := fun h v => upd_ne h (i := 65) (j := 45) v (by omega)
  have N43_0 := fun h v => upd_ne h (i := 43) (j := 0) v (by omega)
  have N43_34 := fun h v => upd_ne h (i := 43) (j := 34) v (by omega)
  have N43_35 := fun h v => upd_ne h (i := 43) (j := 35) v (by omega)
  have N43_36 := fun h v => upd_ne h (i := 43) (j := 36) v (by omega)
  have N43_39 := fun h v => upd_ne h (i := 43) (j := 39) v (by omega)
  have N43_45 := fun h v => upd_ne h (i := 43) (j := 45) v (by omega)
  have N42_0 := fun h v => upd_ne h (i := 42) (j := 0) v (by omega)
  have N42_34 := fun h v => upd_ne h (i := 42) (j := 34) v (by omega)
  have N42_35 := fun h v => upd_ne h (i := 42) (j := 35) v (by omega)
  have N42_36 := fun h v => upd_ne h (i := 42) (j := 36) v (by omega)
  have N42_39 := fun h v => upd_ne h (i := 42) (j := 39) v (by omega)
  have N42_45 := fun h v => upd_ne h (i := 42) (j := 45) v (by omega)
  have N44_0 := fun h v => upd_ne h (i := 44) (j := 0) v (by omega)
  have N44_34 := fun h v => upd_ne h (i := 44) (j := 34) v (by omega)
  have N44_35 := fun h v => upd_ne h (i := 44) (j := 35) v (by omega)
  have N44_36 := fun h v => upd_ne h (i := 44) (j := 36) v (by omega)
  have N44_39 := fun h v => upd_ne h (i := 44) (j := 39) v (by omega)
  have N44_45 := fun h v => upd_ne h (i := 44) (j := 45) v (by omega)
  have Z : ∀ (h : Nat → BitVec 64) (p : Int) (r : Bool), (hV h p r).setIfInBounds 65 (.int .u64 0) = hV (upd h 65 0#64) p r := fun h p r => hV_set h p r 65 0#64 (by omega) (by omega)
  have T : (u c / 9223372036854775808 == 1) = false := (top_div c).trans h63
  have T2 : (u (cau c) / 9223372036854775808 == 1) = false := (top_div _).trans ((cau_top c).trans h63)
  have P1 : ¬ u c / 9223372036854775808 = 1 := by simpa using T
  have P2 : ¬ u (cau c) / 9223372036854775808 = 1 := by simpa using T2
  have A : bits .and .u64 (u c) 9223372036854775871 = u (cau c) := u_and c 0x800000000000003f#64
  have B : bits .and .u64 (u c) 63 = u n := hn ▸ u_and c 63#64
  have A0 : bits .andNot .u64 (u (h 0)) 3 = u (h 0 &&& ~~~3#64) := u_andNot (h 0) 3#64
  have sh := fun v => shr_run Try.prog v n (hn ▸ and_lt64 c)
  have V0 : bits .andNot .u64 (u (h 39)) 3 = u (h 39 &&& ~~~3#64) := u_andNot (h 39) 3#64
  have V1 : (bits .and .u64 (u (h 39)) 1 == 1) = true := (low_test1' _).trans hv
  have V2 : bits .and .u64 (u (h 39)) 1 = 1 := by simpa using V1
  have D1 : (bits .and .u64 (u (h 35 >>> n.toNat)) 1 == 1) = false := (bit_at1 _ _).trans hb
  have D2 : ¬ bits .and .u64 (u (h 35 >>> n.toNat)) 1 = 1 := by simpa using D1
  have Q1 : (bits .and .u64 (u (h 34)) 8 != 0) = (!(h 34 &&& 8#64 == 0#64)) := by unfold bne; rw [show (8 : Int) = u 8#64 from rfl, u_and, show (0 : Int) = u 0#64 from rfl, u_beq]
  have Q2 := fun v : BitVec 64 => (show bits .andNot .u64 (u v) 8 = u (v &&& ~~~8#64) from u_andNot v 8#64)
  have K1 : Hid (∀ (v : BitVec 64) on w, Calls Try.prog 32 #[.int .u64 (u v), .int .u64 128, .bool on] w fun e w' => e = .returned (.int .u64 (u (putB v 128#64 on))) ∧ w = w') := Lib.hid (fun v on w => rputb_any v 128#64 on w)
  have M1 := fun v : BitVec 64 => (show bits .andNot .u64 (u v) 6144 = u (v &&& ~~~6144#64) from u_andNot v 6144#64)
  have M2 : IntKind.u64.wrap (bits .and .i64 1 3) = u (wd64 1 &&& 3#64) := i64_and3 1
  have M3 := fun v => shl11 v
  have M4 := fun a b => u_or a b
  clear h63 hv hn hb
  go_enter Try.func13, Try.ntmps13
  go_wp2_with (first | ((with_reducible apply hrt_ld); (case ho => exact rfl); (case hgd => exact rfl); (case hx => exact rfl); (case hg => exact box1 _ _ _)) | ((with_reducible apply hrt_st); (case ho => exact rfl); (case hgd => exact rfl); (case hx => exact rfl); (case hy => exact rfl); (case hg => exact box2 _ _ _)))
  go_at_call 32; refine (K1.out _ _ _).mono ?_; rintro _ _ ⟨rfl, rfl⟩
  go_wp2_with (first | ((with_reducible apply hrt_ld); (case ho => exact rfl); (case hgd => exact rfl); (case hx => exact rfl); (case hg => exact box1 _ _ _)) | ((with_reducible apply hrt_st); (case ho => exact rfl); (case hgd => exact rfl); (case hx => exact rfl); (case hy => exact rfl); (case hg => exact box2 _ _ _)))
  skip
  refine row_back hrtT rfl rfl rfl (hset_row (box2 _ _ _)) (hV_size ..) ⟨(?_ : Ending.returned (.agg (hV _ 3 false)) = _), (HO.out _ _ _).row _ _ (by omega)⟩
  rfl
set_option maxRecDepth 100000 in
set_option maxHeartbeats 1000000 in
theorem rent_1_010 (h : Nat → BitVec 64) (r : Bool) (c t n : BitVec 64) (hn : c &&& 63#64 = n) (h63 : c.getLsbD 63 = false) (hb : (h 35).getLsbD n.toNat = true) (hv : (h 45).getLsbD 0 = false) (w : World) : Calls Try.prog 13 #[.agg (hV h 1 r), .int .u64 (u c), .int .u64 (u t)] w fun e w' => e = .returned (.agg (hV (upd (upd (upd (upd (upd (upd h 65 0#64) 49 (cau c)) 48 (h 0 &&& ~~~3#64)) 50 t) 34 (putB (putB (h 34) 32#64 (!(h 34 &&& 2#64 == 0#64)) &&& ~~~2#64) 256#64 (1 == 1))) 0 (h 45 &&& ~~~3#64)) 1 false)) ∧ On w w' := by
  have hZ := fun w => hrt_zero w
  have HO : Hid (∀ h' p' r', On w ((w.alloc (.cells (hV h' p' r') 28)).alloc (.cells (hV zC 0 false) 28))) := Lib.hid (fun _ _ _ => ((On.refl w).alloc _).alloc _)
  have c0 := fun (h' : Nat → BitVec 64) (p' : Int) (r' : Bool) => blk_cell (box1 w (.cells (hV h' p' r') 28) (.cells (hV zC 0 false) 28)) 0 (hV_get h' p' r' 0 (by omega) (by omega) (by omega))
  have c34 := fun (h' : Nat → BitVec 64) (p' : Int) (r' : Bool) => blk_cell (box1 w (.cells (hV h' p' r') 28) (.cells (hV zC 0 false) 28)) 34 (hV_get h' p' r' 34 (by omega) (by omega) (by omega))
  have c35 := fun (h' : Nat → BitVec 64) (p' : Int) (r' : Bool) => blk_cell (box1 w (.cells (hV h' p' r') 28) (.cells (hV zC 0 false) 28)) 35 (hV_get h' p' r' 35 (by omega) (by omega) (by omega))
  have c36 := fun (h' : Nat → BitVec 64) (p' : Int) (r' : Bool) => blk_cell (box1 w (.cells (hV h' p' r') 28) (.cells (hV zC 0 false) 28)) 36 (hV_get h' p' r' 36 (by omega) (by omega) (by omega))
  have c39 := fun (h' : Nat → BitVec 64) (p' : Int) (r' : Bool) => blk_cell (box1 w (.cells (hV h' p' r') 28) (.cells (hV zC 0 false) 28)) 39 (hV_get h' p' r' 39 (by omega) (by omega) (by omega))
  have c45 := fun (h' : Nat → BitVec 64) (p' : Int) (r' : Bool) => blk_cell (box1 w (.cells (hV h' p' r') 28) (.cells (hV zC 0 false) 28)) 45 (hV_get h' p' r' 45 (by omega) (by omega) (by omega))
  have cP := fun (h' : Nat → BitVec 64) (p' : Int) (r' : Bool) => blk_cell (box1 w (.cells (hV h' p' r') 28) (.cells (hV zC 0 false) 28)) 1 (hV_priv h' p' r')
  have G0 := fun h p r => hV_get h p r 0 (by omega) (by omega) (by omega)
  have S0 := fun h p r v => hV_set h p r 0 v (by omega) (by omega)
  have f0 := fun (h' : Nat → BitVec 64) (p' : Int) (r' : Bool) => blk_free (box1 w (.cells (hV h' p' r') 28) (.cells (hV zC 0 false) 28)) 0
  have U0 := fun h v => upd_self h 0 v
  have SP := fun h p r v => hV_setp h p r v
  have GP := fun h p r => hV_priv h p r
  have f1 := fun (h' : Nat → BitVec 64) (p' : Int) (r' : Bool) => blk_free (box1 w (.cells (hV h' p' r') 28) (.cells (hV zC 0 false) 28)) 1
  have G34 := fun h p r => hV_get h p r 34 (by omega) (by omega) (by omega)
  have S34 := fun h p r v => hV_set h p r 34 v (by omega) (by omega)
  have f34 := fun (h' : Nat → BitVec 64) (p' : Int) (r' : Bool) => blk_free (box1 w (.cells (hV h' p' r') 28) (.cells (hV zC 0 false) 28)) 34
  have U34 := fun h v => upd_self h 34 v
  have SR := fun h p r v => hV_setr h p r v
  have GR := fun h p r => hV_res h p r
  have f64 := fun (h' : Nat → BitVec 64) (p' : Int) (r' : Bool) => blk_free (box1 w (.cells (hV h' p' r') 28) (.cells (hV zC 0 false) 28)) 64
  have G65 := fun h p r => hV_get h p r 65 (by omega) (by omega) (by omega)
  have S65 := fun h p r v => hV_set h p r 65 v (by omega) (by omega)
  have f65 := fun (h' : Nat → BitVec 64) (p' : Int) (r' : Bool) => blk_free (box1 w (.cells (hV h' p' r') 28) (.cells (hV zC 0 false) 28)) 65
  have U65 := fun h v => upd_self h 65 v
  have G49 := fun h p r => hV_get h p r 49 (by omega) (by omega) (by omega)
  have S49 := fun h p r v => hV_set h p r 49 v (by omega) (by omega)
  have f49 := fun (h' : Nat → BitVec 64) (p' : Int) (r' : Bool) => blk_free (box1 w (.cells (hV h' p' r') 28) (.cells (hV zC 0 false) 28)) 49
  have U49 := fun h v => upd_self h 49 v
  have G48 := fun h p r => hV_get h p r 48 (by omega) (by omega) (by omega)
  have S48 := fun h p r v => hV_set h p r 48 v (by omega) (by omega)
  have f48 := fun (h' : Nat → BitVec 64) (p' : Int) (r' : Bool) => blk_free (box1 w (.cells (hV h' p' r') 28) (.cells (hV zC 0 false) 28)) 48
  have U48 := fun h v => upd_self h 48 v
  have G50 := fun h p r => hV_get h p r 50 (by omega) (by omega) (by omega)
  have S50 := fun h p r v => hV_set h p r 50 v (by omega) (by omega)
  have f50 := fun (h' : Nat → BitVec 64) (p' : Int) (r' : Bool) => blk_free (box1 w (.cells (hV h' p' r') 28) (.cells (hV zC 0 false) 28)) 50
  have U50 := fun h v => upd_self h 50 v
  have N0_34 := fun h v => upd_ne h (i := 0) (j := 34) v (by omega)
  have N0_35 := fun h v => upd_ne h (i := 0) (j := 35) v (by omega)
  have N0_36 := fun h v => upd_ne h (i := 0) (j := 36) v (by omega)
  have N0_39 := fun h v => upd_ne h (i := 0) (j := 39) v (by omega)
  have N0_45 := fun h v => upd_ne h (i := 0) (j := 45) v (by omega)
  have N34_0 := fun h v => upd_ne h (i := 34) (j := 0) v (by omega)
  have N34_35 := fun h v => upd_ne h (i := 34) (j := 35) v (by omega)
  have N34_36 := fun h v => upd_ne h (i := 34) (j := 36) v (by omega)
  have N34_39 := fun h v => upd_ne h (i := 34) (j := 39) v (by omega)
  have N34_45 := fun h v => upd_ne h (i := 34) (j := 45) v (by omega)
  have N65_0 := fun h v => upd_ne h (i := 65) (j := 0) v (by omega)
  have N65_34 := fun h v => upd_ne h (i := 65) (j := 34) v (by omega)
  have N65_35 := fun h v => upd_ne h (i := 65) (j := 35) v (by omega)
  have N65_36 := fun h v => upd_ne h (i := 65) (j := 36) v (by omega)
  have N65_39 := fun h v => upd_ne h (i := 65) (j := 39) v (by omega)
  have N65_45 := fun h v => upd_ne h (i := 65) (j := 45) v (by omega)
  have N49_0 := fun h v => upd_ne h (i := 49) (j := 0) v (by omega)
  have N49_34 := fun h v => upd_ne h (i := 49) (j := 34) v (by omega)
  have N49_35 := fun h v => upd_ne h (i := 49) (j := 35) v (by omega)
  have N49_36 := fun h v => upd_ne h (i := 49) (j := 36) v (by omega)
  have N49_39 := fun h v => upd_ne h (i := 49) (j := 39) v (by omega)
  have N49_45 := fun h v => upd_ne h (i := 49) (j := 45) v (by omega)
  have N48_0 := fun h v => upd_ne h (i := 48) (j := 0) v (by omega)
  have N48_34 := fun h v => upd_ne h (i := 48) (j := 34) v (by omega)
  have N48_35 := fun h v => upd_ne h (i := 48) (j := 35) v (by omega)
  have N48_36 := fun h v => upd_ne h (i := 48) (j := 36) v (by omega)
  have N48_39 := fun h v => upd_ne h (i := 48) (j := 39) v (by omega)
  have N48_45 := fun h v => upd_ne h (i := 48) (j := 45) v (by omega)
  have N50_0 := fun h v => upd_ne h (i := 50) (j := 0) v (by omega)
  have N50_34 := fun h v => upd_ne h (i := 50) (j := 34) v (by omega)
  have N50_35 := fun h v => upd_ne h (i := 50) (j := 35) v (by omega)
  have N50_36 := fun h v => upd_ne h (i := 50) (j := 36) v (by omega)
  have N50_39 := fun h v => upd_ne h (i := 50) (j := 39) v (by omega)
  have N50_45 := fun h v => upd_ne h (i := 50) (j := 45) v (by omega)
  have Z : ∀ (h : Nat → BitVec 64) (p : Int) (r : Bool), (hV h p r).setIfInBounds 65 (.int .u64 0) = hV (upd h 65 0#64) p r := fun h p r => hV_set h p r 65 0#64 (by omega) (by omega)
  have T : (u c / 9223372036854775808 == 1) = false := (top_div c).trans h63
  have T2 : (u (cau c) / 9223372036854775808 == 1) = false := (top_div _).trans ((cau_top c).trans h63)
  have P1 : ¬ u c / 9223372036854775808 = 1 := by simpa using T
  have P2 : ¬ u (cau c) / 9223372036854775808 = 1 := by simpa using T2
  have A : bits .and .u64 (u c) 9223372036854775871 = u (cau c) := u_and c 0x800000000000003f#64
  have B : bits .and .u64 (u c) 63 = u n := hn ▸ u_and c 63#64
  have A0 : bits .andNot .u64 (u (h 0)) 3 = u (h 0 &&& ~~~3#64) := u_andNot (h 0) 3#64
  have sh := fun v => shr_run Try.prog v n (hn ▸ and_lt64 c)
  have V0 : bits .andNot .u64 (u (h 45)) 3 = u (h 45 &&& ~~~3#64) := u_andNot (h 45) 3#64
  have V1 : (bits .and .u64 (u (h 45)) 1 == 1) = false := (low_test1' _).trans hv
  have V2 : ¬ bits .and .u64 (u (h 45)) 1 = 1 := by simpa using V1
  have D1 : (bits .and .u64 (u (h 35 >>> n.toNat)) 1 == 1) = true := (bit_at1 _ _).trans hb
  have D2 : bits .and .u64 (u (h 35 >>> n.toNat)) 1 = 1 := by simpa using D1
  have Q1 : (bits .and .u64 (u (h 34)) 2 != 0) = (!(h 34 &&& 2#64 == 0#64)) := by unfold bne; rw [show (2 : Int) = u 2#64 from rfl, u_and, show (0 : Int) = u 0#64 from rfl, u_beq]
  have Q2 := fun v : BitVec 64 => (show bits .andNot .u64 (u v) 2 = u (v &&& ~~~2#64) from u_andNot v 2#64)
  have K1 : Hid (∀ (v : BitVec 64) on w, Calls Try.prog 32 #[.int .u64 (u v), .int .u64 32, .bool on] w fun e w' => e = .returned (.int .u64 (u (putB v 32#64 on))) ∧ w = w') := Lib.hid (fun v on w => rputb_any v 32#64 on w)
  have K2 : Hid (∀ (v : BitVec 64) on w, Calls Try.prog 32 #[.int .u64 (u v), .int .u64 256, .bool on] w fun e w' => e = .returned (.int .u64 (u (putB v 256#64 on))) ∧ w = w') := Lib.hid (fun v on w => rputb_any v 256#64 on w)
  clear h63 hv hn hb
  go_enter Try.func13, Try.ntmps13
  go_wp2_with (first | ((with_reducible apply hrt_ld); (case ho => exact rfl); (case hgd => exact rfl); (case hx => exact rfl); (case hg => exact box1 _ _ _)) | ((with_reducible apply hrt_st); (case ho => exact rfl); (case hgd => exact rfl); (case hx => exact rfl); (case hy => exact rfl); (case hg => exact box2 _ _ _)))
  go_at_call 32; refine (K1.out _ _ _).mono ?_; rintro _ _ ⟨rfl, rfl⟩
  go_wp2_with (first | ((with_reducible apply hrt_ld); (case ho => exact rfl); (case hgd => exact rfl); (case hx => exact rfl); (case hg => exact box1 _ _ _)) | ((with_reducible apply hrt_st); (case ho => exact rfl); (case hgd => exact rfl); (case hx => exact rfl); (case hy => exact rfl); (case hg => exact box2 _ _ _)))
  go_at_call 32; refine (K2.out _ _ _).mono ?_; rintro _ _ ⟨rfl, rfl⟩
  go_wp2_with (first | ((with_reducible apply hrt_ld); (case ho => exact rfl); (case hgd => exact rfl); (case hx => exact rfl); (case hg => exact box1 _ _ _)) | ((with_reducible apply hrt_st); (case ho => exact rfl); (case hgd => exact rfl); (case hx => exact rfl); (case hy => exact rfl); (case hg => exact box2 _ _ _)))
  skip
  refine row_back hrtT rfl rfl rfl (hset_row (box2 _ _ _)) (hV_size ..) ⟨(?_ : Ending.returned (.agg (hV _ 1 false)) = _), (HO.out _ _ _).row _ _ (by omega)⟩
  rfl
set_option maxRecDepth 100000 in
set_option maxHeartbeats 1000000 in
theorem rent_1_011 (h : Nat → BitVec 64) (r : Bool) (c t n : BitVec 64) (hn : c &&& 63#64 = n) (h63 : c.getLsbD 63 = false) (hb : (h 35).getLsbD n.toNat = true) (hv : (h 45).getLsbD 0 = true) (w : World) : Calls Try.prog 13 #[.agg (hV h 1 r), .int .u64 (u c), .int .u64 (u t)] w fun e w' => e = .returned (.agg (hV (upd (upd (upd (upd (upd (upd h 65 0#64) 49 (cau c)) 48 (h 0 &&& ~~~3#64)) 50 t) 34 (putB (putB (h 34) 32#64 (!(h 34 &&& 2#64 == 0#64)) &&& ~~~2#64) 256#64 (1 == 1))) 0 (h 45 &&& ~~~3#64)) 1 false)) ∧ On w w' := by
  have hZ := fun w => hrt_zero w
  have HO : Hid (∀ h' p' r', On w ((w.alloc (.cells (hV h' p' r') 28)).alloc (.cells (hV zC 0 false) 28))) := Lib.hid (fun _ _ _ => ((On.refl w).alloc _).alloc _)
  have c0 := fun (h' : Nat → BitVec 64) (p' : Int) (r' : Bool) => blk_cell (box1 w (.cells (hV h' p' r') 28) (.cells (hV zC 0 false) 28)) 0 (hV_get h' p' r' 0 (by omega) (by omega) (by omega))
  have c34 := fun (h' : Nat → BitVec 64) (p' : Int) (r' : Bool) => blk_cell (box1 w (.cells (hV h' p' r') 28) (.cells (hV zC 0 false) 28)) 34 (hV_get h' p' r' 34 (by omega) (by omega) (by omega))
  have c35 := fun (h' : Nat → BitVec 64) (p' : Int) (r' : Bool) => blk_cell (box1 w (.cells (hV h' p' r') 28) (.cells (hV zC 0 false) 28)) 35 (hV_get h' p' r' 35 (by omega) (by omega) (by omega))
  have c36 := fun (h' : Nat → BitVec 64) (p' : Int) (r' : Bool) => blk_cell (box1 w (.cells (hV h' p' r') 28) (.cells (hV zC 0 false) 28)) 36 (hV_get h' p' r' 36 (by omega) (by omega) (by omega))
  have c39 := fun (h' : Nat → BitVec 64) (p' : Int) (r' : Bool) => blk_cell (box1 w (.cells (hV h' p' r') 28) (.cells (hV zC 0 false) 28)) 39 (hV_get h' p' r' 39 (by omega) (by omega) (by omega))
  have c45 := fun (h' : Nat → BitVec 64) (p' : Int) (r' : Bool) => blk_cell (box1 w (.cells (hV h' p' r') 28) (.cells (hV zC 0 false) 28)) 45 (hV_get h' p' r' 45 (by omega) (by omega) (by omega))
  have cP := fun (h' : Nat → BitVec 64) (p' : Int) (r' : Bool) => blk_cell (box1 w (.cells (hV h' p' r') 28) (.cells (hV zC 0 false) 28)) 1 (hV_priv h' p' r')
  have G0 := fun h p r => hV_get h p r 0 (by omega) (by omega) (by omega)
  have S0 := fun h p r v => hV_set h p r 0 v (by omega) (by omega)
  have f0 := fun (h' : Nat → BitVec 64) (p' : Int) (r' : Bool) => blk_free (box1 w (.cells (hV h' p' r') 28) (.cells (hV zC 0 false) 28)) 0
  have U0 := fun h v => upd_self h 0 v
  have SP := fun h p r v => hV_setp h p r v
  have GP := fun h p r => hV_priv h p r
  have f1 := fun (h' : Nat → BitVec 64) (p' : Int) (r' : Bool) => blk_free (box1 w (.cells (hV h' p' r') 28) (.cells (hV zC 0 false) 28)) 1
  have G34 := fun h p r => hV_get h p r 34 (by omega) (by omega) (by omega)
  have S34 := fun h p r v => hV_set h p r 34 v (by omega) (by omega)
  have f34 := fun (h' : Nat → BitVec 64) (p' : Int) (r' : Bool) => blk_free (box1 w (.cells (hV h' p' r') 28) (.cells (hV zC 0 false) 28)) 34
  have U34 := fun h v => upd_self h 34 v
  have SR := fun h p r v => hV_setr h p r v
  have GR := fun h p r => hV_res h p r
  have f64 := fun (h' : Nat → BitVec 64) (p' : Int) (r' : Bool) => blk_free (box1 w (.cells (hV h' p' r') 28) (.cells (hV zC 0 false) 28)) 64
  have G65 := fun h p r => hV_get h p r 65 (by omega) (by omega) (by omega)
  have S65 := fun h p r v => hV_set h p r 65 v (by omega) (by omega)
  have f65 := fun (h' : Nat → BitVec 64) (p' : Int) (r' : Bool) => blk_free (box1 w (.cells (hV h' p' r') 28) (.cells (hV zC 0 false) 28)) 65
  have U65 := fun h v => upd_self h 65 v
  have G49 := fun h p r => hV_get h p r 49 (by omega) (by omega) (by omega)
  have S49 := fun h p r v => hV_set h p r 49 v (by omega) (by omega)
  have f49 := fun (h' : Nat → BitVec 64) (p' : Int) (r' : Bool) => blk_free (box1 w (.cells (hV h' p' r') 28) (.cells (hV zC 0 false) 28)) 49
  have U49 := fun h v => upd_self h 49 v
  have G48 := fun h p r => hV_get h p r 48 (by omega) (by omega) (by omega)
  have S48 := fun h p r v => hV_set h p r 48 v (by omega) (by omega)
  have f48 := fun (h' : Nat → BitVec 64) (p' : Int) (r' : Bool) => blk_free (box1 w (.cells (hV h' p' r') 28) (.cells (hV zC 0 false) 28)) 48
  have U48 := fun h v => upd_self h 48 v
  have G50 := fun h p r => hV_get h p r 50 (by omega) (by omega) (by omega)
  have S50 := fun h p r v => hV_set h p r 50 v (by omega) (by omega)
  have f50 := fun (h' : Nat → BitVec 64) (p' : Int) (r' : Bool) => blk_free (box1 w (.cells (hV h' p' r') 28) (.cells (hV zC 0 false) 28)) 50
  have U50 := fun h v => upd_self h 50 v
  have N0_34 := fun h v => upd_ne h (i := 0) (j := 34) v (by omega)
  have N0_35 := fun h v => upd_ne h (i := 0) (j := 35) v (by omega)
  have N0_36 := fun h v => upd_ne h (i := 0) (j := 36) v (by omega)
  have N0_39 := fun h v => upd_ne h (i := 0) (j := 39) v (by omega)
  have N0_45 := fun h v => upd_ne h (i := 0) (j := 45) v (by omega)
  have N34_0 := fun h v => upd_ne h (i := 34) (j := 0) v (by omega)
  have N34_35 := fun h v => upd_ne h (i := 34) (j := 35) v (by omega)
  have N34_36 := fun h v => upd_ne h (i := 34) (j := 36) v (by omega)
  have N34_39 := fun h v => upd_ne h (i := 34) (j := 39) v (by omega)
  have N34_45 := fun h v => upd_ne h (i := 34) (j := 45) v (by omega)
  have N65_0 := fun h v => upd_ne h (i := 65) (j := 0) v (by omega)
  have N65_34 := fun h v => upd_ne h (i := 65) (j := 34) v (by omega)
  have N65_35 := fun h v => upd_ne h (i := 65) (j := 35) v (by omega)
  have N65_36 := fun h v => upd_ne h (i := 65) (j := 36) v (by omega)
  have N65_39 := fun h v => upd_ne h (i := 65) (j := 39) v (by omega)
  have N65_45 := fun h v => upd_ne h (i := 65) (j := 45) v (by omega)
  have N49_0 := fun h v => upd_ne h (i := 49) (j := 0) v (by omega)
  have N49_34 := fun h v => upd_ne h (i := 49) (j := 34) v (by omega)
  have N49_35 := fun h v => upd_ne h (i := 49) (j := 35) v (by omega)
  have N49_36 := fun h v => upd_ne h (i := 49) (j := 36) v (by omega)
  have N49_39 := fun h v => upd_ne h (i := 49) (j := 39) v (by omega)
  have N49_45 := fun h v => upd_ne h (i := 49) (j := 45) v (by omega)
  have N48_0 := fun h v => upd_ne h (i := 48) (j := 0) v (by omega)
  have N48_34 := fun h v => upd_ne h (i := 48) (j := 34) v (by omega)
  have N48_35 := fun h v => upd_ne h (i := 48) (j := 35) v (by omega)
  have N48_36 := fun h v => upd_ne h (i := 48) (j := 36) v (by omega)
  have N48_39 := fun h v => upd_ne h (i := 48) (j := 39) v (by omega)
  have N48_45 := fun h v => upd_ne h (i := 48) (j := 45) v (by omega)
  have N50_0 := fun h v => upd_ne h (i := 50) (j := 0) v (by omega)
  have N50_34 := fun h v => upd_ne h (i := 50) (j := 34) v (by omega)
  have N50_35 := fun h v => upd_ne h (i := 50) (j := 35) v (by omega)
  have N50_36 := fun h v => upd_ne h (i := 50) (j := 36) v (by omega)
  have N50_39 := fun h v => upd_ne h (i := 50) (j := 39) v (by omega)
  have N50_45 := fun h v => upd_ne h (i := 50) (j := 45) v (by omega)
  have Z : ∀ (h : Nat → BitVec 64) (p : Int) (r : Bool), (hV h p r).setIfInBounds 65 (.int .u64 0) = hV (upd h 65 0#64) p r := fun h p r => hV_set h p r 65 0#64 (by omega) (by omega)
  have T : (u c / 9223372036854775808 == 1) = false := (top_div c).trans h63
  have T2 : (u (cau c) / 9223372036854775808 == 1) = false := (top_div _).trans ((cau_top c).trans h63)
  have P1 : ¬ u c / 9223372036854775808 = 1 := by simpa using T
  have P2 : ¬ u (cau c) / 9223372036854775808 = 1 := by simpa using T2
  have A : bits .and .u64 (u c) 9223372036854775871 = u (cau c) := u_and c 0x800000000000003f#64
  have B : bits .and .u64 (u c) 63 = u n := hn ▸ u_and c 63#64
  have A0 : bits .andNot .u64 (u (h 0)) 3 = u (h 0 &&& ~~~3#64) := u_andNot (h 0) 3#64
  have sh := fun v => shr_run Try.prog v n (hn ▸ and_lt64 c)
  have V0 : bits .andNot .u64 (u (h 45)) 3 = u (h 45 &&& ~~~3#64) := u_andNot (h 45) 3#64
  have V1 : (bits .and .u64 (u (h 45)) 1 == 1) = true := (low_test1' _).trans hv
  have V2 : bits .and .u64 (u (h 45)) 1 = 1 := by simpa using V1
  have D1 : (bits .and .u64 (u (h 35 >>> n.toNat)) 1 == 1) = true := (bit_at1 _ _).trans hb
  have D2 : bits .and .u64 (u (h 35 >>> n.toNat)) 1 = 1 := by simpa using D1
  have Q1 : (bits .and .u64 (u (h 34)) 2 != 0) = (!(h 34 &&& 2#64 == 0#64)) := by unfold bne; rw [show (2 : Int) = u 2#64 from rfl, u_and, show (0 : Int) = u 0#64 from rfl, u_beq]
  have Q2 := fun v : BitVec 64 => (show bits .andNot .u64 (u v) 2 = u (v &&& ~~~2#64) from u_andNot v 2#64)
  have K1 : Hid (∀ (v : BitVec 64) on w, Calls Try.prog 32 #[.int .u64 (u v), .int .u64 32, .bool on] w fun e w' => e = .returned (.int .u64 (u (putB v 32#64 on))) ∧ w = w') := Lib.hid (fun v on w => rputb_any v 32#64 on w)
  have K2 : Hid (∀ (v : BitVec 64) on w, Calls Try.prog 32 #[.int .u64 (u v), .int .u64 256, .bool on] w fun e w' => e = .returned (.int .u64 (u (putB v 256#64 on))) ∧ w = w') := Lib.hid (fun v on w => rputb_any v 256#64 on w)
  clear h63 hv hn hb
  go_enter Try.func13, Try.ntmps13
  go_wp2_with (first | ((with_reducible apply hrt_ld); (case ho => exact rfl); (case hgd => exact rfl); (case hx => exact rfl); (case hg => exact box1 _ _ _)) | ((with_reducible apply hrt_st); (case ho => exact rfl); (case hgd => exact rfl); (case hx => exact rfl); (case hy => exact rfl); (case hg => exact box2 _ _ _)))
  go_at_call 32; refine (K1.out _ _ _).mono ?_; rintro _ _ ⟨rfl, rfl⟩
  go_wp2_with (first | ((with_reducible apply hrt_ld); (case ho => exact rfl); (case hgd => exact rfl); (case hx => exact rfl); (case hg => exact box1 _ _ _)) | ((with_reducible apply hrt_st); (case ho => exact rfl); (case hgd => exact rfl); (case hx => exact rfl); (case hy => exact rfl); (case hg => exact box2 _ _ _)))
  go_at_call 32; refine (K2.out _ _ _).mono ?_; rintro _ _ ⟨rfl, rfl⟩
  go_wp2_with (first | ((with_reducible apply hrt_ld); (case ho => exact rfl); (case hgd => exact rfl); (case hx => exact rfl); (case hg => exact box1 _ _ _)) | ((with_reducible apply hrt_st); (case ho => exact rfl); (case hgd => exact rfl); (case hx => exact rfl); (case hy => exact rfl); (case hg => exact box2 _ _ _)))
  skip
  refine row_back hrtT rfl rfl rfl (hset_row (box2 _ _ _)) (hV_size ..) ⟨(?_ : Ending.returned (.agg (hV _ 1 false)) = _), (HO.out _ _ _).row _ _ (by omega)⟩
  rfl
set_option maxRecDepth 100000 in
set_option maxHeartbeats 1000000 in
theorem rent_1_100 (h : Nat → BitVec 64) (r : Bool) (c t n : BitVec 64) (hn : c &&& 63#64 = n) (h63 : c.getLsbD 63 = true) (hb : (h 36).getLsbD n.toNat = false) (hv : (h 39).getLsbD 0 = false) (w : World) : Calls Try.prog 13 #[.agg (hV h 1 r), .int .u64 (u c), .int .u64 (u t)] w fun e w' => e = .returned (.agg (hV (upd (upd (upd (upd (upd (upd h 65 0#64) 43 (cau c)) 42 (h 0 &&& ~~~3#64)) 44 t) 34 ((putB (h 34) 128#64 (!(h 34 &&& 8#64 == 0#64)) &&& ~~~8#64) &&& ~~~6144#64 ||| (wd64 1 &&& 3#64) <<< 11)) 0 (h 39 &&& ~~~3#64)) 3 false)) ∧ On w w' := by
  have hZ := fun w => hrt_zero w
  have HO : Hid (∀ h' p' r', On w ((w.alloc (.cells (hV h' p' r') 28)).alloc (.cells (hV zC 0 false) 28))) := Lib.hid (fun _ _ _ => ((On.refl w).alloc _).alloc _)
  have c0 := fun (h' : Nat → BitVec 64) (p' : Int) (r' : Bool) => blk_cell (box1 w (.cells (hV h' p' r') 28) (.cells (hV zC 0 false) 28)) 0 (hV_get h' p' r' 0 (by omega) (by omega) (by omega))
  have c34 := fun (h' : Nat → BitVec 64) (p' : Int) (r' : Bool) => blk_cell (box1 w (.cells (hV h' p' r') 28) (.cells (hV zC 0 false) 28)) 34 (hV_get h' p' r' 34 (by omega) (by omega) (by omega))
  have c35 := fun (h' : Nat → BitVec 64) (p' : Int) (r' : Bool) => blk_cell (box1 w (.cells (hV h' p' r') 28) (.cells (hV zC 0 false) 28)) 35 (hV_get h' p' r' 35 (by omega) (by omega) (by omega))
  have c36 := fun (h' : Nat → BitVec 64) (p' : Int) (r' : Bool) => blk_cell (box1 w (.cells (hV h' p' r') 28) (.cells (hV zC 0 false) 28)) 36 (hV_get h' p' r' 36 (by omega) (by omega) (by omega))
  have c39 := fun (h' : Nat → BitVec 64) (p' : Int) (r' : Bool) => blk_cell (box1 w (.cells (hV h' p' r') 28) (.cells (hV zC 0 false) 28)) 39 (hV_get h' p' r' 39 (by omega) (by omega) (by omega))
  have c45 := fun (h' : Nat → BitVec 64) (p' : Int) (r' : Bool) => blk_cell (box1 w (.cells (hV h' p' r') 28) (.cells (hV zC 0 false) 28)) 45 (hV_get h' p' r' 45 (by omega) (by omega) (by omega))
  have cP := fun (h' : Nat → BitVec 64) (p' : Int) (r' : Bool) => blk_cell (box1 w (.cells (hV h' p' r') 28) (.cells (hV zC 0 false) 28)) 1 (hV_priv h' p' r')
  have G0 := fun h p r => hV_get h p r 0 (by omega) (by omega) (by omega)
  have S0 := fun h p r v => hV_set h p r 0 v (by omega) (by omega)
  have f0 := fun (h' : Nat → BitVec 64) (p' : Int) (r' : Bool) => blk_free (box1 w (.cells (hV h' p' r') 28) (.cells (hV zC 0 false) 28)) 0
  have U0 := fun h v => upd_self h 0 v
  have SP := fun h p r v => hV_setp h p r v
  have GP := fun h p r => hV_priv h p r
  have f1 := fun (h' : Nat → BitVec 64) (p' : Int) (r' : Bool) => blk_free (box1 w (.cells (hV h' p' r') 28) (.cells (hV zC 0 false) 28)) 1
  have G34 := fun h p r => hV_get h p r 34 (by omega) (by omega) (by omega)
  have S34 := fun h p r v => hV_set h p r 34 v (by omega) (by omega)
  have f34 := fun (h' : Nat → BitVec 64) (p' : Int) (r' : Bool) => blk_free (box1 w (.cells (hV h' p' r') 28) (.cells (hV zC 0 false) 28)) 34
  have U34 := fun h v => upd_self h 34 v
  have SR := fun h p r v => hV_setr h p r v
  have GR := fun h p r => hV_res h p r
  have f64 := fun (h' : Nat → BitVec 64) (p' : Int) (r' : Bool) => blk_free (box1 w (.cells (hV h' p' r') 28) (.cells (hV zC 0 false) 28)) 64
  have G65 := fun h p r => hV_get h p r 65 (by omega) (by omega) (by omega)
  have S65 := fun h p r v => hV_set h p r 65 v (by omega) (by omega)
  have f65 := fun (h' : Nat → BitVec 64) (p' : Int) (r' : Bool) => blk_free (box1 w (.cells (hV h' p' r') 28) (.cells (hV zC 0 false) 28)) 65
  have U65 := fun h v => upd_self h 65 v
  have G43 := fun h p r => hV_get h p r 43 (by omega) (by omega) (by omega)
  have S43 := fun h p r v => hV_set h p r 43 v (by omega) (by omega)
  have f43 := fun (h' : Nat → BitVec 64) (p' : Int) (r' : Bool) => blk_free (box1 w (.cells (hV h' p' r') 28) (.cells (hV zC 0 false) 28)) 43
  have U43 := fun h v => upd_self h 43 v
  have G42 := fun h p r => hV_get h p r 42 (by omega) (by omega) (by omega)
  have S42 := fun h p r v => hV_set h p r 42 v (by omega) (by omega)
  have f42 := fun (h' : Nat → BitVec 64) (p' : Int) (r' : Bool) => blk_free (box1 w (.cells (hV h' p' r') 28) (.cells (hV zC 0 false) 28)) 42
  have U42 := fun h v => upd_self h 42 v
  have G44 := fun h p r => hV_get h p r 44 (by omega) (by omega) (by omega)
  have S44 := fun h p r v => hV_set h p r 44 v (by omega) (by omega)
  have f44 := fun (h' : Nat → BitVec 64) (p' : Int) (r' : Bool) => blk_free (box1 w (.cells (hV h' p' r') 28) (.cells (hV zC 0 false) 28)) 44
  have U44 := fun h v => upd_self h 44 v
  have N0_34 := fun h v => upd_ne h (i := 0) (j := 34) v (by omega)
  have N0_35 := fun h v => upd_ne h (i := 0) (j := 35) v (by omega)
  have N0_36 := fun h v => upd_ne h (i := 0) (j := 36) v (by omega)
  have N0_39 := fun h v => upd_ne h (i := 0) (j := 39) v (by omega)
  have N0_45 := fun h v => upd_ne h (i := 0) (j := 45) v (by omega)
  have N34_0 := fun h v => upd_ne h (i := 34) (j := 0) v (by omega)
  have N34_35 := fun h v => upd_ne h (i := 34) (j := 35) v (by omega)
  have N34_36 := fun h v => upd_ne h (i := 34) (j := 36) v (by omega)
  have N34_39 := fun h v => upd_ne h (i := 34) (j := 39) v (by omega)
  have N34_45 := fun h v => upd_ne h (i := 34) (j := 45) v (by omega)
  have N65_0 := fun h v => upd_ne h (i := 65) (j := 0) v (by omega)
  have N65_34 := fun h v => upd_ne h (i := 65) (j := 34) v (by omega)
  have N65_35 := fun h v => upd_ne h (i := 65) (j := 35) v (by omega)
  have N65_36 := fun h v => upd_ne h (i := 65) (j := 36) v (by omega)
  have N65_39 := fun h v => upd_ne h (i := 65) (j := 39) v (by omega)
  have N65_45 := fun h v => upd_ne h (i := 65) (j := 45) v (by omega)
  have N43_0 := fun h v => upd_ne h (i := 43) (j := 0) v (by omega)
  have N43_34 := fun h v => upd_ne h (i := 43) (j := 34) v (by omega)
  have N43_35 := fun h v => upd_ne h (i := 43) (j := 35) v (by omega)
  have N43_36 := fun h v => upd_ne h (i := 43) (j := 36) v (by omega)
  have N43_39 := fun h v => upd_ne h (i := 43) (j := 39) v (by omega)
  have N43_45 := fun h v => upd_ne h (i := 43) (j := 45) v (by omega)
  have N42_0 := fun h v => upd_ne h (i := 42) (j := 0) v (by omega)
  have N42_34 := fun h v => upd_ne h (i := 42) (j := 34) v (by omega)
  have N42_35 := fun h v => upd_ne h (i := 42) (j := 35) v (by omega)
  have N42_36 := fun h v => upd_ne h (i := 42) (j := 36) v (by omega)
  have N42_39 := fun h v => upd_ne h (i := 42) (j := 39) v (by omega)
  have N42_45 := fun h v => upd_ne h (i := 42) (j := 45) v (by omega)
  have N44_0 := fun h v => upd_ne h (i := 44) (j := 0) v (by omega)
  have N44_34 := fun h v => upd_ne h (i := 44) (j := 34) v (by omega)
  have N44_35 := fun h v => upd_ne h (i := 44) (j := 35) v (by omega)
  have N44_36 := fun h v => upd_ne h (i := 44) (j := 36) v (by omega)
  have N44_39 := fun h v => upd_ne h (i := 44) (j := 39) v (by omega)
  have N44_45 := fun h v => upd_ne h (i := 44) (j := 45) v (by omega)
  have Z : ∀ (h : Nat → BitVec 64) (p : Int) (r : Bool), (hV h p r).setIfInBounds 65 (.int .u64 0) = hV (upd h 65 0#64) p r := fun h p r => hV_set h p r 65 0#64 (by omega) (by omega)
  have T : (u c / 9223372036854775808 == 1) = true := (top_div c).trans h63
  have T2 : (u (cau c) / 9223372036854775808 == 1) = true := (top_div _).trans ((cau_top c).trans h63)
  have P1 : u c / 9223372036854775808 = 1 := by simpa using T
  have P2 : u (cau c) / 9223372036854775808 = 1 := by simpa using T2
  have A : bits .and .u64 (u c) 9223372036854775871 = u (cau c) := u_and c 0x800000000000003f#64
  have B : bits .and .u64 (u c) 63 = u n := hn ▸ u_and c 63#64
  have A0 : bits .andNot .u64 (u (h 0)) 3 = u (h 0 &&& ~~~3#64) := u_andNot (h 0) 3#64
  have sh := fun v => shr_run Try.prog v n (hn ▸ and_lt64 c)
  have V0 : bits .andNot .u64 (u (h 39)) 3 = u (h 39 &&& ~~~3#64) := u_andNot (h 39) 3#64
  have V1 : (bits .and .u64 (u (h 39)) 1 == 1) = false := (low_test1' _).trans hv
  have V2 : ¬ bits .and .u64 (u (h 39)) 1 = 1 := by simpa using V1
  have D1 : (bits .and .u64 (u (h 36 >>> n.toNat)) 1 == 1) = false := (bit_at1 _ _).trans hb
  have D2 : ¬ bits .and .u64 (u (h 36 >>> n.toNat)) 1 = 1 := by simpa using D1
  have Q1 : (bits .and .u64 (u (h 34)) 8 != 0) = (!(h 34 &&& 8#64 == 0#64)) := by unfold bne; rw [show (8 : Int) = u 8#64 from rfl, u_and, show (0 : Int) = u 0#64 from rfl, u_beq]
  have Q2 := fun v : BitVec 64 => (show bits .andNot .u64 (u v) 8 = u (v &&& ~~~8#64) from u_andNot v 8#64)
  have K1 : Hid (∀ (v : BitVec 64) on w, Calls Try.prog 32 #[.int .u64 (u v), .int .u64 128, .bool on] w fun e w' => e = .returned (.int .u64 (u (putB v 128#64 on))) ∧ w = w') := Lib.hid (fun v on w => rputb_any v 128#64 on w)
  have M1 := fun v : BitVec 64 => (show bits .andNot .u64 (u v) 6144 = u (v &&& ~~~6144#64) from u_andNot v 6144#64)
  have M2 : IntKind.u64.wrap (bits .and .i64 1 3) = u (wd64 1 &&& 3#64) := i64_and3 1
  have M3 := fun v => shl11 v
  have M4 := fun a b => u_or a b
  clear h63 hv hn hb
  go_enter Try.func13, Try.ntmps13
  go_wp2_with (first | ((with_reducible apply hrt_ld); (case ho => exact rfl); (case hgd => exact rfl); (case hx => exact rfl); (case hg => exact box1 _ _ _)) | ((with_reducible apply hrt_st); (case ho => exact rfl); (case hgd => exact rfl); (case hx => exact rfl); (case hy => exact rfl); (case hg => exact box2 _ _ _)))
  go_at_call 32; refine (K1.out _ _ _).mono ?_; rintro _ _ ⟨rfl, rfl⟩
  go_wp2_with (first | ((with_reducible apply hrt_ld); (case ho => exact rfl); (case hgd => exact rfl); (case hx => exact rfl); (case hg => exact box1 _ _ _)) | ((with_reducible apply hrt_st); (case ho => exact rfl); (case hgd => exact rfl); (case hx => exact rfl); (case hy => exact rfl); (case hg => exact box2 _ _ _)))
  skip
  refine row_back hrtT rfl rfl rfl (hset_row (box2 _ _ _)) (hV_size ..) ⟨(?_ : Ending.returned (.agg (hV _ 3 false)) = _), (HO.out _ _ _).row _ _ (by omega)⟩
  rfl
set_option maxRecDepth 100000 in
set_option maxHeartbeats 1000000 in
theorem rent_1_101 (h : Nat → BitVec 64) (r : Bool) (c t n : BitVec 64) (hn : c &&& 63#64 = n) (h63 : c.getLsbD 63 = true) (hb : (h 36).getLsbD n.toNat = false) (hv : (h 39).getLsbD 0 = true) (w : World) : Calls Try.prog 13 #[.agg (hV h 1 r), .int .u64 (u c), .int .u64 (u t)] w fun e w' => e = .returned (.agg (hV (upd (upd (upd (upd (upd (upd (upd h 65 0#64) 43 (cau c)) 42 (h 0 &&& ~~~3#64)) 44 t) 34 ((putB (h 34) 128#64 (!(h 34 &&& 8#64 == 0#64)) &&& ~~~8#64) &&& ~~~6144#64 ||| (wd64 1 &&& 3#64) <<< 11)) 0 (h 39 &&& ~~~3#64)) 0 ((h 39 &&& ~~~3#64) + 4#64 * n)) 3 false)) ∧ On w w' := by
  have hZ := fun w => hrt_zero w
  have HO : Hid (∀ h' p' r', On w ((w.alloc (.cells (hV h' p' r') 28)).alloc (.cells (hV zC 0 false) 28))) := Lib.hid (fun _ _ _ => ((On.refl w).alloc _).alloc _)
  have c0 := fun (h' : Nat → BitVec 64) (p' : Int) (r' : Bool) => blk_cell (box1 w (.cells (hV h' p' r') 28) (.cells (hV zC 0 false) 28)) 0 (hV_get h' p' r' 0 (by omega) (by omega) (by omega))
  have c34 := fun (h' : Nat → BitVec 64) (p' : Int) (r' : Bool) => blk_cell (box1 w (.cells (hV h' p' r') 28) (.cells (hV zC 0 false) 28)) 34 (hV_get h' p' r' 34 (by omega) (by omega) (by omega))
  have c35 := fun (h' : Nat → BitVec 64) (p' : Int) (r' : Bool) => blk_cell (box1 w (.cells (hV h' p' r') 28) (.cells (hV zC 0 false) 28)) 35 (hV_get h' p' r' 35 (by omega) (by omega) (by omega))
  have c36 := fun (h' : Nat → BitVec 64) (p' : Int) (r' : Bool) => blk_cell (box1 w (.cells (hV h' p' r') 28) (.cells (hV zC 0 false) 28)) 36 (hV_get h' p' r' 36 (by omega) (by omega) (by omega))
  have c39 := fun (h' : Nat → BitVec 64) (p' : Int) (r' : Bool) => blk_cell (box1 w (.cells (hV h' p' r') 28) (.cells (hV zC 0 false) 28)) 39 (hV_get h' p' r' 39 (by omega) (by omega) (by omega))
  have c45 := fun (h' : Nat → BitVec 64) (p' : Int) (r' : Bool) => blk_cell (box1 w (.cells (hV h' p' r') 28) (.cells (hV zC 0 false) 28)) 45 (hV_get h' p' r' 45 (by omega) (by omega) (by omega))
  have cP := fun (h' : Nat → BitVec 64) (p' : Int) (r' : Bool) => blk_cell (box1 w (.cells (hV h' p' r') 28) (.cells (hV zC 0 false) 28)) 1 (hV_priv h' p' r')
  have G0 := fun h p r => hV_get h p r 0 (by omega) (by omega) (by omega)
  have S0 := fun h p r v => hV_set h p r 0 v (by omega) (by omega)
  have f0 := fun (h' : Nat → BitVec 64) (p' : Int) (r' : Bool) => blk_free (box1 w (.cells (hV h' p' r') 28) (.cells (hV zC 0 false) 28)) 0
  have U0 := fun h v => upd_self h 0 v
  have SP := fun h p r v => hV_setp h p r v
  have GP := fun h p r => hV_priv h p r
  have f1 := fun (h' : Nat → BitVec 64) (p' : Int) (r' : Bool) => blk_free (box1 w (.cells (hV h' p' r') 28) (.cells (hV zC 0 false) 28)) 1
  have G34 := fun h p r => hV_get h p r 34 (by omega) (by omega) (by omega)
  have S34 := fun h p r v => hV_set h p r 34 v (by omega) (by omega)
  have f34 := fun (h' : Nat → BitVec 64) (p' : Int) (r' : Bool) => blk_free (box1 w (.cells (hV h' p' r') 28) (.cells (hV zC 0 false) 28)) 34
  have U34 := fun h v => upd_self h 34 v
  have SR := fun h p r v => hV_setr h p r v
  have GR := fun h p r => hV_res h p r
  have f64 := fun (h' : Nat → BitVec 64) (p' : Int) (r' : Bool) => blk_free (box1 w (.cells (hV h' p' r') 28) (.cells (hV zC 0 false) 28)) 64
  have G65 := fun h p r => hV_get h p r 65 (by omega) (by omega) (by omega)
  have S65 := fun h p r v => hV_set h p r 65 v (by omega) (by omega)
  have f65 := fun (h' : Nat → BitVec 64) (p' : Int) (r' : Bool) => blk_free (box1 w (.cells (hV h' p' r') 28) (.cells (hV zC 0 false) 28)) 65
  have U65 := fun h v => upd_self h 65 v
  have G43 := fun h p r => hV_get h p r 43 (by omega) (by omega) (by omega)
  have S43 := fun h p r v => hV_set h p r 43 v (by omega) (by omega)
  have f43 := fun (h' : Nat → BitVec 64) (p' : Int) (r' : Bool) => blk_free (box1 w (.cells (hV h' p' r') 28) (.cells (hV zC 0 false) 28)) 43
  have U43 := fun h v => upd_self h 43 v
  have G42 := fun h p r => hV_get h p r 42 (by omega) (by omega) (by omega)
  have S42 := fun h p r v => hV_set h p r 42 v (by omega) (by omega)
  have f42 := fun (h' : Nat → BitVec 64) (p' : Int) (r' : Bool) => blk_free (box1 w (.cells (hV h' p' r') 28) (.cells (hV zC 0 false) 28)) 42
  have U42 := fun h v => upd_self h 42 v
  have G44 := fun h p r => hV_get h p r 44 (by omega) (by omega) (by omega)
  have S44 := fun h p r v => hV_set h p r 44 v (by omega) (by omega)
  have f44 := fun (h' : Nat → BitVec 64) (p' : Int) (r' : Bool) => blk_free (box1 w (.cells (hV h' p' r') 28) (.cells (hV zC 0 false) 28)) 44
  have U44 := fun h v => upd_self h 44 v
  have N0_34 := fun h v => upd_ne h (i := 0) (j := 34) v (by omega)
  have N0_35 := fun h v => upd_ne h (i := 0) (j := 35) v (by omega)
  have N0_36 := fun h v => upd_ne h (i := 0) (j := 36) v (by omega)
  have N0_39 := fun h v => upd_ne h (i := 0) (j := 39) v (by omega)
  have N0_45 := fun h v => upd_ne h (i := 0) (j := 45) v (by omega)
  have N34_0 := fun h v => upd_ne h (i := 34) (j := 0) v (by omega)
  have N34_35 := fun h v => upd_ne h (i := 34) (j := 35) v (by omega)
  have N34_36 := fun h v => upd_ne h (i := 34) (j := 36) v (by omega)
  have N34_39 := fun h v => upd_ne h (i := 34) (j := 39) v (by omega)
  have N34_45 := fun h v => upd_ne h (i := 34) (j := 45) v (by omega)
  have N65_0 := fun h v => upd_ne h (i := 65) (j := 0) v (by omega)
  have N65_34 := fun h v => upd_ne h (i := 65) (j := 34) v (by omega)
  have N65_35 := fun h v => upd_ne h (i := 65) (j := 35) v (by omega)
  have N65_36 := fun h v => upd_ne h (i := 65) (j := 36) v (by omega)
  have N65_39 := fun h v => upd_ne h (i := 65) (j := 39) v (by omega)
  have N65_45 := fun h v => upd_ne h (i := 65) (j := 45) v (by omega)
  have N43_0 := fun h v => upd_ne h (i := 43) (j := 0) v (by omega)
  have N43_34 := fun h v => upd_ne h (i := 43) (j := 34) v (by omega)
  have N43_35 := fun h v => upd_ne h (i := 43) (j := 35) v (by omega)
  have N43_36 := fun h v => upd_ne h (i := 43) (j := 36) v (by omega)
  have N43_39 := fun h v => upd_ne h (i := 43) (j := 39) v (by omega)
  have N43_45 := fun h v => upd_ne h (i := 43) (j := 45) v (by omega)
  have N42_0 := fun h v => upd_ne h (i := 42) (j := 0) v (by omega)
  have N42_34 := fun h v => upd_ne h (i := 42) (j := 34) v (by omega)
  have N42_35 := fun h v => upd_ne h (i := 42) (j := 35) v (by omega)
  have N42_36 := fun h v => upd_ne h (i := 42) (j := 36) v (by omega)
  have N42_39 := fun h v => upd_ne h (i := 42) (j := 39) v (by omega)
  have N42_45 := fun h v => upd_ne h (i := 42) (j := 45) v (by omega)
  have N44_0 := fun h v => upd_ne h (i := 44) (j := 0) v (by omega)
  have N44_34 := fun h v => upd_ne h (i := 44) (j := 34) v (by omega)
  have N44_35 := fun h v => upd_ne h (i := 44) (j := 35) v (by omega)
  have N44_36 := fun h v => upd_ne h (i := 44) (j := 36) v (by omega)
  have N44_39 := fun h v => upd_ne h (i := 44) (j := 39) v (by omega)
  have N44_45 := fun h v => upd_ne h (i := 44) (j := 45) v (by omega)
  have Z : ∀ (h : Nat → BitVec 64) (p : Int) (r : Bool), (hV h p r).setIfInBounds 65 (.int .u64 0) = hV (upd h 65 0#64) p r := fun h p r => hV_set h p r 65 0#64 (by omega) (by omega)
  have T : (u c / 9223372036854775808 == 1) = true := (top_div c).trans h63
  have T2 : (u (cau c) / 9223372036854775808 == 1) = true := (top_div _).trans ((cau_top c).trans h63)
  have P1 : u c / 9223372036854775808 = 1 := by simpa using T
  have P2 : u (cau c) / 9223372036854775808 = 1 := by simpa using T2
  have A : bits .and .u64 (u c) 9223372036854775871 = u (cau c) := u_and c 0x800000000000003f#64
  have B : bits .and .u64 (u c) 63 = u n := hn ▸ u_and c 63#64
  have A0 : bits .andNot .u64 (u (h 0)) 3 = u (h 0 &&& ~~~3#64) := u_andNot (h 0) 3#64
  have sh := fun v => shr_run Try.prog v n (hn ▸ and_lt64 c)
  have V0 : bits .andNot .u64 (u (h 39)) 3 = u (h 39 &&& ~~~3#64) := u_andNot (h 39) 3#64
  have V1 : (bits .and .u64 (u (h 39)) 1 == 1) = true := (low_test1' _).trans hv
  have V2 : bits .and .u64 (u (h 39)) 1 = 1 := by simpa using V1
  have D1 : (bits .and .u64 (u (h 36 >>> n.toNat)) 1 == 1) = false := (bit_at1 _ _).trans hb
  have D2 : ¬ bits .and .u64 (u (h 36 >>> n.toNat)) 1 = 1 := by simpa using D1
  have Q1 : (bits .and .u64 (u (h 34)) 8 != 0) = (!(h 34 &&& 8#64 == 0#64)) := by unfold bne; rw [show (8 : Int) = u 8#64 from rfl, u_and, show (0 : Int) = u 0#64 from rfl, u_beq]
  have Q2 := fun v : BitVec 64 => (show bits .andNot .u64 (u v) 8 = u (v &&& ~~~8#64) from u_andNot v 8#64)
  have K1 : Hid (∀ (v : BitVec 64) on w, Calls Try.prog 32 #[.int .u64 (u v), .int .u64 128, .bool on] w fun e w' => e = .returned (.int .u64 (u (putB v 128#64 on))) ∧ w = w') := Lib.hid (fun v on w => rputb_any v 128#64 on w)
  have M1 := fun v : BitVec 64 => (show bits .andNot .u64 (u v) 6144 = u (v &&& ~~~6144#64) from u_andNot v 6144#64)
  have M2 : IntKind.u64.wrap (bits .and .i64 1 3) = u (wd64 1 &&& 3#64) := i64_and3 1
  have M3 := fun v => shl11 v
  have M4 := fun a b => u_or a b
  have X1 : IntKind.u64.wrap (4 * u n) = u (4#64 * n) := u_mul 4#64 _
  have X2 := fun a b => u_add a b
  clear h63 hv hn hb
  go_enter Try.func13, Try.ntmps13
  go_wp2_with (first | ((with_reducible apply hrt_ld); (case ho => exact rfl); (case hgd => exact rfl); (case hx => exact rfl); (case hg => exact box1 _ _ _)) | ((with_reducible apply hrt_st); (case ho => exact rfl); (case hgd => exact rfl); (case hx => exact rfl); (case hy => exact rfl); (case hg => exact box2 _ _ _)))
  go_at_call 32; refine (K1.out _ _ _).mono ?_; rintro _ _ ⟨rfl, rfl⟩
  go_wp2_with (first | ((with_reducible apply hrt_ld); (case ho => exact rfl); (case hgd => exact rfl); (case hx => exact rfl); (case hg => exact box1 _ _ _)) | ((with_reducible apply hrt_st); (case ho => exact rfl); (case hgd => exact rfl); (case hx => exact rfl); (case hy => exact rfl); (case hg => exact box2 _ _ _)))
  skip
  refine row_back hrtT rfl rfl rfl (hset_row (box2 _ _ _)) (hV_size ..) ⟨(?_ : Ending.returned (.agg (hV _ 3 false)) = _), (HO.out _ _ _).row _ _ (by omega)⟩
  rfl
set_option maxRecDepth 100000 in
set_option maxHeartbeats 1000000 in
theorem rent_1_110 (h : Nat → BitVec 64) (r : Bool) (c t n : BitVec 64) (hn : c &&& 63#64 = n) (h63 : c.getLsbD 63 = true) (hb : (h 36).getLsbD n.toNat = true) (hv : (h 45).getLsbD 0 = false) (w : World) : Calls Try.prog 13 #[.agg (hV h 1 r), .int .u64 (u c), .int .u64 (u t)] w fun e w' => e = .returned (.agg (hV (upd (upd (upd (upd (upd (upd h 65 0#64) 49 (cau c)) 48 (h 0 &&& ~~~3#64)) 50 t) 34 (putB (putB (h 34) 32#64 (!(h 34 &&& 2#64 == 0#64)) &&& ~~~2#64) 256#64 (1 == 1))) 0 (h 45 &&& ~~~3#64)) 1 false)) ∧ On w w' := by
  have hZ := fun w => hrt_zero w
  have HO : Hid (∀ h' p' r', On w ((w.alloc (.cells (hV h' p' r') 28)).alloc (.cells (hV zC 0 false) 28))) := Lib.hid (fun _ _ _ => ((On.refl w).alloc _).alloc _)
  have c0 := fun (h' : Nat → BitVec 64) (p' : Int) (r' : Bool) => blk_cell (box1 w (.cells (hV h' p' r') 28) (.cells (hV zC 0 false) 28)) 0 (hV_get h' p' r' 0 (by omega) (by omega) (by omega))
  have c34 := fun (h' : Nat → BitVec 64) (p' : Int) (r' : Bool) => blk_cell (box1 w (.cells (hV h' p' r') 28) (.cells (hV zC 0 false) 28)) 34 (hV_get h' p' r' 34 (by omega) (by omega) (by omega))
  have c35 := fun (h' : Nat → BitVec 64) (p' : Int) (r' : Bool) => blk_cell (box1 w (.cells (hV h' p' r') 28) (.cells (hV zC 0 false) 28)) 35 (hV_get h' p' r' 35 (by omega) (by omega) (by omega))
  have c36 := fun (h' : Nat → BitVec 64) (p' : Int) (r' : Bool) => blk_cell (box1 w (.cells (hV h' p' r') 28) (.cells (hV zC 0 false) 28)) 36 (hV_get h' p' r' 36 (by omega) (by omega) (by omega))
  have c39 := fun (h' : Nat → BitVec 64) (p' : Int) (r' : Bool) => blk_cell (box1 w (.cells (hV h' p' r') 28) (.cells (hV zC 0 false) 28)) 39 (hV_get h' p' r' 39 (by omega) (by omega) (by omega))
  have c45 := fun (h' : Nat → BitVec 64) (p' : Int) (r' : Bool) => blk_cell (box1 w (.cells (hV h' p' r') 28) (.cells (hV zC 0 false) 28)) 45 (hV_get h' p' r' 45 (by omega) (by omega) (by omega))
  have cP := fun (h' : Nat → BitVec 64) (p' : Int) (r' : Bool) => blk_cell (box1 w (.cells (hV h' p' r') 28) (.cells (hV zC 0 false) 28)) 1 (hV_priv h' p' r')
  have G0 := fun h p r => hV_get h p r 0 (by omega) (by omega) (by omega)
  have S0 := fun h p r v => hV_set h p r 0 v (by omega) (by omega)
  have f0 := fun (h' : Nat → BitVec 64) (p' : Int) (r' : Bool) => blk_free (box1 w (.cells (hV h' p' r') 28) (.cells (hV zC 0 false) 28)) 0
  have U0 := fun h v => upd_self h 0 v
  have SP := fun h p r v => hV_setp h p r v
  have GP := fun h p r => hV_priv h p r
  have f1 := fun (h' : Nat → BitVec 64) (p' : Int) (r' : Bool) => blk_free (box1 w (.cells (hV h' p' r') 28) (.cells (hV zC 0 false) 28)) 1
  have G34 := fun h p r => hV_get h p r 34 (by omega) (by omega) (by omega)
  have S34 := fun h p r v => hV_set h p r 34 v (by omega) (by omega)
  have f34 := fun (h' : Nat → BitVec 64) (p' : Int) (r' : Bool) => blk_free (box1 w (.cells (hV h' p' r') 28) (.cells (hV zC 0 false) 28)) 34
  have U34 := fun h v => upd_self h 34 v
  have SR := fun h p r v => hV_setr h p r v
  have GR := fun h p r => hV_res h p r
  have f64 := fun (h' : Nat → BitVec 64) (p' : Int) (r' : Bool) => blk_free (box1 w (.cells (hV h' p' r') 28) (.cells (hV zC 0 false) 28)) 64
  have G65 := fun h p r => hV_get h p r 65 (by omega) (by omega) (by omega)
  have S65 := fun h p r v => hV_set h p r 65 v (by omega) (by omega)
  have f65 := fun (h' : Nat → BitVec 64) (p' : Int) (r' : Bool) => blk_free (box1 w (.cells (hV h' p' r') 28) (.cells (hV zC 0 false) 28)) 65
  have U65 := fun h v => upd_self h 65 v
  have G49 := fun h p r => hV_get h p r 49 (by omega) (by omega) (by omega)
  have S49 := fun h p r v => hV_set h p r 49 v (by omega) (by omega)
  have f49 := fun (h' : Nat → BitVec 64) (p' : Int) (r' : Bool) => blk_free (box1 w (.cells (hV h' p' r') 28) (.cells (hV zC 0 false) 28)) 49
  have U49 := fun h v => upd_self h 49 v
  have G48 := fun h p r => hV_get h p r 48 (by omega) (by omega) (by omega)
  have S48 := fun h p r v => hV_set h p r 48 v (by omega) (by omega)
  have f48 := fun (h' : Nat → BitVec 64) (p' : Int) (r' : Bool) => blk_free (box1 w (.cells (hV h' p' r') 28) (.cells (hV zC 0 false) 28)) 48
  have U48 := fun h v => upd_self h 48 v
  have G50 := fun h p r => hV_get h p r 50 (by omega) (by omega) (by omega)
  have S50 := fun h p r v => hV_set h p r 50 v (by omega) (by omega)
  have f50 := fun (h' : Nat → BitVec 64) (p' : Int) (r' : Bool) => blk_free (box1 w (.cells (hV h' p' r') 28) (.cells (hV zC 0 false) 28)) 50
  have U50 := fun h v => upd_self h 50 v
  have N0_34 := fun h v => upd_ne h (i := 0) (j := 34) v (by omega)
  have N0_35 := fun h v => upd_ne h (i := 0) (j := 35) v (by omega)
  have N0_36 := fun h v => upd_ne h (i := 0) (j := 36) v (by omega)
  have N0_39 := fun h v => upd_ne h (i := 0) (j := 39) v (by omega)
  have N0_45 := fun h v => upd_ne h (i := 0) (j := 45) v (by omega)
  have N34_0 := fun h v => upd_ne h (i := 34) (j := 0) v (by omega)
  have N34_35 := fun h v => upd_ne h (i := 34) (j := 35) v (by omega)
  have N34_36 := fun h v => upd_ne h (i := 34) (j := 36) v (by omega)
  have N34_39 := fun h v => upd_ne h (i := 34) (j := 39) v (by omega)
  have N34_45 := fun h v => upd_ne h (i := 34) (j := 45) v (by omega)
  have N65_0 := fun h v => upd_ne h (i := 65) (j := 0) v (by omega)
  have N65_34 := fun h v => upd_ne h (i := 65) (j := 34) v (by omega)
  have N65_35 := fun h v => upd_ne h (i := 65) (j := 35) v (by omega)
  have N65_36 := fun h v => upd_ne h (i := 65) (j := 36) v (by omega)
  have N65_39 := fun h v => upd_ne h (i := 65) (j := 39) v (by omega)
  have N65_45 := fun h v => upd_ne h (i := 65) (j := 45) v (by omega)
  have N49_0 := fun h v => upd_ne h (i := 49) (j := 0) v (by omega)
  have N49_34 := fun h v => upd_ne h (i := 49) (j := 34) v (by omega)
  have N49_35 := fun h v => upd_ne h (i := 49) (j := 35) v (by omega)
  have N49_36 := fun h v => upd_ne h (i := 49) (j := 36) v (by omega)
  have N49_39 := fun h v => upd_ne h (i := 49) (j := 39) v (by omega)
  have N49_45 := fun h v => upd_ne h (i := 49) (j := 45) v (by omega)
  have N48_0 := fun h v => upd_ne h (i := 48) (j := 0) v (by omega)
  have N48_34 := fun h v => upd_ne h (i := 48) (j := 34) v (by omega)
  have N48_35 := fun h v => upd_ne h (i := 48) (j := 35) v (by omega)
  have N48_36 := fun h v => upd_ne h (i := 48) (j := 36) v (by omega)
  have N48_39 := fun h v => upd_ne h (i := 48) (j := 39) v (by omega)
  have N48_45 := fun h v => upd_ne h (i := 48) (j := 45) v (by omega)
  have N50_0 := fun h v => upd_ne h (i := 50) (j := 0) v (by omega)
  have N50_34 := fun h v => upd_ne h (i := 50) (j := 34) v (by omega)
  have N50_35 := fun h v => upd_ne h (i := 50) (j := 35) v (by omega)
  have N50_36 := fun h v => upd_ne h (i := 50) (j := 36) v (by omega)
  have N50_39 := fun h v => upd_ne h (i := 50) (j := 39) v (by omega)
  have N50_45 := fun h v => upd_ne h (i := 50) (j := 45) v (by omega)
  have Z : ∀ (h : Nat → BitVec 64) (p : Int) (r : Bool), (hV h p r).setIfInBounds 65 (.int .u64 0) = hV (upd h 65 0#64) p r := fun h p r => hV_set h p r 65 0#64 (by omega) (by omega)
  have T : (u c / 9223372036854775808 == 1) = true := (top_div c).trans h63
  have T2 : (u (cau c) / 9223372036854775808 == 1) = true := (top_div _).trans ((cau_top c).trans h63)
  have P1 : u c / 9223372036854775808 = 1 := by simpa using T
  have P2 : u (cau c) / 9223372036854775808 = 1 := by simpa using T2
  have A : bits .and .u64 (u c) 9223372036854775871 = u (cau c) := u_and c 0x800000000000003f#64
  have B : bits .and .u64 (u c) 63 = u n := hn ▸ u_and c 63#64
  have A0 : bits .andNot .u64 (u (h 0)) 3 = u (h 0 &&& ~~~3#64) := u_andNot (h 0) 3#64
  have sh := fun v => shr_run Try.prog v n (hn ▸ and_lt64 c)
  have V0 : bits .andNot .u64 (u (h 45)) 3 = u (h 45 &&& ~~~3#64) := u_andNot (h 45) 3#64
  have V1 : (bits .and .u64 (u (h 45)) 1 == 1) = false := (low_test1' _).trans hv
  have V2 : ¬ bits .and .u64 (u (h 45)) 1 = 1 := by simpa using V1
  have D1 : (bits .and .u64 (u (h 36 >>> n.toNat)) 1 == 1) = true := (bit_at1 _ _).trans hb
  have D2 : bits .and .u64 (u (h 36 >>> n.toNat)) 1 = 1 := by simpa using D1
  have Q1 : (bits .and .u64 (u (h 34)) 2 != 0) = (!(h 34 &&& 2#64 == 0#64)) := by unfold bne; rw [show (2 : Int) = u 2#64 from rfl, u_and, show (0 : Int) = u 0#64 from rfl, u_beq]
  have Q2 := fun v : BitVec 64 => (show bits .andNot .u64 (u v) 2 = u (v &&& ~~~2#64) from u_andNot v 2#64)
  have K1 : Hid (∀ (v : BitVec 64) on w, Calls Try.prog 32 #[.int .u64 (u v), .int .u64 32, .bool on] w fun e w' => e = .returned (.int .u64 (u (putB v 32#64 on))) ∧ w = w') := Lib.hid (fun v on w => rputb_any v 32#64 on w)
  have K2 : Hid (∀ (v : BitVec 64) on w, Calls Try.prog 32 #[.int .u64 (u v), .int .u64 256, .bool on] w fun e w' => e = .returned (.int .u64 (u (putB v 256#64 on))) ∧ w = w') := Lib.hid (fun v on w => rputb_any v 256#64 on w)
  clear h63 hv hn hb
  go_enter Try.func13, Try.ntmps13
  go_wp2_with (first | ((with_reducible apply hrt_ld); (case ho => exact rfl); (case hgd => exact rfl); (case hx => exact rfl); (case hg => exact box1 _ _ _)) | ((with_reducible apply hrt_st); (case ho => exact rfl); (case hgd => exact rfl); (case hx => exact rfl); (case hy => exact rfl); (case hg => exact box2 _ _ _)))
  go_at_call 32; refine (K1.out _ _ _).mono ?_; rintro _ _ ⟨rfl, rfl⟩
  go_wp2_with (first | ((with_reducible apply hrt_ld); (case ho => exact rfl); (case hgd => exact rfl); (case hx => exact rfl); (case hg => exact box1 _ _ _)) | ((with_reducible apply hrt_st); (case ho => exact rfl); (case hgd => exact rfl); (case hx => exact rfl); (case hy => exact rfl); (case hg => exact box2 _ _ _)))
  go_at_call 32; refine (K2.out _ _ _).mono ?_; rintro _ _ ⟨rfl, rfl⟩
  go_wp2_with (first | ((with_reducible apply hrt_ld); (case ho => exact rfl); (case hgd => exact rfl); (case hx => exact rfl); (case hg => exact box1 _ _ _)) | ((with_reducible apply hrt_st); (case ho => exact rfl); (case hgd => exact rfl); (case hx => exact rfl); (case hy => exact rfl); (case hg => exact box2 _ _ _)))
  skip
  refine row_back hrtT rfl rfl rfl (hset_row (box2 _ _ _)) (hV_size ..) ⟨(?_ : Ending.returned (.agg (hV _ 1 false)) = _), (HO.out _ _ _).row _ _ (by omega)⟩
  rfl
set_option maxRecDepth 100000 in
set_option maxHeartbeats 1000000 in
theorem rent_1_111 (h : Nat → BitVec 64) (r : Bool) (c t n : BitVec 64) (hn : c &&& 63#64 = n) (h63 : c.getLsbD 63 = true) (hb : (h 36).getLsbD n.toNat = true) (hv : (h 45).getLsbD 0 = true) (w : World) : Calls Try.prog 13 #[.agg (hV h 1 r), .int .u64 (u c), .int .u64 (u t)] w fun e w' => e = .returned (.agg (hV (upd (upd (upd (upd (upd (upd (upd h 65 0#64) 49 (cau c)) 48 (h 0 &&& ~~~3#64)) 50 t) 34 (putB (putB (h 34) 32#64 (!(h 34 &&& 2#64 == 0#64)) &&& ~~~2#64) 256#64 (1 == 1))) 0 (h 45 &&& ~~~3#64)) 0 ((h 45 &&& ~~~3#64) + 4#64 * n)) 1 false)) ∧ On w w' := by
  have hZ := fun w => hrt_zero w
  have HO : Hid (∀ h' p' r', On w ((w.alloc (.cells (hV h' p' r') 28)).alloc (.cells (hV zC 0 false) 28))) := Lib.hid (fun _ _ _ => ((On.refl w).alloc _).alloc _)
  have c0 := fun (h' : Nat → BitVec 64) (p' : Int) (r' : Bool) => blk_cell (box1 w (.cells (hV h' p' r') 28) (.cells (hV zC 0 false) 28)) 0 (hV_get h' p' r' 0 (by omega) (by omega) (by omega))
  have c34 := fun (h' : Nat → BitVec 64) (p' : Int) (r' : Bool) => blk_cell (box1 w (.cells (hV h' p' r') 28) (.cells (hV zC 0 false) 28)) 34 (hV_get h' p' r' 34 (by omega) (by omega) (by omega))
  have c35 := fun (h' : Nat → BitVec 64) (p' : Int) (r' : Bool) => blk_cell (box1 w (.cells (hV h' p' r') 28) (.cells (hV zC 0 false) 28)) 35 (hV_get h' p' r' 35 (by omega) (by omega) (by omega))
  have c36 := fun (h' : Nat → BitVec 64) (p' : Int) (r' : Bool) => blk_cell (box1 w (.cells (hV h' p' r') 28) (.cells (hV zC 0 false) 28)) 36 (hV_get h' p' r' 36 (by omega) (by omega) (by omega))
  have c39 := fun (h' : Nat → BitVec 64) (p' : Int) (r' : Bool) => blk_cell (box1 w (.cells (hV h' p' r') 28) (.cells (hV zC 0 false) 28)) 39 (hV_get h' p' r' 39 (by omega) (by omega) (by omega))
  have c45 := fun (h' : Nat → BitVec 64) (p' : Int) (r' : Bool) => blk_cell (box1 w (.cells (hV h' p' r') 28) (.cells (hV zC 0 false) 28)) 45 (hV_get h' p' r' 45 (by omega) (by omega) (by omega))
  have cP := fun (h' : Nat → BitVec 64) (p' : Int) (r' : Bool) => blk_cell (box1 w (.cells (hV h' p' r') 28) (.cells (hV zC 0 false) 28)) 1 (hV_priv h' p' r')
  have G0 := fun h p r => hV_get h p r 0 (by omega) (by omega) (by omega)
  have S0 := fun h p r v => hV_set h p r 0 v (by omega) (by omega)
  have f0 := fun (h' : Nat → BitVec 64) (p' : Int) (r' : Bool) => blk_free (box1 w (.cells (hV h' p' r') 28) (.cells (hV zC 0 false) 28)) 0
  have U0 := fun h v => upd_self h 0 v
  have SP := fun h p r v => hV_setp h p r v
  have GP := fun h p r => hV_priv h p r
  have f1 := fun (h' : Nat → BitVec 64) (p' : Int) (r' : Bool) => blk_free (box1 w (.cells (hV h' p' r') 28) (.cells (hV zC 0 false) 28)) 1
  have G34 := fun h p r => hV_get h p r 34 (by omega) (by omega) (by omega)
  have S34 := fun h p r v => hV_set h p r 34 v (by omega) (by omega)
  have f34 := fun (h' : Nat → BitVec 64) (p' : Int) (r' : Bool) => blk_free (box1 w (.cells (hV h' p' r') 28) (.cells (hV zC 0 false) 28)) 34
  have U34 := fun h v => upd_self h 34 v
  have SR := fun h p r v => hV_setr h p r v
  have GR := fun h p r => hV_res h p r
  have f64 := fun (h' : Nat → BitVec 64) (p' : Int) (r' : Bool) => blk_free (box1 w (.cells (hV h' p' r') 28) (.cells (hV zC 0 false) 28)) 64
  have G65 := fun h p r => hV_get h p r 65 (by omega) (by omega) (by omega)
  have S65 := fun h p r v => hV_set h p r 65 v (by omega) (by omega)
  have f65 := fun (h' : Nat → BitVec 64) (p' : Int) (r' : Bool) => blk_free (box1 w (.cells (hV h' p' r') 28) (.cells (hV zC 0 false) 28)) 65
  have U65 := fun h v => upd_self h 65 v
  have G49 := fun h p r => hV_get h p r 49 (by omega) (by omega) (by omega)
  have S49 := fun h p r v => hV_set h p r 49 v (by omega) (by omega)
  have f49 := fun (h' : Nat → BitVec 64) (p' : Int) (r' : Bool) => blk_free (box1 w (.cells (hV h' p' r') 28) (.cells (hV zC 0 false) 28)) 49
  have U49 := fun h v => upd_self h 49 v
  have G48 := fun h p r => hV_get h p r 48 (by omega) (by omega) (by omega)
  have S48 := fun h p r v => hV_set h p r 48 v (by omega) (by omega)
  have f48 := fun (h' : Nat → BitVec 64) (p' : Int) (r' : Bool) => blk_free (box1 w (.cells (hV h' p' r') 28) (.cells (hV zC 0 false) 28)) 48
  have U48 := fun h v => upd_self h 48 v
  have G50 := fun h p r => hV_get h p r 50 (by omega) (by omega) (by omega)
  have S50 := fun h p r v => hV_set h p r 50 v (by omega) (by omega)
  have f50 := fun (h' : Nat → BitVec 64) (p' : Int) (r' : Bool) => blk_free (box1 w (.cells (hV h' p' r') 28) (.cells (hV zC 0 false) 28)) 50
  have U50 := fun h v => upd_self h 50 v
  have N0_34 := fun h v => upd_ne h (i := 0) (j := 34) v (by omega)
  have N0_35 := fun h v => upd_ne h (i := 0) (j := 35) v (by omega)
  have N0_36 := fun h v => upd_ne h (i := 0) (j := 36) v (by omega)
  have N0_39 := fun h v => upd_ne h (i := 0) (j := 39) v (by omega)
  have N0_45 := fun h v => upd_ne h (i := 0) (j := 45) v (by omega)
  have N34_0 := fun h v => upd_ne h (i := 34) (j := 0) v (by omega)
  have N34_35 := fun h v => upd_ne h (i := 34) (j := 35) v (by omega)
  have N34_36 := fun h v => upd_ne h (i := 34) (j := 36) v (by omega)
  have N34_39 := fun h v => upd_ne h (i := 34) (j := 39) v (by omega)
  have N34_45 := fun h v => upd_ne h (i := 34) (j := 45) v (by omega)
  have N65_0 := fun h v => upd_ne h (i := 65) (j := 0) v (by omega)
  have N65_34 := fun h v => upd_ne h (i := 65) (j := 34) v (by omega)
  have N65_35 := fun h v => upd_ne h (i := 65) (j := 35) v (by omega)
  have N65_36 := fun h v => upd_ne h (i := 65) (j := 36) v (by omega)
  have N65_39 := fun h v => upd_ne h (i := 65) (j := 39) v (by omega)
  have N65_45 := fun h v => upd_ne h (i := 65) (j := 45) v (by omega)
  have N49_0 := fun h v => upd_ne h (i := 49) (j := 0) v (by omega)
  have N49_34 := fun h v => upd_ne h (i := 49) (j := 34) v (by omega)
  have N49_35 := fun h v => upd_ne h (i := 49) (j := 35) v (by omega)
  have N49_36 := fun h v => upd_ne h (i := 49) (j := 36) v (by omega)
  have N49_39 := fun h v => upd_ne h (i := 49) (j := 39) v (by omega)
  have N49_45 := fun h v => upd_ne h (i := 49) (j := 45) v (by omega)
  have N48_0 := fun h v => upd_ne h (i := 48) (j := 0) v (by omega)
  have N48_34 := fun h v => upd_ne h (i := 48) (j := 34) v (by omega)
  have N48_35 := fun h v => upd_ne h (i := 48) (j := 35) v (by omega)
  have N48_36 := fun h v => upd_ne h (i := 48) (j := 36) v (by omega)
  have N48_39 := fun h v => upd_ne h (i := 48) (j := 39) v (by omega)
  have N48_45 := fun h v => upd_ne h (i := 48) (j := 45) v (by omega)
  have N50_0 := fun h v => upd_ne h (i := 50) (j := 0) v (by omega)
  have N50_34 := fun h v => upd_ne h (i := 50) (j := 34) v (by omega)
  have N50_35 := fun h v => upd_ne h (i := 50) (j := 35) v (by omega)
  have N50_36 := fun h v => upd_ne h (i := 50) (j := 36) v (by omega)
  have N50_39 := fun h v => upd_ne h (i := 50) (j := 39) v (by omega)
  have N50_45 := fun h v => upd_ne h (i := 50) (j := 45) v (by omega)
  have Z : ∀ (h : Nat → BitVec 64) (p : Int) (r : Bool), (hV h p r).setIfInBounds 65 (.int .u64 0) = hV (upd h 65 0#64) p r := fun h p r => hV_set h p r 65 0#64 (by omega) (by omega)
  have T : (u c / 9223372036854775808 == 1) = true := (top_div c).trans h63
  have T2 : (u (cau c) / 9223372036854775808 == 1) = true := (top_div _).trans ((cau_top c).trans h63)
  have P1 : u c / 9223372036854775808 = 1 := by simpa using T
  have P2 : u (cau c) / 9223372036854775808 = 1 := by simpa using T2
  have A : bits .and .u64 (u c) 9223372036854775871 = u (cau c) := u_and c 0x800000000000003f#64
  have B : bits .and .u64 (u c) 63 = u n := hn ▸ u_and c 63#64
  have A0 : bits .andNot .u64 (u (h 0)) 3 = u (h 0 &&& ~~~3#64) := u_andNot (h 0) 3#64
  have sh := fun v => shr_run Try.prog v n (hn ▸ and_lt64 c)
  have V0 : bits .andNot .u64 (u (h 45)) 3 = u (h 45 &&& ~~~3#64) := u_andNot (h 45) 3#64
  have V1 : (bits .and .u64 (u (h 45)) 1 == 1) = true := (low_test1' _).trans hv
  have V2 : bits .and .u64 (u (h 45)) 1 = 1 := by simpa using V1
  have D1 : (bits .and .u64 (u (h 36 >>> n.toNat)) 1 == 1) = true := (bit_at1 _ _).trans hb
  have D2 : bits .and .u64 (u (h 36 >>> n.toNat)) 1 = 1 := by simpa using D1
  have Q1 : (bits .and .u64 (u (h 34)) 2 != 0) = (!(h 34 &&& 2#64 == 0#64)) := by unfold bne; rw [show (2 : Int) = u 2#64 from rfl, u_and, show (0 : Int) = u 0#64 from rfl, u_beq]
  have Q2 := fun v : BitVec 64 => (show bits .andNot .u64 (u v) 2 = u (v &&& ~~~2#64) from u_andNot v 2#64)
  have K1 : Hid (∀ (v : BitVec 64) on w, Calls Try.prog 32 #[.int .u64 (u v), .int .u64 32, .bool on] w fun e w' => e = .returned (.int .u64 (u (putB v 32#64 on))) ∧ w = w') := Lib.hid (fun v on w => rputb_any v 32#64 on w)
  have K2 : Hid (∀ (v : BitVec 64) on w, Calls Try.prog 32 #[.int .u64 (u v), .int .u64 256, .bool on] w fun e w' => e = .returned (.int .u64 (u (putB v 256#64 on))) ∧ w = w') := Lib.hid (fun v on w => rputb_any v 256#64 on w)
  have X1 : IntKind.u64.wrap (4 * u n) = u (4#64 * n) := u_mul 4#64 _
  have X2 := fun a b => u_add a b
  clear h63 hv hn hb
  go_enter Try.func13, Try.ntmps13
  go_wp2_with (first | ((with_reducible apply hrt_ld); (case ho => exact rfl); (case hgd => exact rfl); (case hx => exact rfl); (case hg => exact box1 _ _ _)) | ((with_reducible apply hrt_st); (case ho => exact rfl); (case hgd => exact rfl); (case hx => exact rfl); (case hy => exact rfl); (case hg => exact box2 _ _ _)))
  go_at_call 32; refine (K1.out _ _ _).mono ?_; rintro _ _ ⟨rfl, rfl⟩
  go_wp2_with (first | ((with_reducible apply hrt_ld); (case ho => exact rfl); (case hgd => exact rfl); (case hx => exact rfl); (case hg => exact box1 _ _ _)) | ((with_reducible apply hrt_st); (case ho => exact rfl); (case hgd => exact rfl); (case hx => exact rfl); (case hy => exact rfl); (case hg => exact box2 _ _ _)))
  go_at_call 32; refine (K2.out _ _ _).mono ?_; rintro _ _ ⟨rfl, rfl⟩
  go_wp2_with (first | ((with_reducible apply hrt_ld); (case ho => exact rfl); (case hgd => exact rfl); (case hx => exact rfl); (case hg => exact box1 _ _ _)) | ((with_reducible apply hrt_st); (case ho => exact rfl); (case hgd => exact rfl); (case hx => exact rfl); (case hy => exact rfl); (case hg => exact box2 _ _ _)))
  skip
  refine row_back hrtT rfl rfl rfl (hset_row (box2 _ _ _)) (hV_size ..) ⟨(?_ : Ending.returned (.agg (hV _ 1 false)) = _), (HO.out _ _ _).row _ _ (by omega)⟩
  rfl
set_option maxRecDepth 100000 in
set_option maxHeartbeats 1000000 in
theorem rent_x_000 (h : Nat → BitVec 64) (p : Int) (r : Bool) (c t n : BitVec 64) (hn : c &&& 63#64 = n) (h63 : c.getLsbD 63 = false) (h0 : ¬ p = 0) (h1 : ¬ p = 1) (hv : (h 39).getLsbD 0 = false) (w : World) : Calls Try.prog 13 #[.agg (hV h p r), .int .u64 (u c), .int .u64 (u t)] w fun e w' => e = .returned (.agg (hV (upd (upd (upd (upd (upd (upd h 65 0#64) 43 (cau c)) 42 (h 0 &&& ~~~3#64)) 44 t) 34 ((putB (h 34) 128#64 (!(h 34 &&& 8#64 == 0#64)) &&& ~~~8#64) &&& ~~~6144#64 ||| (wd64 p &&& 3#64) <<< 11)) 0 (h 39 &&& ~~~3#64)) 3 false)) ∧ On w w' := by
  have hZ := fun w => hrt_zero w
  have HO : Hid (∀ h' p' r', On w ((w.alloc (.cells (hV h' p' r') 28)).alloc (.cells (hV zC 0 false) 28))) := Lib.hid (fun _ _ _ => ((On.refl w).alloc _).alloc _)
  have c0 := fun (h' : Nat → BitVec 64) (p' : Int) (r' : Bool) => blk_cell (box1 w (.cells (hV h' p' r') 28) (.cells (hV zC 0 false) 28)) 0 (hV_get h' p' r' 0 (by omega) (by omega) (by omega))
  have c34 := fun (h' : Nat → BitVec 64) (p' : Int) (r' : Bool) => blk_cell (box1 w (.cells (hV h' p' r') 28) (.cells (hV zC 0 false) 28)) 34 (hV_get h' p' r' 34 (by omega) (by omega) (by omega))
  have c35 := fun (h' : Nat → BitVec 64) (p' : Int) (r' : Bool) => blk_cell (box1 w (.cells (hV h' p' r') 28) (.cells (hV zC 0 false) 28)) 35 (hV_get h' p' r' 35 (by omega) (by omega) (by omega))
  have c36 := fun (h' : Nat → BitVec 64) (p' : Int) (r' : Bool) => blk_cell (box1 w (.cells (hV h' p' r') 28) (.cells (hV zC 0 false) 28)) 36 (hV_get h' p' r' 36 (by omega) (by omega) (by omega))
  have c39 := fun (h' : Nat → BitVec 64) (p' : Int) (r' : Bool) => blk_cell (box1 w (.cells (hV h' p' r') 28) (.cells (hV zC 0 false) 28)) 39 (hV_get h' p' r' 39 (by omega) (by omega) (by omega))
  have c45 := fun (h' : Nat → BitVec 64) (p' : Int) (r' : Bool) => blk_cell (box1 w (.cells (hV h' p' r') 28) (.cells (hV zC 0 false) 28)) 45 (hV_get h' p' r' 45 (by omega) (by omega) (by omega))
  have cP := fun (h' : Nat → BitVec 64) (p' : Int) (r' : Bool) => blk_cell (box1 w (.cells (hV h' p' r') 28) (.cells (hV zC 0 false) 28)) 1 (hV_priv h' p' r')
  have G0 := fun h p r => hV_get h p r 0 (by omega) (by omega) (by omega)
  have S0 := fun h p r v => hV_set h p r 0 v (by omega) (by omega)
  have f0 := fun (h' : Nat → BitVec 64) (p' : Int) (r' : Bool) => blk_free (box1 w (.cells (hV h' p' r') 28) (.cells (hV zC 0 false) 28)) 0
  have U0 := fun h v => upd_self h 0 v
  have SP := fun h p r v => hV_setp h p r v
  have GP := fun h p r => hV_priv h p r
  have f1 := fun (h' : Nat → BitVec 64) (p' : Int) (r' : Bool) => blk_free (box1 w (.cells (hV h' p' r') 28) (.cells (hV zC 0 false) 28)) 1
  have G34 := fun h p r => hV_get h p r 34 (by omega) (by omega) (by omega)
  have S34 := fun h p r v => hV_set h p r 34 v (by omega) (by omega)
  have f34 := fun (h' : Nat → BitVec 64) (p' : Int) (r' : Bool) => blk_free (box1 w (.cells (hV h' p' r') 28) (.cells (hV zC 0 false) 28)) 34
  have U34 := fun h v => upd_self h 34 v
  have SR := fun h p r v => hV_setr h p r v
  have GR := fun h p r => hV_res h p r
  have f64 := fun (h' : Nat → BitVec 64) (p' : Int) (r' : Bool) => blk_free (box1 w (.cells (hV h' p' r') 28) (.cells (hV zC 0 false) 28)) 64
  have G65 := fun h p r => hV_get h p r 65 (by omega) (by omega) (by omega)
  have S65 := fun h p r v => hV_set h p r 65 v (by omega) (by omega)
  have f65 := fun (h' : Nat → BitVec 64) (p' : Int) (r' : Bool) => blk_free (box1 w (.cells (hV h' p' r') 28) (.cells (hV zC 0 false) 28)) 65
  have U65 := fun h v => upd_self h 65 v
  have G43 := fun h p r => hV_get h p r 43 (by omega) (by omega) (by omega)
  have S43 := fun h p r v => hV_set h p r 43 v (by omega) (by omega)
  have f43 := fun (h' : Nat → BitVec 64) (p' : Int) (r' : Bool) => blk_free (box1 w (.cells (hV h' p' r') 28) (.cells (hV zC 0 false) 28)) 43
  have U43 := fun h v => upd_self h 43 v
  have G42 := fun h p r => hV_get h p r 42 (by omega) (by omega) (by omega)
  have S42 := fun h p r v => hV_set h p r 42 v (by omega) (by omega)
  have f42 := fun (h' : Nat → BitVec 64) (p' : Int) (r' : Bool) => blk_free (box1 w (.cells (hV h' p' r') 28) (.cells (hV zC 0 false) 28)) 42
  have U42 := fun h v => upd_self h 42 v
  have G44 := fun h p r => hV_get h p r 44 (by omega) (by omega) (by omega)
  have S44 := fun h p r v => hV_set h p r 44 v (by omega) (by omega)
  have f44 := fun (h' : Nat → BitVec 64) (p' : Int) (r' : Bool) => blk_free (box1 w (.cells (hV h' p' r') 28) (.cells (hV zC 0 false) 28)) 44
  have U44 := fun h v => upd_self h 44 v
  have N0_34 := fun h v => upd_ne h (i := 0) (j := 34) v (by omega)
  have N0_35 := fun h v => upd_ne h (i := 0) (j := 35) v (by omega)
  have N0_36 := fun h v => upd_ne h (i := 0) (j := 36) v (by omega)
  have N0_39 := fun h v => upd_ne h (i := 0) (j := 39) v (by omega)
  have N0_45 := fun h v => upd_ne h (i := 0) (j := 45) v (by omega)
  have N34_0 := fun h v => upd_ne h (i := 34) (j := 0) v (by omega)
  have N34_35 := fun h v => upd_ne h (i := 34) (j := 35) v (by omega)
  have N34_36 := fun h v => upd_ne h (i := 34) (j := 36) v (by omega)
  have N34_39 := fun h v => upd_ne h (i := 34) (j := 39) v (by omega)
  have N34_45 := fun h v => upd_ne h (i := 34) (j := 45) v (by omega)
  have N65_0 := fun h v => upd_ne h (i := 65) (j := 0) v (by omega)
  have N65_34 := fun h v => upd_ne h (i := 65) (j := 34) v (by omega)
  have N65_35 := fun h v => upd_ne h (i := 65) (j := 35) v (by omega)
  have N65_36 := fun h v => upd_ne h (i := 65) (j := 36) v (by omega)
  have N65_39 := fun h v => upd_ne h (i := 65) (j := 39) v (by omega)
  have N65_45 := fun h v => upd_ne h (i := 65) (j := 45) v (by omega)
  have N43_0 := fun h v => upd_ne h (i := 43) (j := 0) v (by omega)
  have N43_34 := fun h v => upd_ne h (i := 43) (j := 34) v (by omega)
  have N43_35 := fun h v => upd_ne h (i := 43) (j := 35) v (by omega)
  have N43_36 := fun h v => upd_ne h (i := 43) (j := 36) v (by omega)
  have N43_39 := fun h v => upd_ne h (i := 43) (j := 39) v (by omega)
  have N43_45 := fun h v => upd_ne h (i := 43) (j := 45) v (by omega)
  have N42_0 := fun h v => upd_ne h (i := 42) (j := 0) v (by omega)
  have N42_34 := fun h v => upd_ne h (i := 42) (j := 34) v (by omega)
  have N42_35 := fun h v => upd_ne h (i := 42) (j := 35) v (by omega)
  have N42_36 := fun h v => upd_ne h (i := 42) (j := 36) v (by omega)
  have N42_39 := fun h v => upd_ne h (i := 42) (j := 39) v (by omega)
  have N42_45 := fun h v => upd_ne h (i := 42) (j := 45) v (by omega)
  have N44_0 := fun h v => upd_ne h (i := 44) (j := 0) v (by omega)
  have N44_34 := fun h v => upd_ne h (i := 44) (j := 34) v (by omega)
  have N44_35 := fun h v => upd_ne h (i := 44) (j := 35) v (by omega)
  have N44_36 := fun h v => upd_ne h (i := 44) (j := 36) v (by omega)
  have N44_39 := fun h v => upd_ne h (i := 44) (j := 39) v (by omega)
  have N44_45 := fun h v => upd_ne h (i := 44) (j := 45) v (by omega)
  have Z : ∀ (h : Nat → BitVec 64) (p : Int) (r : Bool), (hV h p r).setIfInBounds 65 (.int .u64 0) = hV (upd h 65 0#64) p r := fun h p r => hV_set h p r 65 0#64 (by omega) (by omega)
  have T : (u c / 9223372036854775808 == 1) = false := (top_div c).trans h63
  have T2 : (u (cau c) / 9223372036854775808 == 1) = false := (top_div _).trans ((cau_top c).trans h63)
  have P1 : ¬ u c / 9223372036854775808 = 1 := by simpa using T
  have P2 : ¬ u (cau c) / 9223372036854775808 = 1 := by simpa using T2
  have A : bits .and .u64 (u c) 9223372036854775871 = u (cau c) := u_and c 0x800000000000003f#64
  have B : bits .and .u64 (u c) 63 = u n := hn ▸ u_and c 63#64
  have A0 : bits .andNot .u64 (u (h 0)) 3 = u (h 0 &&& ~~~3#64) := u_andNot (h 0) 3#64
  have sh := fun v => shr_run Try.prog v n (hn ▸ and_lt64 c)
  have V0 : bits .andNot .u64 (u (h 39)) 3 = u (h 39 &&& ~~~3#64) := u_andNot (h 39) 3#64
  have V1 : (bits .and .u64 (u (h 39)) 1 == 1) = false := (low_test1' _).trans hv
  have V2 : ¬ bits .and .u64 (u (h 39)) 1 = 1 := by simpa using V1
  have p0 : (p == 0) = false := by simpa using h0
  have p1 : (p == 1) = false := by simpa using h1
  clear h0 h1
  have Q1 : (bits .and .u64 (u (h 34)) 8 != 0) = (!(h 34 &&& 8#64 == 0#64)) := by unfold bne; rw [show (8 : Int) = u 8#64 from rfl, u_and, show (0 : Int) = u 0#64 from rfl, u_beq]
  have Q2 := fun v : BitVec 64 => (show bits .andNot .u64 (u v) 8 = u (v &&& ~~~8#64) from u_andNot v 8#64)
  have K1 : Hid (∀ (v : BitVec 64) on w, Calls Try.prog 32 #[.int .u64 (u v), .int .u64 128, .bool on] w fun e w' => e = .returned (.int .u64 (u (putB v 128#64 on))) ∧ w = w') := Lib.hid (fun v on w => rputb_any v 128#64 on w)
  have M1 := fun v : BitVec 64 => (show bits .andNot .u64 (u v) 6144 = u (v &&& ~~~6144#64) from u_andNot v 6144#64)
  have M2 : IntKind.u64.wrap (bits .and .i64 p 3) = u (wd64 p &&& 3#64) := i64_and3 p
  have M3 := fun v => shl11 v
  have M4 := fun a b => u_or a b
  clear h63 hv hn
  go_enter Try.func13, Try.ntmps13
  go_wp2_with (first | ((with_reducible apply hrt_ld); (case ho => exact rfl); (case hgd => exact rfl); (case hx => exact rfl); (case hg => exact box1 _ _ _)) | ((with_reducible apply hrt_st); (case ho => exact rfl); (case hgd => exact rfl); (case hx => exact rfl); (case hy => exact rfl); (case hg => exact box2 _ _ _)))
  go_at_call 32; refine (K1.out _ _ _).mono ?_; rintro _ _ ⟨rfl, rfl⟩
  go_wp2_with (first | ((with_reducible apply hrt_ld); (case ho => exact rfl); (case hgd => exact rfl); (case hx => exact rfl); (case hg => exact box1 _ _ _)) | ((with_reducible apply hrt_st); (case ho => exact rfl); (case hgd => exact rfl); (case hx => exact rfl); (case hy => exact rfl); (case hg => exact box2 _ _ _)))
  skip
  refine row_back hrtT rfl rfl rfl (hset_row (box2 _ _ _)) (hV_size ..) ⟨(?_ : Ending.returned (.agg (hV _ 3 false)) = _), (HO.out _ _ _).row _ _ (by omega)⟩
  rfl
set_option maxRecDepth 100000 in
set_option maxHeartbeats 1000000 in
theorem rent_x_001 (h : Nat → BitVec 64) (p : Int) (r : Bool) (c t n : BitVec 64) (hn : c &&& 63#64 = n) (h63 : c.getLsbD 63 = false) (h0 : ¬ p = 0) (h1 : ¬ p = 1) (hv : (h 39).getLsbD 0 = true) (w : World) : Calls Try.prog 13 #[.agg (hV h p r), .int .u64 (u c), .int .u64 (u t)] w fun e w' => e = .returned (.agg (hV (upd (upd (upd (upd (upd (upd h 65 0#64) 43 (cau c)) 42 (h 0 &&& ~~~3#64)) 44 t) 34 ((putB (h 34) 128#64 (!(h 34 &&& 8#64 == 0#64)) &&& ~~~8#64) &&& ~~~6144#64 ||| (wd64 p &&& 3#64) <<< 11)) 0 (h 39 &&& ~~~3#64)) 3 false)) ∧ On w w' := by
  have hZ := fun w => hrt_zero w
  have HO : Hid (∀ h' p' r', On w ((w.alloc (.cells (hV h' p' r') 28)).alloc (.cells (hV zC 0 false) 28))) := Lib.hid (fun _ _ _ => ((On.refl w).alloc _).alloc _)
  have c0 := fun (h' : Nat → BitVec 64) (p' : Int) (r' : Bool) => blk_cell (box1 w (.cells (hV h' p' r') 28) (.cells (hV zC 0 false) 28)) 0 (hV_get h' p' r' 0 (by omega) (by omega) (by omega))
  have c34 := fun (h' : Nat → BitVec 64) (p' : Int) (r' : Bool) => blk_cell (box1 w (.cells (hV h' p' r') 28) (.cells (hV zC 0 false) 28)) 34 (hV_get h' p' r' 34 (by omega) (by omega) (by omega))
  have c35 := fun (h' : Nat → BitVec 64) (p' : Int) (r' : Bool) => blk_cell (box1 w (.cells (hV h' p' r') 28) (.cells (hV zC 0 false) 28)) 35 (hV_get h' p' r' 35 (by omega) (by omega) (by omega))
  have c36 := fun (h' : Nat → BitVec 64) (p' : Int) (r' : Bool) => blk_cell (box1 w (.cells (hV h' p' r') 28) (.cells (hV zC 0 false) 28)) 36 (hV_get h' p' r' 36 (by omega) (by omega) (by omega))
  have c39 := fun (h' : Nat → BitVec 64) (p' : Int) (r' : Bool) => blk_cell (box1 w (.cells (hV h' p' r') 28) (.cells (hV zC 0 false) 28)) 39 (hV_get h' p' r' 39 (by omega) (by omega) (by omega))
  have c45 := fun (h' : Nat → BitVec 64) (p' : Int) (r' : Bool) => blk_cell (box1 w (.cells (hV h' p' r') 28) (.cells (hV zC 0 false) 28)) 45 (hV_get h' p' r' 45 (by omega) (by omega) (by omega))
  have cP := fun (h' : Nat → BitVec 64) (p' : Int) (r' : Bool) => blk_cell (box1 w (.cells (hV h' p' r') 28) (.cells (hV zC 0 false) 28)) 1 (hV_priv h' p' r')
  have G0 := fun h p r => hV_get h p r 0 (by omega) (by omega) (by omega)
  have S0 := fun h p r v => hV_set h p r 0 v (by omega) (by omega)
  have f0 := fun (h' : Nat → BitVec 64) (p' : Int) (r' : Bool) => blk_free (box1 w (.cells (hV h' p' r') 28) (.cells (hV zC 0 false) 28)) 0
  have U0 := fun h v => upd_self h 0 v
  have SP := fun h p r v => hV_setp h p r v
  have GP := fun h p r => hV_priv h p r
  have f1 := fun (h' : Nat → BitVec 64) (p' : Int) (r' : Bool) => blk_free (box1 w (.cells (hV h' p' r') 28) (.cells (hV zC 0 false) 28)) 1
  have G34 := fun h p r => hV_get h p r 34 (by omega) (by omega) (by omega)
  have S34 := fun h p r v => hV_set h p r 34 v (by omega) (by omega)
  have f34 := fun (h' : Nat → BitVec 64) (p' : Int) (r' : Bool) => blk_free (box1 w (.cells (hV h' p' r') 28) (.cells (hV zC 0 false) 28)) 34
  have U34 := fun h v => upd_self h 34 v
  have SR := fun h p r v => hV_setr h p r v
  have GR := fun h p r => hV_res h p r
  have f64 := fun (h' : Nat → BitVec 64) (p' : Int) (r' : Bool) => blk_free (box1 w (.cells (hV h' p' r') 28) (.cells (hV zC 0 false) 28)) 64
  have G65 := fun h p r => hV_get h p r 65 (by omega) (by omega) (by omega)
  have S65 := fun h p r v => hV_set h p r 65 v (by omega) (by omega)
  have f65 := fun (h' : Nat → BitVec 64) (p' : Int) (r' : Bool) => blk_free (box1 w (.cells (hV h' p' r') 28) (.cells (hV zC 0 false) 28)) 65
  have U65 := fun h v => upd_self h 65 v
  have G43 := fun h p r => hV_get h p r 43 (by omega) (by omega) (by omega)
  have S43 := fun h p r v => hV_set h p r 43 v (by omega) (by omega)
  have f43 := fun (h' : Nat → BitVec 64) (p' : Int) (r' : Bool) => blk_free (box1 w (.cells (hV h' p' r') 28) (.cells (hV zC 0 false) 28)) 43
  have U43 := fun h v => upd_self h 43 v
  have G42 := fun h p r => hV_get h p r 42 (by omega) (by omega) (by omega)
  have S42 := fun h p r v => hV_set h p r 42 v (by omega) (by omega)
  have f42 := fun (h' : Nat → BitVec 64) (p' : Int) (r' : Bool) => blk_free (box1 w (.cells (hV h' p' r') 28) (.cells (hV zC 0 false) 28)) 42
  have U42 := fun h v => upd_self h 42 v
  have G44 := fun h p r => hV_get h p r 44 (by omega) (by omega) (by omega)
  have S44 := fun h p r v => hV_set h p r 44 v (by omega) (by omega)
  have f44 := fun (h' : Nat → BitVec 64) (p' : Int) (r' : Bool) => blk_free (box1 w (.cells (hV h' p' r') 28) (.cells (hV zC 0 false) 28)) 44
  have U44 := fun h v => upd_self h 44 v
  have N0_34 := fun h v => upd_ne h (i := 0) (j := 34) v (by omega)
  have N0_35 := fun h v => upd_ne h (i := 0) (j := 35) v (by omega)
  have N0_36 := fun h v => upd_ne h (i := 0) (j := 36) v (by omega)
  have N0_39 := fun h v => upd_ne h (i := 0) (j := 39) v (by omega)
  have N0_45 := fun h v => upd_ne h (i := 0) (j := 45) v (by omega)
  have N34_0 := fun h v => upd_ne h (i := 34) (j := 0) v (by omega)
  have N34_35 := fun h v => upd_ne h (i := 34) (j := 35) v (by omega)
  have N34_36 := fun h v => upd_ne h (i := 34) (j := 36) v (by omega)
  have N34_39 := fun h v => upd_ne h (i := 34) (j := 39) v (by omega)
  have N34_45 := fun h v => upd_ne h (i := 34) (j := 45) v (by omega)
  have N65_0 := fun h v => upd_ne h (i := 65) (j := 0) v (by omega)
  have N65_34 := fun h v => upd_ne h (i := 65) (j := 34) v (by omega)
  have N65_35 := fun h v => upd_ne h (i := 65) (j := 35) v (by omega)
  have N65_36 := fun h v => upd_ne h (i := 65) (j := 36) v (by omega)
  have N65_39 := fun h v => upd_ne h (i := 65) (j := 39) v (by omega)
  have N65_45 := fun h v => upd_ne h (i := 65) (j := 45) v (by omega)
  have N43_0 := fun h v => upd_ne h (i := 43) (j := 0) v (by omega)
  have N43_34 := fun h v => upd_ne h (i := 43) (j := 34) v (by omega)
  have N43_35 := fun h v => upd_ne h (i := 43) (j := 35) v (by omega)
  have N43_36 := fun h v => upd_ne h (i := 43) (j := 36) v (by omega)
  have N43_39 := fun h v => upd_ne h (i := 43) (j := 39) v (by omega)
  have N43_45 := fun h v => upd_ne h (i := 43) (j := 45) v (by omega)
  have N42_0 := fun h v => upd_ne h (i := 42) (j := 0) v (by omega)
  have N42_34 := fun h v => upd_ne h (i := 42) (j := 34) v (by omega)
  have N42_35 := fun h v => upd_ne h (i := 42) (j := 35) v (by omega)
  have N42_36 := fun h v => upd_ne h (i := 42) (j := 36) v (by omega)
  have N42_39 := fun h v => upd_ne h (i := 42) (j := 39) v (by omega)
  have N42_45 := fun h v => upd_ne h (i := 42) (j := 45) v (by omega)
  have N44_0 := fun h v => upd_ne h (i := 44) (j := 0) v (by omega)
  have N44_34 := fun h v => upd_ne h (i := 44) (j := 34) v (by omega)
  have N44_35 := fun h v => upd_ne h (i := 44) (j := 35) v (by omega)
  have N44_36 := fun h v => upd_ne h (i := 44) (j := 36) v (by omega)
  have N44_39 := fun h v => upd_ne h (i := 44) (j := 39) v (by omega)
  have N44_45 := fun h v => upd_ne h (i := 44) (j := 45) v (by omega)
  have Z : ∀ (h : Nat → BitVec 64) (p : Int) (r : Bool), (hV h p r).setIfInBounds 65 (.int .u64 0) = hV (upd h 65 0#64) p r := fun h p r => hV_set h p r 65 0#64 (by omega) (by omega)
  have T : (u c / 9223372036854775808 == 1) = false := (top_div c).trans h63
  have T2 : (u (cau c) / 9223372036854775808 == 1) = false := (top_div _).trans ((cau_top c).trans h63)
  have P1 : ¬ u c / 9223372036854775808 = 1 := by simpa using T
  have P2 : ¬ u (cau c) / 9223372036854775808 = 1 := by simpa using T2
  have A : bits .and .u64 (u c) 9223372036854775871 = u (cau c) := u_and c 0x800000000000003f#64
  have B : bits .and .u64 (u c) 63 = u n := hn ▸ u_and c 63#64
  have A0 : bits .andNot .u64 (u (h 0)) 3 = u (h 0 &&& ~~~3#64) := u_andNot (h 0) 3#64
  have sh := fun v => shr_run Try.prog v n (hn ▸ and_lt64 c)
  have V0 : bits .andNot .u64 (u (h 39)) 3 = u (h 39 &&& ~~~3#64) := u_andNot (h 39) 3#64
  have V1 : (bits .and .u64 (u (h 39)) 1 == 1) = true := (low_test1' _).trans hv
  have V2 : bits .and .u64 (u (h 39)) 1 = 1 := by simpa using V1
  have p0 : (p == 0) = false := by simpa using h0
  have p1 : (p == 1) = false := by simpa using h1
  clear h0 h1
  have Q1 : (bits .and .u64 (u (h 34)) 8 != 0) = (!(h 34 &&& 8#64 == 0#64)) := by unfold bne; rw [show (8 : Int) = u 8#64 from rfl, u_and, show (0 : Int) = u 0#64 from rfl, u_beq]
  have Q2 := fun v : BitVec 64 => (show bits .andNot .u64 (u v) 8 = u (v &&& ~~~8#64) from u_andNot v 8#64)
  have K1 : Hid (∀ (v : BitVec 64) on w, Calls Try.prog 32 #[.int .u64 (u v), .int .u64 128, .bool on] w fun e w' => e = .returned (.int .u64 (u (putB v 128#64 on))) ∧ w = w') := Lib.hid (fun v on w => rputb_any v 128#64 on w)
  have M1 := fun v : BitVec 64 => (show bits .andNot .u64 (u v) 6144 = u (v &&& ~~~6144#64) from u_andNot v 6144#64)
  have M2 : IntKind.u64.wrap (bits .and .i64 p 3) = u (wd64 p &&& 3#64) := i64_and3 p
  have M3 := fun v => shl11 v
  have M4 := fun a b => u_or a b
  clear h63 hv hn
  go_enter Try.func13, Try.ntmps13
  go_wp2_with (first | ((with_reducible apply hrt_ld); (case ho => exact rfl); (case hgd => exact rfl); (case hx => exact rfl); (case hg => exact box1 _ _ _)) | ((with_reducible apply hrt_st); (case ho => exact rfl); (case hgd => exact rfl); (case hx => exact rfl); (case hy => exact rfl); (case hg => exact box2 _ _ _)))
  go_at_call 32; refine (K1.out _ _ _).mono ?_; rintro _ _ ⟨rfl, rfl⟩
  go_wp2_with (first | ((with_reducible apply hrt_ld); (case ho => exact rfl); (case hgd => exact rfl); (case hx => exact rfl); (case hg => exact box1 _ _ _)) | ((with_reducible apply hrt_st); (case ho => exact rfl); (case hgd => exact rfl); (case hx => exact rfl); (case hy => exact rfl); (case hg => exact box2 _ _ _)))
  skip
  refine row_back hrtT rfl rfl rfl (hset_row (box2 _ _ _)) (hV_size ..) ⟨(?_ : Ending.returned (.agg (hV _ 3 false)) = _), (HO.out _ _ _).row _ _ (by omega)⟩
  rfl
set_option maxRecDepth 100000 in
set_option maxHeartbeats 1000000 in
theorem rent_x_100 (h : Nat → BitVec 64) (p : Int) (r : Bool) (c t n : BitVec 64) (hn : c &&& 63#64 = n) (h63 : c.getLsbD 63 = true) (h0 : ¬ p = 0) (h1 : ¬ p = 1) (hv : (h 39).getLsbD 0 = false) (w : World) : Calls Try.prog 13 #[.agg (hV h p r), .int .u64 (u c), .int .u64 (u t)] w fun e w' => e = .returned (.agg (hV (upd (upd (upd (upd (upd (upd h 65 0#64) 43 (cau c)) 42 (h 0 &&& ~~~3#64)) 44 t) 34 ((putB (h 34) 128#64 (!(h 34 &&& 8#64 == 0#64)) &&& ~~~8#64) &&& ~~~6144#64 ||| (wd64 p &&& 3#64) <<< 11)) 0 (h 39 &&& ~~~3#64)) 3 false)) ∧ On w w' := by
  have hZ := fun w => hrt_zero w
  have HO : Hid (∀ h' p' r', On w ((w.alloc (.cells (hV h' p' r') 28)).alloc (.cells (hV zC 0 false) 28))) := Lib.hid (fun _ _ _ => ((On.refl w).alloc _).alloc _)
  have c0 := fun (h' : Nat → BitVec 64) (p' : Int) (r' : Bool) => blk_cell (box1 w (.cells (hV h' p' r') 28) (.cells (hV zC 0 false) 28)) 0 (hV_get h' p' r' 0 (by omega) (by omega) (by omega))
  have c34 := fun (h' : Nat → BitVec 64) (p' : Int) (r' : Bool) => blk_cell (box1 w (.cells (hV h' p' r') 28) (.cells (hV zC 0 false) 28)) 34 (hV_get h' p' r' 34 (by omega) (by omega) (by omega))
  have c35 := fun (h' : Nat → BitVec 64) (p' : Int) (r' : Bool) => blk_cell (box1 w (.cells (hV h' p' r') 28) (.cells (hV zC 0 false) 28)) 35 (hV_get h' p' r' 35 (by omega) (by omega) (by omega))
  have c36 := fun (h' : Nat → BitVec 64) (p' : Int) (r' : Bool) => blk_cell (box1 w (.cells (hV h' p' r') 28) (.cells (hV zC 0 false) 28)) 36 (hV_get h' p' r' 36 (by omega) (by omega) (by omega))
  have c39 := fun (h' : Nat → BitVec 64) (p' : Int) (r' : Bool) => blk_cell (box1 w (.cells (hV h' p' r') 28) (.cells (hV zC 0 false) 28)) 39 (hV_get h' p' r' 39 (by omega) (by omega) (by omega))
  have c45 := fun (h' : Nat → BitVec 64) (p' : Int) (r' : Bool) => blk_cell (box1 w (.cells (hV h' p' r') 28) (.cells (hV zC 0 false) 28)) 45 (hV_get h' p' r' 45 (by omega) (by omega) (by omega))
  have cP := fun (h' : Nat → BitVec 64) (p' : Int) (r' : Bool) => blk_cell (box1 w (.cells (hV h' p' r') 28) (.cells (hV zC 0 false) 28)) 1 (hV_priv h' p' r')
  have G0 := fun h p r => hV_get h p r 0 (by omega) (by omega) (by omega)
  have S0 := fun h p r v => hV_set h p r 0 v (by omega) (by omega)
  have f0 := fun (h' : Nat → BitVec 64) (p' : Int) (r' : Bool) => blk_free (box1 w (.cells (hV h' p' r') 28) (.cells (hV zC 0 false) 28)) 0
  have U0 := fun h v => upd_self h 0 v
  have SP := fun h p r v => hV_setp h p r v
  have GP := fun h p r => hV_priv h p r
  have f1 := fun (h' : Nat → BitVec 64) (p' : Int) (r' : Bool) => blk_free (box1 w (.cells (hV h' p' r') 28) (.cells (hV zC 0 false) 28)) 1
  have G34 := fun h p r => hV_get h p r 34 (by omega) (by omega) (by omega)
  have S34 := fun h p r v => hV_set h p r 34 v (by omega) (by omega)
  have f34 := fun (h' : Nat → BitVec 64) (p' : Int) (r' : Bool) => blk_free (box1 w (.cells (hV h' p' r') 28) (.cells (hV zC 0 false) 28)) 34
  have U34 := fun h v => upd_self h 34 v
  have SR := fun h p r v => hV_setr h p r v
  have GR := fun h p r => hV_res h p r
  have f64 := fun (h' : Nat → BitVec 64) (p' : Int) (r' : Bool) => blk_free (box1 w (.cells (hV h' p' r') 28) (.cells (hV zC 0 false) 28)) 64
  have G65 := fun h p r => hV_get h p r 65 (by omega) (by omega) (by omega)
  have S65 := fun h p r v => hV_set h p r 65 v (by omega) (by omega)
  have f65 := fun (h' : Nat → BitVec 64) (p' : Int) (r' : Bool) => blk_free (box1 w (.cells (hV h' p' r') 28) (.cells (hV zC 0 false) 28)) 65
  have U65 := fun h v => upd_self h 65 v
  have G43 := fun h p r => hV_get h p r 43 (by omega) (by omega) (by omega)
  have S43 := fun h p r v => hV_set h p r 43 v (by omega) (by omega)
  have f43 := fun (h' : Nat → BitVec 64) (p' : Int) (r' : Bool) => blk_free (box1 w (.cells (hV h' p' r') 28) (.cells (hV zC 0 false) 28)) 43
  have U43 := fun h v => upd_self h 43 v
  have G42 := fun h p r => hV_get h p r 42 (by omega) (by omega) (by omega)
  have S42 := fun h p r v => hV_set h p r 42 v (by omega) (by omega)
  have f42 := fun (h' : Nat → BitVec 64) (p' : Int) (r' : Bool) => blk_free (box1 w (.cells (hV h' p' r') 28) (.cells (hV zC 0 false) 28)) 42
  have U42 := fun h v => upd_self h 42 v
  have G44 := fun h p r => hV_get h p r 44 (by omega) (by omega) (by omega)
  have S44 := fun h p r v => hV_set h p r 44 v (by omega) (by omega)
  have f44 := fun (h' : Nat → BitVec 64) (p' : Int) (r' : Bool) => blk_free (box1 w (.cells (hV h' p' r') 28) (.cells (hV zC 0 false) 28)) 44
  have U44 := fun h v => upd_self h 44 v
  have N0_34 := fun h v => upd_ne h (i := 0) (j := 34) v (by omega)
  have N0_35 := fun h v => upd_ne h (i := 0) (j := 35) v (by omega)
  have N0_36 := fun h v => upd_ne h (i := 0) (j := 36) v (by omega)
  have N0_39 := fun h v => upd_ne h (i := 0) (j := 39) v (by omega)
  have N0_45 := fun h v => upd_ne h (i := 0) (j := 45) v (by omega)
  have N34_0 := fun h v => upd_ne h (i := 34) (j := 0) v (by omega)
  have N34_35 := fun h v => upd_ne h (i := 34) (j := 35) v (by omega)
  have N34_36 := fun h v => upd_ne h (i := 34) (j := 36) v (by omega)
  have N34_39 := fun h v => upd_ne h (i := 34) (j := 39) v (by omega)
  have N34_45 := fun h v => upd_ne h (i := 34) (j := 45) v (by omega)
  have N65_0 := fun h v => upd_ne h (i := 65) (j := 0) v (by omega)
  have N65_34 := fun h v => upd_ne h (i := 65) (j := 34) v (by omega)
  have N65_35 := fun h v => upd_ne h (i := 65) (j := 35) v (by omega)
  have N65_36 := fun h v => upd_ne h (i := 65) (j := 36) v (by omega)
  have N65_39 := fun h v => upd_ne h (i := 65) (j := 39) v (by omega)
  have N65_45 := fun h v => upd_ne h (i := 65) (j := 45) v (by omega)
  have N43_0 := fun h v => upd_ne h (i := 43) (j := 0) v (by omega)
  have N43_34 := fun h v => upd_ne h (i := 43) (j := 34) v (by omega)
  have N43_35 := fun h v => upd_ne h (i := 43) (j := 35) v (by omega)
  have N43_36 := fun h v => upd_ne h (i := 43) (j := 36) v (by omega)
  have N43_39 := fun h v => upd_ne h (i := 43) (j := 39) v (by omega)
  have N43_45 := fun h v => upd_ne h (i := 43) (j := 45) v (by omega)
  have N42_0 := fun h v => upd_ne h (i := 42) (j := 0) v (by omega)
  have N42_34 := fun h v => upd_ne h (i := 42) (j := 34) v (by omega)
  have N42_35 := fun h v => upd_ne h (i := 42) (j := 35) v (by omega)
  have N42_36 := fun h v => upd_ne h (i := 42) (j := 36) v (by omega)
  have N42_39 := fun h v => upd_ne h (i := 42) (j := 39) v (by omega)
  have N42_45 := fun h v => upd_ne h (i := 42) (j := 45) v (by omega)
  have N44_0 := fun h v => upd_ne h (i := 44) (j := 0) v (by omega)
  have N44_34 := fun h v => upd_ne h (i := 44) (j := 34) v (by omega)
  have N44_35 := fun h v => upd_ne h (i := 44) (j := 35) v (by omega)
  have N44_36 := fun h v => upd_ne h (i := 44) (j := 36) v (by omega)
  have N44_39 := fun h v => upd_ne h (i := 44) (j := 39) v (by omega)
  have N44_45 := fun h v => upd_ne h (i := 44) (j := 45) v (by omega)
  have Z : ∀ (h : Nat → BitVec 64) (p : Int) (r : Bool), (hV h p r).setIfInBounds 65 (.int .u64 0) = hV (upd h 65 0#64) p r := fun h p r => hV_set h p r 65 0#64 (by omega) (by omega)
  have T : (u c / 9223372036854775808 == 1) = true := (top_div c).trans h63
  have T2 : (u (cau c) / 9223372036854775808 == 1) = true := (top_div _).trans ((cau_top c).trans h63)
  have P1 : u c / 9223372036854775808 = 1 := by simpa using T
  have P2 : u (cau c) / 9223372036854775808 = 1 := by simpa using T2
  have A : bits .and .u64 (u c) 9223372036854775871 = u (cau c) := u_and c 0x800000000000003f#64
  have B : bits .and .u64 (u c) 63 = u n := hn ▸ u_and c 63#64
  have A0 : bits .andNot .u64 (u (h 0)) 3 = u (h 0 &&& ~~~3#64) := u_andNot (h 0) 3#64
  have sh := fun v => shr_run Try.prog v n (hn ▸ and_lt64 c)
  have V0 : bits .andNot .u64 (u (h 39)) 3 = u (h 39 &&& ~~~3#64) := u_andNot (h 39) 3#64
  have V1 : (bits .and .u64 (u (h 39)) 1 == 1) = false := (low_test1' _).trans hv
  have V2 : ¬ bits .and .u64 (u (h 39)) 1 = 1 := by simpa using V1
  have p0 : (p == 0) = false := by simpa using h0
  have p1 : (p == 1) = false := by simpa using h1
  clear h0 h1
  have Q1 : (bits .and .u64 (u (h 34)) 8 != 0) = (!(h 34 &&& 8#64 == 0#64)) := by unfold bne; rw [show (8 : Int) = u 8#64 from rfl, u_and, show (0 : Int) = u 0#64 from rfl, u_beq]
  have Q2 := fun v : BitVec 64 => (show bits .andNot .u64 (u v) 8 = u (v &&& ~~~8#64) from u_andNot v 8#64)
  have K1 : Hid (∀ (v : BitVec 64) on w, Calls Try.prog 32 #[.int .u64 (u v), .int .u64 128, .bool on] w fun e w' => e = .returned (.int .u64 (u (putB v 128#64 on))) ∧ w = w') := Lib.hid (fun v on w => rputb_any v 128#64 on w)
  have M1 := fun v : BitVec 64 => (show bits .andNot .u64 (u v) 6144 = u (v &&& ~~~6144#64) from u_andNot v 6144#64)
  have M2 : IntKind.u64.wrap (bits .and .i64 p 3) = u (wd64 p &&& 3#64) := i64_and3 p
  have M3 := fun v => shl11 v
  have M4 := fun a b => u_or a b
  clear h63 hv hn
  go_enter Try.func13, Try.ntmps13
  go_wp2_with (first | ((with_reducible apply hrt_ld); (case ho => exact rfl); (case hgd => exact rfl); (case hx => exact rfl); (case hg => exact box1 _ _ _)) | ((with_reducible apply hrt_st); (case ho => exact rfl); (case hgd => exact rfl); (case hx => exact rfl); (case hy => exact rfl); (case hg => exact box2 _ _ _)))
  go_at_call 32; refine (K1.out _ _ _).mono ?_; rintro _ _ ⟨rfl, rfl⟩
  go_wp2_with (first | ((with_reducible apply hrt_ld); (case ho => exact rfl); (case hgd => exact rfl); (case hx => exact rfl); (case hg => exact box1 _ _ _)) | ((with_reducible apply hrt_st); (case ho => exact rfl); (case hgd => exact rfl); (case hx => exact rfl); (case hy => exact rfl); (case hg => exact box2 _ _ _)))
  skip
  refine row_back hrtT rfl rfl rfl (hset_row (box2 _ _ _)) (hV_size ..) ⟨(?_ : Ending.returned (.agg (hV _ 3 false)) = _), (HO.out _ _ _).row _ _ (by omega)⟩
  rfl
set_option maxRecDepth 100000 in
set_option maxHeartbeats 1000000 in
theorem rent_x_101 (h : Nat → BitVec 64) (p : Int) (r : Bool) (c t n : BitVec 64) (hn : c &&& 63#64 = n) (h63 : c.getLsbD 63 = true) (h0 : ¬ p = 0) (h1 : ¬ p = 1) (hv : (h 39).getLsbD 0 = true) (w : World) : Calls Try.prog 13 #[.agg (hV h p r), .int .u64 (u c), .int .u64 (u t)] w fun e w' => e = .returned (.agg (hV (upd (upd (upd (upd (upd (upd (upd h 65 0#64) 43 (cau c)) 42 (h 0 &&& ~~~3#64)) 44 t) 34 ((putB (h 34) 128#64 (!(h 34 &&& 8#64 == 0#64)) &&& ~~~8#64) &&& ~~~6144#64 ||| (wd64 p &&& 3#64) <<< 11)) 0 (h 39 &&& ~~~3#64)) 0 ((h 39 &&& ~~~3#64) + 4#64 * n)) 3 false)) ∧ On w w' := by
  have hZ := fun w => hrt_zero w
  have HO : Hid (∀ h' p' r', On w ((w.alloc (.cells (hV h' p' r') 28)).alloc (.cells (hV zC 0 false) 28))) := Lib.hid (fun _ _ _ => ((On.refl w).alloc _).alloc _)
  have c0 := fun (h' : Nat → BitVec 64) (p' : Int) (r' : Bool) => blk_cell (box1 w (.cells (hV h' p' r') 28) (.cells (hV zC 0 false) 28)) 0 (hV_get h' p' r' 0 (by omega) (by omega) (by omega))
  have c34 := fun (h' : Nat → BitVec 64) (p' : Int) (r' : Bool) => blk_cell (box1 w (.cells (hV h' p' r') 28) (.cells (hV zC 0 false) 28)) 34 (hV_get h' p' r' 34 (by omega) (by omega) (by omega))
  have c35 := fun (h' : Nat → BitVec 64) (p' : Int) (r' : Bool) => blk_cell (box1 w (.cells (hV h' p' r') 28) (.cells (hV zC 0 false) 28)) 35 (hV_get h' p' r' 35 (by omega) (by omega) (by omega))
  have c36 := fun (h' : Nat → BitVec 64) (p' : Int) (r' : Bool) => blk_cell (box1 w (.cells (hV h' p' r') 28) (.cells (hV zC 0 false) 28)) 36 (hV_get h' p' r' 36 (by omega) (by omega) (by omega))
  have c39 := fun (h' : Nat → BitVec 64) (p' : Int) (r' : Bool) => blk_cell (box1 w (.cells (hV h' p' r') 28) (.cells (hV zC 0 false) 28)) 39 (hV_get h' p' r' 39 (by omega) (by omega) (by omega))
  have c45 := fun (h' : Nat → BitVec 64) (p' : Int) (r' : Bool) => blk_cell (box1 w (.cells (hV h' p' r') 28) (.cells (hV zC 0 false) 28)) 45 (hV_get h' p' r' 45 (by omega) (by omega) (by omega))
  have cP := fun (h' : Nat → BitVec 64) (p' : Int) (r' : Bool) => blk_cell (box1 w (.cells (hV h' p' r') 28) (.cells (hV zC 0 false) 28)) 1 (hV_priv h' p' r')
  have G0 := fun h p r => hV_get h p r 0 (by omega) (by omega) (by omega)
  have S0 := fun h p r v => hV_set h p r 0 v (by omega) (by omega)
  have f0 := fun (h' : Nat → BitVec 64) (p' : Int) (r' : Bool) => blk_free (box1 w (.cells (hV h' p' r') 28) (.cells (hV zC 0 false) 28)) 0
  have U0 := fun h v => upd_self h 0 v
  have SP := fun h p r v => hV_setp h p r v
  have GP := fun h p r => hV_priv h p r
  have f1 := fun (h' : Nat → BitVec 64) (p' : Int) (r' : Bool) => blk_free (box1 w (.cells (hV h' p' r') 28) (.cells (hV zC 0 false) 28)) 1
  have G34 := fun h p r => hV_get h p r 34 (by omega) (by omega) (by omega)
  have S34 := fun h p r v => hV_set h p r 34 v (by omega) (by omega)
  have f34 := fun (h' : Nat → BitVec 64) (p' : Int) (r' : Bool) => blk_free (box1 w (.cells (hV h' p' r') 28) (.cells (hV zC 0 false) 28)) 34
  have U34 := fun h v => upd_self h 34 v
  have SR := fun h p r v => hV_setr h p r v
  have GR := fun h p r => hV_res h p r
  have f64 := fun (h' : Nat → BitVec 64) (p' : Int) (r' : Bool) => blk_free (box1 w (.cells (hV h' p' r') 28) (.cells (hV zC 0 false) 28)) 64
  have G65 := fun h p r => hV_get h p r 65 (by omega) (by omega) (by omega)
  have S65 := fun h p r v => hV_set h p r 65 v (by omega) (by omega)
  have f65 := fun (h' : Nat → BitVec 64) (p' : Int) (r' : Bool) => blk_free (box1 w (.cells (hV h' p' r') 28) (.cells (hV zC 0 false) 28)) 65
  have U65 := fun h v => upd_self h 65 v
  have G43 := fun h p r => hV_get h p r 43 (by omega) (by omega) (by omega)
  have S43 := fun h p r v => hV_set h p r 43 v (by omega) (by omega)
  have f43 := fun (h' : Nat → BitVec 64) (p' : Int) (r' : Bool) => blk_free (box1 w (.cells (hV h' p' r') 28) (.cells (hV zC 0 false) 28)) 43
  have U43 := fun h v => upd_self h 43 v
  have G42 := fun h p r => hV_get h p r 42 (by omega) (by omega) (by omega)
  have S42 := fun h p r v => hV_set h p r 42 v (by omega) (by omega)
  have f42 := fun (h' : Nat → BitVec 64) (p' : Int) (r' : Bool) => blk_free (box1 w (.cells (hV h' p' r') 28) (.cells (hV zC 0 false) 28)) 42
  have U42 := fun h v => upd_self h 42 v
  have G44 := fun h p r => hV_get h p r 44 (by omega) (by omega) (by omega)
  have S44 := fun h p r v => hV_set h p r 44 v (by omega) (by omega)
  have f44 := fun (h' : Nat → BitVec 64) (p' : Int) (r' : Bool) => blk_free (box1 w (.cells (hV h' p' r') 28) (.cells (hV zC 0 false) 28)) 44
  have U44 := fun h v => upd_self h 44 v
  have N0_34 := fun h v => upd_ne h (i := 0) (j := 34) v (by omega)
  have N0_35 := fun h v => upd_ne h (i := 0) (j := 35) v (by omega)
  have N0_36 := fun h v => upd_ne h (i := 0) (j := 36) v (by omega)
  have N0_39 := fun h v => upd_ne h (i := 0) (j := 39) v (by omega)
  have N0_45 := fun h v => upd_ne h (i := 0) (j := 45) v (by omega)
  have N34_0 := fun h v => upd_ne h (i := 34) (j := 0) v (by omega)
  have N34_35 := fun h v => upd_ne h (i := 34) (j := 35) v (by omega)
  have N34_36 := fun h v => upd_ne h (i := 34) (j := 36) v (by omega)
  have N34_39 := fun h v => upd_ne h (i := 34) (j := 39) v (by omega)
  have N34_45 := fun h v => upd_ne h (i := 34) (j := 45) v (by omega)
  have N65_0 := fun h v => upd_ne h (i := 65) (j := 0) v (by omega)
  have N65_34 := fun h v => upd_ne h (i := 65) (j := 34) v (by omega)
  have N65_35 := fun h v => upd_ne h (i := 65) (j := 35) v (by omega)
  have N65_36 := fun h v => upd_ne h (i := 65) (j := 36) v (by omega)
  have N65_39 := fun h v => upd_ne h (i := 65) (j := 39) v (by omega)
  have N65_45 := fun h v => upd_ne h (i := 65) (j := 45) v (by omega)
  have N43_0 := fun h v => upd_ne h (i := 43) (j := 0) v (by omega)
  have N43_34 := fun h v => upd_ne h (i := 43) (j := 34) v (by omega)
  have N43_35 := fun h v => upd_ne h (i := 43) (j := 35) v (by omega)
  have N43_36 := fun h v => upd_ne h (i := 43) (j := 36) v (by omega)
  have N43_39 := fun h v => upd_ne h (i := 43) (j := 39) v (by omega)
  have N43_45 := fun h v => upd_ne h (i := 43) (j := 45) v (by omega)
  have N42_0 := fun h v => upd_ne h (i := 42) (j := 0) v (by omega)
  have N42_34 := fun h v => upd_ne h (i := 42) (j := 34) v (by omega)
  have N42_35 := fun h v => upd_ne h (i := 42) (j := 35) v (by omega)
  have N42_36 := fun h v => upd_ne h (i := 42) (j := 36) v (by omega)
  have N42_39 := fun h v => upd_ne h (i := 42) (j := 39) v (by omega)
  have N42_45 := fun h v => upd_ne h (i := 42) (j := 45) v (by omega)
  have N44_0 := fun h v => upd_ne h (i := 44) (j := 0) v (by omega)
  have N44_34 := fun h v => upd_ne h (i := 44) (j := 34) v (by omega)
  have N44_35 := fun h v => upd_ne h (i := 44) (j := 35) v (by omega)
  have N44_36 := fun h v => upd_ne h (i := 44) (j := 36) v (by omega)
  have N44_39 := fun h v => upd_ne h (i := 44) (j := 39) v (by omega)
  have N44_45 := fun h v => upd_ne h (i := 44) (j := 45) v (by omega)
  have Z : ∀ (h : Nat → BitVec 64) (p : Int) (r : Bool), (hV h p r).setIfInBounds 65 (.int .u64 0) = hV (upd h 65 0#64) p r := fun h p r => hV_set h p r 65 0#64 (by omega) (by omega)
  have T : (u c / 9223372036854775808 == 1) = true := (top_div c).trans h63
  have T2 : (u (cau c) / 9223372036854775808 == 1) = true := (top_div _).trans ((cau_top c).trans h63)
  have P1 : u c / 9223372036854775808 = 1 := by simpa using T
  have P2 : u (cau c) / 9223372036854775808 = 1 := by simpa using T2
  have A : bits .and .u64 (u c) 9223372036854775871 = u (cau c) := u_and c 0x800000000000003f#64
  have B : bits .and .u64 (u c) 63 = u n := hn ▸ u_and c 63#64
  have A0 : bits .andNot .u64 (u (h 0)) 3 = u (h 0 &&& ~~~3#64) := u_andNot (h 0) 3#64
  have sh := fun v => shr_run Try.prog v n (hn ▸ and_lt64 c)
  have V0 : bits .andNot .u64 (u (h 39)) 3 = u (h 39 &&& ~~~3#64) := u_andNot (h 39) 3#64
  have V1 : (bits .and .u64 (u (h 39)) 1 == 1) = true := (low_test1' _).trans hv
  have V2 : bits .and .u64 (u (h 39)) 1 = 1 := by simpa using V1
  have p0 : (p == 0) = false := by simpa using h0
  have p1 : (p == 1) = false := by simpa using h1
  clear h0 h1
  have Q1 : (bits .and .u64 (u (h 34)) 8 != 0) = (!(h 34 &&& 8#64 == 0#64)) := by unfold bne; rw [show (8 : Int) = u 8#64 from rfl, u_and, show (0 : Int) = u 0#64 from rfl, u_beq]
  have Q2 := fun v : BitVec 64 => (show bits .andNot .u64 (u v) 8 = u (v &&& ~~~8#64) from u_andNot v 8#64)
  have K1 : Hid (∀ (v : BitVec 64) on w, Calls Try.prog 32 #[.int .u64 (u v), .int .u64 128, .bool on] w fun e w' => e = .returned (.int .u64 (u (putB v 128#64 on))) ∧ w = w') := Lib.hid (fun v on w => rputb_any v 128#64 on w)
  have M1 := fun v : BitVec 64 => (show bits .andNot .u64 (u v) 6144 = u (v &&& ~~~6144#64) from u_andNot v 6144#64)
  have M2 : IntKind.u64.wrap (bits .and .i64 p 3) = u (wd64 p &&& 3#64) := i64_and3 p
  have M3 := fun v => shl11 v
  have M4 := fun a b => u_or a b
  have X1 : IntKind.u64.wrap (4 * u n) = u (4#64 * n) := u_mul 4#64 _
  have X2 := fun a b => u_add a b
  clear h63 hv hn
  go_enter Try.func13, Try.ntmps13
  go_wp2_with (first | ((with_reducible apply hrt_ld); (case ho => exact rfl); (case hgd => exact rfl); (case hx => exact rfl); (case hg => exact box1 _ _ _)) | ((with_reducible apply hrt_st); (case ho => exact rfl); (case hgd => exact rfl); (case hx => exact rfl); (case hy => exact rfl); (case hg => exact box2 _ _ _)))
  go_at_call 32; refine (K1.out _ _ _).mono ?_; rintro _ _ ⟨rfl, rfl⟩
  go_wp2_with (first | ((with_reducible apply hrt_ld); (case ho => exact rfl); (case hgd => exact rfl); (case hx => exact rfl); (case hg => exact box1 _ _ _)) | ((with_reducible apply hrt_st); (case ho => exact rfl); (case hgd => exact rfl); (case hx => exact rfl); (case hy => exact rfl); (case hg => exact box2 _ _ _)))
  skip
  refine row_back hrtT rfl rfl rfl (hset_row (box2 _ _ _)) (hV_size ..) ⟨(?_ : Ending.returned (.agg (hV _ 3 false)) = _), (HO.out _ _ _).row _ _ (by omega)⟩
  rfl
theorem chain6 (h : Nat → BitVec 64) {a1 a2 a3 : Nat} (h1 : 65 ≠ a1) (h2 : 65 ≠ a2) (h3 : 65 ≠ a3) (z v1 v2 v3 v4 v5 : BitVec 64) :
    upd (upd (upd (upd (upd (upd h 65 z) a1 v1) a2 v2) a3 v3) 34 v4) 0 v5 = upd (upd (upd (upd (upd (upd h a1 v1) a2 v2) a3 v3) 34 v4) 0 v5) 65 z := by
  rw [upd_comm h h1, upd_comm _ h2, upd_comm _ h3, upd_comm _ (show 65 ≠ 34 by omega), upd_comm _ (show 65 ≠ 0 by omega)]
theorem stM_eq (s : BitVec 64) (p : Int) : (putB s 128#64 (!(s &&& 8#64 == 0#64)) &&& ~~~8#64) &&& ~~~6144#64 ||| (wd64 p &&& 3#64) <<< 11 = stM s p := by
  unfold stM wmp movB; rw [mpp_part]; rfl
theorem rent_any (h : Nat → BitVec 64) (p : Int) (r : Bool) (c t : BitVec 64) (w : World) : Calls Try.prog 13 #[.agg (hV h p r), .int .u64 (u c), .int .u64 (u t)] w fun e w' => e = .returned (.agg (hV (entH h p c t) (entP h p c) false)) ∧ On w w' := by
  obtain ⟨n, hn⟩ : ∃ n, c &&& 63#64 = n := ⟨_, rfl⟩
  have hd : dlg h p c = ((p == 0 || p == 1) && (if c.getLsbD 63 = true then h 36 else h 35).getLsbD n.toNat) := by unfold dlg; rw [hn]
  have hh : ∀ v, hdl v (cau c) = (if (v.getLsbD 0 && c.getLsbD 63) = true then (v &&& ~~~3#64) + 4#64 * n else v &&& ~~~3#64) := fun v => by rw [hdl_cau, hn]
  cases h63 : c.getLsbD 63
  · by_cases h0 : p = 0
    · subst h0
      cases hb : (h 35).getLsbD n.toNat
      · cases hv : (h 39).getLsbD 0
        · have hD : dlg h 0 c = false := by rw [hd, h63]; exact hb
          have hx : hdl (h 39) (cau c) = h 39 &&& ~~~3#64 := by rw [hh, hv, h63]; rfl
          have hs : stM (h 34) 0 = _ := (stM_eq (h 34) 0).symm
          have he : entH h 0 c t = upd (entM h 0 (cau c) t) 65 0#64 := by unfold entH; rw [hD]; rfl
          have hp : entP h 0 c = 3 := by unfold entP; rw [hD]; rfl
          have hq := rent_0_000 h r c t n hn h63 hb hv w
          rw [he, hp]; unfold entM; rw [hx, hs]
          rw [chain6 h (by omega) (by omega) (by omega)] at hq
          exact hq
        · have hD : dlg h 0 c = false := by rw [hd, h63]; exact hb
          have hx : hdl (h 39) (cau c) = h 39 &&& ~~~3#64 := by rw [hh, hv, h63]; rfl
          have hs : stM (h 34) 0 = _ := (stM_eq (h 34) 0).symm
          have he : entH h 0 c t = upd (entM h 0 (cau c) t) 65 0#64 := by unfold entH; rw [hD]; rfl
          have hp : entP h 0 c = 3 := by unfold entP; rw [hD]; rfl
          have hq := rent_0_001 h r c t n hn h63 hb hv w
          rw [he, hp]; unfold entM; rw [hx, hs]
          rw [chain6 h (by omega) (by omega) (by omega)] at hq
          exact hq
      · cases hv : (h 45).getLsbD 0
        · have hD : dlg h 0 c = true := by rw [hd, h63]; exact hb
          have hx : hdl (h 45) (cau c) = h 45 &&& ~~~3#64 := by rw [hh, hv, h63]; rfl
          have hs : stS (h 34) 0 = _ := rfl
          have he : entH h 0 c t = upd (entS h 0 (cau c) t) 65 0#64 := by unfold entH; rw [hD]; rfl
          have hp : entP h 0 c = 1 := by unfold entP; rw [hD]; rfl
          have hq := rent_0_010 h r c t n hn h63 hb hv w
          rw [he, hp]; unfold entS; rw [hx, hs]
          rw [chain6 h (by omega) (by omega) (by omega)] at hq
          exact hq
        · have hD : dlg h 0 c = true := by rw [hd, h63]; exact hb
          have hx : hdl (h 45) (cau c) = h 45 &&& ~~~3#64 := by rw [hh, hv, h63]; rfl
          have hs : stS (h 34) 0 = _ := rfl
          have he : entH h 0 c t = upd (entS h 0 (cau c) t) 65 0#64 := by unfold entH; rw [hD]; rfl
          have hp : entP h 0 c = 1 := by unfold entP; rw [hD]; rfl
          have hq := rent_0_011 h r c t n hn h63 hb hv w
          rw [he, hp]; unfold entS; rw [hx, hs]
          rw [chain6 h (by omega) (by omega) (by omega)] at hq
          exact hq
    · by_cases h1 : p = 1
      · subst h1
        cases hb : (h 35).getLsbD n.toNat
        · cases hv : (h 39).getLsbD 0
          · have hD : dlg h 1 c = false := by rw [hd, h63]; exact hb
            have hx : hdl (h 39) (cau c) = h 39 &&& ~~~3#64 := by rw [hh, hv, h63]; rfl
            have hs : stM (h 34) 1 = _ := (stM_eq (h 34) 1).symm
            have he : entH h 1 c t = upd (entM h 1 (cau c) t) 65 0#64 := by unfold entH; rw [hD]; rfl
            have hp : entP h 1 c = 3 := by unfold entP; rw [hD]; rfl
            have hq := rent_1_000 h r c t n hn h63 hb hv w
            rw [he, hp]; unfold entM; rw [hx, hs]
            rw [chain6 h (by omega) (by omega) (by omega)] at hq
            exact hq
          · have hD : dlg h 1 c = false := by rw [hd, h63]; exact hb
            have hx : hdl (h 39) (cau c) = h 39 &&& ~~~3#64 := by rw [hh, hv, h63]; rfl
            have hs : stM (h 34) 1 = _ := (stM_eq (h 34) 1).symm
            have he : entH h 1 c t = upd (entM h 1 (cau c) t) 65 0#64 := by unfold entH; rw [hD]; rfl
            have hp : entP h 1 c = 3 := by unfold entP; rw [hD]; rfl
            have hq := rent_1_001 h r c t n hn h63 hb hv w
            rw [he, hp]; unfold entM; rw [hx, hs]
            rw [chain6 h (by omega) (by omega) (by omega)] at hq
            exact hq
        · cases hv : (h 45).getLsbD 0
          · have hD : dlg h 1 c = true := by rw [hd, h63]; exact hb
            have hx : hdl (h 45) (cau c) = h 45 &&& ~~~3#64 := by rw [hh, hv, h63]; rfl
            have hs : stS (h 34) 1 = _ := rfl
            have he : entH h 1 c t = upd (entS h 1 (cau c) t) 65 0#64 := by unfold entH; rw [hD]; rfl
            have hp : entP h 1 c = 1 := by unfold entP; rw [hD]; rfl
            have hq := rent_1_010 h r c t n hn h63 hb hv w
            rw [he, hp]; unfold entS; rw [hx, hs]
            rw [chain6 h (by omega) (by omega) (by omega)] at hq
            exact hq
          · have hD : dlg h 1 c = true := by rw [hd, h63]; exact hb
            have hx : hdl (h 45) (cau c) = h 45 &&& ~~~3#64 := by rw [hh, hv, h63]; rfl
            have hs : stS (h 34) 1 = _ := rfl
            have he : entH h 1 c t = upd (entS h 1 (cau c) t) 65 0#64 := by unfold entH; rw [hD]; rfl
            have hp : entP h 1 c = 1 := by unfold entP; rw [hD]; rfl
            have hq := rent_1_011 h r c t n hn h63 hb hv w
            rw [he, hp]; unfold entS; rw [hx, hs]
            rw [chain6 h (by omega) (by omega) (by omega)] at hq
            exact hq
      · cases hv : (h 39).getLsbD 0
        · have hD : dlg h p c = false := by rw [hd, show (p == 0) = false by simpa using h0, show (p == 1) = false by simpa using h1]; rfl
          have hx : hdl (h 39) (cau c) = h 39 &&& ~~~3#64 := by rw [hh, hv, h63]; rfl
          have hs : stM (h 34) p = _ := (stM_eq (h 34) p).symm
          have he : entH h p c t = upd (entM h p (cau c) t) 65 0#64 := by unfold entH; rw [hD]; rfl
          have hp : entP h p c = 3 := by unfold entP; rw [hD]; rfl
          have hq := rent_x_000 h p r c t n hn h63 h0 h1 hv w
          rw [he, hp]; unfold entM; rw [hx, hs]
          rw [chain6 h (by omega) (by omega) (by omega)] at hq
          exact hq
        · have hD : dlg h p c = false := by rw [hd, show (p == 0) = false by simpa using h0, show (p == 1) = false by simpa using h1]; rfl
          have hx : hdl (h 39) (cau c) = h 39 &&& ~~~3#64 := by rw [hh, hv, h63]; rfl
          have hs : stM (h 34) p = _ := (stM_eq (h 34) p).symm
          have he : entH h p c t = upd (entM h p (cau c) t) 65 0#64 := by unfold entH; rw [hD]; rfl
          have hp : entP h p c = 3 := by unfold entP; rw [hD]; rfl
          have hq := rent_x_001 h p r c t n hn h63 h0 h1 hv w
          rw [he, hp]; unfold entM; rw [hx, hs]
          rw [chain6 h (by omega) (by omega) (by omega)] at hq
          exact hq
  · by_cases h0 : p = 0
    · subst h0
      cases hb : (h 36).getLsbD n.toNat
      · cases hv : (h 39).getLsbD 0
        · have hD : dlg h 0 c = false := by rw [hd, h63]; exact hb
          have hx : hdl (h 39) (cau c) = h 39 &&& ~~~3#64 := by rw [hh, hv, h63]; rfl
          have hs : stM (h 34) 0 = _ := (stM_eq (h 34) 0).symm
          have he : entH h 0 c t = upd (entM h 0 (cau c) t) 65 0#64 := by unfold entH; rw [hD]; rfl
          have hp : entP h 0 c = 3 := by unfold entP; rw [hD]; rfl
          have hq := rent_0_100 h r c t n hn h63 hb hv w
          rw [he, hp]; unfold entM; rw [hx, hs]
          rw [chain6 h (by omega) (by omega) (by omega)] at hq
          exact hq
        · have hD : dlg h 0 c = false := by rw [hd, h63]; exact hb
          have hx : hdl (h 39) (cau c) = (h 39 &&& ~~~3#64) + 4#64 * n := by rw [hh, hv, h63]; rfl
          have hs : stM (h 34) 0 = _ := (stM_eq (h 34) 0).symm
          have he : entH h 0 c t = upd (entM h 0 (cau c) t) 65 0#64 := by unfold entH; rw [hD]; rfl
          have hp : entP h 0 c = 3 := by unfold entP; rw [hD]; rfl
          have hq := rent_0_101 h r c t n hn h63 hb hv w
          rw [he, hp]; unfold entM; rw [hx, hs]
          rw [upd_upd] at hq; rw [chain6 h (by omega) (by omega) (by omega)] at hq
          exact hq
      · cases hv : (h 45).getLsbD 0
        · have hD : dlg h 0 c = true := by rw [hd, h63]; exact hb
          have hx : hdl (h 45) (cau c) = h 45 &&& ~~~3#64 := by rw [hh, hv, h63]; rfl
          have hs : stS (h 34) 0 = _ := rfl
          have he : entH h 0 c t = upd (entS h 0 (cau c) t) 65 0#64 := by unfold entH; rw [hD]; rfl
          have hp : entP h 0 c = 1 := by unfold entP; rw [hD]; rfl
          have hq := rent_0_110 h r c t n hn h63 hb hv w
          rw [he, hp]; unfold entS; rw [hx, hs]
          rw [chain6 h (by omega) (by omega) (by omega)] at hq
          exact hq
        · have hD : dlg h 0 c = true := by rw [hd, h63]; exact hb
          have hx : hdl (h 45) (cau c) = (h 45 &&& ~~~3#64) + 4#64 * n := by rw [hh, hv, h63]; rfl
          have hs : stS (h 34) 0 = _ := rfl
          have he : entH h 0 c t = upd (entS h 0 (cau c) t) 65 0#64 := by unfold entH; rw [hD]; rfl
          have hp : entP h 0 c = 1 := by unfold entP; rw [hD]; rfl
          have hq := rent_0_111 h r c t n hn h63 hb hv w
          rw [he, hp]; unfold entS; rw [hx, hs]
          rw [upd_upd] at hq; rw [chain6 h (by omega) (by omega) (by omega)] at hq
          exact hq
    · by_cases h1 : p = 1
      · subst h1
        cases hb : (h 36).getLsbD n.toNat
        · cases hv : (h 39).getLsbD 0
          · have hD : dlg h 1 c = false := by rw [hd, h63]; exact hb
            have hx : hdl (h 39) (cau c) = h 39 &&& ~~~3#64 := by rw [hh, hv, h63]; rfl
            have hs : stM (h 34) 1 = _ := (stM_eq (h 34) 1).symm
            have he : entH h 1 c t = upd (entM h 1 (cau c) t) 65 0#64 := by unfold entH; rw [hD]; rfl
            have hp : entP h 1 c = 3 := by unfold entP; rw [hD]; rfl
            have hq := rent_1_100 h r c t n hn h63 hb hv w
            rw [he, hp]; unfold entM; rw [hx, hs]
            rw [chain6 h (by omega) (by omega) (by omega)] at hq
            exact hq
          · have hD : dlg h 1 c = false := by rw [hd, h63]; exact hb
            have hx : hdl (h 39) (cau c) = (h 39 &&& ~~~3#64) + 4#64 * n := by rw [hh, hv, h63]; rfl
            have hs : stM (h 34) 1 = _ := (stM_eq (h 34) 1).symm
            have he : entH h 1 c t = upd (entM h 1 (cau c) t) 65 0#64 := by unfold entH; rw [hD]; rfl
            have hp : entP h 1 c = 3 := by unfold entP; rw [hD]; rfl
            have hq := rent_1_101 h r c t n hn h63 hb hv w
            rw [he, hp]; unfold entM; rw [hx, hs]
            rw [upd_upd] at hq; rw [chain6 h (by omega) (by omega) (by omega)] at hq
            exact hq
        · cases hv : (h 45).getLsbD 0
          · have hD : dlg h 1 c = true := by rw [hd, h63]; exact hb
            have hx : hdl (h 45) (cau c) = h 45 &&& ~~~3#64 := by rw [hh, hv, h63]; rfl
            have hs : stS (h 34) 1 = _ := rfl
            have he : entH h 1 c t = upd (entS h 1 (cau c) t) 65 0#64 := by unfold entH; rw [hD]; rfl
            have hp : entP h 1 c = 1 := by unfold entP; rw [hD]; rfl
            have hq := rent_1_110 h r c t n hn h63 hb hv w
            rw [he, hp]; unfold entS; rw [hx, hs]
            rw [chain6 h (by omega) (by omega) (by omega)] at hq
            exact hq
          · have hD : dlg h 1 c = true := by rw [hd, h63]; exact hb
            have hx : hdl (h 45) (cau c) = (h 45 &&& ~~~3#64) + 4#64 * n := by rw [hh, hv, h63]; rfl
            have hs : stS (h 34) 1 = _ := rfl
            have he : entH h 1 c t = upd (entS h 1 (cau c) t) 65 0#64 := by unfold entH; rw [hD]; rfl
            have hp : entP h 1 c = 1 := by unfold entP; rw [hD]; rfl
            have hq := rent_1_111 h r c t n hn h63 hb hv w
            rw [he, hp]; unfold entS; rw [hx, hs]
            rw [upd_upd] at hq; rw [chain6 h (by omega) (by omega) (by omega)] at hq
            exact hq
      · cases hv : (h 39).getLsbD 0
        · have hD : dlg h p c = false := by rw [hd, show (p == 0) = false by simpa using h0, show (p == 1) = false by simpa using h1]; rfl
          have hx : hdl (h 39) (cau c) = h 39 &&& ~~~3#64 := by rw [hh, hv, h63]; rfl
          have hs : stM (h 34) p = _ := (stM_eq (h 34) p).symm
          have he : entH h p c t = upd (entM h p (cau c) t) 65 0#64 := by unfold entH; rw [hD]; rfl
          have hp : entP h p c = 3 := by unfold entP; rw [hD]; rfl
          have hq := rent_x_100 h p r c t n hn h63 h0 h1 hv w
          rw [he, hp]; unfold entM; rw [hx, hs]
          rw [chain6 h (by omega) (by omega) (by omega)] at hq
          exact hq
        · have hD : dlg h p c = false := by rw [hd, show (p == 0) = false by simpa using h0, show (p == 1) = false by simpa using h1]; rfl
          have hx : hdl (h 39) (cau c) = (h 39 &&& ~~~3#64) + 4#64 * n := by rw [hh, hv, h63]; rfl
          have hs : stM (h 34) p = _ := (stM_eq (h 34) p).symm
          have he : entH h p c t = upd (entM h p (cau c) t) 65 0#64 := by unfold entH; rw [hD]; rfl
          have hp : entP h p c = 3 := by unfold entP; rw [hD]; rfl
          have hq := rent_x_101 h p r c t n hn h63 h0 h1 hv w
          rw [he, hp]; unfold entM; rw [hx, hs]
          rw [upd_upd] at hq; rw [chain6 h (by omega) (by omega) (by omega)] at hq
          exact hq
end Go.Proofs.Ytleolldgpoeabaa
