/- Traps on a hart: the ways back. Conditions: named at each. -/
import Derived.Test.YtleolldgpoeabaaTrapE
namespace Go.Proofs.Ytleolldgpoeabaa
open Go.RowKit
theorem mpq_three (s : BitVec 64) : (mpq s == 3) = true ∨ (mpq s == 3) = false := by cases mpq s == 3 <;> simp
theorem upd3 (h : Nat → BitVec 64) (a b y : BitVec 64) : upd (upd (upd h 34 a) 34 b) 0 y = upd (upd h 34 b) 0 y := by rw [upd_upd]
theorem bit8 (s : BitVec 64) : (bits .and .u64 (u s) 256 == 0) = !s.getLsbD 8 := by
  rw [show (256 : Int) = u ((1 : BitVec 64) <<< 8) from rfl, u_and, and_one_shl s 8 (by omega)]

set_option maxRecDepth 100000 in
set_option maxHeartbeats 1000000 in
theorem mret_1 (h : Nat → BitVec 64) (p q : Int) (r : Bool) (hq : mpq (h 34) = q) (h3 : q = 3) (w : World) : Calls Try.prog 14 #[.agg (hV h p r)] w fun e w' => e = .returned (.agg (hV (mrH h) (mrP h) false)) ∧ On w w' := by
  have hZ := fun w => hrt_zero w
  have HO : Hid (∀ h' p' r', On w ((w.alloc (.cells (hV h' p' r') 28)).alloc (.cells (hV zC 0 false) 28))) := Lib.hid (fun _ _ _ => ((On.refl w).alloc _).alloc _)
  have c0 := fun (h' : Nat → BitVec 64) (p' : Int) (r' : Bool) => blk_cell (box1 w (.cells (hV h' p' r') 28) (.cells (hV zC 0 false) 28)) 0 (hV_get h' p' r' 0 (by omega) (by omega) (by omega))
  have c34 := fun (h' : Nat → BitVec 64) (p' : Int) (r' : Bool) => blk_cell (box1 w (.cells (hV h' p' r') 28) (.cells (hV zC 0 false) 28)) 34 (hV_get h' p' r' 34 (by omega) (by omega) (by omega))
  have c42 := fun (h' : Nat → BitVec 64) (p' : Int) (r' : Bool) => blk_cell (box1 w (.cells (hV h' p' r') 28) (.cells (hV zC 0 false) 28)) 42 (hV_get h' p' r' 42 (by omega) (by omega) (by omega))
  have cP := fun (h' : Nat → BitVec 64) (p' : Int) (r' : Bool) => blk_cell (box1 w (.cells (hV h' p' r') 28) (.cells (hV zC 0 false) 28)) 1 (hV_priv h' p' r')
  have G0 := fun h p r => hV_get h p r 0 (by omega) (by omega) (by omega)
  have S0 := fun h p r v => hV_set h p r 0 v (by omega) (by omega)
  have f0 := fun (h' : Nat → BitVec 64) (p' : Int) (r' : Bool) => blk_free (box1 w (.cells (hV h' p' r') 28) (.cells (hV zC 0 false) 28)) 0
  have U0 := fun h v => upd_self h 0 v
  have SP := fun h p r v => hV_setp h p r v
  have GP := fun h p r => hV_priv h p r
  have f1 := fun (h' : Nat → BitVec 64) (p' : Int) (r' : Bool) => blk_free (box1 w (.cells (hV h' p' r') 28) (.cells (hV zC 0 false) 28)) 1
  have G34 := fun h p r => hV_get h p r 34 (by omega) (by omega) (by omega)
  have S34 := fun h p r v => hV_set h p r 34 v (by omega) (by omega)
  have f34 := fun (h' : Nat → BitVec 64) (p' : Int) (r' : Bool) => blk_free (box1 w (.cells (hV h' p' r') 28) (.cells (hV zC 0 false) 28)) 34
  have U34 := fun h v => upd_self h 34 v
  have N0_34 := fun h v => upd_ne h (i := 0) (j := 34) v (by omega)
  have N0_42 := fun h v => upd_ne h (i := 0) (j := 42) v (by omega)
  have N34_0 := fun h v => upd_ne h (i := 34) (j := 0) v (by omega)
  have N34_42 := fun h v => upd_ne h (i := 34) (j := 42) v (by omega)
  have M := mpq_any (h 34)
  have M' : Hid (∀ w, Calls Try.prog 33 #[.int .u64 (u (h 34))] w fun e w' => e = .returned (.int .i64 q) ∧ w = w') := Lib.hid (fun w => by have := M w; rw [hq] at this; exact this)
  clear M
  have q3 : (q == 3) = true := by simpa using h3
  have q4 : (q != 3) = false := by unfold bne; rw [q3]; rfl
  have K1 : Hid (∀ (v : BitVec 64) w, Calls Try.prog 34 #[.int .u64 (u v), .int .u64 8, .int .u64 128] w fun e w' => e = .returned (.int .u64 (u (movB v 8#64 128#64))) ∧ w = w') := Lib.hid (fun v w => mov_any v 8#64 128#64 w)
  have K2 : Hid (∀ (v : BitVec 64) on w, Calls Try.prog 35 #[.int .u64 (u v), .int .u64 128, .bool on] w fun e w' => e = .returned (.int .u64 (u (putB v 128#64 on))) ∧ w = w') := Lib.hid (fun v on w => putb_any v 128#64 on w)
  have K3 : Hid (∀ (v : BitVec 64) w, Calls Try.prog 36 #[.int .u64 (u v), .int .i64 0] w fun e w' => e = .returned (.int .u64 (u (wmp v 0))) ∧ w = w') := Lib.hid (fun v w => wmp_any v 0 w)
  have K4 : Hid (∀ (v : BitVec 64) on w, Calls Try.prog 35 #[.int .u64 (u v), .int .u64 131072, .bool on] w fun e w' => e = .returned (.int .u64 (u (putB v 131072#64 on))) ∧ w = w') := Lib.hid (fun v on w => putb_any v 131072#64 on w)
  have E : Hid (hV (upd (upd (upd (upd (upd h 34 (movB (h 34) 8#64 128#64)) 34 (putB (movB (h 34) 8#64 128#64) 128#64 true)) 34 (wmp (putB (movB (h 34) 8#64 128#64) 128#64 true) 0)) 0 (h 42)) 65 0#64) q false = hV (mrH h) (mrP h) false) := Lib.hid (by unfold mrH mrP; rw [hq, upd_upd, upd_upd]; unfold mrS; rw [hq, if_pos h3])
  clear hq h3
  go_enter Try.func14, Try.ntmps14
  go_wp2_with (first | ((with_reducible apply hrt_ld); (case ho => exact rfl); (case hgd => exact rfl); (case hx => exact rfl); (case hg => exact box1 _ _ _)) | ((with_reducible apply hrt_st); (case ho => exact rfl); (case hgd => exact rfl); (case hx => exact rfl); (case hy => exact rfl); (case hg => exact box2 _ _ _)))
  go_at_call 33; refine (M'.out _).mono ?_; rintro _ _ ⟨rfl, rfl⟩
  go_wp2_with (first | ((with_reducible apply hrt_ld); (case ho => exact rfl); (case hgd => exact rfl); (case hx => exact rfl); (case hg => exact box1 _ _ _)) | ((with_reducible apply hrt_st); (case ho => exact rfl); (case hgd => exact rfl); (case hx => exact rfl); (case hy => exact rfl); (case hg => exact box2 _ _ _)))
  go_at_call 34; refine (K1.out _ _).mono ?_; rintro _ _ ⟨rfl, rfl⟩
  go_wp2_with (first | ((with_reducible apply hrt_ld); (case ho => exact rfl); (case hgd => exact rfl); (case hx => exact rfl); (case hg => exact box1 _ _ _)) | ((with_reducible apply hrt_st); (case ho => exact rfl); (case hgd => exact rfl); (case hx => exact rfl); (case hy => exact rfl); (case hg => exact box2 _ _ _)))
  go_at_call 35; refine (K2.out _ _ _).mono ?_; rintro _ _ ⟨rfl, rfl⟩
  go_wp2_with (first | ((with_reducible apply hrt_ld); (case ho => exact rfl); (case hgd => exact rfl); (case hx => exact rfl); (case hg => exact box1 _ _ _)) | ((with_reducible apply hrt_st); (case ho => exact rfl); (case hgd => exact rfl); (case hx => exact rfl); (case hy => exact rfl); (case hg => exact box2 _ _ _)))
  go_at_call 36; refine (K3.out _ _).mono ?_; rintro _ _ ⟨rfl, rfl⟩
  go_wp2_with (first | ((with_reducible apply hrt_ld); (case ho => exact rfl); (case hgd => exact rfl); (case hx => exact rfl); (case hg => exact box1 _ _ _)) | ((with_reducible apply hrt_st); (case ho => exact rfl); (case hgd => exact rfl); (case hx => exact rfl); (case hy => exact rfl); (case hg => exact box2 _ _ _)))
  go_at_call 29; refine (rel_any _ _ _ _).mono ?_; rintro _ w1 ⟨rfl, hb⟩
  have hr := hb.keep (box2 _ _ _)
  have ho := Lib.hid ((HO.out _ _ _).trans hb)
  clear hb
  go_wp2_with (first | ((with_reducible apply hrt_st); (case ho => exact rfl); (case hgd => exact rfl); (case hx => exact rfl); (case hy => exact rfl); (case hg => exact hr)))
  refine row_back hrtT rfl rfl rfl (hset_row hr) (hV_size ..) ⟨by rw [← E.out], ho.out.row _ _ (by omega)⟩
set_option maxRecDepth 100000 in
set_option maxHeartbeats 1000000 in
theorem mret_0 (h : Nat → BitVec 64) (p q : Int) (r : Bool) (hq : mpq (h 34) = q) (h3 : ¬ q = 3) (w : World) : Calls Try.prog 14 #[.agg (hV h p r)] w fun e w' => e = .returned (.agg (hV (mrH h) (mrP h) false)) ∧ On w w' := by
  have hZ := fun w => hrt_zero w
  have HO : Hid (∀ h' p' r', On w ((w.alloc (.cells (hV h' p' r') 28)).alloc (.cells (hV zC 0 false) 28))) := Lib.hid (fun _ _ _ => ((On.refl w).alloc _).alloc _)
  have c0 := fun (h' : Nat → BitVec 64) (p' : Int) (r' : Bool) => blk_cell (box1 w (.cells (hV h' p' r') 28) (.cells (hV zC 0 false) 28)) 0 (hV_get h' p' r' 0 (by omega) (by omega) (by omega))
  have c34 := fun (h' : Nat → BitVec 64) (p' : Int) (r' : Bool) => blk_cell (box1 w (.cells (hV h' p' r') 28) (.cells (hV zC 0 false) 28)) 34 (hV_get h' p' r' 34 (by omega) (by omega) (by omega))
  have c42 := fun (h' : Nat → BitVec 64) (p' : Int) (r' : Bool) => blk_cell (box1 w (.cells (hV h' p' r') 28) (.cells (hV zC 0 false) 28)) 42 (hV_get h' p' r' 42 (by omega) (by omega) (by omega))
  have cP := fun (h' : Nat → BitVec 64) (p' : Int) (r' : Bool) => blk_cell (box1 w (.cells (hV h' p' r') 28) (.cells (hV zC 0 false) 28)) 1 (hV_priv h' p' r')
  have G0 := fun h p r => hV_get h p r 0 (by omega) (by omega) (by omega)
  have S0 := fun h p r v => hV_set h p r 0 v (by omega) (by omega)
  have f0 := fun (h' : Nat → BitVec 64) (p' : Int) (r' : Bool) => blk_free (box1 w (.cells (hV h' p' r') 28) (.cells (hV zC 0 false) 28)) 0
  have U0 := fun h v => upd_self h 0 v
  have SP := fun h p r v => hV_setp h p r v
  have GP := fun h p r => hV_priv h p r
  have f1 := fun (h' : Nat → BitVec 64) (p' : Int) (r' : Bool) => blk_free (box1 w (.cells (hV h' p' r') 28) (.cells (hV zC 0 false) 28)) 1
  have G34 := fun h p r => hV_get h p r 34 (by omega) (by omega) (by omega)
  have S34 := fun h p r v => hV_set h p r 34 v (by omega) (by omega)
  have f34 := fun (h' : Nat → BitVec 64) (p' : Int) (r' : Bool) => blk_free (box1 w (.cells (hV h' p' r') 28) (.cells (hV zC 0 false) 28)) 34
  have U34 := fun h v => upd_self h 34 v
  have N0_34 := fun h v => upd_ne h (i := 0) (j := 34) v (by omega)
  have N0_42 := fun h v => upd_ne h (i := 0) (j := 42) v (by omega)
  have N34_0 := fun h v => upd_ne h (i := 34) (j := 0) v (by omega)
  have N34_42 := fun h v => upd_ne h (i := 34) (j := 42) v (by omega)
  have M := mpq_any (h 34)
  have M' : Hid (∀ w, Calls Try.prog 33 #[.int .u64 (u (h 34))] w fun e w' => e = .returned (.int .i64 q) ∧ w = w') := Lib.hid (fun w => by have := M w; rw [hq] at this; exact this)
  clear M
  have q3 : (q == 3) = false := by simpa using h3
  have q4 : (q != 3) = true := by unfold bne; rw [q3]; rfl
  have K1 : Hid (∀ (v : BitVec 64) w, Calls Try.prog 34 #[.int .u64 (u v), .int .u64 8, .int .u64 128] w fun e w' => e = .returned (.int .u64 (u (movB v 8#64 128#64))) ∧ w = w') := Lib.hid (fun v w => mov_any v 8#64 128#64 w)
  have K2 : Hid (∀ (v : BitVec 64) on w, Calls Try.prog 35 #[.int .u64 (u v), .int .u64 128, .bool on] w fun e w' => e = .returned (.int .u64 (u (putB v 128#64 on))) ∧ w = w') := Lib.hid (fun v on w => putb_any v 128#64 on w)
  have K3 : Hid (∀ (v : BitVec 64) w, Calls Try.prog 36 #[.int .u64 (u v), .int .i64 0] w fun e w' => e = .returned (.int .u64 (u (wmp v 0))) ∧ w = w') := Lib.hid (fun v w => wmp_any v 0 w)
  have K4 : Hid (∀ (v : BitVec 64) on w, Calls Try.prog 35 #[.int .u64 (u v), .int .u64 131072, .bool on] w fun e w' => e = .returned (.int .u64 (u (putB v 131072#64 on))) ∧ w = w') := Lib.hid (fun v on w => putb_any v 131072#64 on w)
  have E : Hid (hV (upd (upd (upd (upd (upd (upd h 34 (movB (h 34) 8#64 128#64)) 34 (putB (movB (h 34) 8#64 128#64) 128#64 true)) 34 (wmp (putB (movB (h 34) 8#64 128#64) 128#64 true) 0)) 34 (putB (wmp (putB (movB (h 34) 8#64 128#64) 128#64 true) 0) 131072#64 false)) 0 (h 42)) 65 0#64) q false = hV (mrH h) (mrP h) false) := Lib.hid (by unfold mrH mrP; rw [hq, upd_upd, upd_upd, upd_upd]; unfold mrS; rw [hq, if_neg h3])
  clear hq h3
  go_enter Try.func14, Try.ntmps14
  go_wp2_with (first | ((with_reducible apply hrt_ld); (case ho => exact rfl); (case hgd => exact rfl); (case hx => exact rfl); (case hg => exact box1 _ _ _)) | ((with_reducible apply hrt_st); (case ho => exact rfl); (case hgd => exact rfl); (case hx => exact rfl); (case hy => exact rfl); (case hg => exact box2 _ _ _)))
  go_at_call 33; refine (M'.out _).mono ?_; rintro _ _ ⟨rfl, rfl⟩
  go_wp2_with (first | ((with_reducible apply hrt_ld); (case ho => exact rfl); (case hgd => exact rfl); (case hx => exact rfl); (case hg => exact box1 _ _ _)) | ((with_reducible apply hrt_st); (case ho => exact rfl); (case hgd => exact rfl); (case hx => exact rfl); (case hy => exact rfl); (case hg => exact box2 _ _ _)))
  go_at_call 34; refine (K1.out _ _).mono ?_; rintro _ _ ⟨rfl, rfl⟩
  go_wp2_with (first | ((with_reducible apply hrt_ld); (case ho => exact rfl); (case hgd => exact rfl); (case hx => exact rfl); (case hg => exact box1 _ _ _)) | ((with_reducible apply hrt_st); (case ho => exact rfl); (case hgd => exact rfl); (case hx => exact rfl); (case hy => exact rfl); (case hg => exact box2 _ _ _)))
  go_at_call 35; refine (K2.out _ _ _).mono ?_; rintro _ _ ⟨rfl, rfl⟩
  go_wp2_with (first | ((with_reducible apply hrt_ld); (case ho => exact rfl); (case hgd => exact rfl); (case hx => exact rfl); (case hg => exact box1 _ _ _)) | ((with_reducible apply hrt_st); (case ho => exact rfl); (case hgd => exact rfl); (case hx => exact rfl); (case hy => exact rfl); (case hg => exact box2 _ _ _)))
  go_at_call 36; refine (K3.out _ _).mono ?_; rintro _ _ ⟨rfl, rfl⟩
  go_wp2_with (first | ((with_reducible apply hrt_ld); (case ho => exact rfl); (case hgd => exact rfl); (case hx => exact rfl); (case hg => exact box1 _ _ _)) | ((with_reducible apply hrt_st); (case ho => exact rfl); (case hgd => exact rfl); (case hx => exact rfl); (case hy => exact rfl); (case hg => exact box2 _ _ _)))
  go_at_call 35; refine (K4.out _ _ _).mono ?_; rintro _ _ ⟨rfl, rfl⟩
  go_wp2_with (first | ((with_reducible apply hrt_ld); (case ho => exact rfl); (case hgd => exact rfl); (case hx => exact rfl); (case hg => exact box1 _ _ _)) | ((with_reducible apply hrt_st); (case ho => exact rfl); (case hgd => exact rfl); (case hx => exact rfl); (case hy => exact rfl); (case hg => exact box2 _ _ _)))
  go_at_call 29; refine (rel_any _ _ _ _).mono ?_; rintro _ w1 ⟨rfl, hb⟩
  have hr := hb.keep (box2 _ _ _)
  have ho := Lib.hid ((HO.out _ _ _).trans hb)
  clear hb
  go_wp2_with (first | ((with_reducible apply hrt_st); (case ho => exact rfl); (case hgd => exact rfl); (case hx => exact rfl); (case hy => exact rfl); (case hg => exact hr)))
  refine row_back hrtT rfl rfl rfl (hset_row hr) (hV_size ..) ⟨by rw [← E.out], ho.out.row _ _ (by omega)⟩
theorem mret_any (h : Nat → BitVec 64) (p : Int) (r : Bool) (w : World) : Calls Try.prog 14 #[.agg (hV h p r)] w fun e w' => e = .returned (.agg (hV (mrH h) (mrP h) false)) ∧ On w w' := by
  by_cases h3 : mpq (h 34) = 3
  · exact mret_1 h p _ r rfl h3 w
  · exact mret_0 h p _ r rfl h3 w
set_option maxRecDepth 100000 in
set_option maxHeartbeats 1000000 in
theorem rmret_1 (h : Nat → BitVec 64) (p q : Int) (r : Bool) (hq : mpq (h 34) = q) (h3 : q = 3) (w : World) : Calls Try.prog 15 #[.agg (hV h p r)] w fun e w' => e = .returned (.agg (hV (mrH h) (mrP h) false)) ∧ On w w' := by
  have hZ := fun w => hrt_zero w
  have HO : Hid (∀ h' p' r', On w ((w.alloc (.cells (hV h' p' r') 28)).alloc (.cells (hV zC 0 false) 28))) := Lib.hid (fun _ _ _ => ((On.refl w).alloc _).alloc _)
  have c0 := fun (h' : Nat → BitVec 64) (p' : Int) (r' : Bool) => blk_cell (box1 w (.cells (hV h' p' r') 28) (.cells (hV zC 0 false) 28)) 0 (hV_get h' p' r' 0 (by omega) (by omega) (by omega))
  have c34 := fun (h' : Nat → BitVec 64) (p' : Int) (r' : Bool) => blk_cell (box1 w (.cells (hV h' p' r') 28) (.cells (hV zC 0 false) 28)) 34 (hV_get h' p' r' 34 (by omega) (by omega) (by omega))
  have c42 := fun (h' : Nat → BitVec 64) (p' : Int) (r' : Bool) => blk_cell (box1 w (.cells (hV h' p' r') 28) (.cells (hV zC 0 false) 28)) 42 (hV_get h' p' r' 42 (by omega) (by omega) (by omega))
  have cP := fun (h' : Nat → BitVec 64) (p' : Int) (r' : Bool) => blk_cell (box1 w (.cells (hV h' p' r') 28) (.cells (hV zC 0 false) 28)) 1 (hV_priv h' p' r')
  have G0 := fun h p r => hV_get h p r 0 (by omega) (by omega) (by omega)
  have S0 := fun h p r v => hV_set h p r 0 v (by omega) (by omega)
  have f0 := fun (h' : Nat → BitVec 64) (p' : Int) (r' : Bool) => blk_free (box1 w (.cells (hV h' p' r') 28) (.cells (hV zC 0 false) 28)) 0
  have U0 := fun h v => upd_self h 0 v
  have SP := fun h p r v => hV_setp h p r v
  have GP := fun h p r => hV_priv h p r
  have f1 := fun (h' : Nat → BitVec 64) (p' : Int) (r' : Bool) => blk_free (box1 w (.cells (hV h' p' r') 28) (.cells (hV zC 0 false) 28)) 1
  have G34 := fun h p r => hV_get h p r 34 (by omega) (by omega) (by omega)
  have S34 := fun h p r v => hV_set h p r 34 v (by omega) (by omega)
  have f34 := fun (h' : Nat → BitVec 64) (p' : Int) (r' : Bool) => blk_free (box1 w (.cells (hV h' p' r') 28) (.cells (hV zC 0 false) 28)) 34
  have U34 := fun h v => upd_self h 34 v
  have SR := fun h p r v => hV_setr h p r v
  have GR := fun h p r => hV_res h p r
  have f64 := fun (h' : Nat → BitVec 64) (p' : Int) (r' : Bool) => blk_free (box1 w (.cells (hV h' p' r') 28) (.cells (hV zC 0 false) 28)) 64
  have G65 := fun h p r => hV_get h p r 65 (by omega) (by omega) (by omega)
  have S65 := fun h p r v => hV_set h p r 65 v (by omega) (by omega)
  have f65 := fun (h' : Nat → BitVec 64) (p' : Int) (r' : Bool) => blk_free (box1 w (.cells (hV h' p' r') 28) (.cells (hV zC 0 false) 28)) 65
  have U65 := fun h v => upd_self h 65 v
  have N0_34 := fun h v => upd_ne h (i := 0) (j := 34) v (by omega)
  have N0_42 := fun h v => upd_ne h (i := 0) (j := 42) v (by omega)
  have N34_0 := fun h v => upd_ne h (i := 34) (j := 0) v (by omega)
  have N34_42 := fun h v => upd_ne h (i := 34) (j := 42) v (by omega)
  have N65_0 := fun h v => upd_ne h (i := 65) (j := 0) v (by omega)
  have N65_34 := fun h v => upd_ne h (i := 65) (j := 34) v (by omega)
  have N65_42 := fun h v => upd_ne h (i := 65) (j := 42) v (by omega)
  have Z : ∀ (h : Nat → BitVec 64) (p : Int) (r : Bool), (hV h p r).setIfInBounds 65 (.int .u64 0) = hV (upd h 65 0#64) p r := fun h p r => hV_set h p r 65 0#64 (by omega) (by omega)
  have M' : Hid (∀ w, Calls Try.prog 37 #[.int .u64 (u (h 34))] w fun e w' => e = .returned (.int .i64 q) ∧ w = w') := Lib.hid (fun w => by have := rmpq_any (h 34) w; rw [hq] at this; exact this)
  have q3 : (q == 3) = true := by simpa using h3
  have q4 : (q != 3) = false := by unfold bne; rw [q3]; rfl
  have K1 : Hid (∀ (v : BitVec 64) on w, Calls Try.prog 32 #[.int .u64 (u v), .int .u64 8, .bool on] w fun e w' => e = .returned (.int .u64 (u (putB v 8#64 on))) ∧ w = w') := Lib.hid (fun v on w => rputb_any v 8#64 on w)
  have Q1 : (bits .and .u64 (u (h 34)) 128 != 0) = (!(h 34 &&& 128#64 == 0#64)) := by unfold bne; rw [show (128 : Int) = u 128#64 from rfl, u_and, show (0 : Int) = u 0#64 from rfl, u_beq]
  have Q2 := fun v : BitVec 64 => (show bits .or .u64 (u v) 128 = u (v ||| 128#64) from u_or v 128#64)
  have Q3 := fun v : BitVec 64 => (show bits .andNot .u64 (u v) 6144 = u (v &&& ~~~6144#64) from u_andNot v 6144#64)
  have Q4 := fun v : BitVec 64 => (show bits .andNot .u64 (u v) 131072 = u (v &&& ~~~131072#64) from u_andNot v 131072#64)
  have E : Hid (hV (upd (upd (upd h 34 ((putB (h 34) 8#64 (!(h 34 &&& 128#64 == 0#64)) ||| 128#64) &&& ~~~6144#64)) 0 (h 42)) 65 0#64) q false = hV (mrH h) (mrP h) false) := Lib.hid (by unfold mrH mrP mrS; rw [hq, if_pos h3, wmp_zero]; rfl)
  clear hq h3
  go_enter Try.func15, Try.ntmps15
  go_wp2_with (first | ((with_reducible apply hrt_ld); (case ho => exact rfl); (case hgd => exact rfl); (case hx => exact rfl); (case hg => exact box1 _ _ _)) | ((with_reducible apply hrt_st); (case ho => exact rfl); (case hgd => exact rfl); (case hx => exact rfl); (case hy => exact rfl); (case hg => exact box2 _ _ _)))
  go_at_call 37; refine (M'.out _).mono ?_; rintro _ _ ⟨rfl, rfl⟩
  go_wp2_with (first | ((with_reducible apply hrt_ld); (case ho => exact rfl); (case hgd => exact rfl); (case hx => exact rfl); (case hg => exact box1 _ _ _)) | ((with_reducible apply hrt_st); (case ho => exact rfl); (case hgd => exact rfl); (case hx => exact rfl); (case hy => exact rfl); (case hg => exact box2 _ _ _)))
  go_at_call 32; refine (K1.out _ _ _).mono ?_; rintro _ _ ⟨rfl, rfl⟩
  go_wp2_with (first | ((with_reducible apply hrt_ld); (case ho => exact rfl); (case hgd => exact rfl); (case hx => exact rfl); (case hg => exact box1 _ _ _)) | ((with_reducible apply hrt_st); (case ho => exact rfl); (case hgd => exact rfl); (case hx => exact rfl); (case hy => exact rfl); (case hg => exact box2 _ _ _)))
  refine row_back hrtT rfl rfl rfl (hset_row (box2 _ _ _)) (hV_size ..) ⟨by rw [← E.out]; rfl, (HO.out _ _ _).row _ _ (by omega)⟩
set_option maxRecDepth 100000 in
set_option maxHeartbeats 1000000 in
theorem rmret_0 (h : Nat → BitVec 64) (p q : Int) (r : Bool) (hq : mpq (h 34) = q) (h3 : ¬ q = 3) (w : World) : Calls Try.prog 15 #[.agg (hV h p r)] w fun e w' => e = .returned (.agg (hV (mrH h) (mrP h) false)) ∧ On w w' := by
  have hZ := fun w => hrt_zero w
  have HO : Hid (∀ h' p' r', On w ((w.alloc (.cells (hV h' p' r') 28)).alloc (.cells (hV zC 0 false) 28))) := Lib.hid (fun _ _ _ => ((On.refl w).alloc _).alloc _)
  have c0 := fun (h' : Nat → BitVec 64) (p' : Int) (r' : Bool) => blk_cell (box1 w (.cells (hV h' p' r') 28) (.cells (hV zC 0 false) 28)) 0 (hV_get h' p' r' 0 (by omega) (by omega) (by omega))
  have c34 := fun (h' : Nat → BitVec 64) (p' : Int) (r' : Bool) => blk_cell (box1 w (.cells (hV h' p' r') 28) (.cells (hV zC 0 false) 28)) 34 (hV_get h' p' r' 34 (by omega) (by omega) (by omega))
  have c42 := fun (h' : Nat → BitVec 64) (p' : Int) (r' : Bool) => blk_cell (box1 w (.cells (hV h' p' r') 28) (.cells (hV zC 0 false) 28)) 42 (hV_get h' p' r' 42 (by omega) (by omega) (by omega))
  have cP := fun (h' : Nat → BitVec 64) (p' : Int) (r' : Bool) => blk_cell (box1 w (.cells (hV h' p' r') 28) (.cells (hV zC 0 false) 28)) 1 (hV_priv h' p' r')
  have G0 := fun h p r => hV_get h p r 0 (by omega) (by omega) (by omega)
  have S0 := fun h p r v => hV_set h p r 0 v (by omega) (by omega)
  have f0 := fun (h' : Nat → BitVec 64) (p' : Int) (r' : Bool) => blk_free (box1 w (.cells (hV h' p' r') 28) (.cells (hV zC 0 false) 28)) 0
  have U0 := fun h v => upd_self h 0 v
  have SP := fun h p r v => hV_setp h p r v
  have GP := fun h p r => hV_priv h p r
  have f1 := fun (h' : Nat → BitVec 64) (p' : Int) (r' : Bool) => blk_free (box1 w (.cells (hV h' p' r') 28) (.cells (hV zC 0 false) 28)) 1
  have G34 := fun h p r => hV_get h p r 34 (by omega) (by omega) (by omega)
  have S34 := fun h p r v => hV_set h p r 34 v (by omega) (by omega)
  have f34 := fun (h' : Nat → BitVec 64) (p' : Int) (r' : Bool) => blk_free (box1 w (.cells (hV h' p' r') 28) (.cells (hV zC 0 false) 28)) 34
  have U34 := fun h v => upd_self h 34 v
  have SR := fun h p r v => hV_setr h p r v
  have GR := fun h p r => hV_res h p r
  have f64 := fun (h' : Nat → BitVec 64) (p' : Int) (r' : Bool) => blk_free (box1 w (.cells (hV h' p' r') 28) (.cells (hV zC 0 false) 28)) 64
  have G65 := fun h p r => hV_get h p r 65 (by omega) (by omega) (by omega)
  have S65 := fun h p r v => hV_set h p r 65 v (by omega) (by omega)
  have f65 := fun (h' : Nat → BitVec 64) (p' : Int) (r' : Bool) => blk_free (box1 w (.cells (hV h' p' r') 28) (.cells (hV zC 0 false) 28)) 65
  have U65 := fun h v => upd_self h 65 v
  have N0_34 := fun h v => upd_ne h (i := 0) (j := 34) v (by omega)
  have N0_42 := fun h v => upd_ne h (i := 0) (j := 42) v (by omega)
  have N34_0 := fun h v => upd_ne h (i := 34) (j := 0) v (by omega)
  have N34_42 := fun h v => upd_ne h (i := 34) (j := 42) v (by omega)
  have N65_0 := fun h v => upd_ne h (i := 65) (j := 0) v (by omega)
  have N65_34 := fun h v => upd_ne h (i := 65) (j := 34) v (by omega)
  have N65_42 := fun h v => upd_ne h (i := 65) (j := 42) v (by omega)
  have Z : ∀ (h : Nat → BitVec 64) (p : Int) (r : Bool), (hV h p r).setIfInBounds 65 (.int .u64 0) = hV (upd h 65 0#64) p r := fun h p r => hV_set h p r 65 0#64 (by omega) (by omega)
  have M' : Hid (∀ w, Calls Try.prog 37 #[.int .u64 (u (h 34))] w fun e w' => e = .returned (.int .i64 q) ∧ w = w') := Lib.hid (fun w => by have := rmpq_any (h 34) w; rw [hq] at this; exact this)
  have q3 : (q == 3) = false := by simpa using h3
  have q4 : (q != 3) = true := by unfold bne; rw [q3]; rfl
  have K1 : Hid (∀ (v : BitVec 64) on w, Calls Try.prog 32 #[.int .u64 (u v), .int .u64 8, .bool on] w fun e w' => e = .returned (.int .u64 (u (putB v 8#64 on))) ∧ w = w') := Lib.hid (fun v on w => rputb_any v 8#64 on w)
  have Q1 : (bits .and .u64 (u (h 34)) 128 != 0) = (!(h 34 &&& 128#64 == 0#64)) := by unfold bne; rw [show (128 : Int) = u 128#64 from rfl, u_and, show (0 : Int) = u 0#64 from rfl, u_beq]
  have Q2 := fun v : BitVec 64 => (show bits .or .u64 (u v) 128 = u (v ||| 128#64) from u_or v 128#64)
  have Q3 := fun v : BitVec 64 => (show bits .andNot .u64 (u v) 6144 = u (v &&& ~~~6144#64) from u_andNot v 6144#64)
  have Q4 := fun v : BitVec 64 => (show bits .andNot .u64 (u v) 131072 = u (v &&& ~~~131072#64) from u_andNot v 131072#64)
  have E : Hid (hV (upd (upd (upd h 34 (((putB (h 34) 8#64 (!(h 34 &&& 128#64 == 0#64)) ||| 128#64) &&& ~~~6144#64) &&& ~~~131072#64)) 0 (h 42)) 65 0#64) q false = hV (mrH h) (mrP h) false) := Lib.hid (by unfold mrH mrP mrS; rw [hq, if_neg h3, wmp_zero]; rfl)
  clear hq h3
  go_enter Try.func15, Try.ntmps15
  go_wp2_with (first | ((with_reducible apply hrt_ld); (case ho => exact rfl); (case hgd => exact rfl); (case hx => exact rfl); (case hg => exact box1 _ _ _)) | ((with_reducible apply hrt_st); (case ho => exact rfl); (case hgd => exact rfl); (case hx => exact rfl); (case hy => exact rfl); (case hg => exact box2 _ _ _)))
  go_at_call 37; refine (M'.out _).mono ?_; rintro _ _ ⟨rfl, rfl⟩
  go_wp2_with (first | ((with_reducible apply hrt_ld); (case ho => exact rfl); (case hgd => exact rfl); (case hx => exact rfl); (case hg => exact box1 _ _ _)) | ((with_reducible apply hrt_st); (case ho => exact rfl); (case hgd => exact rfl); (case hx => exact rfl); (case hy => exact rfl); (case hg => exact box2 _ _ _)))
  go_at_call 32; refine (K1.out _ _ _).mono ?_; rintro _ _ ⟨rfl, rfl⟩
  go_wp2_with (first | ((with_reducible apply hrt_ld); (case ho => exact rfl); (case hgd => exact rfl); (case hx => exact rfl); (case hg => exact box1 _ _ _)) | ((with_reducible apply hrt_st); (case ho => exact rfl); (case hgd => exact rfl); (case hx => exact rfl); (case hy => exact rfl); (case hg => exact box2 _ _ _)))
  refine row_back hrtT rfl rfl rfl (hset_row (box2 _ _ _)) (hV_size ..) ⟨by rw [← E.out]; rfl, (HO.out _ _ _).row _ _ (by omega)⟩
theorem rmret_any (h : Nat → BitVec 64) (p : Int) (r : Bool) (w : World) : Calls Try.prog 15 #[.agg (hV h p r)] w fun e w' => e = .returned (.agg (hV (mrH h) (mrP h) false)) ∧ On w w' := by
  by_cases h3 : mpq (h 34) = 3
  · exact rmret_1 h p _ r rfl h3 w
  · exact rmret_0 h p _ r rfl h3 w
set_option maxRecDepth 100000 in
set_option maxHeartbeats 1000000 in
theorem sret_1 (h : Nat → BitVec 64) (p : Int) (r : Bool) (h8 : (h 34).getLsbD 8 = true) (w : World) : Calls Try.prog 16 #[.agg (hV h p r)] w fun e w' => e = .returned (.agg (hV (srH h) (srP h) false)) ∧ On w w' := by
  have hZ := fun w => hrt_zero w
  have HO : Hid (∀ h' p' r', On w ((w.alloc (.cells (hV h' p' r') 28)).alloc (.cells (hV zC 0 false) 28))) := Lib.hid (fun _ _ _ => ((On.refl w).alloc _).alloc _)
  have c0 := fun (h' : Nat → BitVec 64) (p' : Int) (r' : Bool) => blk_cell (box1 w (.cells (hV h' p' r') 28) (.cells (hV zC 0 false) 28)) 0 (hV_get h' p' r' 0 (by omega) (by omega) (by omega))
  have c34 := fun (h' : Nat → BitVec 64) (p' : Int) (r' : Bool) => blk_cell (box1 w (.cells (hV h' p' r') 28) (.cells (hV zC 0 false) 28)) 34 (hV_get h' p' r' 34 (by omega) (by omega) (by omega))
  have c48 := fun (h' : Nat → BitVec 64) (p' : Int) (r' : Bool) => blk_cell (box1 w (.cells (hV h' p' r') 28) (.cells (hV zC 0 false) 28)) 48 (hV_get h' p' r' 48 (by omega) (by omega) (by omega))
  have cP := fun (h' : Nat → BitVec 64) (p' : Int) (r' : Bool) => blk_cell (box1 w (.cells (hV h' p' r') 28) (.cells (hV zC 0 false) 28)) 1 (hV_priv h' p' r')
  have G0 := fun h p r => hV_get h p r 0 (by omega) (by omega) (by omega)
  have S0 := fun h p r v => hV_set h p r 0 v (by omega) (by omega)
  have f0 := fun (h' : Nat → BitVec 64) (p' : Int) (r' : Bool) => blk_free (box1 w (.cells (hV h' p' r') 28) (.cells (hV zC 0 false) 28)) 0
  have U0 := fun h v => upd_self h 0 v
  have SP := fun h p r v => hV_setp h p r v
  have GP := fun h p r => hV_priv h p r
  have f1 := fun (h' : Nat → BitVec 64) (p' : Int) (r' : Bool) => blk_free (box1 w (.cells (hV h' p' r') 28) (.cells (hV zC 0 false) 28)) 1
  have G34 := fun h p r => hV_get h p r 34 (by omega) (by omega) (by omega)
  have S34 := fun h p r v => hV_set h p r 34 v (by omega) (by omega)
  have f34 := fun (h' : Nat → BitVec 64) (p' : Int) (r' : Bool) => blk_free (box1 w (.cells (hV h' p' r') 28) (.cells (hV zC 0 false) 28)) 34
  have U34 := fun h v => upd_self h 34 v
  have N0_34 := fun h v => upd_ne h (i := 0) (j := 34) v (by omega)
  have N0_48 := fun h v => upd_ne h (i := 0) (j := 48) v (by omega)
  have N34_0 := fun h v => upd_ne h (i := 34) (j := 0) v (by omega)
  have N34_48 := fun h v => upd_ne h (i := 34) (j := 48) v (by omega)
  have T : (bits .and .u64 (u (h 34)) 256 == 0) = false := (bit8 _).trans (by rw [h8]; rfl)
  have T2 : ¬ bits .and .u64 (u (h 34)) 256 = 0 := by simpa using T
  have T3 : (bits .and .u64 (u (h 34)) 256 != 0) = true := by unfold bne; rw [T]; rfl
  have K1 : Hid (∀ (v : BitVec 64) w, Calls Try.prog 34 #[.int .u64 (u v), .int .u64 2, .int .u64 32] w fun e w' => e = .returned (.int .u64 (u (movB v 2#64 32#64))) ∧ w = w') := Lib.hid (fun v w => mov_any v 2#64 32#64 w)
  have K2 : Hid (∀ (v : BitVec 64) on w, Calls Try.prog 35 #[.int .u64 (u v), .int .u64 32, .bool on] w fun e w' => e = .returned (.int .u64 (u (putB v 32#64 on))) ∧ w = w') := Lib.hid (fun v on w => putb_any v 32#64 on w)
  have K4 : Hid (∀ (v : BitVec 64) on w, Calls Try.prog 35 #[.int .u64 (u v), .int .u64 131328, .bool on] w fun e w' => e = .returned (.int .u64 (u (putB v 131328#64 on))) ∧ w = w') := Lib.hid (fun v on w => putb_any v 131328#64 on w)
  have E : Hid (hV (upd (upd (upd (upd (upd h 34 (movB (h 34) 2#64 32#64)) 34 (putB (movB (h 34) 2#64 32#64) 32#64 true)) 34 (putB (putB (movB (h 34) 2#64 32#64) 32#64 true) 131328#64 false)) 0 (h 48)) 65 0#64) 1 false = hV (srH h) (srP h) false) := Lib.hid (by unfold srH srP; rw [h8, upd_upd, upd_upd]; rfl)
  clear h8
  go_enter Try.func16, Try.ntmps16
  go_wp2_with (first | ((with_reducible apply hrt_ld); (case ho => exact rfl); (case hgd => exact rfl); (case hx => exact rfl); (case hg => exact box1 _ _ _)) | ((with_reducible apply hrt_st); (case ho => exact rfl); (case hgd => exact rfl); (case hx => exact rfl); (case hy => exact rfl); (case hg => exact box2 _ _ _)))
  go_at_call 34; refine (K1.out _ _).mono ?_; rintro _ _ ⟨rfl, rfl⟩
  go_wp2_with (first | ((with_reducible apply hrt_ld); (case ho => exact rfl); (case hgd => exact rfl); (case hx => exact rfl); (case hg => exact box1 _ _ _)) | ((with_reducible apply hrt_st); (case ho => exact rfl); (case hgd => exact rfl); (case hx => exact rfl); (case hy => exact rfl); (case hg => exact box2 _ _ _)))
  go_at_call 35; refine (K2.out _ _ _).mono ?_; rintro _ _ ⟨rfl, rfl⟩
  go_wp2_with (first | ((with_reducible apply hrt_ld); (case ho => exact rfl); (case hgd => exact rfl); (case hx => exact rfl); (case hg => exact box1 _ _ _)) | ((with_reducible apply hrt_st); (case ho => exact rfl); (case hgd => exact rfl); (case hx => exact rfl); (case hy => exact rfl); (case hg => exact box2 _ _ _)))
  go_at_call 35; refine (K4.out _ _ _).mono ?_; rintro _ _ ⟨rfl, rfl⟩
  go_wp2_with (first | ((with_reducible apply hrt_ld); (case ho => exact rfl); (case hgd => exact rfl); (case hx => exact rfl); (case hg => exact box1 _ _ _)) | ((with_reducible apply hrt_st); (case ho => exact rfl); (case hgd => exact rfl); (case hx => exact rfl); (case hy => exact rfl); (case hg => exact box2 _ _ _)))
  go_at_call 29; refine (rel_any _ _ _ _).mono ?_; rintro _ w1 ⟨rfl, hb⟩
  have hr := hb.keep (box2 _ _ _)
  have ho := Lib.hid ((HO.out _ _ _).trans hb)
  clear hb
  go_wp2_with (first | ((with_reducible apply hrt_st); (case ho => exact rfl); (case hgd => exact rfl); (case hx => exact rfl); (case hy => exact rfl); (case hg => exact hr)))
  refine row_back hrtT rfl rfl rfl (hset_row hr) (hV_size ..) ⟨by rw [← E.out], ho.out.row _ _ (by omega)⟩
set_option maxRecDepth 100000 in
set_option maxHeartbeats 1000000 in
theorem sret_0 (h : Nat → BitVec 64) (p : Int) (r : Bool) (h8 : (h 34).getLsbD 8 = false) (w : World) : Calls Try.prog 16 #[.agg (hV h p r)] w fun e w' => e = .returned (.agg (hV (srH h) (srP h) false)) ∧ On w w' := by
  have hZ := fun w => hrt_zero w
  have HO : Hid (∀ h' p' r', On w ((w.alloc (.cells (hV h' p' r') 28)).alloc (.cells (hV zC 0 false) 28))) := Lib.hid (fun _ _ _ => ((On.refl w).alloc _).alloc _)
  have c0 := fun (h' : Nat → BitVec 64) (p' : Int) (r' : Bool) => blk_cell (box1 w (.cells (hV h' p' r') 28) (.cells (hV zC 0 false) 28)) 0 (hV_get h' p' r' 0 (by omega) (by omega) (by omega))
  have c34 := fun (h' : Nat → BitVec 64) (p' : Int) (r' : Bool) => blk_cell (box1 w (.cells (hV h' p' r') 28) (.cells (hV zC 0 false) 28)) 34 (hV_get h' p' r' 34 (by omega) (by omega) (by omega))
  have c48 := fun (h' : Nat → BitVec 64) (p' : Int) (r' : Bool) => blk_cell (box1 w (.cells (hV h' p' r') 28) (.cells (hV zC 0 false) 28)) 48 (hV_get h' p' r' 48 (by omega) (by omega) (by omega))
  have cP := fun (h' : Nat → BitVec 64) (p' : Int) (r' : Bool) => blk_cell (box1 w (.cells (hV h' p' r') 28) (.cells (hV zC 0 false) 28)) 1 (hV_priv h' p' r')
  have G0 := fun h p r => hV_get h p r 0 (by omega) (by omega) (by omega)
  have S0 := fun h p r v => hV_set h p r 0 v (by omega) (by omega)
  have f0 := fun (h' : Nat → BitVec 64) (p' : Int) (r' : Bool) => blk_free (box1 w (.cells (hV h' p' r') 28) (.cells (hV zC 0 false) 28)) 0
  have U0 := fun h v => upd_self h 0 v
  have SP := fun h p r v => hV_setp h p r v
  have GP := fun h p r => hV_priv h p r
  have f1 := fun (h' : Nat → BitVec 64) (p' : Int) (r' : Bool) => blk_free (box1 w (.cells (hV h' p' r') 28) (.cells (hV zC 0 false) 28)) 1
  have G34 := fun h p r => hV_get h p r 34 (by omega) (by omega) (by omega)
  have S34 := fun h p r v => hV_set h p r 34 v (by omega) (by omega)
  have f34 := fun (h' : Nat → BitVec 64) (p' : Int) (r' : Bool) => blk_free (box1 w (.cells (hV h' p' r') 28) (.cells (hV zC 0 false) 28)) 34
  have U34 := fun h v => upd_self h 34 v
  have N0_34 := fun h v => upd_ne h (i := 0) (j := 34) v (by omega)
  have N0_48 := fun h v => upd_ne h (i := 0) (j := 48) v (by omega)
  have N34_0 := fun h v => upd_ne h (i := 34) (j := 0) v (by omega)
  have N34_48 := fun h v => upd_ne h (i := 34) (j := 48) v (by omega)
  have T : (bits .and .u64 (u (h 34)) 256 == 0) = true := (bit8 _).trans (by rw [h8]; rfl)
  have T2 : bits .and .u64 (u (h 34)) 256 = 0 := by simpa using T
  have T3 : (bits .and .u64 (u (h 34)) 256 != 0) = false := by unfold bne; rw [T]; rfl
  have K1 : Hid (∀ (v : BitVec 64) w, Calls Try.prog 34 #[.int .u64 (u v), .int .u64 2, .int .u64 32] w fun e w' => e = .returned (.int .u64 (u (movB v 2#64 32#64))) ∧ w = w') := Lib.hid (fun v w => mov_any v 2#64 32#64 w)
  have K2 : Hid (∀ (v : BitVec 64) on w, Calls Try.prog 35 #[.int .u64 (u v), .int .u64 32, .bool on] w fun e w' => e = .returned (.int .u64 (u (putB v 32#64 on))) ∧ w = w') := Lib.hid (fun v on w => putb_any v 32#64 on w)
  have K4 : Hid (∀ (v : BitVec 64) on w, Calls Try.prog 35 #[.int .u64 (u v), .int .u64 131328, .bool on] w fun e w' => e = .returned (.int .u64 (u (putB v 131328#64 on))) ∧ w = w') := Lib.hid (fun v on w => putb_any v 131328#64 on w)
  have E : Hid (hV (upd (upd (upd (upd (upd h 34 (movB (h 34) 2#64 32#64)) 34 (putB (movB (h 34) 2#64 32#64) 32#64 true)) 34 (putB (putB (movB (h 34) 2#64 32#64) 32#64 true) 131328#64 false)) 0 (h 48)) 65 0#64) 0 false = hV (srH h) (srP h) false) := Lib.hid (by unfold srH srP; rw [h8, upd_upd, upd_upd]; rfl)
  clear h8
  go_enter Try.func16, Try.ntmps16
  go_wp2_with (first | ((with_reducible apply hrt_ld); (case ho => exact rfl); (case hgd => exact rfl); (case hx => exact rfl); (case hg => exact box1 _ _ _)) | ((with_reducible apply hrt_st); (case ho => exact rfl); (case hgd => exact rfl); (case hx => exact rfl); (case hy => exact rfl); (case hg => exact box2 _ _ _)))
  go_at_call 34; refine (K1.out _ _).mono ?_; rintro _ _ ⟨rfl, rfl⟩
  go_wp2_with (first | ((with_reducible apply hrt_ld); (case ho => exact rfl); (case hgd => exact rfl); (case hx => exact rfl); (case hg => exact box1 _ _ _)) | ((with_reducible apply hrt_st); (case ho => exact rfl); (case hgd => exact rfl); (case hx => exact rfl); (case hy => exact rfl); (case hg => exact box2 _ _ _)))
  go_at_call 35; refine (K2.out _ _ _).mono ?_; rintro _ _ ⟨rfl, rfl⟩
  go_wp2_with (first | ((with_reducible apply hrt_ld); (case ho => exact rfl); (case hgd => exact rfl); (case hx => exact rfl); (case hg => exact box1 _ _ _)) | ((with_reducible apply hrt_st); (case ho => exact rfl); (case hgd => exact rfl); (case hx => exact rfl); (case hy => exact rfl); (case hg => exact box2 _ _ _)))
  go_at_call 35; refine (K4.out _ _ _).mono ?_; rintro _ _ ⟨rfl, rfl⟩
  go_wp2_with (first | ((with_reducible apply hrt_ld); (case ho => exact rfl); (case hgd => exact rfl); (case hx => exact rfl); (case hg => exact box1 _ _ _)) | ((with_reducible apply hrt_st); (case ho => exact rfl); (case hgd => exact rfl); (case hx => exact rfl); (case hy => exact rfl); (case hg => exact box2 _ _ _)))
  go_at_call 29; refine (rel_any _ _ _ _).mono ?_; rintro _ w1 ⟨rfl, hb⟩
  have hr := hb.keep (box2 _ _ _)
  have ho := Lib.hid ((HO.out _ _ _).trans hb)
  clear hb
  go_wp2_with (first | ((with_reducible apply hrt_st); (case ho => exact rfl); (case hgd => exact rfl); (case hx => exact rfl); (case hy => exact rfl); (case hg => exact hr)))
  refine row_back hrtT rfl rfl rfl (hset_row hr) (hV_size ..) ⟨by rw [← E.out], ho.out.row _ _ (by omega)⟩
theorem sret_any (h : Nat → BitVec 64) (p : Int) (r : Bool) (w : World) : Calls Try.prog 16 #[.agg (hV h p r)] w fun e w' => e = .returned (.agg (hV (srH h) (srP h) false)) ∧ On w w' := by
  cases h8 : (h 34).getLsbD 8
  · exact sret_0 h p r h8 w
  · exact sret_1 h p r h8 w
set_option maxRecDepth 100000 in
set_option maxHeartbeats 1000000 in
theorem rsret_1 (h : Nat → BitVec 64) (p : Int) (r : Bool) (h8 : (h 34).getLsbD 8 = true) (w : World) : Calls Try.prog 17 #[.agg (hV h p r)] w fun e w' => e = .returned (.agg (hV (srH h) (srP h) false)) ∧ On w w' := by
  have hZ := fun w => hrt_zero w
  have HO : Hid (∀ h' p' r', On w ((w.alloc (.cells (hV h' p' r') 28)).alloc (.cells (hV zC 0 false) 28))) := Lib.hid (fun _ _ _ => ((On.refl w).alloc _).alloc _)
  have c0 := fun (h' : Nat → BitVec 64) (p' : Int) (r' : Bool) => blk_cell (box1 w (.cells (hV h' p' r') 28) (.cells (hV zC 0 false) 28)) 0 (hV_get h' p' r' 0 (by omega) (by omega) (by omega))
  have c34 := fun (h' : Nat → BitVec 64) (p' : Int) (r' : Bool) => blk_cell (box1 w (.cells (hV h' p' r') 28) (.cells (hV zC 0 false) 28)) 34 (hV_get h' p' r' 34 (by omega) (by omega) (by omega))
  have c48 := fun (h' : Nat → BitVec 64) (p' : Int) (r' : Bool) => blk_cell (box1 w (.cells (hV h' p' r') 28) (.cells (hV zC 0 false) 28)) 48 (hV_get h' p' r' 48 (by omega) (by omega) (by omega))
  have cP := fun (h' : Nat → BitVec 64) (p' : Int) (r' : Bool) => blk_cell (box1 w (.cells (hV h' p' r') 28) (.cells (hV zC 0 false) 28)) 1 (hV_priv h' p' r')
  have G0 := fun h p r => hV_get h p r 0 (by omega) (by omega) (by omega)
  have S0 := fun h p r v => hV_set h p r 0 v (by omega) (by omega)
  have f0 := fun (h' : Nat → BitVec 64) (p' : Int) (r' : Bool) => blk_free (box1 w (.cells (hV h' p' r') 28) (.cells (hV zC 0 false) 28)) 0
  have U0 := fun h v => upd_self h 0 v
  have SP := fun h p r v => hV_setp h p r v
  have GP := fun h p r => hV_priv h p r
  have f1 := fun (h' : Nat → BitVec 64) (p' : Int) (r' : Bool) => blk_free (box1 w (.cells (hV h' p' r') 28) (.cells (hV zC 0 false) 28)) 1
  have G34 := fun h p r => hV_get h p r 34 (by omega) (by omega) (by omega)
  have S34 := fun h p r v => hV_set h p r 34 v (by omega) (by omega)
  have f34 := fun (h' : Nat → BitVec 64) (p' : Int) (r' : Bool) => blk_free (box1 w (.cells (hV h' p' r') 28) (.cells (hV zC 0 false) 28)) 34
  have U34 := fun h v => upd_self h 34 v
  have SR := fun h p r v => hV_setr h p r v
  have GR := fun h p r => hV_res h p r
  have f64 := fun (h' : Nat → BitVec 64) (p' : Int) (r' : Bool) => blk_free (box1 w (.cells (hV h' p' r') 28) (.cells (hV zC 0 false) 28)) 64
  have G65 := fun h p r => hV_get h p r 65 (by omega) (by omega) (by omega)
  have S65 := fun h p r v => hV_set h p r 65 v (by omega) (by omega)
  have f65 := fun (h' : Nat → BitVec 64) (p' : Int) (r' : Bool) => blk_free (box1 w (.cells (hV h' p' r') 28) (.cells (hV zC 0 false) 28)) 65
  have U65 := fun h v => upd_self h 65 v
  have N0_34 := fun h v => upd_ne h (i := 0) (j := 34) v (by omega)
  have N0_48 := fun h v => upd_ne h (i := 0) (j := 48) v (by omega)
  have N34_0 := fun h v => upd_ne h (i := 34) (j := 0) v (by omega)
  have N34_48 := fun h v => upd_ne h (i := 34) (j := 48) v (by omega)
  have N65_0 := fun h v => upd_ne h (i := 65) (j := 0) v (by omega)
  have N65_34 := fun h v => upd_ne h (i := 65) (j := 34) v (by omega)
  have N65_48 := fun h v => upd_ne h (i := 65) (j := 48) v (by omega)
  have Z : ∀ (h : Nat → BitVec 64) (p : Int) (r : Bool), (hV h p r).setIfInBounds 65 (.int .u64 0) = hV (upd h 65 0#64) p r := fun h p r => hV_set h p r 65 0#64 (by omega) (by omega)
  have T : (bits .and .u64 (u (h 34)) 256 == 0) = false := (bit8 _).trans (by rw [h8]; rfl)
  have T2 : ¬ bits .and .u64 (u (h 34)) 256 = 0 := by simpa using T
  have T3 : (bits .and .u64 (u (h 34)) 256 != 0) = true := by unfold bne; rw [T]; rfl
  have K1 : Hid (∀ (v : BitVec 64) on w, Calls Try.prog 32 #[.int .u64 (u v), .int .u64 2, .bool on] w fun e w' => e = .returned (.int .u64 (u (putB v 2#64 on))) ∧ w = w') := Lib.hid (fun v on w => rputb_any v 2#64 on w)
  have Q1 : (bits .and .u64 (u (h 34)) 32 != 0) = (!(h 34 &&& 32#64 == 0#64)) := by unfold bne; rw [show (32 : Int) = u 32#64 from rfl, u_and, show (0 : Int) = u 0#64 from rfl, u_beq]
  have Q2 := fun v : BitVec 64 => (show bits .or .u64 (u v) 32 = u (v ||| 32#64) from u_or v 32#64)
  have Q3 := fun v : BitVec 64 => (show bits .andNot .u64 (u v) 131328 = u (v &&& ~~~131328#64) from u_andNot v 131328#64)
  have E : Hid (hV (upd (upd (upd h 34 ((putB (h 34) 2#64 (!(h 34 &&& 32#64 == 0#64)) ||| 32#64) &&& ~~~131328#64)) 0 (h 48)) 65 0#64) 1 false = hV (srH h) (srP h) false) := Lib.hid (by unfold srH srP srS; rw [h8]; rfl)
  clear h8
  go_enter Try.func17, Try.ntmps17
  go_wp2_with (first | ((with_reducible apply hrt_ld); (case ho => exact rfl); (case hgd => exact rfl); (case hx => exact rfl); (case hg => exact box1 _ _ _)) | ((with_reducible apply hrt_st); (case ho => exact rfl); (case hgd => exact rfl); (case hx => exact rfl); (case hy => exact rfl); (case hg => exact box2 _ _ _)))
  go_at_call 32; refine (K1.out _ _ _).mono ?_; rintro _ _ ⟨rfl, rfl⟩
  go_wp2_with (first | ((with_reducible apply hrt_ld); (case ho => exact rfl); (case hgd => exact rfl); (case hx => exact rfl); (case hg => exact box1 _ _ _)) | ((with_reducible apply hrt_st); (case ho => exact rfl); (case hgd => exact rfl); (case hx => exact rfl); (case hy => exact rfl); (case hg => exact box2 _ _ _)))
  refine row_back hrtT rfl rfl rfl (hset_row (box2 _ _ _)) (hV_size ..) ⟨by rw [← E.out]; rfl, (HO.out _ _ _).row _ _ (by omega)⟩
set_option maxRecDepth 100000 in
set_option maxHeartbeats 1000000 in
theorem rsret_0 (h : Nat → BitVec 64) (p : Int) (r : Bool) (h8 : (h 34).getLsbD 8 = false) (w : World) : Calls Try.prog 17 #[.agg (hV h p r)] w fun e w' => e = .returned (.agg (hV (srH h) (srP h) false)) ∧ On w w' := by
  have hZ := fun w => hrt_zero w
  have HO : Hid (∀ h' p' r', On w ((w.alloc (.cells (hV h' p' r') 28)).alloc (.cells (hV zC 0 false) 28))) := Lib.hid (fun _ _ _ => ((On.refl w).alloc _).alloc _)
  have c0 := fun (h' : Nat → BitVec 64) (p' : Int) (r' : Bool) => blk_cell (box1 w (.cells (hV h' p' r') 28) (.cells (hV zC 0 false) 28)) 0 (hV_get h' p' r' 0 (by omega) (by omega) (by omega))
  have c34 := fun (h' : Nat → BitVec 64) (p' : Int) (r' : Bool) => blk_cell (box1 w (.cells (hV h' p' r') 28) (.cells (hV zC 0 false) 28)) 34 (hV_get h' p' r' 34 (by omega) (by omega) (by omega))
  have c48 := fun (h' : Nat → BitVec 64) (p' : Int) (r' : Bool) => blk_cell (box1 w (.cells (hV h' p' r') 28) (.cells (hV zC 0 false) 28)) 48 (hV_get h' p' r' 48 (by omega) (by omega) (by omega))
  have cP := fun (h' : Nat → BitVec 64) (p' : Int) (r' : Bool) => blk_cell (box1 w (.cells (hV h' p' r') 28) (.cells (hV zC 0 false) 28)) 1 (hV_priv h' p' r')
  have G0 := fun h p r => hV_get h p r 0 (by omega) (by omega) (by omega)
  have S0 := fun h p r v => hV_set h p r 0 v (by omega) (by omega)
  have f0 := fun (h' : Nat → BitVec 64) (p' : Int) (r' : Bool) => blk_free (box1 w (.cells (hV h' p' r') 28) (.cells (hV zC 0 false) 28)) 0
  have U0 := fun h v => upd_self h 0 v
  have SP := fun h p r v => hV_setp h p r v
  have GP := fun h p r => hV_priv h p r
  have f1 := fun (h' : Nat → BitVec 64) (p' : Int) (r' : Bool) => blk_free (box1 w (.cells (hV h' p' r') 28) (.cells (hV zC 0 false) 28)) 1
  have G34 := fun h p r => hV_get h p r 34 (by omega) (by omega) (by omega)
  have S34 := fun h p r v => hV_set h p r 34 v (by omega) (by omega)
  have f34 := fun (h' : Nat → BitVec 64) (p' : Int) (r' : Bool) => blk_free (box1 w (.cells (hV h' p' r') 28) (.cells (hV zC 0 false) 28)) 34
  have U34 := fun h v => upd_self h 34 v
  have SR := fun h p r v => hV_setr h p r v
  have GR := fun h p r => hV_res h p r
  have f64 := fun (h' : Nat → BitVec 64) (p' : Int) (r' : Bool) => blk_free (box1 w (.cells (hV h' p' r') 28) (.cells (hV zC 0 false) 28)) 64
  have G65 := fun h p r => hV_get h p r 65 (by omega) (by omega) (by omega)
  have S65 := fun h p r v => hV_set h p r 65 v (by omega) (by omega)
  have f65 := fun (h' : Nat → BitVec 64) (p' : Int) (r' : Bool) => blk_free (box1 w (.cells (hV h' p' r') 28) (.cells (hV zC 0 false) 28)) 65
  have U65 := fun h v => upd_self h 65 v
  have N0_34 := fun h v => upd_ne h (i := 0) (j := 34) v (by omega)
  have N0_48 := fun h v => upd_ne h (i := 0) (j := 48) v (by omega)
  have N34_0 := fun h v => upd_ne h (i := 34) (j := 0) v (by omega)
  have N34_48 := fun h v => upd_ne h (i := 34) (j := 48) v (by omega)
  have N65_0 := fun h v => upd_ne h (i := 65) (j := 0) v (by omega)
  have N65_34 := fun h v => upd_ne h (i := 65) (j := 34) v (by omega)
  have N65_48 := fun h v => upd_ne h (i := 65) (j := 48) v (by omega)
  have Z : ∀ (h : Nat → BitVec 64) (p : Int) (r : Bool), (hV h p r).setIfInBounds 65 (.int .u64 0) = hV (upd h 65 0#64) p r := fun h p r => hV_set h p r 65 0#64 (by omega) (by omega)
  have T : (bits .and .u64 (u (h 34)) 256 == 0) = true := (bit8 _).trans (by rw [h8]; rfl)
  have T2 : bits .and .u64 (u (h 34)) 256 = 0 := by simpa using T
  have T3 : (bits .and .u64 (u (h 34)) 256 != 0) = false := by unfold bne; rw [T]; rfl
  have K1 : Hid (∀ (v : BitVec 64) on w, Calls Try.prog 32 #[.int .u64 (u v), .int .u64 2, .bool on] w fun e w' => e = .returned (.int .u64 (u (putB v 2#64 on))) ∧ w = w') := Lib.hid (fun v on w => rputb_any v 2#64 on w)
  have Q1 : (bits .and .u64 (u (h 34)) 32 != 0) = (!(h 34 &&& 32#64 == 0#64)) := by unfold bne; rw [show (32 : Int) = u 32#64 from rfl, u_and, show (0 : Int) = u 0#64 from rfl, u_beq]
  have Q2 := fun v : BitVec 64 => (show bits .or .u64 (u v) 32 = u (v ||| 32#64) from u_or v 32#64)
  have Q3 := fun v : BitVec 64 => (show bits .andNot .u64 (u v) 131328 = u (v &&& ~~~131328#64) from u_andNot v 131328#64)
  have E : Hid (hV (upd (upd (upd h 34 ((putB (h 34) 2#64 (!(h 34 &&& 32#64 == 0#64)) ||| 32#64) &&& ~~~131328#64)) 0 (h 48)) 65 0#64) 0 false = hV (srH h) (srP h) false) := Lib.hid (by unfold srH srP srS; rw [h8]; rfl)
  clear h8
  go_enter Try.func17, Try.ntmps17
  go_wp2_with (first | ((with_reducible apply hrt_ld); (case ho => exact rfl); (case hgd => exact rfl); (case hx => exact rfl); (case hg => exact box1 _ _ _)) | ((with_reducible apply hrt_st); (case ho => exact rfl); (case hgd => exact rfl); (case hx => exact rfl); (case hy => exact rfl); (case hg => exact box2 _ _ _)))
  go_at_call 32; refine (K1.out _ _ _).mono ?_; rintro _ _ ⟨rfl, rfl⟩
  go_wp2_with (first | ((with_reducible apply hrt_ld); (case ho => exact rfl); (case hgd => exact rfl); (case hx => exact rfl); (case hg => exact box1 _ _ _)) | ((with_reducible apply hrt_st); (case ho => exact rfl); (case hgd => exact rfl); (case hx => exact rfl); (case hy => exact rfl); (case hg => exact box2 _ _ _)))
  refine row_back hrtT rfl rfl rfl (hset_row (box2 _ _ _)) (hV_size ..) ⟨by rw [← E.out]; rfl, (HO.out _ _ _).row _ _ (by omega)⟩
theorem rsret_any (h : Nat → BitVec 64) (p : Int) (r : Bool) (w : World) : Calls Try.prog 17 #[.agg (hV h p r)] w fun e w' => e = .returned (.agg (hV (srH h) (srP h) false)) ∧ On w w' := by
  cases h8 : (h 34).getLsbD 8
  · exact rsret_0 h p r h8 w
  · exact rsret_1 h p r h8 w
end Go.Proofs.Ytleolldgpoeabaa
