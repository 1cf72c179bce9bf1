/- What the calls of package amo that are about a hart's reservation come to, and their reference's. Conditions: named at each. -/
import Derived.Test.YthafghechghbpaaAmoQ
import Derived.Test.YthafghechghbpaaHart
namespace Go.Proofs.Ythafghechghbpaa
open Go.RowKit

/-- a hart's reservation -/
def isRes (hs : Array Value) (r : Bool) (g : BitVec 64) : Prop := hs[64]? = some (.bool r) ∧ hs[65]? = some (.int .u64 (u g))
def setRes (hs : Array Value) (r : Bool) (g : BitVec 64) : Array Value := (hs.setIfInBounds 64 (.bool r)).setIfInBounds 65 (.int .u64 (u g))
theorem setRes_fits {hs : Array Value} (h : Fits hartLeaves hs.toList) (r : Bool) (g : BitVec 64) : Fits hartLeaves (setRes hs r g).toList :=
  fits_set (fits_set h 64 .bool _ rfl ⟨r, rfl⟩) 65 (.int .u64) _ rfl ⟨_, rfl, u_wf g⟩
theorem setRes_is {hs : Array Value} (h : hs.size = 66) (r : Bool) (g : BitVec 64) : isRes (setRes hs r g) r g := by
  unfold isRes setRes
  constructor
  · rw [Array.getElem?_setIfInBounds_ne (by omega), Array.getElem?_setIfInBounds_self]; simp [h]
  · rw [Array.getElem?_setIfInBounds_self]; simp [h]
theorem isRes_of {hs : Array Value} (h : Fits hartLeaves hs.toList) : ∃ r g, isRes hs r g := by
  obtain ⟨v, h1, r, rfl⟩ := h.get 64 .bool rfl
  obtain ⟨v, h2, a, rfl, hw⟩ := h.get 65 (.int .u64) rfl
  obtain ⟨g, rfl⟩ := u_of hw
  exact ⟨r, g, by simpa using h1, by simpa using h2⟩
theorem holds_any (hs : Array Value) (r : Bool) (g : BitVec 64) (h : isRes hs r g) (a : BitVec 64) (w : World) :
    Calls Try.prog 18 #[.agg hs, .int .u64 (u a)] w fun e w' => e = .returned (.bool (r && (g == a - a % 8#64))) ∧ On w w' := by
  obtain ⟨h64, h65⟩ := h
  have H : Hid ((u g == u (a - a % 8#64)) = (g == a - a % 8#64)) := Lib.hid (u_beq _ _)
  go_enter Try.func18, Try.ntmps18
  go_wp2_with fail
  have c64 : (w.alloc (.cells hs 35)).cell? ⟨w.heap.size, 64, none⟩ = some (.bool r) := on_new (On.refl _) 64 h64
  have c65 : (w.alloc (.cells hs 35)).cell? ⟨w.heap.size, 65, none⟩ = some (.int .u64 (u g)) := on_new (On.refl _) 65 h65
  have HB : Hid (On w (w.alloc (.cells hs 35))) := Lib.hid ((On.refl w).alloc _)
  generalize w.alloc (.cells hs 35) = WR at *
  cases r
  · go_quiet (fail)
    go_wp2
    go_ret
    exact ⟨rfl, HB.out.drewN _⟩
  · go_quiet ((go_at_call 16; exact Calls.quiet_of_same ((granule_any _ _).mono (fun _ _ h => ⟨h.1, h.2.symm⟩))))
    go_wp2
    go_ret
    exact ⟨by rw [← H.out]; rfl, HB.out.drewN _⟩
theorem rholds_any (hs : Array Value) (r : Bool) (g : BitVec 64) (h : isRes hs r g) (a : BitVec 64) (w : World) :
    Calls Try.prog 19 #[.agg hs, .int .u64 (u a)] w fun e w' => e = .returned (.bool (r && (g == a - a % 8#64))) ∧ On w w' := by
  obtain ⟨h64, h65⟩ := h
  have H : Hid ((u g == u (a - a % 8#64)) = (g == a - a % 8#64)) := Lib.hid (u_beq _ _)
  go_enter Try.func19, Try.ntmps19
  go_wp2_with fail
  have c64 : (w.alloc (.cells hs 35)).cell? ⟨w.heap.size, 64, none⟩ = some (.bool r) := on_new (On.refl _) 64 h64
  have c65 : (w.alloc (.cells hs 35)).cell? ⟨w.heap.size, 65, none⟩ = some (.int .u64 (u g)) := on_new (On.refl _) 65 h65
  have HB : Hid (On w (w.alloc (.cells hs 35))) := Lib.hid ((On.refl w).alloc _)
  generalize w.alloc (.cells hs 35) = WR at *
  cases r
  · go_quiet (fail)
    go_wp2
    go_ret
    exact ⟨rfl, HB.out.drewN _⟩
  · go_quiet ((go_at_call 17; exact Calls.quiet_of_same ((rgranule_any _ _).mono (fun _ _ h => ⟨h.1, h.2.symm⟩))))
    go_wp2
    go_ret
    exact ⟨by rw [← H.out]; rfl, HB.out.drewN _⟩
theorem hold_any (hs : Array Value) (hF : Fits hartLeaves hs.toList) (a : BitVec 64) (w : World) :
    Calls Try.prog 14 #[.agg hs, .int .u64 (u a)] w fun e w' => e = .returned (.agg (setRes hs true (a - a % 8#64))) ∧ On w w' := by
  have hz := hart_len hF
  have ho2 := fits_one (setRes_fits hF true (a - a % 8#64))
  have hz2 := hart_len (setRes_fits hF true (a - a % 8#64))
  have hZ := fun w => hart_zero w
  have hZs : hartZero.size = 66 := rfl
  clear hF
  generalize hartZero = z at *
  go_enter Try.func14, Try.ntmps14
  go_wp2_with fail
  refine (granule_any _ _).mono ?_
  rintro e w' ⟨rfl, rfl⟩
  have HG : ((w.alloc (.cells hs 35)).alloc (.cells z 35)).heap[w.heap.size]? = some (.cells hs 35 (0, 0)) := ((On.refl _).alloc _).keep (heap_alloc_new _ _)
  have HG2 : ((w.alloc (.cells hs 35)).alloc (.cells z 35)).heap[w.heap.size + 1]? = some (.cells z 35 (0, 0)) := by
    have := heap_alloc_new (w.alloc (.cells hs 35)) (.cells z 35)
    rw [alloc_size] at this
    exact this
  have HB : Hid (On w ((w.alloc (.cells hs 35)).alloc (.cells z 35))) := Lib.hid (((On.refl w).alloc _).alloc _)
  generalize ((w.alloc (.cells hs 35)).alloc (.cells z 35)) = W2 at *
  have c64 : ∃ v, W2.cell? ⟨w.heap.size, 64, none⟩ = some v := ⟨hs[64], blk_cell HG 64 (by simp)⟩
  have c65 : ∃ v, W2.cell? ⟨w.heap.size, 65, none⟩ = some v := ⟨hs[65], blk_cell HG 65 (by simp)⟩
  have f64 : W2.frozen? ⟨w.heap.size, 64, none⟩ = false := blk_free HG 64
  have f65 : W2.frozen? ⟨w.heap.size, 65, none⟩ = false := blk_free HG 65
  obtain ⟨v64, c64⟩ := c64
  obtain ⟨v65, c65⟩ := c65
  have G3 := blk_put (blk_put HG 64 (.bool true)) 65 (.int .u64 (u ((a - a % 8#64))))
  have HB3 : Hid (On w ((W2.setCell ⟨w.heap.size, 64, none⟩ (.bool true)).setCell ⟨w.heap.size, 65, none⟩ (.int .u64 (u ((a - a % 8#64)))))) := Lib.hid ((HB.out.set _ _ (by simp)).set _ _ (by simp))
  have G4 := blk_other (i := 65) (v := .int .u64 (u ((a - a % 8#64)))) (blk_other (i := 64) (v := .bool true) HG2 (show w.heap.size + 1 ≠ w.heap.size by omega)) (show w.heap.size + 1 ≠ w.heap.size by omega)
  unfold setRes at hz2 ho2
  generalize hh : (hs.setIfInBounds 64 (.bool true)).setIfInBounds 65 (.int .u64 (u ((a - a % 8#64)))) = h2 at *
  have Hh := Lib.hid hh
  clear hh hz HG HG2
  go_wp2_with (first | (apply hart_ld; (case hgd => exact rfl); (case ho => exact rfl); (case hx => exact rfl); (case hg => exact G3); (case hs => exact hz2)) | (apply hart_st; (case hgd => exact rfl); (case ho => exact rfl); (case hx => exact rfl); (case hy => exact rfl); (case hg => exact G4); (case hold => exact hZs); (case hs => exact hz2); (case h1 => exact ho2)))
  refine hart_back rfl rfl rfl G4 hz2 ⟨by rw [← Hh.out]; rfl, HB3.out.row _ _ (by omega)⟩
theorem rhold_any (hs : Array Value) (hF : Fits hartLeaves hs.toList) (a : BitVec 64) (w : World) :
    Calls Try.prog 20 #[.agg hs, .int .u64 (u a)] w fun e w' => e = .returned (.agg (setRes hs true (a - a % 8#64))) ∧ On w w' := by
  have hz := hart_len hF
  have ho2 := fits_one (setRes_fits hF true (a - a % 8#64))
  have hz2 := hart_len (setRes_fits hF true (a - a % 8#64))
  have hZ := fun w => hart_zero w
  have hZs : hartZero.size = 66 := rfl
  clear hF
  generalize hartZero = z at *
  go_enter Try.func20, Try.ntmps20
  go_wp2_with fail
  refine (rgranule_any _ _).mono ?_
  rintro e w' ⟨rfl, rfl⟩
  have HG : ((w.alloc (.cells hs 35)).alloc (.cells z 35)).heap[w.heap.size]? = some (.cells hs 35 (0, 0)) := ((On.refl _).alloc _).keep (heap_alloc_new _ _)
  have HG2 : ((w.alloc (.cells hs 35)).alloc (.cells z 35)).heap[w.heap.size + 1]? = some (.cells z 35 (0, 0)) := by
    have := heap_alloc_new (w.alloc (.cells hs 35)) (.cells z 35)
    rw [alloc_size] at this
    exact this
  have HB : Hid (On w ((w.alloc (.cells hs 35)).alloc (.cells z 35))) := Lib.hid (((On.refl w).alloc _).alloc _)
  generalize ((w.alloc (.cells hs 35)).alloc (.cells z 35)) = W2 at *
  have c64 : ∃ v, W2.cell? ⟨w.heap.size, 64, none⟩ = some v := ⟨hs[64], blk_cell HG 64 (by simp)⟩
  have c65 : ∃ v, W2.cell? ⟨w.heap.size, 65, none⟩ = some v := ⟨hs[65], blk_cell HG 65 (by simp)⟩
  have f64 : W2.frozen? ⟨w.heap.size, 64, none⟩ = false := blk_free HG 64
  have f65 : W2.frozen? ⟨w.heap.size, 65, none⟩ = false := blk_free HG 65
  obtain ⟨v64, c64⟩ := c64
  obtain ⟨v65, c65⟩ := c65
  have G3 := blk_put (blk_put HG 64 (.bool true)) 65 (.int .u64 (u ((a - a % 8#64))))
  have HB3 : Hid (On w ((W2.setCell ⟨w.heap.size, 64, none⟩ (.bool true)).setCell ⟨w.heap.size, 65, none⟩ (.int .u64 (u ((a - a % 8#64)))))) := Lib.hid ((HB.out.set _ _ (by simp)).set _ _ (by simp))
  have G4 := blk_other (i := 65) (v := .int .u64 (u ((a - a % 8#64)))) (blk_other (i := 64) (v := .bool true) HG2 (show w.heap.size + 1 ≠ w.heap.size by omega)) (show w.heap.size + 1 ≠ w.heap.size by omega)
  unfold setRes at hz2 ho2
  generalize hh : (hs.setIfInBounds 64 (.bool true)).setIfInBounds 65 (.int .u64 (u ((a - a % 8#64)))) = h2 at *
  have Hh := Lib.hid hh
  clear hh hz HG HG2
  go_wp2_with (first | (apply hart_ld; (case hgd => exact rfl); (case ho => exact rfl); (case hx => exact rfl); (case hg => exact G3); (case hs => exact hz2)) | (apply hart_st; (case hgd => exact rfl); (case ho => exact rfl); (case hx => exact rfl); (case hy => exact rfl); (case hg => exact G4); (case hold => exact hZs); (case hs => exact hz2); (case h1 => exact ho2)))
  refine hart_back rfl rfl rfl G4 hz2 ⟨by rw [← Hh.out]; rfl, HB3.out.row _ _ (by omega)⟩
theorem clear_any (hs : Array Value) (hF : Fits hartLeaves hs.toList) (w : World) :
    Calls Try.prog 15 #[.agg hs] w fun e w' => e = .returned (.agg (setRes hs false 0#64)) ∧ On w w' := by
  have hz := hart_len hF
  have ho2 : ((hs.setIfInBounds 64 (.bool false)).setIfInBounds 65 (.int .u64 0)).all (·.oneCell') = true := fits_one (setRes_fits hF false 0#64)
  have hz2 : ((hs.setIfInBounds 64 (.bool false)).setIfInBounds 65 (.int .u64 0)).size = 66 := hart_len (setRes_fits hF false 0#64)
  have hZ := fun w => hart_zero w
  have hZs : hartZero.size = 66 := rfl
  clear hF
  generalize hartZero = z at *
  go_enter Try.func15, Try.ntmps15
  go_wp2_with (apply stop_field; (case ho => exact rfl))
  have HG : ((w.alloc (.cells hs 35)).alloc (.cells z 35)).heap[w.heap.size]? = some (.cells hs 35 (0, 0)) := ((On.refl _).alloc _).keep (heap_alloc_new _ _)
  have HG2 : ((w.alloc (.cells hs 35)).alloc (.cells z 35)).heap[w.heap.size + 1]? = some (.cells z 35 (0, 0)) := by
    have := heap_alloc_new (w.alloc (.cells hs 35)) (.cells z 35)
    rw [alloc_size] at this
    exact this
  have HB : Hid (On w ((w.alloc (.cells hs 35)).alloc (.cells z 35))) := Lib.hid (((On.refl w).alloc _).alloc _)
  generalize ((w.alloc (.cells hs 35)).alloc (.cells z 35)) = W2 at *
  have c64 : ∃ v, W2.cell? ⟨w.heap.size, 64, none⟩ = some v := ⟨hs[64], blk_cell HG 64 (by simp)⟩
  have c65 : ∃ v, W2.cell? ⟨w.heap.size, 65, none⟩ = some v := ⟨hs[65], blk_cell HG 65 (by simp)⟩
  have f64 : W2.frozen? ⟨w.heap.size, 64, none⟩ = false := blk_free HG 64
  have f65 : W2.frozen? ⟨w.heap.size, 65, none⟩ = false := blk_free HG 65
  obtain ⟨v64, c64⟩ := c64
  obtain ⟨v65, c65⟩ := c65
  have G3 := blk_put (blk_put HG 64 (.bool false)) 65 (.int .u64 0)
  have HB3 : Hid (On w ((W2.setCell ⟨w.heap.size, 64, none⟩ (.bool false)).setCell ⟨w.heap.size, 65, none⟩ (.int .u64 0))) := Lib.hid ((HB.out.set _ _ (by simp)).set _ _ (by simp))
  have G4 := blk_other (i := 65) (v := .int .u64 0) (blk_other (i := 64) (v := .bool false) HG2 (show w.heap.size + 1 ≠ w.heap.size by omega)) (show w.heap.size + 1 ≠ w.heap.size by omega)
  have Hh : Hid ((hs.setIfInBounds 64 (.bool false)).setIfInBounds 65 (.int .u64 0) = setRes hs false 0#64) := Lib.hid rfl
  generalize (hs.setIfInBounds 64 (.bool false)).setIfInBounds 65 (.int .u64 0) = h2 at *
  clear hz HG HG2
  refine ⟨?_⟩
  go_wp2_with (first | (apply hart_ld; (case hgd => exact rfl); (case ho => exact rfl); (case hx => exact rfl); (case hg => exact G3); (case hs => exact hz2)) | (apply hart_st; (case hgd => exact rfl); (case ho => exact rfl); (case hx => exact rfl); (case hy => exact rfl); (case hg => exact G4); (case hold => exact hZs); (case hs => exact hz2); (case h1 => exact ho2)))
  refine hart_back rfl rfl rfl G4 hz2 ⟨by rw [← Hh.out], HB3.out.row _ _ (by omega)⟩
theorem rclear_any (hs : Array Value) (hF : Fits hartLeaves hs.toList) (w : World) :
    Calls Try.prog 21 #[.agg hs] w fun e w' => e = .returned (.agg (setRes hs false 0#64)) ∧ On w w' := by
  have hz := hart_len hF
  have ho2 : ((hs.setIfInBounds 64 (.bool false)).setIfInBounds 65 (.int .u64 0)).all (·.oneCell') = true := fits_one (setRes_fits hF false 0#64)
  have hz2 : ((hs.setIfInBounds 64 (.bool false)).setIfInBounds 65 (.int .u64 0)).size = 66 := hart_len (setRes_fits hF false 0#64)
  have hZ := fun w => hart_zero w
  have hZs : hartZero.size = 66 := rfl
  clear hF
  generalize hartZero = z at *
  go_enter Try.func21, Try.ntmps21
  go_wp2_with (apply stop_field; (case ho => exact rfl))
  have HG : ((w.alloc (.cells hs 35)).alloc (.cells z 35)).heap[w.heap.size]? = some (.cells hs 35 (0, 0)) := ((On.refl _).alloc _).keep (heap_alloc_new _ _)
  have HG2 : ((w.alloc (.cells hs 35)).alloc (.cells z 35)).heap[w.heap.size + 1]? = some (.cells z 35 (0, 0)) := by
    have := heap_alloc_new (w.alloc (.cells hs 35)) (.cells z 35)
    rw [alloc_size] at this
    exact this
  have HB : Hid (On w ((w.alloc (.cells hs 35)).alloc (.cells z 35))) := Lib.hid (((On.refl w).alloc _).alloc _)
  generalize ((w.alloc (.cells hs 35)).alloc (.cells z 35)) = W2 at *
  have c64 : ∃ v, W2.cell? ⟨w.heap.size, 64, none⟩ = some v := ⟨hs[64], blk_cell HG 64 (by simp)⟩
  have c65 : ∃ v, W2.cell? ⟨w.heap.size, 65, none⟩ = some v := ⟨hs[65], blk_cell HG 65 (by simp)⟩
  have f64 : W2.frozen? ⟨w.heap.size, 64, none⟩ = false := blk_free HG 64
  have f65 : W2.frozen? ⟨w.heap.size, 65, none⟩ = false := blk_free HG 65
  obtain ⟨v64, c64⟩ := c64
  obtain ⟨v65, c65⟩ := c65
  have G3 := blk_put (blk_put HG 64 (.bool false)) 65 (.int .u64 0)
  have HB3 : Hid (On w ((W2.setCell ⟨w.heap.size, 64, none⟩ (.bool false)).setCell ⟨w.heap.size, 65, none⟩ (.int .u64 0))) := Lib.hid ((HB.out.set _ _ (by simp)).set _ _ (by simp))
  have G4 := blk_other (i := 65) (v := .int .u64 0) (blk_other (i := 64) (v := .bool false) HG2 (show w.heap.size + 1 ≠ w.heap.size by omega)) (show w.heap.size + 1 ≠ w.heap.size by omega)
  have Hh : Hid ((hs.setIfInBounds 64 (.bool false)).setIfInBounds 65 (.int .u64 0) = setRes hs false 0#64) := Lib.hid rfl
  generalize (hs.setIfInBounds 64 (.bool false)).setIfInBounds 65 (.int .u64 0) = h2 at *
  clear hz HG HG2
  refine ⟨?_⟩
  go_wp2_with (first | (apply hart_ld; (case hgd => exact rfl); (case ho => exact rfl); (case hx => exact rfl); (case hg => exact G3); (case hs => exact hz2)) | (apply hart_st; (case hgd => exact rfl); (case ho => exact rfl); (case hx => exact rfl); (case hy => exact rfl); (case hg => exact G4); (case hold => exact hZs); (case hs => exact hz2); (case h1 => exact ho2)))
  refine hart_back rfl rfl rfl G4 hz2 ⟨by rw [← Hh.out], HB3.out.row _ _ (by omega)⟩
end Go.Proofs.Ythafghechghbpaa
