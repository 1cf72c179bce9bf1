/- What the calls of package pma that say where RAM is come to. Conditions: none. -/
import Derived.Test.YtkjkmekkcnmjnaaPmaW
import Derived.Test.YtkjkmekkcnmjnaaRowT
import Derived.Test.YtkjkmekkcnmjnaaRows
import Derived.WalkKit
import Derived.ProofKit
import Derived.Lib.Hide
import Derived.IntWalk
import Derived.KernelRfl
namespace Go.Proofs.Ytkjkmekkcnmjnaa
open Go.RowKit
set_option linter.unusedVariables false

theorem rgT : RowTy Try.prog 93 3 := ⟨by kernel_rfl, by kernel_rfl⟩
/-- the map as it lies in memory -/
def rgC (p : Int) : Array Value := #[.int .i64 1, .int .u64 4096, .int .u64 4096, .int .i64 2, .int .u64 33554432, .int .u64 65536, .int .i64 3, .int .u64 201326592, .int .u64 4194304, .int .i64 4, .int .u64 268435456, .int .u64 4096, .int .i64 5, .int .u64 2147483648, .int .u64 (pgN p * 4096)]
theorem rgC_at (p : Int) {k : Nat} (h : k < 5) : (rgC p)[k * 3]? = some (.int .i64 (k + 1 : Nat)) ∧ (rgC p)[k * 3 + 1]? = some (.int .u64 (rgB (k + 1))) ∧ (rgC p)[k * 3 + 2]? = some (.int .u64 (rgS p (k + 1))) := by
  have h6 : k = 0 ∨ k = 1 ∨ k = 2 ∨ k = 3 ∨ k = 4 := by omega
  rcases h6 with rfl | rfl | rfl | rfl | rfl <;> exact ⟨rfl, rfl, rfl⟩
set_option maxHeartbeats 1000000 in
theorem regions_any (p : Int) (hp : (Lit.int .i64 p).wf = true) (w : World) : Calls Try.prog 60 #[.int .i64 p] w fun e w' => e = .returned (.slice (some ⟨w.heap.size, 0, none⟩) 5 5) ∧ w' = w.alloc (.cells (rgC p) 93) := by
  by_cases h1 : p < 4
  · have H : Hid (rgC p = rgC 4) := Lib.hid (by unfold rgC; rw [show pgN p = pgN 4 by unfold pgN; omega])
    go_enter Try.func60, Try.ntmps60
    go_wp2
    go_ret
    exact ⟨rfl, by rw [H.out]; rfl⟩
  by_cases h2 : p ≤ 256
  · have H : Hid (pgN p = p) := Lib.hid (by unfold pgN; omega)
    go_enter Try.func60, Try.ntmps60
    go_wp2
    go_ret
    exact ⟨rfl, by unfold rgC; rw [H.out]⟩
  · have H : Hid (rgC p = rgC 256) := Lib.hid (by unfold rgC; rw [show pgN p = pgN 256 by unfold pgN; omega])
    go_enter Try.func60, Try.ntmps60
    go_wp2
    go_ret
    exact ⟨rfl, by rw [H.out]; rfl⟩
/-- a region as a value -/
def rgV (p : Int) (k : Nat) : Array Value := #[.int .i64 k, .int .u64 (rgB k), .int .u64 (rgS p k)]
theorem rgV_one (p : Int) (k : Nat) : (rgV p k).all (·.oneCell') = true := by unfold rgV; simp [Value.oneCell']
set_option maxRecDepth 100000 in
set_option maxHeartbeats 1000000 in
theorem find_any (p : Int) (hp : (Lit.int .i64 p).wf = true) (a : BitVec 64) (w : World) : Calls Try.prog 56 #[.int .i64 p, .int .u64 (u a)] w fun e w' => e = .returned (.tuple #[.agg (rgV p (regA p a)), .int .u64 (offA p a)]) ∧ On w w' := by
  have B0 := (On.refl w).alloc (.cells #[.int .i64 0, .int .u64 0, .int .u64 0] 93)
  have B1 := B0.alloc (.cells (rgC p) 93)
  have G0 := (((On.refl (w.alloc (.cells #[.int .i64 0, .int .u64 0, .int .u64 0] 93))).alloc (.cells (rgC p) 93)).keep (blk_new w _))
  have G1 := blk_new (w.alloc (.cells #[.int .i64 0, .int .u64 0, .int .u64 0] 93)) (.cells (rgC p) 93)
  rw [alloc_size] at G1
  have H := Lib.hid (And.intro B1 (And.intro G0 G1))
  clear B0 B1 G0 G1
  go_enter Try.func56, Try.ntmps56
  go_wp2_with (go_at_call 60; refine (regions_any p hp _).mono ?_; rintro e w' ⟨rfl, rfl⟩)
  generalize ((w.alloc (.cells #[.int .i64 0, .int .u64 0, .int .u64 0] 93)).alloc (.cells (rgC p) 93)) = w2 at *
  go_loopw [12] (fun i wr => ∃ k : Nat, k ≤ 5 ∧ i = .int .i64 k ∧ Hid (noneTo p a k ∧ On w2 wr)) (fun i _ => (5 - intOf i).toNat)
  case atStart => exact ⟨0, by omega, rfl, Lib.hid ⟨noneTo_zero p a, On.refl _⟩⟩
  case round =>
    obtain ⟨k, hk, rfl, hr⟩ := hrel
    by_cases hk5 : k < 5
    · obtain ⟨c0, c1, c2⟩ := rgC_at p hk5
      have g1 := hr.out.2.keep H.out.2.2
      obtain ⟨nn, hn⟩ : ∃ nn : Int, ((k + 1 : Nat) : Int) = nn := ⟨_, rfl⟩
      rw [hn] at c0
      replace hn := Lib.hid hn
      have C0 := blk_cell g1 _ c0
      have C1 := blk_cell g1 _ c1
      have C2 := blk_cell g1 _ c2
      clear g1 c0 c1 c2
      have ua := u_nonneg a
      have K := Lib.hid (in_test p a (k + 1))
      cases hi : inR p a (k + 1)
      · have t : ¬ IntKind.u64.wrap (u a - rgB (k + 1)) < rgS p (k + 1) := fun h => by have := K.out.1 h; rw [hi] at this; cases this
        have HI := Lib.hid hi
        clear hi
        generalize rgB (k + 1) = bb at *
        generalize rgS p (k + 1) = ss at *
        go_wp2
        exact ⟨⟨k + 1, by omega, by go_num, Lib.hid ⟨noneTo_next hr.out.1 HI.out, hr.out.2.alloc _⟩⟩, by simp [intOf]; omega⟩
      · have t : IntKind.u64.wrap (u a - rgB (k + 1)) < rgS p (k + 1) := K.out.2 hi
        have HR := Lib.hid (And.intro (regA_of hk5 hr.out.1 hi) (show u a - rgB (k + 1) = IntKind.u64.wrap (u a - rgB (k + 1)) by have := inR_true hi; have := rg_in p (k + 1); have := u_lt a; rw [wrap_in _ (by omega) (by omega)]))
        clear hi
        have G := fun o : Obj => ((hr.out.2.alloc o).keep H.out.2.1)
        have GL := lt_of_block H.out.2.1
        have HG := Lib.hid (And.intro (hr.out.2) GL)
        go_wp2_with (apply row_st rgT; (case ho => exact rfl); (case hgd => exact rfl); (case hx => exact rfl); (case hy => exact rfl); (case hg => exact G _); (case hold => rfl); (case hs => rfl); (case h1 => simp [Value.oneCell']))
        refine row_back2 rgT rfl rfl rfl (setRow_heap _ _ _ _ _ _ (((HG.out.1).alloc _).keep H.out.2.1)) rfl rfl ⟨?_, (H.out.1.trans (HG.out.1.alloc _)).row _ _ (Nat.le_refl _)⟩
        have V : rgV p (regA p a) = #[.int .i64 nn, .int .u64 (rgB (k + 1)), .int .u64 (rgS p (k + 1))] := by unfold rgV; rw [HR.out.1, hn.out]
        have E : offA p a = IntKind.u64.wrap (u a - rgB (k + 1)) := by unfold offA; rw [HR.out.1, if_neg (by omega)]; exact HR.out.2
        rw [V, E]; rfl
    · obtain rfl : k = 5 := by omega
      have HR := Lib.hid (regA_none hr.out.1)
      have G := hr.out.2.keep H.out.2.1
      go_wp2_with (apply row_st rgT; (case ho => exact rfl); (case hgd => exact rfl); (case hx => exact rfl); (case hy => exact rfl); (case hg => exact G); (case hold => rfl); (case hs => rfl); (case h1 => simp [Value.oneCell']))
      refine row_back2 rgT rfl rfl rfl (setRow_heap _ _ _ _ _ _ (hr.out.2.keep H.out.2.1)) rfl rfl ⟨?_, (H.out.1.trans hr.out.2).row _ _ (Nat.le_refl _)⟩
      unfold offA
      rw [HR.out]; rfl

theorem find_lit (p : Int) (hp : (Lit.int .i64 p).wf = true) (a : BitVec 64) (w : World) : Calls Try.prog 56 #[.int .i64 p, .int .u64 (u a)] w fun e w' => e = .returned (.tuple #[.agg #[.int .i64 (regA p a : Nat), .int .u64 (rgB (regA p a)), .int .u64 (rgS p (regA p a))], .int .u64 (offA p a)]) ∧ On w w' := find_any p hp a w
theorem region_any (p : Int) (hp : (Lit.int .i64 p).wf = true) (a : BitVec 64) (w : World) : Calls Try.prog 57 #[.int .i64 p, .int .u64 (u a)] w fun e w' => e = .returned (.int .i64 (regA p a : Nat)) ∧ On w w' := by
  have HB := Lib.hid (On.refl w)
  go_enter Try.func57, Try.ntmps57
  go_wp2_with (first | (go_at_call 56; refine (find_lit p hp a _).mono ?_; rintro e wn ⟨rfl, hb⟩; have HB := Lib.hid (HB.out.trans hb); clear hb))
  go_ret
  exact ⟨rfl, HB.out.alloc _⟩
theorem offset_any (p : Int) (hp : (Lit.int .i64 p).wf = true) (a : BitVec 64) (w : World) : Calls Try.prog 48 #[.int .i64 p, .int .u64 (u a)] w fun e w' => e = .returned (.int .u64 (offA p a)) ∧ On w w' := by
  have HB := Lib.hid (On.refl w)
  go_enter Try.func48, Try.ntmps48
  go_wp2_with (first | (go_at_call 56; refine (find_lit p hp a _).mono ?_; rintro e wn ⟨rfl, hb⟩; have HB := Lib.hid (HB.out.trans hb); clear hb))
  go_ret
  exact ⟨rfl, HB.out.alloc _⟩
theorem five_test (r : Nat) : ((r : Int) == 5) = (r == 5) := by
  rw [Bool.eq_iff_iff]; simp; omega
theorem cached_any (p : Int) (hp : (Lit.int .i64 p).wf = true) (a : BitVec 64) (w : World) : Calls Try.prog 49 #[.int .i64 p, .int .u64 (u a)] w fun e w' => e = .returned (.bool (regA p a == 5)) ∧ On w w' := by
  have HB := Lib.hid (On.refl w)
  obtain ⟨r, hr⟩ : ∃ r, regA p a = r := ⟨_, rfl⟩
  go_enter Try.func49, Try.ntmps49
  go_wp2_with (first | (go_at_call 57; refine (region_any p hp a _).mono ?_; rintro e wn ⟨rfl, hb⟩; have HB := Lib.hid (HB.out.trans hb); clear hb))
  go_ret
  exact ⟨by rw [← five_test]; first | rfl | (rw [hr]; simp; done), HB.out⟩
end Go.Proofs.Ytkjkmekkcnmjnaa
