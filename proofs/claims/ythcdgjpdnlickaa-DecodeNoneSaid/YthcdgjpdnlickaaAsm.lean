/- What assemble of package shape comes to, and the calls that make a word or read an immediate: R, I, S, B, U, J, ImmI, ImmS, ImmB, ImmU, ImmJ, the fields. Conditions: named at each. -/
import Derived.Test.YthcdgjpdnlickaaPackW
namespace Go.Proofs.Ythcdgjpdnlickaa
open Go.RowKit

def asmW (op rd f3 rs1 rs2 f7 imm : Int) (L : List Sp) : BitVec 32 := if Fit op rd f3 rs1 rs2 f7 && inr imm L && ins imm L then lay op rd f3 rs1 rs2 f7 ||| lo32 (spreadAcc (wd64 imm) L) else 0
def asmE (op rd f3 rs1 rs2 f7 imm : Int) (L : List Sp) : Int := if Fit op rd f3 rs1 rs2 f7 && inr imm L then (if ins imm L then 0 else 5) else 1
theorem two_made {a b : Int} {c d : Int} (h : a = b) (h' : c = d) : Ending.returned (.tuple #[.int .u32 a, .int .i64 c]) = .returned (.tuple #[.int .u32 b, .int .i64 d]) := by rw [h, h']
theorem i64_zero : I64 0 := by unfold I64; omega
theorem spansI_new (w : World) (t : TypeId) : Spans (w.alloc (.cells #[.int .i64 31, .int .i64 20, .int .i64 0] t)) (.slice (some ⟨w.heap.size, 0, none⟩) 1 1) LI := by
  refine .inr ⟨w.heap.size, rfl, by simp, by decide, by decide, fun k s h => ?_⟩
  have c : ∀ i v, (#[.int .i64 31, .int .i64 20, .int .i64 0] : Array Value)[i]? = some v → (w.alloc (.cells #[.int .i64 31, .int .i64 20, .int .i64 0] t)).cell? ⟨w.heap.size, i, none⟩ = some v := fun i v hv => (World.cell?_alloc_at _ t _ i rfl).trans hv
  match k, h with
  | 0, h => cases h; exact ⟨c 0 _ rfl, c 1 _ rfl, c 2 _ rfl⟩
  | k + 1, h => simp [LI] at h
theorem spansI_any (w : World) :
    Calls Try.prog 30 #[] w fun e w' => e = .returned (.slice (some ⟨w.heap.size, 0, none⟩) 1 1) ∧ Spans w' (.slice (some ⟨w.heap.size, 0, none⟩) 1 1) LI ∧ On w w' := by
  go_enter Try.func30, Try.ntmps30
  go_wp2
  go_ret
  exact ⟨rfl, spansI_new w _, (On.refl w).alloc _⟩
theorem immI_any (x : BitVec 32) (w : World) :
    Calls Try.prog 18 #[.int .u32 (q x)] w fun e w' => e = .returned (.int .u64 (u (immOf (zx x) LI))) ∧ On w w' := by
  go_enter Try.func18, Try.ntmps18
  go_wp2_with (first | (go_at_call 30; refine (spansI_any _).mono ?_; rintro e w1 ⟨rfl, hs, hb1⟩; have HS := Lib.hid hs; have HB1 := Lib.hid hb1; clear hs hb1) | (go_at_call 27; refine (join_any x LI rfl (by decide) _ _ HS.out).mono ?_; rintro e w2 ⟨rfl, hb2⟩; have HB2 := Lib.hid hb2; clear hb2))
  go_ret
  exact ⟨rfl, HB1.out.trans HB2.out⟩
theorem spansS_new (w : World) (t : TypeId) : Spans (w.alloc (.cells #[.int .i64 11, .int .i64 7, .int .i64 0, .int .i64 31, .int .i64 25, .int .i64 5] t)) (.slice (some ⟨w.heap.size, 0, none⟩) 2 2) LS := by
  refine .inr ⟨w.heap.size, rfl, by simp, by decide, by decide, fun k s h => ?_⟩
  have c : ∀ i v, (#[.int .i64 11, .int .i64 7, .int .i64 0, .int .i64 31, .int .i64 25, .int .i64 5] : Array Value)[i]? = some v → (w.alloc (.cells #[.int .i64 11, .int .i64 7, .int .i64 0, .int .i64 31, .int .i64 25, .int .i64 5] t)).cell? ⟨w.heap.size, i, none⟩ = some v := fun i v hv => (World.cell?_alloc_at _ t _ i rfl).trans hv
  match k, h with
  | 0, h => cases h; exact ⟨c 0 _ rfl, c 1 _ rfl, c 2 _ rfl⟩
  | 1, h => cases h; exact ⟨c 3 _ rfl, c 4 _ rfl, c 5 _ rfl⟩
  | k + 2, h => simp [LS] at h
theorem spansS_any (w : World) :
    Calls Try.prog 32 #[] w fun e w' => e = .returned (.slice (some ⟨w.heap.size, 0, none⟩) 2 2) ∧ Spans w' (.slice (some ⟨w.heap.size, 0, none⟩) 2 2) LS ∧ On w w' := by
  go_enter Try.func32, Try.ntmps32
  go_wp2
  go_ret
  exact ⟨rfl, spansS_new w _, (On.refl w).alloc _⟩
theorem immS_any (x : BitVec 32) (w : World) :
    Calls Try.prog 20 #[.int .u32 (q x)] w fun e w' => e = .returned (.int .u64 (u (immOf (zx x) LS))) ∧ On w w' := by
  go_enter Try.func20, Try.ntmps20
  go_wp2_with (first | (go_at_call 32; refine (spansS_any _).mono ?_; rintro e w1 ⟨rfl, hs, hb1⟩; have HS := Lib.hid hs; have HB1 := Lib.hid hb1; clear hs hb1) | (go_at_call 27; refine (join_any x LS rfl (by decide) _ _ HS.out).mono ?_; rintro e w2 ⟨rfl, hb2⟩; have HB2 := Lib.hid hb2; clear hb2))
  go_ret
  exact ⟨rfl, HB1.out.trans HB2.out⟩
theorem spansB_new (w : World) (t : TypeId) : Spans (w.alloc (.cells #[.int .i64 11, .int .i64 8, .int .i64 1, .int .i64 30, .int .i64 25, .int .i64 5, .int .i64 7, .int .i64 7, .int .i64 11, .int .i64 31, .int .i64 31, .int .i64 12] t)) (.slice (some ⟨w.heap.size, 0, none⟩) 4 4) LB := by
  refine .inr ⟨w.heap.size, rfl, by simp, by decide, by decide, fun k s h => ?_⟩
  have c : ∀ i v, (#[.int .i64 11, .int .i64 8, .int .i64 1, .int .i64 30, .int .i64 25, .int .i64 5, .int .i64 7, .int .i64 7, .int .i64 11, .int .i64 31, .int .i64 31, .int .i64 12] : Array Value)[i]? = some v → (w.alloc (.cells #[.int .i64 11, .int .i64 8, .int .i64 1, .int .i64 30, .int .i64 25, .int .i64 5, .int .i64 7, .int .i64 7, .int .i64 11, .int .i64 31, .int .i64 31, .int .i64 12] t)).cell? ⟨w.heap.size, i, none⟩ = some v := fun i v hv => (World.cell?_alloc_at _ t _ i rfl).trans hv
  match k, h with
  | 0, h => cases h; exact ⟨c 0 _ rfl, c 1 _ rfl, c 2 _ rfl⟩
  | 1, h => cases h; exact ⟨c 3 _ rfl, c 4 _ rfl, c 5 _ rfl⟩
  | 2, h => cases h; exact ⟨c 6 _ rfl, c 7 _ rfl, c 8 _ rfl⟩
  | 3, h => cases h; exact ⟨c 9 _ rfl, c 10 _ rfl, c 11 _ rfl⟩
  | k + 4, h => simp [LB] at h
theorem spansB_any (w : World) :
    Calls Try.prog 31 #[] w fun e w' => e = .returned (.slice (some ⟨w.heap.size, 0, none⟩) 4 4) ∧ Spans w' (.slice (some ⟨w.heap.size, 0, none⟩) 4 4) LB ∧ On w w' := by
  go_enter Try.func31, Try.ntmps31
  go_wp2
  go_ret
  exact ⟨rfl, spansB_new w _, (On.refl w).alloc _⟩
theorem immB_any (x : BitVec 32) (w : World) :
    Calls Try.prog 19 #[.int .u32 (q x)] w fun e w' => e = .returned (.int .u64 (u (immOf (zx x) LB))) ∧ On w w' := by
  go_enter Try.func19, Try.ntmps19
  go_wp2_with (first | (go_at_call 31; refine (spansB_any _).mono ?_; rintro e w1 ⟨rfl, hs, hb1⟩; have HS := Lib.hid hs; have HB1 := Lib.hid hb1; clear hs hb1) | (go_at_call 27; refine (join_any x LB rfl (by decide) _ _ HS.out).mono ?_; rintro e w2 ⟨rfl, hb2⟩; have HB2 := Lib.hid hb2; clear hb2))
  go_ret
  exact ⟨rfl, HB1.out.trans HB2.out⟩
theorem spansU_new (w : World) (t : TypeId) : Spans (w.alloc (.cells #[.int .i64 31, .int .i64 12, .int .i64 12] t)) (.slice (some ⟨w.heap.size, 0, none⟩) 1 1) LU := by
  refine .inr ⟨w.heap.size, rfl, by simp, by decide, by decide, fun k s h => ?_⟩
  have c : ∀ i v, (#[.int .i64 31, .int .i64 12, .int .i64 12] : Array Value)[i]? = some v → (w.alloc (.cells #[.int .i64 31, .int .i64 12, .int .i64 12] t)).cell? ⟨w.heap.size, i, none⟩ = some v := fun i v hv => (World.cell?_alloc_at _ t _ i rfl).trans hv
  match k, h with
  | 0, h => cases h; exact ⟨c 0 _ rfl, c 1 _ rfl, c 2 _ rfl⟩
  | k + 1, h => simp [LU] at h
theorem spansU_any (w : World) :
    Calls Try.prog 28 #[] w fun e w' => e = .returned (.slice (some ⟨w.heap.size, 0, none⟩) 1 1) ∧ Spans w' (.slice (some ⟨w.heap.size, 0, none⟩) 1 1) LU ∧ On w w' := by
  go_enter Try.func28, Try.ntmps28
  go_wp2
  go_ret
  exact ⟨rfl, spansU_new w _, (On.refl w).alloc _⟩
theorem immU_any (x : BitVec 32) (w : World) :
    Calls Try.prog 16 #[.int .u32 (q x)] w fun e w' => e = .returned (.int .u64 (u (immOf (zx x) LU))) ∧ On w w' := by
  go_enter Try.func16, Try.ntmps16
  go_wp2_with (first | (go_at_call 28; refine (spansU_any _).mono ?_; rintro e w1 ⟨rfl, hs, hb1⟩; have HS := Lib.hid hs; have HB1 := Lib.hid hb1; clear hs hb1) | (go_at_call 27; refine (join_any x LU rfl (by decide) _ _ HS.out).mono ?_; rintro e w2 ⟨rfl, hb2⟩; have HB2 := Lib.hid hb2; clear hb2))
  go_ret
  exact ⟨rfl, HB1.out.trans HB2.out⟩
theorem spansJ_new (w : World) (t : TypeId) : Spans (w.alloc (.cells #[.int .i64 30, .int .i64 21, .int .i64 1, .int .i64 20, .int .i64 20, .int .i64 11, .int .i64 19, .int .i64 12, .int .i64 12, .int .i64 31, .int .i64 31, .int .i64 20] t)) (.slice (some ⟨w.heap.size, 0, none⟩) 4 4) LJ := by
  refine .inr ⟨w.heap.size, rfl, by simp, by decide, by decide, fun k s h => ?_⟩
  have c : ∀ i v, (#[.int .i64 30, .int .i64 21, .int .i64 1, .int .i64 20, .int .i64 20, .int .i64 11, .int .i64 19, .int .i64 12, .int .i64 12, .int .i64 31, .int .i64 31, .int .i64 20] : Array Value)[i]? = some v → (w.alloc (.cells #[.int .i64 30, .int .i64 21, .int .i64 1, .int .i64 20, .int .i64 20, .int .i64 11, .int .i64 19, .int .i64 12, .int .i64 12, .int .i64 31, .int .i64 31, .int .i64 20] t)).cell? ⟨w.heap.size, i, none⟩ = some v := fun i v hv => (World.cell?_alloc_at _ t _ i rfl).trans hv
  match k, h with
  | 0, h => cases h; exact ⟨c 0 _ rfl, c 1 _ rfl, c 2 _ rfl⟩
  | 1, h => cases h; exact ⟨c 3 _ rfl, c 4 _ rfl, c 5 _ rfl⟩
  | 2, h => cases h; exact ⟨c 6 _ rfl, c 7 _ rfl, c 8 _ rfl⟩
  | 3, h => cases h; exact ⟨c 9 _ rfl, c 10 _ rfl, c 11 _ rfl⟩
  | k + 4, h => simp [LJ] at h
theorem spansJ_any (w : World) :
    Calls Try.prog 29 #[] w fun e w' => e = .returned (.slice (some ⟨w.heap.size, 0, none⟩) 4 4) ∧ Spans w' (.slice (some ⟨w.heap.size, 0, none⟩) 4 4) LJ ∧ On w w' := by
  go_enter Try.func29, Try.ntmps29
  go_wp2
  go_ret
  exact ⟨rfl, spansJ_new w _, (On.refl w).alloc _⟩
theorem immJ_any (x : BitVec 32) (w : World) :
    Calls Try.prog 17 #[.int .u32 (q x)] w fun e w' => e = .returned (.int .u64 (u (immOf (zx x) LJ))) ∧ On w w' := by
  go_enter Try.func17, Try.ntmps17
  go_wp2_with (first | (go_at_call 29; refine (spansJ_any _).mono ?_; rintro e w1 ⟨rfl, hs, hb1⟩; have HS := Lib.hid hs; have HB1 := Lib.hid hb1; clear hs hb1) | (go_at_call 27; refine (join_any x LJ rfl (by decide) _ _ HS.out).mono ?_; rintro e w2 ⟨rfl, hb2⟩; have HB2 := Lib.hid hb2; clear hb2))
  go_ret
  exact ⟨rfl, HB1.out.trans HB2.out⟩
end Go.Proofs.Ythcdgjpdnlickaa
