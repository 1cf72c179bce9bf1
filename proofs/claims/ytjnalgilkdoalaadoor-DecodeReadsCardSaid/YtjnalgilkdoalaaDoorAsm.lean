/- What assemble of package shape comes to, and the calls that make a word or read an immediate: R, I, S, B, U, J, ImmI, ImmS, ImmB, ImmU, ImmJ, the fields. Conditions: named at each. -/
import Derived.Test.YtjnalgilkdoalaaDoorPackW
namespace Go.Proofs.YtjnalgilkdoalaaDoor
open Go.RowKit

def asmW (op rd f3 rs1 rs2 f7 imm : Int) (L : List Sp) : BitVec 32 := if Fit op rd f3 rs1 rs2 f7 && inr imm L && ins imm L then lay op rd f3 rs1 rs2 f7 ||| lo32 (spreadAcc (wd64 imm) L) else 0
def asmE (op rd f3 rs1 rs2 f7 imm : Int) (L : List Sp) : Int := if Fit op rd f3 rs1 rs2 f7 && inr imm L then (if ins imm L then 0 else 5) else 1
theorem two_made {a b : Int} {c d : Int} (h : a = b) (h' : c = d) : Ending.returned (.tuple #[.int .u32 a, .int .i64 c]) = .returned (.tuple #[.int .u32 b, .int .i64 d]) := by rw [h, h']
theorem assemble_any (op rd f3 rs1 rs2 f7 imm : Int) (L : List Sp) (h : I6 op rd f3 rs1 rs2 f7) (hok : L.all Sp.ok = true) (v : Value) (w : World) (hs : Spans w v L) :
    Calls Tryd.prog 71 #[.agg #[.int .i64 op, .int .i64 rd, .int .i64 f3, .int .i64 rs1, .int .i64 rs2, .int .i64 f7], .int .i64 imm, v] w fun e w' =>
      e = .returned (.tuple #[.int .u32 (q (asmW op rd f3 rs1 rs2 f7 imm L)), .int .i64 (asmE op rd f3 rs1 rs2 f7 imm L)]) ∧ On w w' := by
  have HS := Lib.hid hs
  have H6 := Lib.hid h
  have hq := wordOf op rd f3 rs1 rs2 f7
  clear hs h hq
  cases hF : Fit op rd f3 rs1 rs2 f7
  · have HW : Hid (asmW op rd f3 rs1 rs2 f7 imm L = 0 ∧ asmE op rd f3 rs1 rs2 f7 imm L = 1) := Lib.hid (by unfold asmW asmE; rw [hF]; exact ⟨rfl, rfl⟩)
    go_enter Tryd.func71, Tryd.ntmps71
    go_wp2_with (first | (go_at_call 91; refine (word_any _ _ _ _ _ _ H6.out _).mono ?_; rintro e w1 ⟨rfl, hb1⟩; have HB1 := Lib.hid hb1; clear hb1))
    go_ret2
    exact ⟨two_made (by rw [HW.out.1]; rfl) (by rw [HW.out.2]), ((On.refl w).alloc _).trans HB1.out⟩
  cases hI : inr imm L
  · have HW : Hid (asmW op rd f3 rs1 rs2 f7 imm L = 0 ∧ asmE op rd f3 rs1 rs2 f7 imm L = 1) := Lib.hid (by unfold asmW asmE; rw [hF, hI]; exact ⟨rfl, rfl⟩)
    go_enter Tryd.func71, Tryd.ntmps71
    go_wp2_with (first | (go_at_call 91; refine (word_any _ _ _ _ _ _ H6.out _).mono ?_; rintro e w1 ⟨rfl, hb1⟩; have HB1 := Lib.hid (((On.refl w).alloc _).trans hb1); clear hb1) | (go_at_call 92; refine (inRange_any imm L hok v _ (HS.out.keep (Nat.le_refl _) HB1.out)).mono ?_; rintro e w2 ⟨rfl, hb2⟩; have HB2 := Lib.hid (HB1.out.trans hb2); clear hb2))
    go_ret2
    exact ⟨two_made (by rw [HW.out.1]; rfl) (by rw [HW.out.2]), HB2.out⟩
  cases hT : ins imm L
  · have HW : Hid (asmW op rd f3 rs1 rs2 f7 imm L = 0 ∧ asmE op rd f3 rs1 rs2 f7 imm L = 5) := Lib.hid (by unfold asmW asmE; rw [hF, hI, hT]; exact ⟨rfl, rfl⟩)
    go_enter Tryd.func71, Tryd.ntmps71
    go_wp2_with (first | (go_at_call 91; refine (word_any _ _ _ _ _ _ H6.out _).mono ?_; rintro e w1 ⟨rfl, hb1⟩; have HB1 := Lib.hid (((On.refl w).alloc _).trans hb1); clear hb1) | (go_at_call 92; refine (inRange_any imm L hok v _ (HS.out.keep (Nat.le_refl _) HB1.out)).mono ?_; rintro e w2 ⟨rfl, hb2⟩; have HB2 := Lib.hid (HB1.out.trans hb2); clear hb2) | (go_at_call 93; refine (inSteps_any imm L hok v _ (HS.out.keep (Nat.le_refl _) HB2.out)).mono ?_; rintro e w3 ⟨rfl, hb3⟩; have HB3 := Lib.hid (HB2.out.trans hb3); clear hb3))
    go_ret2
    exact ⟨two_made (by rw [HW.out.1]; rfl) (by rw [HW.out.2]), HB3.out⟩
  · have HW : Hid (asmW op rd f3 rs1 rs2 f7 imm L = wordOf op rd f3 rs1 rs2 f7 ||| lo32 (spreadAcc (wd64 imm) L) ∧ asmE op rd f3 rs1 rs2 f7 imm L = 0) := Lib.hid (by unfold asmW asmE wordOf; rw [hF, hI, hT]; exact ⟨rfl, rfl⟩)
    go_enter Tryd.func71, Tryd.ntmps71
    go_wp2_with (first | (go_at_call 91; refine (word_any _ _ _ _ _ _ H6.out _).mono ?_; rintro e w1 ⟨rfl, hb1⟩; have HB1 := Lib.hid (((On.refl w).alloc _).trans hb1); clear hb1) | (go_at_call 92; refine (inRange_any imm L hok v _ (HS.out.keep (Nat.le_refl _) HB1.out)).mono ?_; rintro e w2 ⟨rfl, hb2⟩; have HB2 := Lib.hid (HB1.out.trans hb2); clear hb2) | (go_at_call 93; refine (inSteps_any imm L hok v _ (HS.out.keep (Nat.le_refl _) HB2.out)).mono ?_; rintro e w3 ⟨rfl, hb3⟩; have HB3 := Lib.hid (HB2.out.trans hb3); clear hb3) | (go_at_call 94; refine (spread_any imm L hok v _ (HS.out.keep (Nat.le_refl _) HB3.out)).mono ?_; rintro e w4 ⟨rfl, hb4⟩; have HB4 := Lib.hid (HB3.out.trans hb4); clear hb4))
    go_ret2
    exact ⟨two_made (by rw [HW.out.1, ← q_or]) (by rw [HW.out.2]), HB4.out⟩
theorem i64_zero : I64 0 := by unfold I64; omega
theorem spansI_new (w : World) (t : TypeId) : Spans (w.alloc (.cells #[.int .i64 31, .int .i64 20, .int .i64 0] t)) (.slice (some ⟨w.heap.size, 0, none⟩) 1 1) LI := by
  refine .inr ⟨w.heap.size, rfl, by simp, by decide, by decide, fun k s h => ?_⟩
  have c : ∀ i v, (#[.int .i64 31, .int .i64 20, .int .i64 0] : Array Value)[i]? = some v → (w.alloc (.cells #[.int .i64 31, .int .i64 20, .int .i64 0] t)).cell? ⟨w.heap.size, i, none⟩ = some v := fun i v hv => (World.cell?_alloc_at _ t _ i rfl).trans hv
  match k, h with
  | 0, h => cases h; exact ⟨c 0 _ rfl, c 1 _ rfl, c 2 _ rfl⟩
  | k + 1, h => simp [LI] at h
theorem spansI_any (w : World) :
    Calls Tryd.prog 37 #[] w fun e w' => e = .returned (.slice (some ⟨w.heap.size, 0, none⟩) 1 1) ∧ Spans w' (.slice (some ⟨w.heap.size, 0, none⟩) 1 1) LI ∧ On w w' := by
  go_enter Tryd.func37, Tryd.ntmps37
  go_wp2
  go_ret
  exact ⟨rfl, spansI_new w _, (On.refl w).alloc _⟩
theorem immI_any (x : BitVec 32) (w : World) :
    Calls Tryd.prog 23 #[.int .u32 (q x)] w fun e w' => e = .returned (.int .u64 (u (immOf (zx x) LI))) ∧ On w w' := by
  go_enter Tryd.func23, Tryd.ntmps23
  go_wp2_with (first | (go_at_call 37; refine (spansI_any _).mono ?_; rintro e w1 ⟨rfl, hs, hb1⟩; have HS := Lib.hid hs; have HB1 := Lib.hid hb1; clear hs hb1) | (go_at_call 34; refine (join_any x LI rfl (by decide) _ _ HS.out).mono ?_; rintro e w2 ⟨rfl, hb2⟩; have HB2 := Lib.hid hb2; clear hb2))
  go_ret
  exact ⟨rfl, HB1.out.trans HB2.out⟩
theorem spansS_new (w : World) (t : TypeId) : Spans (w.alloc (.cells #[.int .i64 11, .int .i64 7, .int .i64 0, .int .i64 31, .int .i64 25, .int .i64 5] t)) (.slice (some ⟨w.heap.size, 0, none⟩) 2 2) LS := by
  refine .inr ⟨w.heap.size, rfl, by simp, by decide, by decide, fun k s h => ?_⟩
  have c : ∀ i v, (#[.int .i64 11, .int .i64 7, .int .i64 0, .int .i64 31, .int .i64 25, .int .i64 5] : Array Value)[i]? = some v → (w.alloc (.cells #[.int .i64 11, .int .i64 7, .int .i64 0, .int .i64 31, .int .i64 25, .int .i64 5] t)).cell? ⟨w.heap.size, i, none⟩ = some v := fun i v hv => (World.cell?_alloc_at _ t _ i rfl).trans hv
  match k, h with
  | 0, h => cases h; exact ⟨c 0 _ rfl, c 1 _ rfl, c 2 _ rfl⟩
  | 1, h => cases h; exact ⟨c 3 _ rfl, c 4 _ rfl, c 5 _ rfl⟩
  | k + 2, h => simp [LS] at h
theorem spansS_any (w : World) :
    Calls Tryd.prog 39 #[] w fun e w' => e = .returned (.slice (some ⟨w.heap.size, 0, none⟩) 2 2) ∧ Spans w' (.slice (some ⟨w.heap.size, 0, none⟩) 2 2) LS ∧ On w w' := by
  go_enter Tryd.func39, Tryd.ntmps39
  go_wp2
  go_ret
  exact ⟨rfl, spansS_new w _, (On.refl w).alloc _⟩
theorem immS_any (x : BitVec 32) (w : World) :
    Calls Tryd.prog 25 #[.int .u32 (q x)] w fun e w' => e = .returned (.int .u64 (u (immOf (zx x) LS))) ∧ On w w' := by
  go_enter Tryd.func25, Tryd.ntmps25
  go_wp2_with (first | (go_at_call 39; refine (spansS_any _).mono ?_; rintro e w1 ⟨rfl, hs, hb1⟩; have HS := Lib.hid hs; have HB1 := Lib.hid hb1; clear hs hb1) | (go_at_call 34; refine (join_any x LS rfl (by decide) _ _ HS.out).mono ?_; rintro e w2 ⟨rfl, hb2⟩; have HB2 := Lib.hid hb2; clear hb2))
  go_ret
  exact ⟨rfl, HB1.out.trans HB2.out⟩
theorem spansB_new (w : World) (t : TypeId) : Spans (w.alloc (.cells #[.int .i64 11, .int .i64 8, .int .i64 1, .int .i64 30, .int .i64 25, .int .i64 5, .int .i64 7, .int .i64 7, .int .i64 11, .int .i64 31, .int .i64 31, .int .i64 12] t)) (.slice (some ⟨w.heap.size, 0, none⟩) 4 4) LB := by
  refine .inr ⟨w.heap.size, rfl, by simp, by decide, by decide, fun k s h => ?_⟩
  have c : ∀ i v, (#[.int .i64 11, .int .i64 8, .int .i64 1, .int .i64 30, .int .i64 25, .int .i64 5, .int .i64 7, .int .i64 7, .int .i64 11, .int .i64 31, .int .i64 31, .int .i64 12] : Array Value)[i]? = some v → (w.alloc (.cells #[.int .i64 11, .int .i64 8, .int .i64 1, .int .i64 30, .int .i64 25, .int .i64 5, .int .i64 7, .int .i64 7, .int .i64 11, .int .i64 31, .int .i64 31, .int .i64 12] t)).cell? ⟨w.heap.size, i, none⟩ = some v := fun i v hv => (World.cell?_alloc_at _ t _ i rfl).trans hv
  match k, h with
  | 0, h => cases h; exact ⟨c 0 _ rfl, c 1 _ rfl, c 2 _ rfl⟩
  | 1, h => cases h; exact ⟨c 3 _ rfl, c 4 _ rfl, c 5 _ rfl⟩
  | 2, h => cases h; exact ⟨c 6 _ rfl, c 7 _ rfl, c 8 _ rfl⟩
  | 3, h => cases h; exact ⟨c 9 _ rfl, c 10 _ rfl, c 11 _ rfl⟩
  | k + 4, h => simp [LB] at h
theorem spansB_any (w : World) :
    Calls Tryd.prog 38 #[] w fun e w' => e = .returned (.slice (some ⟨w.heap.size, 0, none⟩) 4 4) ∧ Spans w' (.slice (some ⟨w.heap.size, 0, none⟩) 4 4) LB ∧ On w w' := by
  go_enter Tryd.func38, Tryd.ntmps38
  go_wp2
  go_ret
  exact ⟨rfl, spansB_new w _, (On.refl w).alloc _⟩
theorem immB_any (x : BitVec 32) (w : World) :
    Calls Tryd.prog 24 #[.int .u32 (q x)] w fun e w' => e = .returned (.int .u64 (u (immOf (zx x) LB))) ∧ On w w' := by
  go_enter Tryd.func24, Tryd.ntmps24
  go_wp2_with (first | (go_at_call 38; refine (spansB_any _).mono ?_; rintro e w1 ⟨rfl, hs, hb1⟩; have HS := Lib.hid hs; have HB1 := Lib.hid hb1; clear hs hb1) | (go_at_call 34; refine (join_any x LB rfl (by decide) _ _ HS.out).mono ?_; rintro e w2 ⟨rfl, hb2⟩; have HB2 := Lib.hid hb2; clear hb2))
  go_ret
  exact ⟨rfl, HB1.out.trans HB2.out⟩
theorem spansU_new (w : World) (t : TypeId) : Spans (w.alloc (.cells #[.int .i64 31, .int .i64 12, .int .i64 12] t)) (.slice (some ⟨w.heap.size, 0, none⟩) 1 1) LU := by
  refine .inr ⟨w.heap.size, rfl, by simp, by decide, by decide, fun k s h => ?_⟩
  have c : ∀ i v, (#[.int .i64 31, .int .i64 12, .int .i64 12] : Array Value)[i]? = some v → (w.alloc (.cells #[.int .i64 31, .int .i64 12, .int .i64 12] t)).cell? ⟨w.heap.size, i, none⟩ = some v := fun i v hv => (World.cell?_alloc_at _ t _ i rfl).trans hv
  match k, h with
  | 0, h => cases h; exact ⟨c 0 _ rfl, c 1 _ rfl, c 2 _ rfl⟩
  | k + 1, h => simp [LU] at h
theorem spansU_any (w : World) :
    Calls Tryd.prog 35 #[] w fun e w' => e = .returned (.slice (some ⟨w.heap.size, 0, none⟩) 1 1) ∧ Spans w' (.slice (some ⟨w.heap.size, 0, none⟩) 1 1) LU ∧ On w w' := by
  go_enter Tryd.func35, Tryd.ntmps35
  go_wp2
  go_ret
  exact ⟨rfl, spansU_new w _, (On.refl w).alloc _⟩
theorem immU_any (x : BitVec 32) (w : World) :
    Calls Tryd.prog 21 #[.int .u32 (q x)] w fun e w' => e = .returned (.int .u64 (u (immOf (zx x) LU))) ∧ On w w' := by
  go_enter Tryd.func21, Tryd.ntmps21
  go_wp2_with (first | (go_at_call 35; refine (spansU_any _).mono ?_; rintro e w1 ⟨rfl, hs, hb1⟩; have HS := Lib.hid hs; have HB1 := Lib.hid hb1; clear hs hb1) | (go_at_call 34; refine (join_any x LU rfl (by decide) _ _ HS.out).mono ?_; rintro e w2 ⟨rfl, hb2⟩; have HB2 := Lib.hid hb2; clear hb2))
  go_ret
  exact ⟨rfl, HB1.out.trans HB2.out⟩
theorem spansJ_new (w : World) (t : TypeId) : Spans (w.alloc (.cells #[.int .i64 30, .int .i64 21, .int .i64 1, .int .i64 20, .int .i64 20, .int .i64 11, .int .i64 19, .int .i64 12, .int .i64 12, .int .i64 31, .int .i64 31, .int .i64 20] t)) (.slice (some ⟨w.heap.size, 0, none⟩) 4 4) LJ := by
  refine .inr ⟨w.heap.size, rfl, by simp, by decide, by decide, fun k s h => ?_⟩
  have c : ∀ i v, (#[.int .i64 30, .int .i64 21, .int .i64 1, .int .i64 20, .int .i64 20, .int .i64 11, .int .i64 19, .int .i64 12, .int .i64 12, .int .i64 31, .int .i64 31, .int .i64 20] : Array Value)[i]? = some v → (w.alloc (.cells #[.int .i64 30, .int .i64 21, .int .i64 1, .int .i64 20, .int .i64 20, .int .i64 11, .int .i64 19, .int .i64 12, .int .i64 12, .int .i64 31, .int .i64 31, .int .i64 20] t)).cell? ⟨w.heap.size, i, none⟩ = some v := fun i v hv => (World.cell?_alloc_at _ t _ i rfl).trans hv
  match k, h with
  | 0, h => cases h; exact ⟨c 0 _ rfl, c 1 _ rfl, c 2 _ rfl⟩
  | 1, h => cases h; exact ⟨c 3 _ rfl, c 4 _ rfl, c 5 _ rfl⟩
  | 2, h => cases h; exact ⟨c 6 _ rfl, c 7 _ rfl, c 8 _ rfl⟩
  | 3, h => cases h; exact ⟨c 9 _ rfl, c 10 _ rfl, c 11 _ rfl⟩
  | k + 4, h => simp [LJ] at h
theorem spansJ_any (w : World) :
    Calls Tryd.prog 36 #[] w fun e w' => e = .returned (.slice (some ⟨w.heap.size, 0, none⟩) 4 4) ∧ Spans w' (.slice (some ⟨w.heap.size, 0, none⟩) 4 4) LJ ∧ On w w' := by
  go_enter Tryd.func36, Tryd.ntmps36
  go_wp2
  go_ret
  exact ⟨rfl, spansJ_new w _, (On.refl w).alloc _⟩
theorem immJ_any (x : BitVec 32) (w : World) :
    Calls Tryd.prog 22 #[.int .u32 (q x)] w fun e w' => e = .returned (.int .u64 (u (immOf (zx x) LJ))) ∧ On w w' := by
  go_enter Tryd.func22, Tryd.ntmps22
  go_wp2_with (first | (go_at_call 36; refine (spansJ_any _).mono ?_; rintro e w1 ⟨rfl, hs, hb1⟩; have HS := Lib.hid hs; have HB1 := Lib.hid hb1; clear hs hb1) | (go_at_call 34; refine (join_any x LJ rfl (by decide) _ _ HS.out).mono ?_; rintro e w2 ⟨rfl, hb2⟩; have HB2 := Lib.hid hb2; clear hb2))
  go_ret
  exact ⟨rfl, HB1.out.trans HB2.out⟩
theorem R_any (op rd f3 rs1 rs2 f7 : Int) (hop : I64 op) (hrd : I64 rd) (hf3 : I64 f3) (hrs1 : I64 rs1) (hrs2 : I64 rs2) (hf7 : I64 f7) (w : World) :
    Calls Tryd.prog 51 #[.int .i64 op, .int .i64 rd, .int .i64 f3, .int .i64 rs1, .int .i64 rs2, .int .i64 f7] w fun e w' =>
      e = .returned (.tuple #[.int .u32 (q (asmW op rd f3 rs1 rs2 f7 0 [])), .int .i64 (asmE op rd f3 rs1 rs2 f7 0 [])]) ∧ On w w' := by
  have H6 : Hid (I6 op rd f3 rs1 rs2 f7) := Lib.hid ⟨hop, hrd, hf3, hrs1, hrs2, hf7⟩
  clear hop hrd hf3 hrs1 hrs2 hf7
  go_enter Tryd.func51, Tryd.ntmps51
  go_wp2_with (first | (go_at_call 71; refine (assemble_any _ _ _ _ _ _ _ [] H6.out rfl _ _ (.inl ⟨rfl, rfl⟩)).mono ?_; rintro e w2 ⟨rfl, hb2⟩; have HB2 := Lib.hid hb2; clear hb2))
  go_ret2
  exact ⟨rfl, HB2.out⟩
theorem I_any (op rd f3 rs1 imm : Int) (hop : I64 op) (hrd : I64 rd) (hf3 : I64 f3) (hrs1 : I64 rs1) (w : World) :
    Calls Tryd.prog 44 #[.int .i64 op, .int .i64 rd, .int .i64 f3, .int .i64 rs1, .int .i64 imm] w fun e w' =>
      e = .returned (.tuple #[.int .u32 (q (asmW op rd f3 rs1 0 0 imm LI)), .int .i64 (asmE op rd f3 rs1 0 0 imm LI)]) ∧ On w w' := by
  have H6 : Hid (I6 op rd f3 rs1 0 0) := Lib.hid ⟨hop, hrd, hf3, hrs1, i64_zero, i64_zero⟩
  clear hop hrd hf3 hrs1
  go_enter Tryd.func44, Tryd.ntmps44
  go_wp2_with (first | (go_at_call 37; refine (spansI_any _).mono ?_; rintro e w1 ⟨rfl, hs, hb1⟩; have HS := Lib.hid hs; have HB1 := Lib.hid hb1; clear hs hb1) | (go_at_call 71; refine (assemble_any _ _ _ _ _ _ _ LI H6.out rfl _ _ HS.out).mono ?_; rintro e w2 ⟨rfl, hb2⟩; have HB2 := Lib.hid hb2; clear hb2))
  go_ret2
  exact ⟨rfl, HB1.out.trans HB2.out⟩
theorem S_any (op f3 rs1 rs2 imm : Int) (hop : I64 op) (hf3 : I64 f3) (hrs1 : I64 rs1) (hrs2 : I64 rs2) (w : World) :
    Calls Tryd.prog 47 #[.int .i64 op, .int .i64 f3, .int .i64 rs1, .int .i64 rs2, .int .i64 imm] w fun e w' =>
      e = .returned (.tuple #[.int .u32 (q (asmW op 0 f3 rs1 rs2 0 imm LS)), .int .i64 (asmE op 0 f3 rs1 rs2 0 imm LS)]) ∧ On w w' := by
  have H6 : Hid (I6 op 0 f3 rs1 rs2 0) := Lib.hid ⟨hop, i64_zero, hf3, hrs1, hrs2, i64_zero⟩
  clear hop hf3 hrs1 hrs2
  go_enter Tryd.func47, Tryd.ntmps47
  go_wp2_with (first | (go_at_call 39; refine (spansS_any _).mono ?_; rintro e w1 ⟨rfl, hs, hb1⟩; have HS := Lib.hid hs; have HB1 := Lib.hid hb1; clear hs hb1) | (go_at_call 71; refine (assemble_any _ _ _ _ _ _ _ LS H6.out rfl _ _ HS.out).mono ?_; rintro e w2 ⟨rfl, hb2⟩; have HB2 := Lib.hid hb2; clear hb2))
  go_ret2
  exact ⟨rfl, HB1.out.trans HB2.out⟩
theorem B_any (op f3 rs1 rs2 imm : Int) (hop : I64 op) (hf3 : I64 f3) (hrs1 : I64 rs1) (hrs2 : I64 rs2) (w : World) :
    Calls Tryd.prog 45 #[.int .i64 op, .int .i64 f3, .int .i64 rs1, .int .i64 rs2, .int .i64 imm] w fun e w' =>
      e = .returned (.tuple #[.int .u32 (q (asmW op 0 f3 rs1 rs2 0 imm LB)), .int .i64 (asmE op 0 f3 rs1 rs2 0 imm LB)]) ∧ On w w' := by
  have H6 : Hid (I6 op 0 f3 rs1 rs2 0) := Lib.hid ⟨hop, i64_zero, hf3, hrs1, hrs2, i64_zero⟩
  clear hop hf3 hrs1 hrs2
  go_enter Tryd.func45, Tryd.ntmps45
  go_wp2_with (first | (go_at_call 38; refine (spansB_any _).mono ?_; rintro e w1 ⟨rfl, hs, hb1⟩; have HS := Lib.hid hs; have HB1 := Lib.hid hb1; clear hs hb1) | (go_at_call 71; refine (assemble_any _ _ _ _ _ _ _ LB H6.out rfl _ _ HS.out).mono ?_; rintro e w2 ⟨rfl, hb2⟩; have HB2 := Lib.hid hb2; clear hb2))
  go_ret2
  exact ⟨rfl, HB1.out.trans HB2.out⟩
theorem U_any (op rd imm : Int) (hop : I64 op) (hrd : I64 rd) (w : World) :
    Calls Tryd.prog 42 #[.int .i64 op, .int .i64 rd, .int .i64 imm] w fun e w' =>
      e = .returned (.tuple #[.int .u32 (q (asmW op rd 0 0 0 0 imm LU)), .int .i64 (asmE op rd 0 0 0 0 imm LU)]) ∧ On w w' := by
  have H6 : Hid (I6 op rd 0 0 0 0) := Lib.hid ⟨hop, hrd, i64_zero, i64_zero, i64_zero, i64_zero⟩
  clear hop hrd
  go_enter Tryd.func42, Tryd.ntmps42
  go_wp2_with (first | (go_at_call 35; refine (spansU_any _).mono ?_; rintro e w1 ⟨rfl, hs, hb1⟩; have HS := Lib.hid hs; have HB1 := Lib.hid hb1; clear hs hb1) | (go_at_call 71; refine (assemble_any _ _ _ _ _ _ _ LU H6.out rfl _ _ HS.out).mono ?_; rintro e w2 ⟨rfl, hb2⟩; have HB2 := Lib.hid hb2; clear hb2))
  go_ret2
  exact ⟨rfl, HB1.out.trans HB2.out⟩
theorem J_any (op rd imm : Int) (hop : I64 op) (hrd : I64 rd) (w : World) :
    Calls Tryd.prog 43 #[.int .i64 op, .int .i64 rd, .int .i64 imm] w fun e w' =>
      e = .returned (.tuple #[.int .u32 (q (asmW op rd 0 0 0 0 imm LJ)), .int .i64 (asmE op rd 0 0 0 0 imm LJ)]) ∧ On w w' := by
  have H6 : Hid (I6 op rd 0 0 0 0) := Lib.hid ⟨hop, hrd, i64_zero, i64_zero, i64_zero, i64_zero⟩
  clear hop hrd
  go_enter Tryd.func43, Tryd.ntmps43
  go_wp2_with (first | (go_at_call 36; refine (spansJ_any _).mono ?_; rintro e w1 ⟨rfl, hs, hb1⟩; have HS := Lib.hid hs; have HB1 := Lib.hid hb1; clear hs hb1) | (go_at_call 71; refine (assemble_any _ _ _ _ _ _ _ LJ H6.out rfl _ _ HS.out).mono ?_; rintro e w2 ⟨rfl, hb2⟩; have HB2 := Lib.hid hb2; clear hb2))
  go_ret2
  exact ⟨rfl, HB1.out.trans HB2.out⟩
end Go.Proofs.YtjnalgilkdoalaaDoor
