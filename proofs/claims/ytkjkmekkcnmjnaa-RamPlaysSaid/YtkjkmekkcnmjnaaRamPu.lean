/- One call of the law on both memories: a word put. Conditions: named at each. -/
import Derived.Test.YtkjkmekkcnmjnaaRamO
import Derived.Test.YtkjkmekkcnmjnaaLex
namespace Go.Proofs.Ytkjkmekkcnmjnaa
open Go.RowKit
set_option linter.unusedVariables false
set_option maxRecDepth 100000

/-- what stands in a region that calls both: i, j: the operations that do -/
structure BothAt (w0 : World) (bx : Nat) (C : Array Value) (n r N m p : Nat) (M M' : Nat → Int) (L L' : List (Int × Int)) (i j : Nat) (l : Array Bool) (wr : World) : Prop where
  on : On w0 wr
  size : m ≤ wr.heap.size
  box : wr.heap[bx]? = some (.cells C 35 (0, 0))
  ram : RamAt n r N (if l.getD i false = true then M' else M) wr
  ref : RefAt m p N (if l.getD j false = true then L' else L) wr
section
variable {w0 wr wx : World} {bx : Nat} {C : Array Value} {n r N m p : Nat} {M M' : Nat → Int} {L L' : List (Int × Int)} {i j : Nat} {l : Array Bool}
theorem getD_nope (n i : Nat) : (Array.replicate n false).getD i false = false := by
  rw [Array.getD_eq_getD_getElem?]
  rcases Nat.lt_or_ge i n with h | h
  · rw [Array.getElem?_replicate, if_pos h]; rfl
  · rw [Array.getElem?_eq_none (by simpa using h)]; rfl
theorem BothAt.start (k : Nat) (ho : On w0 wr) (hs : m ≤ wr.heap.size) (hb : wr.heap[bx]? = some (.cells C 35 (0, 0))) (R : RamAt n r N M wr) (Q : RefAt m p N L wr) : BothAt w0 bx C n r N m p M M' L L' i j (Array.replicate k false) { wr with drawn := wr.drawn + 1 } := by
  refine ⟨ho.drewN 1, hs, hb, ?_, ?_⟩
  · rw [getD_nope]; exact R.on ((On.refl wr).drewN 1)
  · rw [getD_nope]; exact Q.on ((On.refl wr).drewN 1)
theorem BothAt.step (h : BothAt w0 bx C n r N m p M M' L L' i j l wr) (k : Nat) (h1 : k ≠ i) (h2 : k ≠ j) (hk : On wr wx) : BothAt w0 bx C n r N m p M M' L L' i j (l.setIfInBounds k true) wx := by
  refine ⟨h.on.trans hk, Nat.le_trans h.size hk.size, hk.keep h.box, ?_, ?_⟩
  · rw [g_eq h1]; exact h.ram.on hk
  · rw [g_eq h2]; exact h.ref.on hk
theorem BothAt.ram0 (h : BothAt w0 bx C n r N m p M M' L L' i j l wr) (hl : l.getD i true = false) : RamAt n r N M wr := by
  have := h.ram
  rwa [g_not hl, if_neg (by simp)] at this
theorem BothAt.ref0 (h : BothAt w0 bx C n r N m p M M' L L' i j l wr) (hl : l.getD j true = false) : RefAt m p N L wr := by
  have := h.ref
  rwa [g_not hl, if_neg (by simp)] at this
theorem BothAt.rams (h : BothAt w0 bx C n r N m p M M' L L' i j l wr) (hi : i < l.size) (hij : i ≠ j) (hn : w0.heap.size ≤ n) (hk : Kp 64 n wr wx ∧ RamAt n r N M' wx) : BothAt w0 bx C n r N m p M M' L L' i j (l.setIfInBounds i true) wx := by
  refine ⟨hk.1.below0 h.on hn, Nat.le_trans h.size hk.1.size, hk.1.keep h.box (by decide), ?_, ?_⟩
  · rw [g_self hi, if_pos rfl]; exact hk.2
  · rw [g_eq hij]; exact h.ref.kp hk.1
theorem BothAt.refs (h : BothAt w0 bx C n r N m p M M' L L' i j l wr) (hj : j < l.size) (hij : i ≠ j) (hm : w0.heap.size ≤ m) (hk : Kr m wr wx ∧ RefAt m p N L' wx) : BothAt w0 bx C n r N m p M M' L L' i j (l.setIfInBounds j true) wx := by
  refine ⟨hk.1.below0 h.on hm, Nat.le_trans h.size hk.1.size, hk.1.keep h.box (by decide) (by decide), ?_, ?_⟩
  · rw [g_eq (Ne.symm hij)]; exact h.ram.kr hk.1
  · rw [g_self hj, if_pos rfl]; exact hk.2
end
section
variable {w0 w : World} {n r N m p : Nat} {M : Nat → Int} {L : List (Int × Int)}
set_option maxHeartbeats 4000000 in
theorem step_put (HO : On w0 w) (hn : w0.heap.size ≤ n) (hm0 : w0.heap.size ≤ m) (hm : m ≤ w.heap.size) (R : RamAt n r N M w) (Q : RefAt m p N L w) (hRM : RefM N M L) (hL : L.length ≤ 900000) (nn : Int) (x v : BitVec 64) (rw : Bool) (aB : Option Addr) (lB cB : Nat) (aS : Option Addr) (lS cS : Nat) (hnn : nn ≤ 9223372036854775807) :
    Calls Try.prog 15 #[.pointer (some ⟨r, 0, none⟩), .pointer (some ⟨p, 0, none⟩), .agg #[.int .i64 2, .int .i64 nn, .int .u64 (u x), .bool rw, .slice aB lB cB, .slice aS lS cS, .int .u64 (u v)]] w fun e w' =>
      e = .returned (.bool true) ∧ StepR w0 n r N m p L w' := by
  obtain ⟨aa, h1, h2⟩ := plA_ex rw x
  have K0 := Lib.hid (lplace_any 2 nn x aa rw (.slice aB lB cB) (.slice aS lS cS) (u v) h1 h2 rfl rfl)
  have HP := Lib.hid (And.intro hn (And.intro hnn (And.intro hm0 (show L.length ≤ 999000 by omega))))
  have HE := Lib.hid (And.intro (hRM.pt R.pages aa nn v) hL)
  have c0 : ∀ wr, On (w.alloc (.cells #[.int .i64 2, .int .i64 nn, .int .u64 (u x), .bool rw, .slice aB lB cB, .slice aS lS cS, .int .u64 (u v)] 35)) wr → wr.cell? ⟨w.heap.size, 0, none⟩ = some (.int .i64 2) := fun _ h => on_new h 0 rfl
  have c1 : ∀ wr, On (w.alloc (.cells #[.int .i64 2, .int .i64 nn, .int .u64 (u x), .bool rw, .slice aB lB cB, .slice aS lS cS, .int .u64 (u v)] 35)) wr → wr.cell? ⟨w.heap.size, 1, none⟩ = some (.int .i64 nn) := fun _ h => on_new h 1 rfl
  have c2 : ∀ wr, On (w.alloc (.cells #[.int .i64 2, .int .i64 nn, .int .u64 (u x), .bool rw, .slice aB lB cB, .slice aS lS cS, .int .u64 (u v)] 35)) wr → wr.cell? ⟨w.heap.size, 2, none⟩ = some (.int .u64 (u x)) := fun _ h => on_new h 2 rfl
  have c3 : ∀ wr, On (w.alloc (.cells #[.int .i64 2, .int .i64 nn, .int .u64 (u x), .bool rw, .slice aB lB cB, .slice aS lS cS, .int .u64 (u v)] 35)) wr → wr.cell? ⟨w.heap.size, 3, none⟩ = some (.bool rw) := fun _ h => on_new h 3 rfl
  have c4 : ∀ wr, On (w.alloc (.cells #[.int .i64 2, .int .i64 nn, .int .u64 (u x), .bool rw, .slice aB lB cB, .slice aS lS cS, .int .u64 (u v)] 35)) wr → wr.cell? ⟨w.heap.size, 4, none⟩ = some (.slice aB lB cB) := fun _ h => on_new h 4 rfl
  have c5 : ∀ wr, On (w.alloc (.cells #[.int .i64 2, .int .i64 nn, .int .u64 (u x), .bool rw, .slice aB lB cB, .slice aS lS cS, .int .u64 (u v)] 35)) wr → wr.cell? ⟨w.heap.size, 5, none⟩ = some (.slice aS lS cS) := fun _ h => on_new h 5 rfl
  have c6 : ∀ wr, On (w.alloc (.cells #[.int .i64 2, .int .i64 nn, .int .u64 (u x), .bool rw, .slice aB lB cB, .slice aS lS cS, .int .u64 (u v)] 35)) wr → wr.cell? ⟨w.heap.size, 6, none⟩ = some (.int .u64 (u v)) := fun _ h => on_new h 6 rfl
  have hb := On.refl (w.alloc (.cells #[.int .i64 2, .int .i64 nn, .int .u64 (u x), .bool rw, .slice aB lB cB, .slice aS lS cS, .int .u64 (u v)] 35))
  have hw1 := (On.refl w).alloc (.cells #[.int .i64 2, .int .i64 nn, .int .u64 (u x), .bool rw, .slice aB lB cB, .slice aS lS cS, .int .u64 (u v)] 35)
  have HS := Lib.hid (fun wx (hq : On (w.alloc (.cells #[.int .i64 2, .int .i64 nn, .int .u64 (u x), .bool rw, .slice aB lB cB, .slice aS lS cS, .int .u64 (u v)] 35)) wx) => BothAt.start (M' := ptM N M aa nn v) (L' := ptL N L aa nn v) (i := 6) (j := 13) 16 (HO.trans (hw1.trans hq)) (Nat.le_trans hm (hw1.trans hq).size) (hq.keep (blk_new w _)) (R.on (hw1.trans hq)) (Q.on (hw1.trans hq)))
  clear h1 h2 HO R Q hRM hL hw1 hn hm hm0 hnn
  go_enter Try.func15, Try.ntmps15
  go_wp2_with (first | (go_at_call 27; refine (K0.out _).mono ?_; rintro e wn ⟨rfl, hb'⟩; have hb := hb.trans hb'; clear hb'))
  have hS0 := HS.out _ hb
  refine wp_region_slots (by kernel_rfl) (fun i => (#[.pointer (some ⟨r, 0, none⟩), .int .u64 (u aa), .pointer (some ⟨w.heap.size, 1, none⟩), .int .i64 nn, .pointer (some ⟨w.heap.size, 6, none⟩), .int .u64 (u v), .int .i64 (wdE N aa nn), .pointer (some ⟨p, 0, none⟩), .int .u64 (u aa), .pointer (some ⟨w.heap.size, 1, none⟩), .int .i64 nn, .pointer (some ⟨w.heap.size, 6, none⟩), .int .u64 (u v), .int .i64 (wdE N aa nn), .bool true, .bool true] : Array Value).getD i undef) (BothAt w0 w.heap.size #[.int .i64 2, .int .i64 nn, .int .u64 (u x), .bool rw, .slice aB lB cB, .slice aS lS cS, .int .u64 (u v)] n r N m p M (ptM N M aa nn v) L (ptL N L aa nn v) 6 13) (lex_of (by kernel_rfl)) (oneDst_of (by kernel_rfl)) hS0 ?done ?step
  case step =>
    intro i o hi hi13 l a wr hS hW hl haft
    have hi13 : i < 16 := hi13
    have h13 : i = 0 ∨ i = 1 ∨ i = 2 ∨ i = 3 ∨ i = 4 ∨ i = 5 ∨ i = 6 ∨ i = 7 ∨ i = 8 ∨ i = 9 ∨ i = 10 ∨ i = 11 ∨ i = 12 ∨ i = 13 ∨ i = 14 ∨ i = 15 := by omega
    rcases h13 with rfl | rfl | rfl | rfl | rfl | rfl | rfl | rfl | rfl | rfl | rfl | rfl | rfl | rfl | rfl | rfl
    · obtain rfl := Option.some.inj hi
      refine wpOp_of hi rfl ?_
      exact wp_move_at rfl (hS.old (by kernel_rfl)) ⟨hS.put (oneDst_of (by kernel_rfl)) hi (fun _ => rfl), hW.step 0 (by omega) (by omega) (On.refl _)⟩
    · obtain rfl := Option.some.inj hi
      refine wpOp_of hi rfl ?_
      exact wp_move_at rfl (hS.old (by kernel_rfl)) ⟨hS.put (oneDst_of (by kernel_rfl)) hi (fun _ => rfl), hW.step 1 (by omega) (by omega) (On.refl _)⟩
    · obtain rfl := Option.some.inj hi
      refine wpOp_of hi rfl ?_
      exact wp_field_at rfl (hS.old (by kernel_rfl)) (show _ = Result.ok (.pointer (some ⟨w.heap.size, 1, none⟩)) wr by go_simp) ⟨hS.put (oneDst_of (by kernel_rfl)) hi (fun _ => rfl), hW.step 2 (by omega) (by omega) (On.refl _)⟩
    · obtain rfl := Option.some.inj hi
      refine wpOp_of hi rfl ?_
      exact wp_load_at rfl (hS.val (i := 2) rfl rfl (haft ⟨2, .data⟩ (by simp) rfl)) (show _ = Result.ok (.int .i64 nn) wr by have hc := blk_cell hW.box 1 rfl; go_simp) ⟨hS.put (oneDst_of (by kernel_rfl)) hi (fun _ => rfl), hW.step 3 (by omega) (by omega) (On.refl _)⟩
    · obtain rfl := Option.some.inj hi
      refine wpOp_of hi rfl ?_
      exact wp_field_at rfl (hS.old (by kernel_rfl)) (show _ = Result.ok (.pointer (some ⟨w.heap.size, 6, none⟩)) wr by go_simp) ⟨hS.put (oneDst_of (by kernel_rfl)) hi (fun _ => rfl), hW.step 4 (by omega) (by omega) (On.refl _)⟩
    · obtain rfl := Option.some.inj hi
      refine wpOp_of hi rfl ?_
      exact wp_load_at rfl (hS.val (i := 4) rfl rfl (haft ⟨4, .data⟩ (by simp) rfl)) (show _ = Result.ok (.int .u64 (u v)) wr by have hc := blk_cell hW.box 6 rfl; go_simp) ⟨hS.put (oneDst_of (by kernel_rfl)) hi (fun _ => rfl), hW.step 5 (by omega) (by omega) (On.refl _)⟩
    · obtain rfl := Option.some.inj hi
      refine wpOp_of hi rfl ?_
      refine wp_call_at (vs := #[.pointer (some ⟨r, 0, none⟩), .int .u64 (u aa), .int .i64 nn, .int .u64 (u v)]) rfl ?_ rfl (ramput_any (hW.ram0 hl) aa nn HP.out.2.1 v) (fun w' h' => ⟨hS.put (oneDst_of (by kernel_rfl)) hi (fun _ => rfl), hW.rams (by rw [hS.size]; decide) (by omega) HP.out.1 h'⟩)
      show [a.eval (.tmp 65), a.eval (.tmp 66), a.eval (.tmp 68), a.eval (.tmp 70)] = _
      rw [(hS.val (i := 0) rfl rfl (haft ⟨0, .data⟩ (by simp) rfl))]
      rw [(hS.val (i := 1) rfl rfl (haft ⟨1, .data⟩ (by simp) rfl))]
      rw [(hS.val (i := 3) rfl rfl (haft ⟨3, .data⟩ (by simp) rfl))]
      rw [(hS.val (i := 5) rfl rfl (haft ⟨5, .data⟩ (by simp) rfl))]
      rfl
    · obtain rfl := Option.some.inj hi
      refine wpOp_of hi rfl ?_
      exact wp_move_at rfl (hS.old (by kernel_rfl)) ⟨hS.put (oneDst_of (by kernel_rfl)) hi (fun _ => rfl), hW.step 7 (by omega) (by omega) (On.refl _)⟩
    · obtain rfl := Option.some.inj hi
      refine wpOp_of hi rfl ?_
      exact wp_move_at rfl (hS.old (by kernel_rfl)) ⟨hS.put (oneDst_of (by kernel_rfl)) hi (fun _ => rfl), hW.step 8 (by omega) (by omega) (On.refl _)⟩
    · obtain rfl := Option.some.inj hi
      refine wpOp_of hi rfl ?_
      exact wp_field_at rfl (hS.old (by kernel_rfl)) (show _ = Result.ok (.pointer (some ⟨w.heap.size, 1, none⟩)) wr by go_simp) ⟨hS.put (oneDst_of (by kernel_rfl)) hi (fun _ => rfl), hW.step 9 (by omega) (by omega) (On.refl _)⟩
    · obtain rfl := Option.some.inj hi
      refine wpOp_of hi rfl ?_
      exact wp_load_at rfl (hS.val (i := 9) rfl rfl (haft ⟨9, .data⟩ (by simp) rfl)) (show _ = Result.ok (.int .i64 nn) wr by have hc := blk_cell hW.box 1 rfl; go_simp) ⟨hS.put (oneDst_of (by kernel_rfl)) hi (fun _ => rfl), hW.step 10 (by omega) (by omega) (On.refl _)⟩
    · obtain rfl := Option.some.inj hi
      refine wpOp_of hi rfl ?_
      exact wp_field_at rfl (hS.old (by kernel_rfl)) (show _ = Result.ok (.pointer (some ⟨w.heap.size, 6, none⟩)) wr by go_simp) ⟨hS.put (oneDst_of (by kernel_rfl)) hi (fun _ => rfl), hW.step 11 (by omega) (by omega) (On.refl _)⟩
    · obtain rfl := Option.some.inj hi
      refine wpOp_of hi rfl ?_
      exact wp_load_at rfl (hS.val (i := 11) rfl rfl (haft ⟨11, .data⟩ (by simp) rfl)) (show _ = Result.ok (.int .u64 (u v)) wr by have hc := blk_cell hW.box 6 rfl; go_simp) ⟨hS.put (oneDst_of (by kernel_rfl)) hi (fun _ => rfl), hW.step 12 (by omega) (by omega) (On.refl _)⟩
    · obtain rfl := Option.some.inj hi
      refine wpOp_of hi rfl ?_
      refine wp_call_at (vs := #[.pointer (some ⟨p, 0, none⟩), .int .u64 (u aa), .int .i64 nn, .int .u64 (u v)]) rfl ?_ rfl (rput_any (hW.ref0 hl) hW.size HP.out.2.2.2 aa nn HP.out.2.1 v) (fun w' h' => ⟨hS.put (oneDst_of (by kernel_rfl)) hi (fun _ => rfl), hW.refs (by rw [hS.size]; decide) (by omega) HP.out.2.2.1 h'⟩)
      show [a.eval (.tmp 72), a.eval (.tmp 73), a.eval (.tmp 75), a.eval (.tmp 77)] = _
      rw [(hS.val (i := 7) rfl rfl (haft ⟨7, .data⟩ (by simp) rfl))]
      rw [(hS.val (i := 8) rfl rfl (haft ⟨8, .data⟩ (by simp) rfl))]
      rw [(hS.val (i := 10) rfl rfl (haft ⟨10, .data⟩ (by simp) rfl))]
      rw [(hS.val (i := 12) rfl rfl (haft ⟨12, .data⟩ (by simp) rfl))]
      rfl
    · obtain rfl := Option.some.inj hi
      refine wpOp_of hi rfl ?_
      exact wp_bin_at rfl (hS.val (i := 6) rfl rfl (haft ⟨6, .data⟩ (by simp) rfl)) (hS.val (i := 13) rfl rfl (haft ⟨13, .data⟩ (by simp) rfl)) rfl (show _ = Result.ok (Value.bool true) wr by go_simp) ⟨hS.put (oneDst_of (by kernel_rfl)) hi (fun _ => rfl), hW.step 14 (by omega) (by omega) (On.refl _)⟩
    · obtain rfl := Option.some.inj hi
      refine wpOp_of hi rfl ?_
      exact wp_assign_at rfl (hS.val (i := 14) rfl rfl (haft ⟨14, .data⟩ (by simp) rfl)) ⟨hS.put (oneDst_of (by kernel_rfl)) hi (fun _ => rfl), hW.step 15 (by omega) (by omega) (On.refl _)⟩
  case done =>
    intro wr hW
    simp only [puts]
    go_simp
    go_wp2
    go_ret
    exact ⟨by simp, hW.on, _, _, (show RamAt n r N (ptM N M aa nn v) wr from hW.ram), (show RefAt m p N (ptL N L aa nn v) wr from hW.ref), HE.out.1.1, by have := HE.out.1.2; omega⟩
end
end Go.Proofs.Ytkjkmekkcnmjnaa
