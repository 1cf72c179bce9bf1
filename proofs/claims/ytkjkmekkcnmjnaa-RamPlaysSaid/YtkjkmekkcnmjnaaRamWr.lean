/- One call of the law on both memories: bytes written. Conditions: named at each. -/
import Derived.Test.YtkjkmekkcnmjnaaRamQ
namespace Go.Proofs.Ytkjkmekkcnmjnaa
open Go.RowKit
set_option linter.unusedVariables false
set_option maxRecDepth 100000
theorem RefAt.but {m p N B : Nat} {L : List (Int × Int)} {w w' : World} {cs : Array Value} {t : TypeId} {fr : Nat × Nat} (R : RefAt m p N L w) (hB : w.heap[B]? = some (.cells cs t fr)) (h1 : t ≠ 45) (h2 : t ≠ 79) (h : But B w w') : RefAt m p N L w' := by
  obtain ⟨v, R⟩ := R; exact ⟨v, R.but hB h1 h2 h⟩
/-- what stays where the copy is spoiled -/
theorem StepR.spoil {w0 wr w' : World} {n r N m p g : Nat} {L L' : List (Int × Int)} {M' : Nat → Int} {zs : List Int} (ho : On w0 wr) (hg : w0.heap.size ≤ g) (hO : OwnC g zs wr) (R : RamAt n r N M' wr) (Q : RefAt m p N L' wr) (hM : RefM N M' L') (hl : L'.length ≤ L.length + 200) (k : But g wr w') : StepR w0 n r N m p L w' := by
  obtain ⟨cur, h1, _⟩ := hO
  exact ⟨ho.but_new hg k, _, _, R.but h1 (by decide) (by decide) k, Q.but h1 (by decide) (by decide) k, hM, hl⟩
section
variable {w0 w : World} {n r N m p : Nat} {M : Nat → Int} {L : List (Int × Int)} {zs : List Int}
set_option maxHeartbeats 4000000 in
theorem step_write (HO : On w0 w) (hn : w0.heap.size ≤ n) (hm0 : w0.heap.size ≤ m) (hm : m ≤ w.heap.size) (R : RamAt n r N M w) (Q : RefAt m p N L w) (hRM : RefM N M L) (hL : L.length ≤ 900000) (kd nn : Int) (hk : kd ≠ 1 ∧ kd ≠ 2 ∧ kd ≠ 3 ∧ kd ≠ 4) (x : BitVec 64) (v : Int) (rw : Bool) (aB : Option Addr) (cB : Nat) (aS : Option Addr) (lS cS : Nat) (hB : RB w0 (.slice aB zs.length cB) zs) (hz : Byte zs) (hl : zs.length ≤ 200) :
    Calls Try.prog 15 #[.pointer (some ⟨r, 0, none⟩), .pointer (some ⟨p, 0, none⟩), .agg #[.int .i64 kd, .int .i64 nn, .int .u64 (u x), .bool rw, .slice aB zs.length cB, .slice aS lS cS, .int .u64 v]] w fun e w' =>
      e = .returned (.bool true) ∧ StepR w0 n r N m p L w' := by
  obtain ⟨aa, h1, h2⟩ := plA_ex rw x
  have K0 := Lib.hid (lplace_any kd nn x aa rw (.slice aB zs.length cB) (.slice aS lS cS) v h1 h2 rfl rfl)
  have K1 := Lib.hid (fun wx (hq : On w0 wx) => own_c (RB.on0 hB hq) (by omega))
  have HN := Lib.hid hn
  have HM := Lib.hid hm0
  have HB := Lib.hid hB
  have HZ := Lib.hid hz
  have HL := Lib.hid hl
  have HQ : Hid (L.length + zs.length ≤ 1000000) := Lib.hid (by omega)
  have HE := Lib.hid (And.intro (hRM.se aa zs.length (fun i => zs.getD i 0) (fun _ => true)) hL)
  have b1 : (kd == 1) = false := by simpa using hk.1
  have b2 : (kd == 2) = false := by simpa using hk.2.1
  have b3 : (kd == 3) = false := by simpa using hk.2.2.1
  have b4 : (kd == 4) = false := by simpa using hk.2.2.2
  have c0 : ∀ wr, On (w.alloc (.cells #[.int .i64 kd, .int .i64 nn, .int .u64 (u x), .bool rw, .slice aB zs.length cB, .slice aS lS cS, .int .u64 v] 35)) wr → wr.cell? ⟨w.heap.size, 0, none⟩ = some (.int .i64 kd) := fun _ h => on_new h 0 rfl
  have c1 : ∀ wr, On (w.alloc (.cells #[.int .i64 kd, .int .i64 nn, .int .u64 (u x), .bool rw, .slice aB zs.length cB, .slice aS lS cS, .int .u64 v] 35)) wr → wr.cell? ⟨w.heap.size, 1, none⟩ = some (.int .i64 nn) := fun _ h => on_new h 1 rfl
  have c2 : ∀ wr, On (w.alloc (.cells #[.int .i64 kd, .int .i64 nn, .int .u64 (u x), .bool rw, .slice aB zs.length cB, .slice aS lS cS, .int .u64 v] 35)) wr → wr.cell? ⟨w.heap.size, 2, none⟩ = some (.int .u64 (u x)) := fun _ h => on_new h 2 rfl
  have c3 : ∀ wr, On (w.alloc (.cells #[.int .i64 kd, .int .i64 nn, .int .u64 (u x), .bool rw, .slice aB zs.length cB, .slice aS lS cS, .int .u64 v] 35)) wr → wr.cell? ⟨w.heap.size, 3, none⟩ = some (.bool rw) := fun _ h => on_new h 3 rfl
  have c4 : ∀ wr, On (w.alloc (.cells #[.int .i64 kd, .int .i64 nn, .int .u64 (u x), .bool rw, .slice aB zs.length cB, .slice aS lS cS, .int .u64 v] 35)) wr → wr.cell? ⟨w.heap.size, 4, none⟩ = some (.slice aB zs.length cB) := fun _ h => on_new h 4 rfl
  have c5 : ∀ wr, On (w.alloc (.cells #[.int .i64 kd, .int .i64 nn, .int .u64 (u x), .bool rw, .slice aB zs.length cB, .slice aS lS cS, .int .u64 v] 35)) wr → wr.cell? ⟨w.heap.size, 5, none⟩ = some (.slice aS lS cS) := fun _ h => on_new h 5 rfl
  have c6 : ∀ wr, On (w.alloc (.cells #[.int .i64 kd, .int .i64 nn, .int .u64 (u x), .bool rw, .slice aB zs.length cB, .slice aS lS cS, .int .u64 v] 35)) wr → wr.cell? ⟨w.heap.size, 6, none⟩ = some (.int .u64 v) := fun _ h => on_new h 6 rfl
  have hb := On.refl (w.alloc (.cells #[.int .i64 kd, .int .i64 nn, .int .u64 (u x), .bool rw, .slice aB zs.length cB, .slice aS lS cS, .int .u64 v] 35))
  have hw1 := (On.refl w).alloc (.cells #[.int .i64 kd, .int .i64 nn, .int .u64 (u x), .bool rw, .slice aB zs.length cB, .slice aS lS cS, .int .u64 v] 35)
  have HW := Lib.hid (HO.trans hw1)
  have HS := Lib.hid (fun wx (hq : On (w.alloc (.cells #[.int .i64 kd, .int .i64 nn, .int .u64 (u x), .bool rw, .slice aB zs.length cB, .slice aS lS cS, .int .u64 v] 35)) wx) => BothAt.start (M' := (seM N M aa zs.length (fun i => zs.getD i 0) (fun _ => true))) (L' := (seL N L aa zs.length (fun i => zs.getD i 0) (fun _ => true))) (i := 3) (j := 8) 17 (HO.trans (hw1.trans hq)) (Nat.le_trans hm (hw1.trans hq).size) (hq.keep (blk_new w _)) (R.on (hw1.trans hq)) (Q.on (hw1.trans hq)))
  clear h1 h2 HO R Q hRM hL hw1 hn hm hm0 hk hB hz hl
  go_enter Try.func15, Try.ntmps15
  go_wp2_with (first | (go_at_call 27; refine (K0.out _).mono ?_; rintro e wn ⟨rfl, hb'⟩; have hb := hb.trans hb'; clear hb') | (go_at_call 28; refine (K1.out _ (HW.out.trans hb)).mono ?_; rintro e wn ⟨g, hg, rfl, hb', hO⟩; have hg := Lib.hid (Nat.le_trans (HW.out.trans hb).size hg); have hb := hb.trans hb'; clear hb'; have hO := Lib.hid hO))
  have hS0 := HS.out _ hb
  refine wp_region_slots (by kernel_rfl) (fun i => (#[.pointer (some ⟨r, 0, none⟩), .int .u64 (u aa), .slice (some ⟨g, 0, none⟩) zs.length (zs.length + 3), .int .i64 (seE N aa zs.length), .pointer (some ⟨p, 0, none⟩), .int .u64 (u aa), .pointer (some ⟨w.heap.size, 4, none⟩), .slice aB zs.length cB, .int .i64 (seE N aa zs.length), .bool true, .bool true, .slice (some ⟨g, 0, none⟩) zs.length (zs.length + 3), .pointer (some ⟨w.heap.size, 4, none⟩), .slice aB zs.length cB, .bool true, .bool true, .bool true] : Array Value).getD i undef) (fun l wr => BothAt w0 w.heap.size #[.int .i64 kd, .int .i64 nn, .int .u64 (u x), .bool rw, .slice aB zs.length cB, .slice aS lS cS, .int .u64 v] n r N m p M (seM N M aa zs.length (fun i => zs.getD i 0) (fun _ => true)) L (seL N L aa zs.length (fun i => zs.getD i 0) (fun _ => true)) 3 8 l wr ∧ OwnC g zs wr) (lex_of (by kernel_rfl)) (oneDst_of (by kernel_rfl)) ⟨hS0, hO.out.on ((On.refl _).drewN 1)⟩ ?done ?step
  case step =>
    intro i o hi hi13 l a wr hS hW hl haft
    have hi13 : i < 17 := hi13
    have h13 : i = 0 ∨ i = 1 ∨ i = 2 ∨ i = 3 ∨ i = 4 ∨ i = 5 ∨ i = 6 ∨ i = 7 ∨ i = 8 ∨ i = 9 ∨ i = 10 ∨ i = 11 ∨ i = 12 ∨ i = 13 ∨ i = 14 ∨ i = 15 ∨ i = 16 := by omega
    rcases h13 with rfl | rfl | rfl | rfl | rfl | rfl | rfl | rfl | rfl | rfl | rfl | rfl | rfl | rfl | rfl | rfl | rfl
    · obtain rfl := Option.some.inj hi
      refine wpOp_of hi rfl ?_
      exact wp_move_at rfl (hS.old (by kernel_rfl)) ⟨hS.put (oneDst_of (by kernel_rfl)) hi (fun _ => rfl), ⟨hW.1.step 0 (by omega) (by omega) (On.refl _), hW.2⟩⟩
    · obtain rfl := Option.some.inj hi
      refine wpOp_of hi rfl ?_
      exact wp_move_at rfl (hS.old (by kernel_rfl)) ⟨hS.put (oneDst_of (by kernel_rfl)) hi (fun _ => rfl), ⟨hW.1.step 1 (by omega) (by omega) (On.refl _), hW.2⟩⟩
    · obtain rfl := Option.some.inj hi
      refine wpOp_of hi rfl ?_
      exact wp_move_at rfl (hS.old (by kernel_rfl)) ⟨hS.put (oneDst_of (by kernel_rfl)) hi (fun _ => rfl), ⟨hW.1.step 2 (by omega) (by omega) (On.refl _), hW.2⟩⟩
    · obtain rfl := Option.some.inj hi
      refine wpOp_of hi rfl ?_
      refine wp_call_at (vs := #[.pointer (some ⟨r, 0, none⟩), .int .u64 (u aa), .slice (some ⟨g, 0, none⟩) zs.length (zs.length + 3)]) rfl ?_ rfl (ramwrite_c (hW.1.ram0 hl) HZ.out aa (hW.2.src (by have := HL.out; omega)) (by have := HL.out; omega)) (fun w' h' => ⟨hS.put (oneDst_of (by kernel_rfl)) hi (fun _ => rfl), ⟨hW.1.rams (by rw [hS.size]; decide) (by omega) HN.out h', hW.2.kp h'.1⟩⟩)
      show [a.eval (.tmp 139), a.eval (.tmp 140), a.eval (.tmp 141)] = _
      rw [(hS.val (i := 0) rfl rfl (haft ⟨0, .data⟩ (by simp) rfl))]
      rw [(hS.val (i := 1) rfl rfl (haft ⟨1, .data⟩ (by simp) rfl))]
      rw [(hS.val (i := 2) rfl rfl (haft ⟨2, .data⟩ (by simp) rfl))]
      rfl
    · obtain rfl := Option.some.inj hi
      refine wpOp_of hi rfl ?_
      exact wp_move_at rfl (hS.old (by kernel_rfl)) ⟨hS.put (oneDst_of (by kernel_rfl)) hi (fun _ => rfl), ⟨hW.1.step 4 (by omega) (by omega) (On.refl _), hW.2⟩⟩
    · obtain rfl := Option.some.inj hi
      refine wpOp_of hi rfl ?_
      exact wp_move_at rfl (hS.old (by kernel_rfl)) ⟨hS.put (oneDst_of (by kernel_rfl)) hi (fun _ => rfl), ⟨hW.1.step 5 (by omega) (by omega) (On.refl _), hW.2⟩⟩
    · obtain rfl := Option.some.inj hi
      refine wpOp_of hi rfl ?_
      exact wp_field_at rfl (hS.old (by kernel_rfl)) (show _ = Result.ok (.pointer (some ⟨w.heap.size, 4, none⟩)) wr by go_simp) ⟨hS.put (oneDst_of (by kernel_rfl)) hi (fun _ => rfl), ⟨hW.1.step 6 (by omega) (by omega) (On.refl _), hW.2⟩⟩
    · obtain rfl := Option.some.inj hi
      refine wpOp_of hi rfl ?_
      exact wp_load_at rfl (hS.val (i := 6) rfl rfl (haft ⟨6, .data⟩ (by simp) rfl)) (show _ = Result.ok (.slice aB zs.length cB) wr by have hc := blk_cell hW.1.box 4 rfl; go_simp) ⟨hS.put (oneDst_of (by kernel_rfl)) hi (fun _ => rfl), ⟨hW.1.step 7 (by omega) (by omega) (On.refl _), hW.2⟩⟩
    · obtain rfl := Option.some.inj hi
      refine wpOp_of hi rfl ?_
      refine wp_call_at (vs := #[.pointer (some ⟨p, 0, none⟩), .int .u64 (u aa), .slice aB zs.length cB, .slice none 0 0, .bool true]) rfl ?_ rfl (refwrite_c (hW.1.ref0 hl) hW.1.size HQ.out aa (RB.srcR HB.out hW.1.on HM.out) (.slice none 0 0)) (fun w' h' => ⟨hS.put (oneDst_of (by kernel_rfl)) hi (fun _ => rfl), ⟨hW.1.refs (by rw [hS.size]; decide) (by omega) HM.out h', hW.2.kr h'.1⟩⟩)
      show [a.eval (.tmp 143), a.eval (.tmp 144), a.eval (.tmp 146), .slice none 0 0, .bool true] = _
      rw [(hS.val (i := 4) rfl rfl (haft ⟨4, .data⟩ (by simp) rfl))]
      rw [(hS.val (i := 5) rfl rfl (haft ⟨5, .data⟩ (by simp) rfl))]
      rw [(hS.val (i := 7) rfl rfl (haft ⟨7, .data⟩ (by simp) rfl))]
      rfl
    · obtain rfl := Option.some.inj hi
      refine wpOp_of hi rfl ?_
      exact wp_bin_at rfl (hS.val (i := 3) rfl rfl (haft ⟨3, .data⟩ (by simp) rfl)) (hS.val (i := 8) rfl rfl (haft ⟨8, .data⟩ (by simp) rfl)) rfl (show _ = Result.ok (Value.bool true) wr by go_simp) ⟨hS.put (oneDst_of (by kernel_rfl)) hi (fun _ => rfl), ⟨hW.1.step 9 (by omega) (by omega) (On.refl _), hW.2⟩⟩
    · obtain rfl := Option.some.inj hi
      refine wpOp_of hi rfl ?_
      exact wp_move_at rfl (hS.val (i := 9) rfl rfl (haft ⟨9, .data⟩ (by simp) rfl)) ⟨hS.put (oneDst_of (by kernel_rfl)) hi (fun _ => rfl), ⟨hW.1.step 10 (by omega) (by omega) (On.refl _), hW.2⟩⟩
    · obtain rfl := Option.some.inj hi
      refine wpOp_if hi (wanted_of rfl rfl rfl ((hS.val (i := 10) rfl rfl (haft ⟨10, .guard⟩ (by simp) rfl)))) ?_
      exact wp_move_at rfl (hS.old (by kernel_rfl)) ⟨hS.put (oneDst_of (by kernel_rfl)) hi (fun _ => rfl), ⟨hW.1.step 11 (by omega) (by omega) (On.refl _), hW.2⟩⟩
    · obtain rfl := Option.some.inj hi
      refine wpOp_if hi (wanted_of rfl rfl rfl ((hS.val (i := 10) rfl rfl (haft ⟨10, .guard⟩ (by simp) rfl)))) ?_
      exact wp_field_at rfl (hS.old (by kernel_rfl)) (show _ = Result.ok (.pointer (some ⟨w.heap.size, 4, none⟩)) wr by go_simp) ⟨hS.put (oneDst_of (by kernel_rfl)) hi (fun _ => rfl), ⟨hW.1.step 12 (by omega) (by omega) (On.refl _), hW.2⟩⟩
    · obtain rfl := Option.some.inj hi
      refine wpOp_if hi (wanted_of rfl rfl rfl ((hS.val (i := 10) rfl rfl (haft ⟨10, .guard⟩ (by simp) rfl)))) ?_
      exact wp_load_at rfl (hS.val (i := 12) rfl rfl (haft ⟨12, .data⟩ (by simp) rfl)) (show _ = Result.ok (.slice aB zs.length cB) wr by have hc := blk_cell hW.1.box 4 rfl; go_simp) ⟨hS.put (oneDst_of (by kernel_rfl)) hi (fun _ => rfl), ⟨hW.1.step 13 (by omega) (by omega) (On.refl _), hW.2⟩⟩
    · obtain rfl := Option.some.inj hi
      refine wpOp_if hi (wanted_of rfl rfl rfl ((hS.val (i := 10) rfl rfl (haft ⟨10, .guard⟩ (by simp) rfl)))) ?_
      refine wp_call_at (vs := #[.slice (some ⟨g, 0, none⟩) zs.length (zs.length + 3), .slice aB zs.length cB, .int .u8 71]) rfl ?_ rfl (kept_c hW.2 (RB.on0 HB.out hW.1.on) (by have := HL.out; omega)) (fun w' h' => ⟨hS.put (oneDst_of (by kernel_rfl)) hi (fun _ => rfl), ⟨hW.1.step 14 (by omega) (by omega) h', hW.2.on h'⟩⟩)
      show [a.eval (.tmp 150), a.eval (.tmp 152), .int .u8 71] = _
      rw [(hS.val (i := 11) rfl rfl (haft ⟨11, .data⟩ (by simp) rfl))]
      rw [(hS.val (i := 13) rfl rfl (haft ⟨13, .data⟩ (by simp) rfl))]
      rfl
    · obtain rfl := Option.some.inj hi
      refine wpOp_of hi rfl ?_
      exact wp_pick_at rfl (hS.val (i := 10) rfl rfl (haft ⟨10, .data⟩ (by simp) rfl)) (hS.val (i := 14) rfl rfl (haft ⟨14, .data⟩ (by simp) rfl)) ⟨hS.put (oneDst_of (by kernel_rfl)) hi (fun _ => rfl), ⟨hW.1.step 15 (by omega) (by omega) (On.refl _), hW.2⟩⟩
    · obtain rfl := Option.some.inj hi
      refine wpOp_of hi rfl ?_
      exact wp_assign_at rfl (hS.val (i := 15) rfl rfl (haft ⟨15, .data⟩ (by simp) rfl)) ⟨hS.put (oneDst_of (by kernel_rfl)) hi (fun _ => rfl), ⟨hW.1.step 16 (by omega) (by omega) (On.refl _), hW.2⟩⟩
  case done =>
    intro wr hW
    simp only [puts]
    go_simp
    have hR : RamAt n r N (seM N M aa zs.length (fun i => zs.getD i 0) (fun _ => true)) wr := hW.1.ram
    have hQ : RefAt m p N (seL N L aa zs.length (fun i => zs.getD i 0) (fun _ => true)) wr := hW.1.ref
    have HR := Lib.hid (And.intro hR hQ)
    have HW2 := Lib.hid hW.2
    have HW1 := Lib.hid hW.1.on
    clear hR hQ hW hS0
    go_wp2_with (go_at_call 33; refine (spoil_c HW2.out HZ.out (by have := HL.out; omega)).mono ?_; rintro e w' ⟨rfl, hbt⟩)
    go_ret
    exact ⟨by simp, .spoil HW1.out hg.out HW2.out HR.out.1 HR.out.2 HE.out.1.1 (by have := HE.out.1.2; have := HL.out; omega) hbt⟩
end
end Go.Proofs.Ytkjkmekkcnmjnaa
