/- Proves that whatever is written and read, in whatever order, up to 60 calls, of however many pages, each call answers as memory of single bytes does, that a copy goes its own way, and that the first test of the law holds. Conditions: none but the form's own reach. -/
import Derived.Test.YtkjkmekkcnmjnaaRows
import Derived.Test.YtkjkmekkcnmjnaaRamSt
import Derived.Test.YtkjkmekkcnmjnaaRow
import Derived.WalkKit
import Derived.ProofKit
import Derived.OpenShut
import Derived.SizedLaws
import Derived.Below
import Derived.Carry
import Derived.ShutString
namespace Go.Proofs.Ytkjkmekkcnmjnaa.ramPlays
open Go.ChangeShapes Go.WideShapes Go.ChangeAt Go.RowKit
set_option linter.unusedVariables false

theorem own : ownKnob Try.prog.godebug = none := by kernel_rfl

set_option maxRecDepth 100000 in
set_option maxHeartbeats 8000000 in
theorem walk (w : World) (a0 : Int) (w0 : (Lit.int .i64 a0).wf = true) (a1 : Option Addr) (l1 c1 : Nat) (w1 : IsOps w a1 l1) :
    Calls Try.prog 3 #[.int .i64 a0, .slice a1 l1 c1] w fun e w' => e = .returned (.bool true) ∧ Below w.heap.size w w' := by
  obtain ⟨hlen, hrow⟩ := w1
  unfold maxLen at hlen
  by_cases hp : 4 ≤ a0 ∧ a0 ≤ 256
  · obtain ⟨N, rfl⟩ : ∃ N : Nat, a0 = (N : Int) := ⟨a0.toNat, by omega⟩
    have hN : 4 ≤ N ∧ N ≤ 256 := by omega
    clear hp w0
    go_enter Try.func3, Try.ntmps3
    go_wp2_with fail
    refine (new_ok N hN _).mono ?_
    rintro e w2 ⟨rfl, h1, R1⟩
    go_wp2_with fail
    refine (rnew_ok N hN _).mono ?_
    rintro e w3 ⟨rfl, h2, Q2⟩
    go_wp2_with fail
    refine (awake_any _).mono ?_
    rintro e w4 ⟨rfl, h3⟩
    have hm : w.heap.size ≤ w2.heap.size := h1.size
    have hI : Hid (PlInv w w2.heap.size w2.heap.size N 0 (w.heap.size + 1) w4) := Lib.hid ⟨w.heap.size, _, [], Nat.le_refl _, hm, (h1.trans h2).trans h3, R1.on (h2.trans h3), Q2.on h3, RefM.nil N, by simp⟩
    have HROW := Lib.hid hrow
    clear h1 h2 h3 R1 Q2 hm hrow
    generalize w2.heap.size = m at *
    obtain ⟨r, hr⟩ : ∃ r, w.heap.size + 1 = r := ⟨_, rfl⟩
    rw [hr] at hI ⊢
    clear hr
    go_wp2_with fail
    go_loopw [5, 9] (fun x i ws => ∃ (k r : Nat), k ≤ l1 ∧ i = .int .i64 k ∧ x = .pointer (some ⟨r, 0, none⟩) ∧ Hid (PlInv w m m N k r ws)) (fun _ i _ => l1 - (intOf i).toNat)
    case atStart => exact ⟨0, r, by omega, rfl, rfl, hI⟩
    case round =>
      clear hI
      obtain ⟨ws, hws⟩ : ∃ ws, ws = wr := ⟨_, rfl⟩
      subst hws
      obtain ⟨k, r, hk, rfl, rfl, hI⟩ := hrel
      by_cases hkl : k < l1
      · by_cases h60 : k < 60
        · rcases HROW.out with h0 | ⟨bl, off, rfl, hbl, hcs⟩
          · omega
          · obtain ⟨kd, nn, ad, rw, aB, lB, cB, aS, lS, cS, v, wkd, wnn, wad, wv, hB, hS, hcell⟩ := hcs k hkl
            obtain ⟨n, M, L, hn, hm, ho, R, Q, hRM, hL⟩ := hI.out
            have e0 : ws.cell? ⟨bl, off + k * 7, none⟩ = some (.int .i64 kd) := (Below.cell ho (p := ⟨bl, _, none⟩) hbl).trans (hcell 0 _ rfl)
            have e1 : ws.cell? ⟨bl, off + k * 7 + 1, none⟩ = some (.int .i64 nn) := (Below.cell ho (p := ⟨bl, _, none⟩) hbl).trans (hcell 1 _ rfl)
            have e2 : ws.cell? ⟨bl, off + k * 7 + 2, none⟩ = some (.int .u64 ad) := (Below.cell ho (p := ⟨bl, _, none⟩) hbl).trans (hcell 2 _ rfl)
            have e3 : ws.cell? ⟨bl, off + k * 7 + 3, none⟩ = some (.bool rw) := (Below.cell ho (p := ⟨bl, _, none⟩) hbl).trans (hcell 3 _ rfl)
            have e4 : ws.cell? ⟨bl, off + k * 7 + 4, none⟩ = some (.slice aB lB cB) := (Below.cell ho (p := ⟨bl, _, none⟩) hbl).trans (hcell 4 _ rfl)
            have e5 : ws.cell? ⟨bl, off + k * 7 + 5, none⟩ = some (.slice aS lS cS) := (Below.cell ho (p := ⟨bl, _, none⟩) hbl).trans (hcell 5 _ rfl)
            have e6 : ws.cell? ⟨bl, off + k * 7 + 6, none⟩ = some (.int .u64 v) := (Below.cell ho (p := ⟨bl, _, none⟩) hbl).trans (hcell 6 _ rfl)
            have HK := Lib.hid (And.intro wkd (And.intro wnn (And.intro wad (And.intro wv (And.intro hB hS)))))
            have HI := Lib.hid (And.intro hn (And.intro hm (And.intro ho (And.intro R (And.intro Q (And.intro hRM hL))))))
            clear hcell hcs wkd wnn wad wv hn hm ho R Q hRM hL hI
            have hB' := hB
            by_cases h200 : lB ≤ 200
            · clear hB hB' hS
              have t2 : (decide ((200 : Int) < (lB : Int))) = false := by simp; omega
              have hon : Hid (On ws (ws.alloc (.cells #[.int .i64 kd, .int .i64 nn, .int .u64 ad, .bool rw, .slice aB lB cB, .slice aS lS cS, .int .u64 v] 35))) := Lib.hid ((On.refl ws).alloc _)
              have hbox : Hid ((ws.alloc (.cells #[.int .i64 kd, .int .i64 nn, .int .u64 ad, .bool rw, .slice aB lB cB, .slice aS lS cS, .int .u64 v] 35)).heap[ws.heap.size]? = some (.cells #[.int .i64 kd, .int .i64 nn, .int .u64 ad, .bool rw, .slice aB lB cB, .slice aS lS cS, .int .u64 v] 35 (0, 0))) := Lib.hid (blk_new ws _)
              by_cases q5 : kd = 5
              · subst q5
                obtain ⟨mb, tab, R⟩ := HI.out.2.2.2.1
                have HV : Hid (∃ V, wordOf (rdL M 0 1) = V ∧ byteAt V 0 = M 0 ∧ byteAt (V + 1) 0 ≠ M 0) := Lib.hid ⟨_, rfl, first_word M R.byte⟩
                have HR := Lib.hid (R.on hon.out)
                clear R
                go_wp2_with fail
                refine (fork_any HR.out).mono ?_
                rintro e w6 ⟨hf, g, mb', tab', rfl, G⟩
                have G6 := Lib.hid (And.intro hf (And.intro (show RamAt _ g N M w6 from ⟨mb', tab', G⟩) (HI.out.2.2.2.2.1.on (hon.out.trans hf))))
                clear hf G
                go_wp2_with fail
                refine (same_gr (rb := true) HR.out G6.out.1 G6.out.2.1 (by simp)).mono ?_
                rintro e w7 ⟨rfl, h7⟩
                have G7 := Lib.hid (And.intro (G6.out.1.trans h7) (And.intro (G6.out.2.1.on h7) (G6.out.2.2.on h7)))
                clear h7 G6
                go_wp2_with fail
                refine (same_rg (rb := true) HR.out G7.out.1 G7.out.2.1 (by simp)).mono ?_
                rintro e w8 ⟨rfl, h8⟩
                have G8 := Lib.hid (And.intro (G7.out.1.trans h8) (And.intro (G7.out.2.1.on h8) (G7.out.2.2.on h8)))
                clear h8 G7
                go_wp2_with fail
                refine (wordO (k := 1) (o := 0) G8.out.2.1 (.inl rfl) (by omega) (by omega) (by omega) rfl).mono ?_
                obtain ⟨V, hV, hV0, hV1⟩ := HV.out
                rw [hV]
                have HV2 := Lib.hid (And.intro hV0 hV1)
                clear HV hV hV0 hV1
                rintro e w9 ⟨rfl, h9⟩
                have G9 := Lib.hid (And.intro (G8.out.1.trans h9) (And.intro (G8.out.2.1.on h9) (G8.out.2.2.on h9)))
                clear h9 G8
                go_wp2_with fail
                refine (putO (k := 1) (o := 0) (v := V + 1) G9.out.2.1 (.inl rfl) (by omega) (by omega) (by omega) (by rw [← u_add]; rfl) rfl).mono ?_
                rintro e w10 ⟨rfl, k10, r10⟩
                have G10 := Lib.hid (And.intro (Kp.below0 G9.out.1 (Nat.le_refl _) k10) (And.intro r10 (G9.out.2.2.kp k10)))
                clear k10 r10 G9
                go_wp2_with fail
                refine (same_gr (rb := false) HR.out G10.out.1 G10.out.2.1 ⟨fun h => by (cases h), fun h => absurd (h 0 (by omega)) (by rw [show ov M 0 1 (byteAt (V + 1)) 0 = byteAt (V + 1) 0 from by simp [ov]]; exact HV2.out.2)⟩).mono ?_
                rintro e w11 ⟨rfl, h11⟩
                have G11 := Lib.hid (And.intro (G10.out.1.trans h11) (And.intro (G10.out.2.1.on h11) (G10.out.2.2.on h11)))
                clear h11 G10
                go_wp2_with fail
                refine (putO (k := 1) (o := 0) (v := V) G11.out.2.1 (.inl rfl) (by omega) (by omega) (by omega) rfl rfl).mono ?_
                have HM : Hid (∀ x, (ov (ov M 0 1 (byteAt (V + 1))) 0 1 (byteAt V)) x = M x) := Lib.hid (fun x => by
                  by_cases hx : x = 0
                  · subst hx; rw [show (ov (ov M 0 1 (byteAt (V + 1))) 0 1 (byteAt V)) 0 = byteAt V 0 from by simp [ov]]; exact HV2.out.1
                  · simp [ov, hx])
                rintro e w12 ⟨rfl, k12, r12⟩
                have G12 := Lib.hid (And.intro (Kp.below0 G11.out.1 (Nat.le_refl _) k12) (And.intro r12 (G11.out.2.2.kp k12)))
                clear k12 r12 G11
                go_wp2_with fail
                refine (same_gr (rb := true) HR.out G12.out.1 G12.out.2.1 ⟨fun _ x _ => HM.out x, fun _ => rfl⟩).mono ?_
                rintro e w13 ⟨rfl, h13⟩
                have G13 := Lib.hid (And.intro (G12.out.1.trans h13) (And.intro (G12.out.2.1.on h13) (G12.out.2.2.on h13)))
                clear h13 G12
                go_wp2_with fail
                go_roundw
                case rel => exact ⟨k + 1, g, by omega, by go_num, rfl, Lib.hid ⟨_, _, L, Nat.le_trans (HI.out.2.2.1.trans hon.out).size (Nat.le_refl _), HI.out.2.1, (HI.out.2.2.1.trans hon.out).trans G13.out.1, G13.out.2.1, G13.out.2.2, fun x hx => (HM.out x).trans (HI.out.2.2.2.2.2.1 x hx), by have := HI.out.2.2.2.2.2.2; omega⟩⟩
                case measure => simp [intOf]; omega
              · have b5 : (kd == 5) = false := by simpa using q5
                have hS0 := PlayAt.start 14 (HI.out.2.2.1.trans hon.out) hbox.out (HI.out.2.2.2.1.on hon.out) (HI.out.2.2.2.2.1.on hon.out) HI.out.2.2.2.2.2.1
                clear hon hbox
                go_wp2_with fail
                refine wp_region_slots (by kernel_rfl) (fun i => (#[.pointer (some ⟨r, 0, none⟩), .pointer (some ⟨m, 0, none⟩), .agg #[.int .i64 kd, .int .i64 nn, .int .u64 ad, .bool rw, .slice aB lB cB, .slice aS lS cS, .int .u64 v], .bool true, .bool false, .bool false, .pointer (some ⟨r, 0, none⟩), .int .i64 N, .pointer (some ⟨m, 0, none⟩), .pointer (some ⟨m, 0, none⟩), .pointer (some ⟨m, 0, none⟩), .int .i64 N, .bool false, .bool false] : Array Value).getD i undef) (PlayAt w ws.heap.size #[.int .i64 kd, .int .i64 nn, .int .u64 ad, .bool rw, .slice aB lB cB, .slice aS lS cS, .int .u64 v] n r N m m L) (lex_of (by kernel_rfl)) (oneDst_of (by kernel_rfl)) hS0 ?done ?step
                case step =>
                  intro i o hi hi13 l a wr hS hW hl haft
                  have hi13 : i < 14 := hi13
                  have h13 : i = 0 ∨ i = 1 ∨ i = 2 ∨ i = 3 ∨ i = 4 ∨ i = 5 ∨ i = 6 ∨ i = 7 ∨ i = 8 ∨ i = 9 ∨ i = 10 ∨ i = 11 ∨ i = 12 ∨ i = 13 := by omega
                  rcases h13 with rfl | rfl | rfl | rfl | rfl | rfl | rfl | rfl | rfl | rfl | rfl | rfl | rfl | rfl
                  · obtain rfl := Option.some.inj hi
                    refine wpOp_of hi rfl ?_
                    exact wp_move_at rfl (hS.old (by kernel_rfl)) ⟨hS.put (oneDst_of (by kernel_rfl)) hi (fun _ => rfl), hW.step 0 (by omega) (On.refl _)⟩
                  · obtain rfl := Option.some.inj hi
                    refine wpOp_of hi rfl ?_
                    exact wp_move_at rfl (hS.old (by kernel_rfl)) ⟨hS.put (oneDst_of (by kernel_rfl)) hi (fun _ => rfl), hW.step 1 (by omega) (On.refl _)⟩
                  · obtain rfl := Option.some.inj hi
                    refine wpOp_of hi rfl ?_
                    exact wp_load_at rfl (hS.old (by kernel_rfl)) (row_at opT (hW.box2 hl) rfl) ⟨hS.put (oneDst_of (by kernel_rfl)) hi (fun _ => rfl), hW.step 2 (by omega) (On.refl _)⟩
                  · obtain rfl := Option.some.inj hi
                    refine wpOp_of hi rfl ?_
                    obtain ⟨_, M2, q1, q2, q3⟩ := hW.box (g_not hl)
                    refine wp_call_at (vs := #[.pointer (some ⟨r, 0, none⟩), .pointer (some ⟨m, 0, none⟩), .agg #[.int .i64 kd, .int .i64 nn, .int .u64 ad, .bool rw, .slice aB lB cB, .slice aS lS cS, .int .u64 v]]) rfl ?_ rfl (step_any hW.on HI.out.1 HI.out.2.1 q1 q2 q3 (by have := HI.out.2.2.2.2.2.2; omega) kd nn ad v HK.out.1 HK.out.2.1 HK.out.2.2.1 HK.out.2.2.2.1 rw aB lB lB cB aS lS cS HK.out.2.2.2.2.1 (by omega) (by omega) HK.out.2.2.2.2.2) (fun w' h' => ⟨hS.put (oneDst_of (by kernel_rfl)) hi (fun _ => rfl), hW.did (by rw [hS.size]; decide) (haft ⟨2, .data⟩ (by simp) rfl) h'⟩)
                    show [a.eval (.tmp 109), a.eval (.tmp 110), a.eval (.tmp 111)] = _
                    rw [(hS.val (i := 0) rfl rfl (haft ⟨0, .data⟩ (by simp) rfl))]
                    rw [(hS.val (i := 1) rfl rfl (haft ⟨1, .data⟩ (by simp) rfl))]
                    rw [(hS.val (i := 2) rfl rfl (haft ⟨2, .data⟩ (by simp) rfl))]
                    rfl
                  · obtain rfl := Option.some.inj hi
                    refine wpOp_of hi rfl ?_
                    exact wp_un_at rfl (hS.val (i := 3) rfl rfl (haft ⟨3, .data⟩ (by simp) rfl)) (show _ = Result.ok (Value.bool false) wr by go_simp) ⟨hS.put (oneDst_of (by kernel_rfl)) hi (fun _ => rfl), hW.step 4 (by omega) (On.refl _)⟩
                  · obtain rfl := Option.some.inj hi
                    refine wpOp_of hi rfl ?_
                    exact wp_move_at rfl (hS.val (i := 4) rfl rfl (haft ⟨4, .data⟩ (by simp) rfl)) ⟨hS.put (oneDst_of (by kernel_rfl)) hi (fun _ => rfl), hW.step 5 (by omega) (On.refl _)⟩
                  · obtain rfl := Option.some.inj hi
                    refine wpOp_if hi (wanted_of rfl rfl rfl ((hS.val (i := 5) rfl rfl (haft ⟨5, .guard⟩ (by simp) rfl)))) ?_
                    exact wp_move_at rfl (hS.old (by kernel_rfl)) ⟨hS.put (oneDst_of (by kernel_rfl)) hi (fun _ => rfl), hW.step 6 (by omega) (On.refl _)⟩
                  · obtain rfl := Option.some.inj hi
                    refine wpOp_if hi (wanted_of rfl rfl rfl ((hS.val (i := 5) rfl rfl (haft ⟨5, .guard⟩ (by simp) rfl)))) ?_
                    refine wp_call_at (vs := #[.pointer (some ⟨r, 0, none⟩)]) rfl ?_ rfl (hW.pgs) (fun w' h' => ⟨hS.put (oneDst_of (by kernel_rfl)) hi (fun _ => rfl), hW.step 7 (by omega) (by rw [h']; exact On.refl _)⟩)
                    show [a.eval (.tmp 115)] = _
                    rw [(hS.val (i := 6) rfl rfl (haft ⟨6, .data⟩ (by simp) rfl))]
                    rfl
                  · obtain rfl := Option.some.inj hi
                    refine wpOp_if hi (wanted_of rfl rfl rfl ((hS.val (i := 5) rfl rfl (haft ⟨5, .guard⟩ (by simp) rfl)))) ?_
                    exact wp_move_at rfl (hS.old (by kernel_rfl)) ⟨hS.put (oneDst_of (by kernel_rfl)) hi (fun _ => rfl), hW.step 8 (by omega) (On.refl _)⟩
                  · obtain rfl := Option.some.inj hi
                    refine wpOp_if hi (wanted_of rfl rfl rfl ((hS.val (i := 5) rfl rfl (haft ⟨5, .guard⟩ (by simp) rfl)))) ?_
                    exact wp_ptr_at rfl (hS.val (i := 8) rfl rfl (haft ⟨8, .data⟩ (by simp) rfl)) ⟨hS.put (oneDst_of (by kernel_rfl)) hi (fun _ => rfl), hW.step 9 (by omega) (On.refl _)⟩
                  · obtain rfl := Option.some.inj hi
                    refine wpOp_if hi (wanted_of rfl rfl rfl ((hS.val (i := 5) rfl rfl (haft ⟨5, .guard⟩ (by simp) rfl)))) ?_
                    exact wp_field_at rfl (hS.val (i := 9) rfl rfl (haft ⟨9, .data⟩ (by simp) rfl)) (show _ = Result.ok (.pointer (some ⟨m, 0, none⟩)) wr by go_simp) ⟨hS.put (oneDst_of (by kernel_rfl)) hi (fun _ => rfl), hW.step 10 (by omega) (On.refl _)⟩
                  · obtain rfl := Option.some.inj hi
                    refine wpOp_if hi (wanted_of rfl rfl rfl ((hS.val (i := 5) rfl rfl (haft ⟨5, .guard⟩ (by simp) rfl)))) ?_
                    obtain ⟨vv, hp⟩ := hW.pages
                    exact wp_load_at rfl (hS.val (i := 10) rfl rfl (haft ⟨10, .data⟩ (by simp) rfl)) (show _ = Result.ok (.int .i64 N) wr by have hc := blk_cell hp 0 rfl; go_simp) ⟨hS.put (oneDst_of (by kernel_rfl)) hi (fun _ => rfl), hW.step 11 (by omega) (On.refl _)⟩
                  · obtain rfl := Option.some.inj hi
                    refine wpOp_if hi (wanted_of rfl rfl rfl ((hS.val (i := 5) rfl rfl (haft ⟨5, .guard⟩ (by simp) rfl)))) ?_
                    exact wp_bin_at rfl (hS.val (i := 7) rfl rfl (haft ⟨7, .data⟩ (by simp) rfl)) (hS.val (i := 11) rfl rfl (haft ⟨11, .data⟩ (by simp) rfl)) rfl (show _ = Result.ok (Value.bool false) wr by go_simp) ⟨hS.put (oneDst_of (by kernel_rfl)) hi (fun _ => rfl), hW.step 12 (by omega) (On.refl _)⟩
                  · obtain rfl := Option.some.inj hi
                    refine wpOp_of hi rfl ?_
                    exact wp_pick_no rfl (hS.val (i := 5) rfl rfl (haft ⟨5, .data⟩ (by simp) rfl)) (hS.val (i := 12) rfl rfl (haft ⟨12, .data⟩ (by simp) rfl)) ⟨hS.put (oneDst_of (by kernel_rfl)) hi (fun _ => rfl), hW.step 13 (by omega) (On.refl _)⟩
                case done =>
                  intro wr hW
                  simp only [puts]
                  go_simp
                  have HW := Lib.hid (And.intro hW.on hW.st)
                  clear hW hS0
                  go_wp2_with fail
                  go_roundw
                  case rel =>
                    obtain ⟨h1, M2, L2, h2, h3, h4, h5⟩ := HW.out
                    exact ⟨k + 1, r, by omega, by go_num, rfl, Lib.hid ⟨n, M2, L2, HI.out.1, HI.out.2.1, h1, h2, h3, h4, by have := HI.out.2.2.2.2.2.2; omega⟩⟩
                  case measure => simp [intOf]; omega
            · obtain ⟨z, hz, hlc, hcm, hcn, h0 | ⟨bb, ob, rfl, hzc⟩⟩ := hB
              · omega
              · clear hB' hS hz hcn hzc
                have t2 : (decide ((200 : Int) < (lB : Int))) = true := by simp; omega
                have hon : Hid (On ws (ws.alloc (.cells #[.int .i64 kd, .int .i64 nn, .int .u64 ad, .bool rw, .slice (some ⟨bb, ob, none⟩) 200 cB, .slice aS lS cS, .int .u64 v] 35))) := Lib.hid ((On.refl ws).alloc _)
                have hbox : Hid ((ws.alloc (.cells #[.int .i64 kd, .int .i64 nn, .int .u64 ad, .bool rw, .slice (some ⟨bb, ob, none⟩) 200 cB, .slice aS lS cS, .int .u64 v] 35)).heap[ws.heap.size]? = some (.cells #[.int .i64 kd, .int .i64 nn, .int .u64 ad, .bool rw, .slice (some ⟨bb, ob, none⟩) 200 cB, .slice aS lS cS, .int .u64 v] 35 (0, 0))) := Lib.hid (blk_new ws _)
                unfold maxLen at hcm
                by_cases q5 : kd = 5
                · subst q5
                  obtain ⟨mb, tab, R⟩ := HI.out.2.2.2.1
                  have HV : Hid (∃ V, wordOf (rdL M 0 1) = V ∧ byteAt V 0 = M 0 ∧ byteAt (V + 1) 0 ≠ M 0) := Lib.hid ⟨_, rfl, first_word M R.byte⟩
                  have HR := Lib.hid (R.on hon.out)
                  clear R
                  go_wp2_with fail
                  refine (fork_any HR.out).mono ?_
                  rintro e w6 ⟨hf, g, mb', tab', rfl, G⟩
                  have G6 := Lib.hid (And.intro hf (And.intro (show RamAt _ g N M w6 from ⟨mb', tab', G⟩) (HI.out.2.2.2.2.1.on (hon.out.trans hf))))
                  clear hf G
                  go_wp2_with fail
                  refine (same_gr (rb := true) HR.out G6.out.1 G6.out.2.1 (by simp)).mono ?_
                  rintro e w7 ⟨rfl, h7⟩
                  have G7 := Lib.hid (And.intro (G6.out.1.trans h7) (And.intro (G6.out.2.1.on h7) (G6.out.2.2.on h7)))
                  clear h7 G6
                  go_wp2_with fail
                  refine (same_rg (rb := true) HR.out G7.out.1 G7.out.2.1 (by simp)).mono ?_
                  rintro e w8 ⟨rfl, h8⟩
                  have G8 := Lib.hid (And.intro (G7.out.1.trans h8) (And.intro (G7.out.2.1.on h8) (G7.out.2.2.on h8)))
                  clear h8 G7
                  go_wp2_with fail
                  refine (wordO (k := 1) (o := 0) G8.out.2.1 (.inl rfl) (by omega) (by omega) (by omega) rfl).mono ?_
                  obtain ⟨V, hV, hV0, hV1⟩ := HV.out
                  rw [hV]
                  have HV2 := Lib.hid (And.intro hV0 hV1)
                  clear HV hV hV0 hV1
                  rintro e w9 ⟨rfl, h9⟩
                  have G9 := Lib.hid (And.intro (G8.out.1.trans h9) (And.intro (G8.out.2.1.on h9) (G8.out.2.2.on h9)))
                  clear h9 G8
                  go_wp2_with fail
                  refine (putO (k := 1) (o := 0) (v := V + 1) G9.out.2.1 (.inl rfl) (by omega) (by omega) (by omega) (by rw [← u_add]; rfl) rfl).mono ?_
                  rintro e w10 ⟨rfl, k10, r10⟩
                  have G10 := Lib.hid (And.intro (Kp.below0 G9.out.1 (Nat.le_refl _) k10) (And.intro r10 (G9.out.2.2.kp k10)))
                  clear k10 r10 G9
                  go_wp2_with fail
                  refine (same_gr (rb := false) HR.out G10.out.1 G10.out.2.1 ⟨fun h => by (cases h), fun h => absurd (h 0 (by omega)) (by rw [show ov M 0 1 (byteAt (V + 1)) 0 = byteAt (V + 1) 0 from by simp [ov]]; exact HV2.out.2)⟩).mono ?_
                  rintro e w11 ⟨rfl, h11⟩
                  have G11 := Lib.hid (And.intro (G10.out.1.trans h11) (And.intro (G10.out.2.1.on h11) (G10.out.2.2.on h11)))
                  clear h11 G10
                  go_wp2_with fail
                  refine (putO (k := 1) (o := 0) (v := V) G11.out.2.1 (.inl rfl) (by omega) (by omega) (by omega) rfl rfl).mono ?_
                  have HM : Hid (∀ x, (ov (ov M 0 1 (byteAt (V + 1))) 0 1 (byteAt V)) x = M x) := Lib.hid (fun x => by
                    by_cases hx : x = 0
                    · subst hx; rw [show (ov (ov M 0 1 (byteAt (V + 1))) 0 1 (byteAt V)) 0 = byteAt V 0 from by simp [ov]]; exact HV2.out.1
                    · simp [ov, hx])
                  rintro e w12 ⟨rfl, k12, r12⟩
                  have G12 := Lib.hid (And.intro (Kp.below0 G11.out.1 (Nat.le_refl _) k12) (And.intro r12 (G11.out.2.2.kp k12)))
                  clear k12 r12 G11
                  go_wp2_with fail
                  refine (same_gr (rb := true) HR.out G12.out.1 G12.out.2.1 ⟨fun _ x _ => HM.out x, fun _ => rfl⟩).mono ?_
                  rintro e w13 ⟨rfl, h13⟩
                  have G13 := Lib.hid (And.intro (G12.out.1.trans h13) (And.intro (G12.out.2.1.on h13) (G12.out.2.2.on h13)))
                  clear h13 G12
                  go_wp2_with fail
                  go_roundw
                  case rel => exact ⟨k + 1, g, by omega, by go_num, rfl, Lib.hid ⟨_, _, L, Nat.le_trans (HI.out.2.2.1.trans hon.out).size (Nat.le_refl _), HI.out.2.1, (HI.out.2.2.1.trans hon.out).trans G13.out.1, G13.out.2.1, G13.out.2.2, fun x hx => (HM.out x).trans (HI.out.2.2.2.2.2.1 x hx), by have := HI.out.2.2.2.2.2.2; omega⟩⟩
                  case measure => simp [intOf]; omega
                · have b5 : (kd == 5) = false := by simpa using q5
                  have hS0 := PlayAt.start 14 (HI.out.2.2.1.trans hon.out) hbox.out (HI.out.2.2.2.1.on hon.out) (HI.out.2.2.2.2.1.on hon.out) HI.out.2.2.2.2.2.1
                  clear hon hbox
                  go_wp2_with fail
                  refine wp_region_slots (by kernel_rfl) (fun i => (#[.pointer (some ⟨r, 0, none⟩), .pointer (some ⟨m, 0, none⟩), .agg #[.int .i64 kd, .int .i64 nn, .int .u64 ad, .bool rw, .slice (some ⟨bb, ob, none⟩) 200 cB, .slice aS lS cS, .int .u64 v], .bool true, .bool false, .bool false, .pointer (some ⟨r, 0, none⟩), .int .i64 N, .pointer (some ⟨m, 0, none⟩), .pointer (some ⟨m, 0, none⟩), .pointer (some ⟨m, 0, none⟩), .int .i64 N, .bool false, .bool false] : Array Value).getD i undef) (PlayAt w ws.heap.size #[.int .i64 kd, .int .i64 nn, .int .u64 ad, .bool rw, .slice (some ⟨bb, ob, none⟩) 200 cB, .slice aS lS cS, .int .u64 v] n r N m m L) (lex_of (by kernel_rfl)) (oneDst_of (by kernel_rfl)) hS0 ?done ?step
                  case step =>
                    intro i o hi hi13 l a wr hS hW hl haft
                    have hi13 : i < 14 := hi13
                    have h13 : i = 0 ∨ i = 1 ∨ i = 2 ∨ i = 3 ∨ i = 4 ∨ i = 5 ∨ i = 6 ∨ i = 7 ∨ i = 8 ∨ i = 9 ∨ i = 10 ∨ i = 11 ∨ i = 12 ∨ i = 13 := by omega
                    rcases h13 with rfl | rfl | rfl | rfl | rfl | rfl | rfl | rfl | rfl | rfl | rfl | rfl | rfl | rfl
                    · obtain rfl := Option.some.inj hi
                      refine wpOp_of hi rfl ?_
                      exact wp_move_at rfl (hS.old (by kernel_rfl)) ⟨hS.put (oneDst_of (by kernel_rfl)) hi (fun _ => rfl), hW.step 0 (by omega) (On.refl _)⟩
                    · obtain rfl := Option.some.inj hi
                      refine wpOp_of hi rfl ?_
                      exact wp_move_at rfl (hS.old (by kernel_rfl)) ⟨hS.put (oneDst_of (by kernel_rfl)) hi (fun _ => rfl), hW.step 1 (by omega) (On.refl _)⟩
                    · obtain rfl := Option.some.inj hi
                      refine wpOp_of hi rfl ?_
                      exact wp_load_at rfl (hS.old (by kernel_rfl)) (row_at opT (hW.box2 hl) rfl) ⟨hS.put (oneDst_of (by kernel_rfl)) hi (fun _ => rfl), hW.step 2 (by omega) (On.refl _)⟩
                    · obtain rfl := Option.some.inj hi
                      refine wpOp_of hi rfl ?_
                      obtain ⟨_, M2, q1, q2, q3⟩ := hW.box (g_not hl)
                      refine wp_call_at (vs := #[.pointer (some ⟨r, 0, none⟩), .pointer (some ⟨m, 0, none⟩), .agg #[.int .i64 kd, .int .i64 nn, .int .u64 ad, .bool rw, .slice (some ⟨bb, ob, none⟩) 200 cB, .slice aS lS cS, .int .u64 v]]) rfl ?_ rfl (step_any hW.on HI.out.1 HI.out.2.1 q1 q2 q3 (by have := HI.out.2.2.2.2.2.2; omega) kd nn ad v HK.out.1 HK.out.2.1 HK.out.2.2.1 HK.out.2.2.2.1 rw (some ⟨bb, ob, none⟩) lB 200 cB aS lS cS HK.out.2.2.2.2.1 (by omega) (by omega) HK.out.2.2.2.2.2) (fun w' h' => ⟨hS.put (oneDst_of (by kernel_rfl)) hi (fun _ => rfl), hW.did (by rw [hS.size]; decide) (haft ⟨2, .data⟩ (by simp) rfl) h'⟩)
                      show [a.eval (.tmp 109), a.eval (.tmp 110), a.eval (.tmp 111)] = _
                      rw [(hS.val (i := 0) rfl rfl (haft ⟨0, .data⟩ (by simp) rfl))]
                      rw [(hS.val (i := 1) rfl rfl (haft ⟨1, .data⟩ (by simp) rfl))]
                      rw [(hS.val (i := 2) rfl rfl (haft ⟨2, .data⟩ (by simp) rfl))]
                      rfl
                    · obtain rfl := Option.some.inj hi
                      refine wpOp_of hi rfl ?_
                      exact wp_un_at rfl (hS.val (i := 3) rfl rfl (haft ⟨3, .data⟩ (by simp) rfl)) (show _ = Result.ok (Value.bool false) wr by go_simp) ⟨hS.put (oneDst_of (by kernel_rfl)) hi (fun _ => rfl), hW.step 4 (by omega) (On.refl _)⟩
                    · obtain rfl := Option.some.inj hi
                      refine wpOp_of hi rfl ?_
                      exact wp_move_at rfl (hS.val (i := 4) rfl rfl (haft ⟨4, .data⟩ (by simp) rfl)) ⟨hS.put (oneDst_of (by kernel_rfl)) hi (fun _ => rfl), hW.step 5 (by omega) (On.refl _)⟩
                    · obtain rfl := Option.some.inj hi
                      refine wpOp_if hi (wanted_of rfl rfl rfl ((hS.val (i := 5) rfl rfl (haft ⟨5, .guard⟩ (by simp) rfl)))) ?_
                      exact wp_move_at rfl (hS.old (by kernel_rfl)) ⟨hS.put (oneDst_of (by kernel_rfl)) hi (fun _ => rfl), hW.step 6 (by omega) (On.refl _)⟩
                    · obtain rfl := Option.some.inj hi
                      refine wpOp_if hi (wanted_of rfl rfl rfl ((hS.val (i := 5) rfl rfl (haft ⟨5, .guard⟩ (by simp) rfl)))) ?_
                      refine wp_call_at (vs := #[.pointer (some ⟨r, 0, none⟩)]) rfl ?_ rfl (hW.pgs) (fun w' h' => ⟨hS.put (oneDst_of (by kernel_rfl)) hi (fun _ => rfl), hW.step 7 (by omega) (by rw [h']; exact On.refl _)⟩)
                      show [a.eval (.tmp 115)] = _
                      rw [(hS.val (i := 6) rfl rfl (haft ⟨6, .data⟩ (by simp) rfl))]
                      rfl
                    · obtain rfl := Option.some.inj hi
                      refine wpOp_if hi (wanted_of rfl rfl rfl ((hS.val (i := 5) rfl rfl (haft ⟨5, .guard⟩ (by simp) rfl)))) ?_
                      exact wp_move_at rfl (hS.old (by kernel_rfl)) ⟨hS.put (oneDst_of (by kernel_rfl)) hi (fun _ => rfl), hW.step 8 (by omega) (On.refl _)⟩
                    · obtain rfl := Option.some.inj hi
                      refine wpOp_if hi (wanted_of rfl rfl rfl ((hS.val (i := 5) rfl rfl (haft ⟨5, .guard⟩ (by simp) rfl)))) ?_
                      exact wp_ptr_at rfl (hS.val (i := 8) rfl rfl (haft ⟨8, .data⟩ (by simp) rfl)) ⟨hS.put (oneDst_of (by kernel_rfl)) hi (fun _ => rfl), hW.step 9 (by omega) (On.refl _)⟩
                    · obtain rfl := Option.some.inj hi
                      refine wpOp_if hi (wanted_of rfl rfl rfl ((hS.val (i := 5) rfl rfl (haft ⟨5, .guard⟩ (by simp) rfl)))) ?_
                      exact wp_field_at rfl (hS.val (i := 9) rfl rfl (haft ⟨9, .data⟩ (by simp) rfl)) (show _ = Result.ok (.pointer (some ⟨m, 0, none⟩)) wr by go_simp) ⟨hS.put (oneDst_of (by kernel_rfl)) hi (fun _ => rfl), hW.step 10 (by omega) (On.refl _)⟩
                    · obtain rfl := Option.some.inj hi
                      refine wpOp_if hi (wanted_of rfl rfl rfl ((hS.val (i := 5) rfl rfl (haft ⟨5, .guard⟩ (by simp) rfl)))) ?_
                      obtain ⟨vv, hp⟩ := hW.pages
                      exact wp_load_at rfl (hS.val (i := 10) rfl rfl (haft ⟨10, .data⟩ (by simp) rfl)) (show _ = Result.ok (.int .i64 N) wr by have hc := blk_cell hp 0 rfl; go_simp) ⟨hS.put (oneDst_of (by kernel_rfl)) hi (fun _ => rfl), hW.step 11 (by omega) (On.refl _)⟩
                    · obtain rfl := Option.some.inj hi
                      refine wpOp_if hi (wanted_of rfl rfl rfl ((hS.val (i := 5) rfl rfl (haft ⟨5, .guard⟩ (by simp) rfl)))) ?_
                      exact wp_bin_at rfl (hS.val (i := 7) rfl rfl (haft ⟨7, .data⟩ (by simp) rfl)) (hS.val (i := 11) rfl rfl (haft ⟨11, .data⟩ (by simp) rfl)) rfl (show _ = Result.ok (Value.bool false) wr by go_simp) ⟨hS.put (oneDst_of (by kernel_rfl)) hi (fun _ => rfl), hW.step 12 (by omega) (On.refl _)⟩
                    · obtain rfl := Option.some.inj hi
                      refine wpOp_of hi rfl ?_
                      exact wp_pick_no rfl (hS.val (i := 5) rfl rfl (haft ⟨5, .data⟩ (by simp) rfl)) (hS.val (i := 12) rfl rfl (haft ⟨12, .data⟩ (by simp) rfl)) ⟨hS.put (oneDst_of (by kernel_rfl)) hi (fun _ => rfl), hW.step 13 (by omega) (On.refl _)⟩
                  case done =>
                    intro wr hW
                    simp only [puts]
                    go_simp
                    have HW := Lib.hid (And.intro hW.on hW.st)
                    clear hW hS0
                    go_wp2_with fail
                    go_roundw
                    case rel =>
                      obtain ⟨h1, M2, L2, h2, h3, h4, h5⟩ := HW.out
                      exact ⟨k + 1, r, by omega, by go_num, rfl, Lib.hid ⟨n, M2, L2, HI.out.1, HI.out.2.1, h1, h2, h3, h4, by have := HI.out.2.2.2.2.2.2; omega⟩⟩
                    case measure => simp [intOf]; omega
        · go_wp2_with fail
          go_ret
          obtain ⟨_, _, _, _, _, ho, _⟩ := hI.out
          exact ⟨rfl, ho⟩
      · go_wp2_with fail
        go_ret
        obtain ⟨_, _, _, _, _, ho, _⟩ := hI.out
        exact ⟨rfl, ho⟩
  · have hp : a0 < 4 ∨ 256 < a0 := by omega
    go_enter Try.func3, Try.ntmps3
    go_wp2_with fail
    refine (new_no a0 hp _).mono ?_
    rintro e w2 ⟨rfl, rfl⟩
    go_wp2_with fail
    refine (rnew_no a0 hp _).mono ?_
    rintro e w3 ⟨rfl, rfl⟩
    go_wp2_with fail
    refine (awake_any _).mono ?_
    rintro e w4 ⟨rfl, h3⟩
    go_wp2_with fail
    go_ret
    exact ⟨rfl, h3⟩

set_option maxRecDepth 100000 in
theorem lifted (os : Os) (started : os.Started) (H : Type) (enc : TypeId × Value → H) :
    ReturnsInHanded {} Try.checked os 3 .any (Rows.ramPlaysSpec.pre6 enc Try.prog Try.f3 Rows.ramPlaysRow.domain false) (Rows.ramPlaysSpec.post enc Try.prog Try.f3 false true false false) := by
  refine returnsInHanded_of_change_sized (C := Try.checked) own started (by kernel_rfl) Try.func3
    (ChangeSpec.witness6 (enc := enc) (C := Try.checked) false ⟨#[], #[.int .i64 0, .slice none 0 0], []⟩ 12 (by kernel_rfl) (by kernel_rfl) (by kernel_rfl) (by kernel_rfl)) ?_
  intro W base args ds gs before hval0 hW hcnd hsz0 _
  have hsz : (DataW.weightsEach Try.prog (Try.f3.params.toList ++ Rows.ramPlaysSpec.plain.varTypes Try.prog) (ds ++ gs)).all (· ≤ reachBytes) = true := hsz0
  clear hsz0
  have hval : ∀ (j : Nat) t v, Try.f3.params[j]? = some t → args[j]? = some v → Value.okWide Try.prog W .any base t v := hval0
  have hW' := hW
  obtain ⟨p, q, hA0, hV, rfl, hfz, hnd⟩ := hW
  have hA : DataW.TrodAll enc Try.prog W 0 (fun _ => true) true Try.f3.params.toList args.toList ds p := hA0
  rw [Try.params3] at hA hval hsz
  obtain ⟨v0, vs0, d0, ds0, p0, q0, hargs, rfl, rfl, h0, r0⟩ := trodAll_cons hA
  obtain ⟨v1, vs1, d1, ds1, p1, q1, rfl, rfl, rfl, h1, r1⟩ := trodAll_cons r0
  obtain ⟨rfl, rfl, rfl⟩ := trodAll_nil r1
  obtain rfl : args = #[v0, v1] := by cases args; simp_all
  obtain ⟨rfl, rfl⟩ := trodVars_none hV
  obtain ⟨a0, rfl, rfl, rfl, w0⟩ := open_int Try.underlying3 (hval 0 3 v0 rfl rfl) h0
  have k1 := h1
  have lt1 : ∀ x ∈ p1, x.block < W.heap.size := fun x hx => by have := hW'.lt x (by simp [hx]); simpa using this
  have s1 : ∀ k ∈ d1.weights Try.prog 22, k ≤ reachBytes := fun q hq => by simpa using List.all_eq_true.1 hsz _ (DataW.weights_mem_each (j := 1) (t := 22) (d := d1) rfl rfl q hq)
  obtain ⟨a1, l1, c1, rfl, w1⟩ := open_ops Try.underlying22 (hval 1 22 v1 rfl rfl) h1 s1
  clear h1 s1
  clear hA0 hval0
  refine (walk W a0 w0 a1 l1 c1 w1).mono fun e W' ⟨he, bel⟩ => ?_
  subst he
  exact ⟨_, rfl, _, _, _, [], _, [], hW', trodAll_mk1 (shut_bool Try.underlying4 _), (trodAll_cons_mk (shut_int Try.underlying3 w0) (trodAll_cons_mk (Below.trod (by kernel_rfl) (by kernel_rfl) (of_decide_eq_true (by kernel_rfl)) k1 bel lt1) trodAll_mk0)), rfl, bel.frame _, fun h => by cases h⟩

theorem over : Rows.ramPlaysRow.holds Try.pinned (OpenSpec.ofChange Rows.ramPlaysSpec) :=
  OpenClaim.holds_of_wide 3 Try.f3 rfl rfl rfl rfl rfl rfl rfl ⟨rfl, rfl, rfl, rfl, rfl⟩ rfl rfl rfl rfl rfl (by kernel_rfl) Try.func3 (by kernel_rfl)
    (of_decide_eq_true (by kernel_rfl)) (by unfold Func.isWrapper; first | (rw [if_pos (by decide +kernel)]; kernel_rfl) | (rw [if_neg (by decide +kernel)]; exact ⟨rfl, rfl⟩))
    (fun os started H enc _ => lifted os started H enc)

theorem proved : Rows.RamPlaysSaid :=
  over
#print axioms proved
end Go.Proofs.Ytkjkmekkcnmjnaa.ramPlays
