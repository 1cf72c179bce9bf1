/- The walk of law ShapeBack where I's word is made and S's is made. Conditions: those. -/
import Derived.Test.YtfmnkammfpodaaaBackC
import Derived.Test.YtfmnkammfpodaaaBackRows
import Derived.WalkKit
import Derived.Deep.CutRange
namespace Go.Proofs.Ytfmnkammfpodaaa
open Go.RowKit

set_option maxRecDepth 100000 in
set_option maxHeartbeats 16000000 in
theorem back_00 (a0 a1 a2 a3 a4 a5 a6 : Int) (xR xI xS xB xU xJ : BitVec 32) (eR eI eS eB eU eJ : Int) (D : LaidAll a0 a1 a2 a3 a4 a5 a6 xR xI xS xB xU xJ eR eI eS eB eU eJ) (hI : (eI != 0) = false) (hS : (eS != 0) = false) (w : World) :
    Calls Try.prog 7 #[.agg #[.int .i64 a0, .int .i64 a1, .int .i64 a2, .int .i64 a3, .int .i64 a4, .int .i64 a5, .int .i64 a6]] w fun e w' => e = .returned (.bool true) ∧ Below w.heap.size w w' := by
  have DD := Lib.hid D
  clear D
  have HR := Lib.hid DD.out.R
  have HI := Lib.hid DD.out.I
  have HS := Lib.hid DD.out.S
  have HB := Lib.hid DD.out.B
  have HU := Lib.hid DD.out.U
  have HJ := Lib.hid DD.out.J
  have E := Lib.hid (wrap_wd a6)
  have hb : On (w.alloc (.cells #[.int .i64 a0, .int .i64 a1, .int .i64 a2, .int .i64 a3, .int .i64 a4, .int .i64 a5, .int .i64 a6] 30)) (w.alloc (.cells #[.int .i64 a0, .int .i64 a1, .int .i64 a2, .int .i64 a3, .int .i64 a4, .int .i64 a5, .int .i64 a6] 30)) := On.refl _
  have c0 : ∀ wr, On (w.alloc (.cells #[.int .i64 a0, .int .i64 a1, .int .i64 a2, .int .i64 a3, .int .i64 a4, .int .i64 a5, .int .i64 a6] 30)) wr → wr.cell? ⟨w.heap.size, 0, none⟩ = some (.int .i64 a0) := fun wr h => on_new h 0 rfl
  have c1 : ∀ wr, On (w.alloc (.cells #[.int .i64 a0, .int .i64 a1, .int .i64 a2, .int .i64 a3, .int .i64 a4, .int .i64 a5, .int .i64 a6] 30)) wr → wr.cell? ⟨w.heap.size, 1, none⟩ = some (.int .i64 a1) := fun wr h => on_new h 1 rfl
  have c2 : ∀ wr, On (w.alloc (.cells #[.int .i64 a0, .int .i64 a1, .int .i64 a2, .int .i64 a3, .int .i64 a4, .int .i64 a5, .int .i64 a6] 30)) wr → wr.cell? ⟨w.heap.size, 2, none⟩ = some (.int .i64 a2) := fun wr h => on_new h 2 rfl
  have c3 : ∀ wr, On (w.alloc (.cells #[.int .i64 a0, .int .i64 a1, .int .i64 a2, .int .i64 a3, .int .i64 a4, .int .i64 a5, .int .i64 a6] 30)) wr → wr.cell? ⟨w.heap.size, 3, none⟩ = some (.int .i64 a3) := fun wr h => on_new h 3 rfl
  have c4 : ∀ wr, On (w.alloc (.cells #[.int .i64 a0, .int .i64 a1, .int .i64 a2, .int .i64 a3, .int .i64 a4, .int .i64 a5, .int .i64 a6] 30)) wr → wr.cell? ⟨w.heap.size, 4, none⟩ = some (.int .i64 a4) := fun wr h => on_new h 4 rfl
  have c5 : ∀ wr, On (w.alloc (.cells #[.int .i64 a0, .int .i64 a1, .int .i64 a2, .int .i64 a3, .int .i64 a4, .int .i64 a5, .int .i64 a6] 30)) wr → wr.cell? ⟨w.heap.size, 5, none⟩ = some (.int .i64 a5) := fun wr h => on_new h 5 rfl
  have c6 : ∀ wr, On (w.alloc (.cells #[.int .i64 a0, .int .i64 a1, .int .i64 a2, .int .i64 a3, .int .i64 a4, .int .i64 a5, .int .i64 a6] 30)) wr → wr.cell? ⟨w.heap.size, 6, none⟩ = some (.int .i64 a6) := fun wr h => on_new h 6 rfl
  go_enter Try.func7, Try.ntmps7
  go_upto_region 2 with (first | (go_at_call 30; refine (HR.out _).mono ?_; rintro e wn ⟨rfl, hb'⟩; have hb := hb.trans hb'; clear hb') | (go_at_call 32; refine (HI.out _).mono ?_; rintro e wn ⟨rfl, hb'⟩; have hb := hb.trans hb'; clear hb') | (go_at_call 34; refine (HS.out _).mono ?_; rintro e wn ⟨rfl, hb'⟩; have hb := hb.trans hb'; clear hb') | (go_at_call 36; refine (HB.out _).mono ?_; rintro e wn ⟨rfl, hb'⟩; have hb := hb.trans hb'; clear hb') | (go_at_call 38; refine (HU.out _).mono ?_; rintro e wn ⟨rfl, hb'⟩; have hb := hb.trans hb'; clear hb') | (go_at_call 40; refine (HJ.out _).mono ?_; rintro e wn ⟨rfl, hb'⟩; have hb := hb.trans hb'; clear hb'))
  have hg : ∀ d os, On (w.alloc (.cells #[.int .i64 a0, .int .i64 a1, .int .i64 a2, .int .i64 a3, .int .i64 a4, .int .i64 a5, .int .i64 a6] 30)) (Sort.grow (redrawn wn d) os) := fun d os => hb.grow d os
  go_cut [79] from 16 to 79 (fun c wx => c = .bool false ∧ On (w.alloc (.cells #[.int .i64 a0, .int .i64 a1, .int .i64 a2, .int .i64 a3, .int .i64 a4, .int .i64 a5, .int .i64 a6] 30)) wx)
  case first =>
    cases hR : (eR == 0)
    · refine wp_region_quiet_below (by kernel_rfl) (by kernel_rfl) ?_
      repeat (go_big_quiet_step (first | (go_at_call 11; exact Calls.on_of (awake2_yes _)) | (go_at_call 12; exact Calls.on_of (opcode_any _ _)) | (go_at_call 14; exact Calls.on_of (rd_any _ _)) | (go_at_call 16; exact Calls.on_of (rs1_any _ _)) | (go_at_call 18; exact Calls.on_of (rs2_any _ _)) | (go_at_call 20; exact Calls.on_of (funct3_any _ _)) | (go_at_call 22; exact Calls.on_of (funct7_any _ _))))
      refine wpQuiet_nil ?_
      intro _ hw'
      obtain ⟨⟨dq, osq⟩, hw''⟩ := hw'
      subst hw''
      go_wp2_with fail
      go_meet
      exact ⟨rfl, hg _ _⟩
    · have r0 := DD.out.fR0 hR
      have r1 := DD.out.fR1 hR
      have r2 := DD.out.fR2 hR
      have r3 := DD.out.fR3 hR
      have r4 := DD.out.fR4 hR
      have r5 := DD.out.fR5 hR
      refine wp_region_quiet_below (by kernel_rfl) (by kernel_rfl) ?_
      repeat (go_big_quiet_step (first | (go_at_call 11; exact Calls.on_of (awake2_yes _)) | (go_at_call 12; exact Calls.on_of (opcode_any _ _)) | (go_at_call 14; exact Calls.on_of (rd_any _ _)) | (go_at_call 16; exact Calls.on_of (rs1_any _ _)) | (go_at_call 18; exact Calls.on_of (rs2_any _ _)) | (go_at_call 20; exact Calls.on_of (funct3_any _ _)) | (go_at_call 22; exact Calls.on_of (funct7_any _ _))))
      refine wpQuiet_nil ?_
      intro _ hw'
      obtain ⟨⟨dq, osq⟩, hw''⟩ := hw'
      subst hw''
      go_wp2_with fail
      go_meet
      exact ⟨rfl, hg _ _⟩
  case rest =>
    clear hg hb
    obtain ⟨rfl, hb⟩ := hcut
    have e0 := E.out
    go_upto_region 10 with (first | (go_at_call 30; refine (HR.out _).mono ?_; rintro e wn ⟨rfl, hb'⟩; have hb := hb.trans hb'; clear hb') | (go_at_call 32; refine (HI.out _).mono ?_; rintro e wn ⟨rfl, hb'⟩; have hb := hb.trans hb'; clear hb') | (go_at_call 34; refine (HS.out _).mono ?_; rintro e wn ⟨rfl, hb'⟩; have hb := hb.trans hb'; clear hb') | (go_at_call 36; refine (HB.out _).mono ?_; rintro e wn ⟨rfl, hb'⟩; have hb := hb.trans hb'; clear hb') | (go_at_call 38; refine (HU.out _).mono ?_; rintro e wn ⟨rfl, hb'⟩; have hb := hb.trans hb'; clear hb') | (go_at_call 40; refine (HJ.out _).mono ?_; rintro e wn ⟨rfl, hb'⟩; have hb := hb.trans hb'; clear hb'))
    simp only [List.append]
    have hg : ∀ d os, On (w.alloc (.cells #[.int .i64 a0, .int .i64 a1, .int .i64 a2, .int .i64 a3, .int .i64 a4, .int .i64 a5, .int .i64 a6] 30)) (Sort.grow (redrawn wn d) os) := fun d os => hb.grow d os
    clear e0
    have gI0 := DD.out.fI0 hI
    have gI1 := DD.out.fI1 hI
    have gI2 := DD.out.fI2 hI
    have gS0 := DD.out.fS0 hS
    have gS1 := DD.out.fS1 hS
    all_goals (cases hB : (eB != 0))
    all_goals (cases hU : (eU != 0))
    all_goals (cases hJ : (eJ != 0))
    all_goals (try have gB0 := DD.out.fB0 hB)
    all_goals (try have gB1 := DD.out.fB1 hB)
    all_goals (try have gU0 := DD.out.fU0 hU)
    all_goals (try have gU1 := DD.out.fU1 hU)
    all_goals (try have gJ0 := DD.out.fJ0 hJ)
    all_goals (try have gJ1 := DD.out.fJ1 hJ)
    all_goals clear HR HI HS HB HU HJ
    all_goals refine wp_region_quiet_below (by kernel_rfl) (lexB_of_rows (by kernel_rfl) backRows (by kernel_rfl) backRows_ok) ?_
    all_goals repeat (go_big_quiet_step (first | (go_at_call 11; exact Calls.on_of (awake2_yes _)) | (go_at_call 12; exact Calls.on_of (opcode_any _ _)) | (go_at_call 14; exact Calls.on_of (rd_any _ _)) | (go_at_call 16; exact Calls.on_of (rs1_any _ _)) | (go_at_call 18; exact Calls.on_of (rs2_any _ _)) | (go_at_call 20; exact Calls.on_of (funct3_any _ _)) | (go_at_call 22; exact Calls.on_of (funct7_any _ _)) | (go_at_call 24; exact Calls.on_of (immI_any _ _)) | (go_at_call 26; exact Calls.on_of (immS_any _ _)) | (go_at_call 27; exact Calls.on_of (immB_any _ _)) | (go_at_call 28; exact Calls.on_of (immU_any _ _)) | (go_at_call 29; exact Calls.on_of (immJ_any _ _))))
    all_goals refine wpQuiet_nil ?_
    all_goals intro _ hw'
    all_goals obtain ⟨⟨dq, osq⟩, hw''⟩ := hw'
    all_goals subst hw''
    all_goals go_wp2
    all_goals go_ret
    all_goals exact ⟨rfl, ((On.refl w).alloc _).trans (hg _ _)⟩
end Go.Proofs.Ytfmnkammfpodaaa
