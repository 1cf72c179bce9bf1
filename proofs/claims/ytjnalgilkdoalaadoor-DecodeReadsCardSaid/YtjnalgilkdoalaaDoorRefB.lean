/- What R, I, S, B, U and J of the reference of package shape come to: the very words and errors of the package. Conditions: the arguments are ints of Go. -/
import Derived.Test.YtjnalgilkdoalaaDoorRefA
namespace Go.Proofs.YtjnalgilkdoalaaDoor
open Go.RowKit

theorem asm_bad {op rd f3 rs1 rs2 f7 : Int} (imm : Int) (L : List Sp) (h : Fit op rd f3 rs1 rs2 f7 = false) : asmW op rd f3 rs1 rs2 f7 imm L = 0 ∧ asmE op rd f3 rs1 rs2 f7 imm L = 1 := by
  unfold asmW asmE; rw [h]; exact ⟨rfl, rfl⟩
theorem asm_out {imm : Int} {L : List Sp} (op rd f3 rs1 rs2 f7 : Int) (h : inr imm L = false) : asmW op rd f3 rs1 rs2 f7 imm L = 0 ∧ asmE op rd f3 rs1 rs2 f7 imm L = 1 := by
  unfold asmW asmE; rw [h, Bool.and_false]; exact ⟨rfl, rfl⟩
theorem asm_off {op rd f3 rs1 rs2 f7 imm : Int} {L : List Sp} (h : Fit op rd f3 rs1 rs2 f7 = true) (h2 : inr imm L = true) (h3 : ins imm L = false) : asmW op rd f3 rs1 rs2 f7 imm L = 0 ∧ asmE op rd f3 rs1 rs2 f7 imm L = 5 := by
  unfold asmW asmE; rw [h, h2, h3]; exact ⟨rfl, rfl⟩
theorem asm_good {op rd f3 rs1 rs2 f7 imm : Int} {L : List Sp} (h : Fit op rd f3 rs1 rs2 f7 = true) (h2 : inr imm L = true) (h3 : ins imm L = true) :
    asmW op rd f3 rs1 rs2 f7 imm L = lay op rd f3 rs1 rs2 f7 ||| lo32 (spreadAcc (wd64 imm) L) ∧ asmE op rd f3 rs1 rs2 f7 imm L = 0 := by
  unfold asmW asmE; rw [h, h2, h3]; exact ⟨rfl, rfl⟩
theorem tmod2 (n : Int) : (n.tmod 2 != 0) = !decide (n % 2 = 0) := by
  rw [Bool.eq_iff_iff]; simp; rw [← Int.dvd_iff_tmod_eq_zero]; omega
theorem tmod4096 (n : Int) : (n.tmod 4096 != 0) = !decide (n % 4096 = 0) := by
  rw [Bool.eq_iff_iff]; simp; rw [← Int.dvd_iff_tmod_eq_zero]; omega
theorem asm_nil (op rd f3 rs1 rs2 f7 : Int) : asmW op rd f3 rs1 rs2 f7 0 [] = wordOf op rd f3 rs1 rs2 f7 ∧ asmE op rd f3 rs1 rs2 f7 0 [] = if Fit op rd f3 rs1 rs2 f7 then 0 else 1 := by
  have h1 : inr 0 [] = true := by decide +kernel
  have h2 : ins 0 [] = true := by decide +kernel
  have h3 : lo32 (spreadAcc (wd64 0) []) = 0 := by decide +kernel
  unfold asmW asmE wordOf
  rw [h1, h2, h3, Bool.and_true, Bool.and_true]
  cases Fit op rd f3 rs1 rs2 f7
  · exact ⟨rfl, rfl⟩
  · simp
theorem refR_any (op rd f3 rs1 rs2 f7 : Int) (w : World) :
    Calls Tryd.prog 62 #[.int .i64 op, .int .i64 rd, .int .i64 f3, .int .i64 rs1, .int .i64 rs2, .int .i64 f7] w fun e w' =>
      e = .returned (.tuple #[.int .u32 (q (asmW op rd f3 rs1 rs2 f7 0 [])), .int .i64 (asmE op rd f3 rs1 rs2 f7 0 [])]) ∧ On w w' := by
  have H := Lib.hid (asm_nil op rd f3 rs1 rs2 f7)
  have hE := fldE_R op rd f3 rs1 rs2 f7
  cases hF : Fit op rd f3 rs1 rs2 f7
  · rw [hF] at hE
    have HF := Lib.hid hF
    clear hF
    go_enter Tryd.func62, Tryd.ntmps62
    go_wp2_with (go_at_call 74; refine (fields3_any _ _ _ _ _ _ _ _).mono ?_; rintro e w1 ⟨rfl, rfl⟩)
    go_ret2
    exact ⟨two_made (by rw [H.out.1]; unfold wordOf; rw [HF.out]; rfl) (by rw [H.out.2, HF.out]; rfl), (On.refl w).alloc _⟩
  · rw [hF] at hE
    have HF := Lib.hid hF
    clear hF
    go_enter Tryd.func62, Tryd.ntmps62
    go_wp2_with (first | (go_at_call 74; refine (fields3_any _ _ _ _ _ _ _ _).mono ?_; rintro e w1 ⟨rfl, rfl⟩) | (go_at_call 76; refine (lay_any _ _ _ _ _ _ _).mono ?_; rintro e w1 ⟨rfl, rfl⟩))
    go_ret2
    exact ⟨two_made (by rw [H.out.1]; unfold wordOf; rw [HF.out]; rfl) (by rw [H.out.2, HF.out]; rfl), (On.refl w).alloc _⟩
theorem refI_any (op rd f3 rs1 imm : Int) (him : I64 imm) (w : World) :
    Calls Tryd.prog 56 #[.int .i64 op, .int .i64 rd, .int .i64 f3, .int .i64 rs1, .int .i64 imm] w fun e w' =>
      e = .returned (.tuple #[.int .u32 (q (asmW op rd f3 rs1 0 0 imm LI)), .int .i64 (asmE op rd f3 rs1 0 0 imm LI)]) ∧ On w w' := by
  have hE := fldE_I op rd f3 rs1
  have hin := inr12 imm him LI rfl
  have hi1 := him.1
  have hi2 := him.2
  clear him
  cases hF : Fit op rd f3 rs1 0 0
  · rw [hF] at hE
    have H := Lib.hid (asm_bad imm LI hF)
    clear hF hin
    go_enter Tryd.func56, Tryd.ntmps56
    go_wp2_with (go_at_call 74; refine (fields2_any _ _ _ _ _ _ _).mono ?_; rintro e w1 ⟨rfl, rfl⟩)
    go_ret2
    exact ⟨two_made (by rw [H.out.1]; rfl) (by rw [H.out.2]), (On.refl w).alloc _⟩
  rw [hF] at hE
  by_cases h1 : imm < -2048
  · have e1 : decide (imm < -2048) = true := decide_eq_true h1
    rw [decide_eq_false (show ¬ -2048 ≤ imm by omega), Bool.false_and] at hin
    have H := Lib.hid (asm_out op rd f3 rs1 0 0 hin)
    clear hF hin
    go_enter Tryd.func56, Tryd.ntmps56
    go_wp2_with (go_at_call 74; refine (fields2_any _ _ _ _ _ _ _).mono ?_; rintro e w1 ⟨rfl, rfl⟩)
    go_ret2
    exact ⟨two_made (by rw [H.out.1]; rfl) (by rw [H.out.2]), (On.refl w).alloc _⟩
  have e1 : decide (imm < -2048) = false := decide_eq_false h1
  by_cases h2 : 2047 < imm
  · have e2 : decide (2047 < imm) = true := decide_eq_true h2
    rw [decide_eq_false (show ¬ imm ≤ 2047 by omega), Bool.and_false] at hin
    have H := Lib.hid (asm_out op rd f3 rs1 0 0 hin)
    clear hF hin
    go_enter Tryd.func56, Tryd.ntmps56
    go_wp2_with (go_at_call 74; refine (fields2_any _ _ _ _ _ _ _).mono ?_; rintro e w1 ⟨rfl, rfl⟩)
    go_ret2
    exact ⟨two_made (by rw [H.out.1]; rfl) (by rw [H.out.2]), (On.refl w).alloc _⟩
  have e2 : decide (2047 < imm) = false := decide_eq_false h2
  rw [decide_eq_true (show -2048 ≤ imm by omega), decide_eq_true (show imm ≤ 2047 by omega), Bool.and_true] at hin
  have hst := ins0 imm LI rfl
  have hg := asm_good hF hin hst
  rw [spread_with sameI _ _ (clearI hF)] at hg
  have H := Lib.hid hg
  clear hF hin hst hg
  go_enter Tryd.func56, Tryd.ntmps56
  go_wp2_with (first | (go_at_call 74; refine (fields2_any _ _ _ _ _ _ _).mono ?_; rintro e w1 ⟨rfl, rfl⟩) | (go_at_call 76; refine (lay_any _ _ _ _ _ _ _).mono ?_; rintro e w1 ⟨rfl, rfl⟩) | (go_at_call 75; refine (refWithI _ _ _).mono ?_; rintro e w2 ⟨rfl, hb2⟩; have HB2 := Lib.hid hb2; clear hb2))
  go_ret2
  exact ⟨two_made (by rw [H.out.1]) (by rw [H.out.2]), ((On.refl w).alloc _).trans HB2.out⟩
theorem refS_any (op f3 rs1 rs2 imm : Int) (him : I64 imm) (w : World) :
    Calls Tryd.prog 59 #[.int .i64 op, .int .i64 f3, .int .i64 rs1, .int .i64 rs2, .int .i64 imm] w fun e w' =>
      e = .returned (.tuple #[.int .u32 (q (asmW op 0 f3 rs1 rs2 0 imm LS)), .int .i64 (asmE op 0 f3 rs1 rs2 0 imm LS)]) ∧ On w w' := by
  have hE := fldE_S op f3 rs1 rs2
  have hin := inr12 imm him LS rfl
  have hi1 := him.1
  have hi2 := him.2
  clear him
  cases hF : Fit op 0 f3 rs1 rs2 0
  · rw [hF] at hE
    have H := Lib.hid (asm_bad imm LS hF)
    clear hF hin
    go_enter Tryd.func59, Tryd.ntmps59
    go_wp2_with (go_at_call 74; refine (fields2_any _ _ _ _ _ _ _).mono ?_; rintro e w1 ⟨rfl, rfl⟩)
    go_ret2
    exact ⟨two_made (by rw [H.out.1]; rfl) (by rw [H.out.2]), (On.refl w).alloc _⟩
  rw [hF] at hE
  by_cases h1 : imm < -2048
  · have e1 : decide (imm < -2048) = true := decide_eq_true h1
    rw [decide_eq_false (show ¬ -2048 ≤ imm by omega), Bool.false_and] at hin
    have H := Lib.hid (asm_out op 0 f3 rs1 rs2 0 hin)
    clear hF hin
    go_enter Tryd.func59, Tryd.ntmps59
    go_wp2_with (go_at_call 74; refine (fields2_any _ _ _ _ _ _ _).mono ?_; rintro e w1 ⟨rfl, rfl⟩)
    go_ret2
    exact ⟨two_made (by rw [H.out.1]; rfl) (by rw [H.out.2]), (On.refl w).alloc _⟩
  have e1 : decide (imm < -2048) = false := decide_eq_false h1
  by_cases h2 : 2047 < imm
  · have e2 : decide (2047 < imm) = true := decide_eq_true h2
    rw [decide_eq_false (show ¬ imm ≤ 2047 by omega), Bool.and_false] at hin
    have H := Lib.hid (asm_out op 0 f3 rs1 rs2 0 hin)
    clear hF hin
    go_enter Tryd.func59, Tryd.ntmps59
    go_wp2_with (go_at_call 74; refine (fields2_any _ _ _ _ _ _ _).mono ?_; rintro e w1 ⟨rfl, rfl⟩)
    go_ret2
    exact ⟨two_made (by rw [H.out.1]; rfl) (by rw [H.out.2]), (On.refl w).alloc _⟩
  have e2 : decide (2047 < imm) = false := decide_eq_false h2
  rw [decide_eq_true (show -2048 ≤ imm by omega), decide_eq_true (show imm ≤ 2047 by omega), Bool.and_true] at hin
  have hst := ins0 imm LS rfl
  have hg := asm_good hF hin hst
  rw [spread_with sameS _ _ (clearS hF)] at hg
  have H := Lib.hid hg
  clear hF hin hst hg
  go_enter Tryd.func59, Tryd.ntmps59
  go_wp2_with (first | (go_at_call 74; refine (fields2_any _ _ _ _ _ _ _).mono ?_; rintro e w1 ⟨rfl, rfl⟩) | (go_at_call 76; refine (lay_any _ _ _ _ _ _ _).mono ?_; rintro e w1 ⟨rfl, rfl⟩) | (go_at_call 75; refine (refWithS _ _ _).mono ?_; rintro e w2 ⟨rfl, hb2⟩; have HB2 := Lib.hid hb2; clear hb2))
  go_ret2
  exact ⟨two_made (by rw [H.out.1]) (by rw [H.out.2]), ((On.refl w).alloc _).trans HB2.out⟩
theorem refB_any (op f3 rs1 rs2 imm : Int) (him : I64 imm) (w : World) :
    Calls Tryd.prog 57 #[.int .i64 op, .int .i64 f3, .int .i64 rs1, .int .i64 rs2, .int .i64 imm] w fun e w' =>
      e = .returned (.tuple #[.int .u32 (q (asmW op 0 f3 rs1 rs2 0 imm LB)), .int .i64 (asmE op 0 f3 rs1 rs2 0 imm LB)]) ∧ On w w' := by
  have hE := fldE_B op f3 rs1 rs2
  have hin := inr13 imm him LB rfl
  have hi1 := him.1
  have hi2 := him.2
  clear him
  cases hF : Fit op 0 f3 rs1 rs2 0
  · rw [hF] at hE
    have H := Lib.hid (asm_bad imm LB hF)
    clear hF hin
    go_enter Tryd.func57, Tryd.ntmps57
    go_wp2_with (go_at_call 74; refine (fields2_any _ _ _ _ _ _ _).mono ?_; rintro e w1 ⟨rfl, rfl⟩)
    go_ret2
    exact ⟨two_made (by rw [H.out.1]; rfl) (by rw [H.out.2]), (On.refl w).alloc _⟩
  rw [hF] at hE
  by_cases h1 : imm < -4096
  · have e1 : decide (imm < -4096) = true := decide_eq_true h1
    rw [decide_eq_false (show ¬ -4096 ≤ imm by omega), Bool.false_and] at hin
    have H := Lib.hid (asm_out op 0 f3 rs1 rs2 0 hin)
    clear hF hin
    go_enter Tryd.func57, Tryd.ntmps57
    go_wp2_with (go_at_call 74; refine (fields2_any _ _ _ _ _ _ _).mono ?_; rintro e w1 ⟨rfl, rfl⟩)
    go_ret2
    exact ⟨two_made (by rw [H.out.1]; rfl) (by rw [H.out.2]), (On.refl w).alloc _⟩
  have e1 : decide (imm < -4096) = false := decide_eq_false h1
  by_cases h2 : 4095 < imm
  · have e2 : decide (4095 < imm) = true := decide_eq_true h2
    rw [decide_eq_false (show ¬ imm ≤ 4095 by omega), Bool.and_false] at hin
    have H := Lib.hid (asm_out op 0 f3 rs1 rs2 0 hin)
    clear hF hin
    go_enter Tryd.func57, Tryd.ntmps57
    go_wp2_with (go_at_call 74; refine (fields2_any _ _ _ _ _ _ _).mono ?_; rintro e w1 ⟨rfl, rfl⟩)
    go_ret2
    exact ⟨two_made (by rw [H.out.1]; rfl) (by rw [H.out.2]), (On.refl w).alloc _⟩
  have e2 : decide (4095 < imm) = false := decide_eq_false h2
  rw [decide_eq_true (show -4096 ≤ imm by omega), decide_eq_true (show imm ≤ 4095 by omega), Bool.and_true] at hin
  have hst := ins1 imm LB rfl
  have htm := tmod2 imm
  by_cases h3 : imm % 2 = 0
  · rw [decide_eq_true h3] at hst htm
    have hg := asm_good hF hin hst
    rw [spread_with sameB _ _ (clearB hF)] at hg
    have H := Lib.hid hg
    clear hF hin hst hg
    go_enter Tryd.func57, Tryd.ntmps57
    go_wp2_with (first | (go_at_call 74; refine (fields2_any _ _ _ _ _ _ _).mono ?_; rintro e w1 ⟨rfl, rfl⟩) | (go_at_call 76; refine (lay_any _ _ _ _ _ _ _).mono ?_; rintro e w1 ⟨rfl, rfl⟩) | (go_at_call 75; refine (refWithB _ _ _).mono ?_; rintro e w2 ⟨rfl, hb2⟩; have HB2 := Lib.hid hb2; clear hb2))
    go_ret2
    exact ⟨two_made (by rw [H.out.1]) (by rw [H.out.2]), ((On.refl w).alloc _).trans HB2.out⟩
  · rw [decide_eq_false h3] at hst htm
    have H := Lib.hid (asm_off hF hin hst)
    clear hF hin hst
    go_enter Tryd.func57, Tryd.ntmps57
    go_wp2_with (go_at_call 74; refine (fields2_any _ _ _ _ _ _ _).mono ?_; rintro e w1 ⟨rfl, rfl⟩)
    go_ret2
    exact ⟨two_made (by rw [H.out.1]; rfl) (by rw [H.out.2]), (On.refl w).alloc _⟩
theorem refU_any (op rd imm : Int) (him : I64 imm) (w : World) :
    Calls Tryd.prog 54 #[.int .i64 op, .int .i64 rd, .int .i64 imm] w fun e w' =>
      e = .returned (.tuple #[.int .u32 (q (asmW op rd 0 0 0 0 imm LU)), .int .i64 (asmE op rd 0 0 0 0 imm LU)]) ∧ On w w' := by
  have hE := fldE_U op rd
  have hin := inr32 imm him LU rfl
  have hi1 := him.1
  have hi2 := him.2
  clear him
  cases hF : Fit op rd 0 0 0 0
  · rw [hF] at hE
    have H := Lib.hid (asm_bad imm LU hF)
    clear hF hin
    go_enter Tryd.func54, Tryd.ntmps54
    go_wp2_with (go_at_call 74; refine (fields1_any _ _ _ _ _ _).mono ?_; rintro e w1 ⟨rfl, rfl⟩)
    go_ret2
    exact ⟨two_made (by rw [H.out.1]; rfl) (by rw [H.out.2]), (On.refl w).alloc _⟩
  rw [hF] at hE
  by_cases h1 : imm < -2147483648
  · have e1 : decide (imm < -2147483648) = true := decide_eq_true h1
    rw [decide_eq_false (show ¬ -2147483648 ≤ imm by omega), Bool.false_and] at hin
    have H := Lib.hid (asm_out op rd 0 0 0 0 hin)
    clear hF hin
    go_enter Tryd.func54, Tryd.ntmps54
    go_wp2_with (go_at_call 74; refine (fields1_any _ _ _ _ _ _).mono ?_; rintro e w1 ⟨rfl, rfl⟩)
    go_ret2
    exact ⟨two_made (by rw [H.out.1]; rfl) (by rw [H.out.2]), (On.refl w).alloc _⟩
  have e1 : decide (imm < -2147483648) = false := decide_eq_false h1
  by_cases h2 : 2147483647 < imm
  · have e2 : decide (2147483647 < imm) = true := decide_eq_true h2
    rw [decide_eq_false (show ¬ imm ≤ 2147483647 by omega), Bool.and_false] at hin
    have H := Lib.hid (asm_out op rd 0 0 0 0 hin)
    clear hF hin
    go_enter Tryd.func54, Tryd.ntmps54
    go_wp2_with (go_at_call 74; refine (fields1_any _ _ _ _ _ _).mono ?_; rintro e w1 ⟨rfl, rfl⟩)
    go_ret2
    exact ⟨two_made (by rw [H.out.1]; rfl) (by rw [H.out.2]), (On.refl w).alloc _⟩
  have e2 : decide (2147483647 < imm) = false := decide_eq_false h2
  rw [decide_eq_true (show -2147483648 ≤ imm by omega), decide_eq_true (show imm ≤ 2147483647 by omega), Bool.and_true] at hin
  have hst := ins12 imm LU rfl
  have htm := tmod4096 imm
  by_cases h3 : imm % 4096 = 0
  · rw [decide_eq_true h3] at hst htm
    have hg := asm_good hF hin hst
    rw [spread_with sameU _ _ (clearU hF)] at hg
    have H := Lib.hid hg
    clear hF hin hst hg
    go_enter Tryd.func54, Tryd.ntmps54
    go_wp2_with (first | (go_at_call 74; refine (fields1_any _ _ _ _ _ _).mono ?_; rintro e w1 ⟨rfl, rfl⟩) | (go_at_call 76; refine (lay_any _ _ _ _ _ _ _).mono ?_; rintro e w1 ⟨rfl, rfl⟩) | (go_at_call 75; refine (refWithU _ _ _).mono ?_; rintro e w2 ⟨rfl, hb2⟩; have HB2 := Lib.hid hb2; clear hb2))
    go_ret2
    exact ⟨two_made (by rw [H.out.1]) (by rw [H.out.2]), ((On.refl w).alloc _).trans HB2.out⟩
  · rw [decide_eq_false h3] at hst htm
    have H := Lib.hid (asm_off hF hin hst)
    clear hF hin hst
    go_enter Tryd.func54, Tryd.ntmps54
    go_wp2_with (go_at_call 74; refine (fields1_any _ _ _ _ _ _).mono ?_; rintro e w1 ⟨rfl, rfl⟩)
    go_ret2
    exact ⟨two_made (by rw [H.out.1]; rfl) (by rw [H.out.2]), (On.refl w).alloc _⟩
theorem refJ_any (op rd imm : Int) (him : I64 imm) (w : World) :
    Calls Tryd.prog 55 #[.int .i64 op, .int .i64 rd, .int .i64 imm] w fun e w' =>
      e = .returned (.tuple #[.int .u32 (q (asmW op rd 0 0 0 0 imm LJ)), .int .i64 (asmE op rd 0 0 0 0 imm LJ)]) ∧ On w w' := by
  have hE := fldE_J op rd
  have hin := inr21 imm him LJ rfl
  have hi1 := him.1
  have hi2 := him.2
  clear him
  cases hF : Fit op rd 0 0 0 0
  · rw [hF] at hE
    have H := Lib.hid (asm_bad imm LJ hF)
    clear hF hin
    go_enter Tryd.func55, Tryd.ntmps55
    go_wp2_with (go_at_call 74; refine (fields1_any _ _ _ _ _ _).mono ?_; rintro e w1 ⟨rfl, rfl⟩)
    go_ret2
    exact ⟨two_made (by rw [H.out.1]; rfl) (by rw [H.out.2]), (On.refl w).alloc _⟩
  rw [hF] at hE
  by_cases h1 : imm < -1048576
  · have e1 : decide (imm < -1048576) = true := decide_eq_true h1
    rw [decide_eq_false (show ¬ -1048576 ≤ imm by omega), Bool.false_and] at hin
    have H := Lib.hid (asm_out op rd 0 0 0 0 hin)
    clear hF hin
    go_enter Tryd.func55, Tryd.ntmps55
    go_wp2_with (go_at_call 74; refine (fields1_any _ _ _ _ _ _).mono ?_; rintro e w1 ⟨rfl, rfl⟩)
    go_ret2
    exact ⟨two_made (by rw [H.out.1]; rfl) (by rw [H.out.2]), (On.refl w).alloc _⟩
  have e1 : decide (imm < -1048576) = false := decide_eq_false h1
  by_cases h2 : 1048575 < imm
  · have e2 : decide (1048575 < imm) = true := decide_eq_true h2
    rw [decide_eq_false (show ¬ imm ≤ 1048575 by omega), Bool.and_false] at hin
    have H := Lib.hid (asm_out op rd 0 0 0 0 hin)
    clear hF hin
    go_enter Tryd.func55, Tryd.ntmps55
    go_wp2_with (go_at_call 74; refine (fields1_any _ _ _ _ _ _).mono ?_; rintro e w1 ⟨rfl, rfl⟩)
    go_ret2
    exact ⟨two_made (by rw [H.out.1]; rfl) (by rw [H.out.2]), (On.refl w).alloc _⟩
  have e2 : decide (1048575 < imm) = false := decide_eq_false h2
  rw [decide_eq_true (show -1048576 ≤ imm by omega), decide_eq_true (show imm ≤ 1048575 by omega), Bool.and_true] at hin
  have hst := ins1 imm LJ rfl
  have htm := tmod2 imm
  by_cases h3 : imm % 2 = 0
  · rw [decide_eq_true h3] at hst htm
    have hg := asm_good hF hin hst
    rw [spread_with sameJ _ _ (clearJ hF)] at hg
    have H := Lib.hid hg
    clear hF hin hst hg
    go_enter Tryd.func55, Tryd.ntmps55
    go_wp2_with (first | (go_at_call 74; refine (fields1_any _ _ _ _ _ _).mono ?_; rintro e w1 ⟨rfl, rfl⟩) | (go_at_call 76; refine (lay_any _ _ _ _ _ _ _).mono ?_; rintro e w1 ⟨rfl, rfl⟩) | (go_at_call 75; refine (refWithJ _ _ _).mono ?_; rintro e w2 ⟨rfl, hb2⟩; have HB2 := Lib.hid hb2; clear hb2))
    go_ret2
    exact ⟨two_made (by rw [H.out.1]) (by rw [H.out.2]), ((On.refl w).alloc _).trans HB2.out⟩
  · rw [decide_eq_false h3] at hst htm
    have H := Lib.hid (asm_off hF hin hst)
    clear hF hin hst
    go_enter Tryd.func55, Tryd.ntmps55
    go_wp2_with (go_at_call 74; refine (fields1_any _ _ _ _ _ _).mono ?_; rintro e w1 ⟨rfl, rfl⟩)
    go_ret2
    exact ⟨two_made (by rw [H.out.1]; rfl) (by rw [H.out.2]), (On.refl w).alloc _⟩
end Go.Proofs.YtjnalgilkdoalaaDoor
