/- Proves that a register is let go just from 0 to 31, and an immediate just between its ends, and else nothing is laid out, and that the first test of the law holds. Conditions: none. -/
import Derived.Test.YtfmnkammfpodaaaRows
import Derived.Test.YtfmnkammfpodaaaRefuse
import Derived.WalkKit
import Derived.ProofKit
import Derived.OpenShut
import Derived.Below
import Derived.Carry
import Derived.ShutString
import Derived.Deep.CutRange
namespace Go.Proofs.Ytfmnkammfpodaaa.shapeRefuses
open Go.ChangeShapes Go.WideShapes Go.ChangeAt Go.RowKit
set_option linter.unusedVariables false

theorem own : ownKnob Try.prog.godebug = none := by kernel_rfl

set_option maxRecDepth 100000 in
set_option maxHeartbeats 16000000 in
theorem walk (a0 : Int) (w0 : (Lit.int .i64 a0).wf = true) (a1 : Int) (w1 : (Lit.int .i64 a1).wf = true) (w : World) :
    Calls Try.prog 10 #[.int .i64 a0, .int .i64 a1] w fun e w' => e = .returned (.bool true) ∧ Below w.heap.size w w' := by
  obtain ⟨xR, eR, CR, dR, zR⟩ := refuse_R a0 (i64_of w0)
  obtain ⟨xI, eI, CI, dI, zI⟩ := refuse_I a0 (i64_of w0)
  obtain ⟨xS, eS, CS, dS, zS⟩ := refuse_S a0 (i64_of w0)
  obtain ⟨yI, gI, DI, fI⟩ := refuse_imm_I a1 (i64_of w1)
  obtain ⟨yB, gB, DB, fB⟩ := refuse_imm_B a1 (i64_of w1)
  obtain ⟨yJ, gJ, DJ, fJ⟩ := refuse_imm_J a1 (i64_of w1)
  have HR := Lib.hid CR
  have HI := Lib.hid CI
  have HS := Lib.hid CS
  have KI := Lib.hid DI
  have KB := Lib.hid DB
  have KJ := Lib.hid DJ
  have HF := Lib.hid (And.intro fI (And.intro fB fJ))
  have tm := tmod_two a1
  have HT := Lib.hid tm
  obtain ⟨b, hB⟩ : ∃ b, In a0 5 = b := ⟨_, rfl⟩
  rw [hB] at dR dI dS zR zI zS
  have HD := Lib.hid (And.intro dR (And.intro dI (And.intro dS (And.intro zR (And.intro zI zS)))))
  have HBb := Lib.hid hB
  clear CR CI CS DI DB DJ fI fB fJ tm hB dR dI dS zR zI zS w0 w1
  have hb : On w w := On.refl _
  go_enter Try.func10, Try.ntmps10
  go_upto_region 1 with fail
  go_cut [5] from 18 to 23 (fun c wx => c = .bool b ∧ w = wx)
  case first =>
    by_cases h1 : a0 < 0
    · have e : b = false := HBb.out ▸ In_neg h1
      have e1 : decide (0 ≤ a0) = false := decide_eq_false (by omega)
      have HE := Lib.hid e
      clear e
      go_wp2_with fail
      go_meet
      exact ⟨by rw [HE.out], rfl⟩
    · by_cases h2 : 31 < a0
      · have e : b = false := HBb.out ▸ In_big (k := 5) (by omega)
        have e1 : decide (0 ≤ a0) = true := decide_eq_true (by omega)
        have e2 : decide (a0 ≤ 31) = false := decide_eq_false (by omega)
        have HE := Lib.hid e
        clear e
        go_wp2_with fail
        go_meet
        exact ⟨by rw [HE.out], rfl⟩
      · have e : b = true := HBb.out ▸ In_yes (by omega) (by omega)
        have HE := Lib.hid e
        clear e
        go_wp2_with fail
        go_meet
        exact ⟨by rw [HE.out], rfl⟩
  case rest =>
    obtain ⟨rfl, rfl⟩ := hcut
    go_upto_region 5 with (first | (go_at_call 30; refine (HR.out _).mono ?_; rintro e wn ⟨rfl, hb'⟩; have hb := hb.trans hb'; clear hb') | (go_at_call 32; refine (HI.out _).mono ?_; rintro e wn ⟨rfl, hb'⟩; have hb := hb.trans hb'; clear hb') | (go_at_call 34; refine (HS.out _).mono ?_; rintro e wn ⟨rfl, hb'⟩; have hb := hb.trans hb'; clear hb') | (go_at_call 11; refine (awake2_yes _).mono ?_; rintro e wn ⟨rfl, hb'⟩; have hb := hb.trans hb'; clear hb'))
    have hg := hb
    go_cut [82] from 18 to 82 (fun c wx => c = .bool false ∧ On w wx)
    case first =>
      obtain ⟨dR, dI, dS, zR, zI, zS⟩ := HD.out
      cases b
      · obtain ⟨e1, e2⟩ := zR rfl
        obtain ⟨e3, e4⟩ := zI rfl
        obtain ⟨e5, e6⟩ := zS rfl
        subst e1 e3 e5
        have o1 : bits .or .u32 (q xR) (q xI) = 0 := by rw [e2, e4]; decide
        have o2 : bits .or .u32 0 (q xS) = 0 := by rw [e6]; decide
        clear dR dI dS zR zI zS e2 e4 e6
        go_wp2_with (first | (go_at_call 30; refine (HR.out _).mono ?_; rintro e wn ⟨rfl, hb'⟩; have hb := hb.trans hb'; clear hb') | (go_at_call 32; refine (HI.out _).mono ?_; rintro e wn ⟨rfl, hb'⟩; have hb := hb.trans hb'; clear hb') | (go_at_call 34; refine (HS.out _).mono ?_; rintro e wn ⟨rfl, hb'⟩; have hb := hb.trans hb'; clear hb') | (go_at_call 11; refine (awake2_yes _).mono ?_; rintro e wn ⟨rfl, hb'⟩; have hb := hb.trans hb'; clear hb'))
        go_meet
        exact ⟨rfl, hb⟩
      · clear zR zI zS
        go_wp2_with (first | (go_at_call 30; refine (HR.out _).mono ?_; rintro e wn ⟨rfl, hb'⟩; have hb := hb.trans hb'; clear hb') | (go_at_call 32; refine (HI.out _).mono ?_; rintro e wn ⟨rfl, hb'⟩; have hb := hb.trans hb'; clear hb') | (go_at_call 34; refine (HS.out _).mono ?_; rintro e wn ⟨rfl, hb'⟩; have hb := hb.trans hb'; clear hb') | (go_at_call 11; refine (awake2_yes _).mono ?_; rintro e wn ⟨rfl, hb'⟩; have hb := hb.trans hb'; clear hb'))
        go_meet
        exact ⟨rfl, hb⟩
    case rest =>
      clear hg hb
      obtain ⟨rfl, hb⟩ := hcut
      go_upto_region 10 with (first | (go_at_call 32; refine (KI.out _).mono ?_; rintro e wn ⟨rfl, hb'⟩; have hb := hb.trans hb'; clear hb') | (go_at_call 36; refine (KB.out _).mono ?_; rintro e wn ⟨rfl, hb'⟩; have hb := hb.trans hb'; clear hb') | (go_at_call 40; refine (KJ.out _).mono ?_; rintro e wn ⟨rfl, hb'⟩; have hb := hb.trans hb'; clear hb'))
      obtain ⟨fI, fB, fJ⟩ := HF.out
      have tm := HT.out
      clear KI KB KJ HR HI HS HD HT HF HBb
      by_cases h0 : a1 < -1048576
      · by_cases hp : a1 % 2 = 0
        · have t1 : (gI == 0) = false := fI.trans (decide_eq_false (by omega))
          have t2 : (gB == 0) = false := fB.trans (decide_eq_false (by omega))
          have t3 : (gJ == 0) = false := fJ.trans (decide_eq_false (by omega))
          have t4 : (a1.tmod 2 == 0) = true := tm.trans (decide_eq_true (by omega))
          have t5 : (a1 % 2 == 0) = true := by simp [hp]
          have d1 : decide (-2048 ≤ a1) = false := decide_eq_false (by omega)
          have d2 : decide (a1 ≤ 2047) = true := decide_eq_true (by omega)
          have d3 : decide (-4096 ≤ a1) = false := decide_eq_false (by omega)
          have d4 : decide (a1 ≤ 4094) = true := decide_eq_true (by omega)
          have d5 : decide (-1048576 ≤ a1) = false := decide_eq_false (by omega)
          have d6 : decide (a1 ≤ 1048574) = true := decide_eq_true (by omega)
          clear fI fB fJ tm
          go_wp2_with fail
          go_ret
          exact ⟨rfl, hb⟩
        · have t1 : (gI == 0) = false := fI.trans (decide_eq_false (by omega))
          have t2 : (gB == 0) = false := fB.trans (decide_eq_false (by omega))
          have t3 : (gJ == 0) = false := fJ.trans (decide_eq_false (by omega))
          have t4 : (a1.tmod 2 == 0) = false := tm.trans (decide_eq_false (by omega))
          have t5 : (a1 % 2 == 0) = false := by simp; omega
          have d1 : decide (-2048 ≤ a1) = false := decide_eq_false (by omega)
          have d2 : decide (a1 ≤ 2047) = true := decide_eq_true (by omega)
          have d3 : decide (-4096 ≤ a1) = false := decide_eq_false (by omega)
          have d4 : decide (a1 ≤ 4094) = true := decide_eq_true (by omega)
          have d5 : decide (-1048576 ≤ a1) = false := decide_eq_false (by omega)
          have d6 : decide (a1 ≤ 1048574) = true := decide_eq_true (by omega)
          clear fI fB fJ tm
          go_wp2_with fail
          go_ret
          exact ⟨rfl, hb⟩
      by_cases h1 : a1 < -4096
      · by_cases hp : a1 % 2 = 0
        · have t1 : (gI == 0) = false := fI.trans (decide_eq_false (by omega))
          have t2 : (gB == 0) = false := fB.trans (decide_eq_false (by omega))
          have t3 : (gJ == 0) = true := fJ.trans (decide_eq_true (by omega))
          have t4 : (a1.tmod 2 == 0) = true := tm.trans (decide_eq_true (by omega))
          have t5 : (a1 % 2 == 0) = true := by simp [hp]
          have d1 : decide (-2048 ≤ a1) = false := decide_eq_false (by omega)
          have d2 : decide (a1 ≤ 2047) = true := decide_eq_true (by omega)
          have d3 : decide (-4096 ≤ a1) = false := decide_eq_false (by omega)
          have d4 : decide (a1 ≤ 4094) = true := decide_eq_true (by omega)
          have d5 : decide (-1048576 ≤ a1) = true := decide_eq_true (by omega)
          have d6 : decide (a1 ≤ 1048574) = true := decide_eq_true (by omega)
          clear fI fB fJ tm
          go_wp2_with fail
          go_ret
          exact ⟨rfl, hb⟩
        · have t1 : (gI == 0) = false := fI.trans (decide_eq_false (by omega))
          have t2 : (gB == 0) = false := fB.trans (decide_eq_false (by omega))
          have t3 : (gJ == 0) = false := fJ.trans (decide_eq_false (by omega))
          have t4 : (a1.tmod 2 == 0) = false := tm.trans (decide_eq_false (by omega))
          have t5 : (a1 % 2 == 0) = false := by simp; omega
          have d1 : decide (-2048 ≤ a1) = false := decide_eq_false (by omega)
          have d2 : decide (a1 ≤ 2047) = true := decide_eq_true (by omega)
          have d3 : decide (-4096 ≤ a1) = false := decide_eq_false (by omega)
          have d4 : decide (a1 ≤ 4094) = true := decide_eq_true (by omega)
          have d5 : decide (-1048576 ≤ a1) = true := decide_eq_true (by omega)
          have d6 : decide (a1 ≤ 1048574) = true := decide_eq_true (by omega)
          clear fI fB fJ tm
          go_wp2_with fail
          go_ret
          exact ⟨rfl, hb⟩
      by_cases h2 : a1 < -2048
      · by_cases hp : a1 % 2 = 0
        · have t1 : (gI == 0) = false := fI.trans (decide_eq_false (by omega))
          have t2 : (gB == 0) = true := fB.trans (decide_eq_true (by omega))
          have t3 : (gJ == 0) = true := fJ.trans (decide_eq_true (by omega))
          have t4 : (a1.tmod 2 == 0) = true := tm.trans (decide_eq_true (by omega))
          have t5 : (a1 % 2 == 0) = true := by simp [hp]
          have d1 : decide (-2048 ≤ a1) = false := decide_eq_false (by omega)
          have d2 : decide (a1 ≤ 2047) = true := decide_eq_true (by omega)
          have d3 : decide (-4096 ≤ a1) = true := decide_eq_true (by omega)
          have d4 : decide (a1 ≤ 4094) = true := decide_eq_true (by omega)
          have d5 : decide (-1048576 ≤ a1) = true := decide_eq_true (by omega)
          have d6 : decide (a1 ≤ 1048574) = true := decide_eq_true (by omega)
          clear fI fB fJ tm
          go_wp2_with fail
          go_ret
          exact ⟨rfl, hb⟩
        · have t1 : (gI == 0) = false := fI.trans (decide_eq_false (by omega))
          have t2 : (gB == 0) = false := fB.trans (decide_eq_false (by omega))
          have t3 : (gJ == 0) = false := fJ.trans (decide_eq_false (by omega))
          have t4 : (a1.tmod 2 == 0) = false := tm.trans (decide_eq_false (by omega))
          have t5 : (a1 % 2 == 0) = false := by simp; omega
          have d1 : decide (-2048 ≤ a1) = false := decide_eq_false (by omega)
          have d2 : decide (a1 ≤ 2047) = true := decide_eq_true (by omega)
          have d3 : decide (-4096 ≤ a1) = true := decide_eq_true (by omega)
          have d4 : decide (a1 ≤ 4094) = true := decide_eq_true (by omega)
          have d5 : decide (-1048576 ≤ a1) = true := decide_eq_true (by omega)
          have d6 : decide (a1 ≤ 1048574) = true := decide_eq_true (by omega)
          clear fI fB fJ tm
          go_wp2_with fail
          go_ret
          exact ⟨rfl, hb⟩
      by_cases h3 : a1 < 2048
      · by_cases hp : a1 % 2 = 0
        · have t1 : (gI == 0) = true := fI.trans (decide_eq_true (by omega))
          have t2 : (gB == 0) = true := fB.trans (decide_eq_true (by omega))
          have t3 : (gJ == 0) = true := fJ.trans (decide_eq_true (by omega))
          have t4 : (a1.tmod 2 == 0) = true := tm.trans (decide_eq_true (by omega))
          have t5 : (a1 % 2 == 0) = true := by simp [hp]
          have d1 : decide (-2048 ≤ a1) = true := decide_eq_true (by omega)
          have d2 : decide (a1 ≤ 2047) = true := decide_eq_true (by omega)
          have d3 : decide (-4096 ≤ a1) = true := decide_eq_true (by omega)
          have d4 : decide (a1 ≤ 4094) = true := decide_eq_true (by omega)
          have d5 : decide (-1048576 ≤ a1) = true := decide_eq_true (by omega)
          have d6 : decide (a1 ≤ 1048574) = true := decide_eq_true (by omega)
          clear fI fB fJ tm
          go_wp2_with fail
          go_ret
          exact ⟨rfl, hb⟩
        · have t1 : (gI == 0) = true := fI.trans (decide_eq_true (by omega))
          have t2 : (gB == 0) = false := fB.trans (decide_eq_false (by omega))
          have t3 : (gJ == 0) = false := fJ.trans (decide_eq_false (by omega))
          have t4 : (a1.tmod 2 == 0) = false := tm.trans (decide_eq_false (by omega))
          have t5 : (a1 % 2 == 0) = false := by simp; omega
          have d1 : decide (-2048 ≤ a1) = true := decide_eq_true (by omega)
          have d2 : decide (a1 ≤ 2047) = true := decide_eq_true (by omega)
          have d3 : decide (-4096 ≤ a1) = true := decide_eq_true (by omega)
          have d4 : decide (a1 ≤ 4094) = true := decide_eq_true (by omega)
          have d5 : decide (-1048576 ≤ a1) = true := decide_eq_true (by omega)
          have d6 : decide (a1 ≤ 1048574) = true := decide_eq_true (by omega)
          clear fI fB fJ tm
          go_wp2_with fail
          go_ret
          exact ⟨rfl, hb⟩
      by_cases h4 : a1 < 4095
      · by_cases hp : a1 % 2 = 0
        · have t1 : (gI == 0) = false := fI.trans (decide_eq_false (by omega))
          have t2 : (gB == 0) = true := fB.trans (decide_eq_true (by omega))
          have t3 : (gJ == 0) = true := fJ.trans (decide_eq_true (by omega))
          have t4 : (a1.tmod 2 == 0) = true := tm.trans (decide_eq_true (by omega))
          have t5 : (a1 % 2 == 0) = true := by simp [hp]
          have d1 : decide (-2048 ≤ a1) = true := decide_eq_true (by omega)
          have d2 : decide (a1 ≤ 2047) = false := decide_eq_false (by omega)
          have d3 : decide (-4096 ≤ a1) = true := decide_eq_true (by omega)
          have d4 : decide (a1 ≤ 4094) = true := decide_eq_true (by omega)
          have d5 : decide (-1048576 ≤ a1) = true := decide_eq_true (by omega)
          have d6 : decide (a1 ≤ 1048574) = true := decide_eq_true (by omega)
          clear fI fB fJ tm
          go_wp2_with fail
          go_ret
          exact ⟨rfl, hb⟩
        · have t1 : (gI == 0) = false := fI.trans (decide_eq_false (by omega))
          have t2 : (gB == 0) = false := fB.trans (decide_eq_false (by omega))
          have t3 : (gJ == 0) = false := fJ.trans (decide_eq_false (by omega))
          have t4 : (a1.tmod 2 == 0) = false := tm.trans (decide_eq_false (by omega))
          have t5 : (a1 % 2 == 0) = false := by simp; omega
          have d1 : decide (-2048 ≤ a1) = true := decide_eq_true (by omega)
          have d2 : decide (a1 ≤ 2047) = false := decide_eq_false (by omega)
          have d3 : decide (-4096 ≤ a1) = true := decide_eq_true (by omega)
          have d4 : decide (a1 ≤ 4094) = true := decide_eq_true (by omega)
          have d5 : decide (-1048576 ≤ a1) = true := decide_eq_true (by omega)
          have d6 : decide (a1 ≤ 1048574) = true := decide_eq_true (by omega)
          clear fI fB fJ tm
          go_wp2_with fail
          go_ret
          exact ⟨rfl, hb⟩
      by_cases h5 : a1 < 1048575
      · by_cases hp : a1 % 2 = 0
        · have t1 : (gI == 0) = false := fI.trans (decide_eq_false (by omega))
          have t2 : (gB == 0) = false := fB.trans (decide_eq_false (by omega))
          have t3 : (gJ == 0) = true := fJ.trans (decide_eq_true (by omega))
          have t4 : (a1.tmod 2 == 0) = true := tm.trans (decide_eq_true (by omega))
          have t5 : (a1 % 2 == 0) = true := by simp [hp]
          have d1 : decide (-2048 ≤ a1) = true := decide_eq_true (by omega)
          have d2 : decide (a1 ≤ 2047) = false := decide_eq_false (by omega)
          have d3 : decide (-4096 ≤ a1) = true := decide_eq_true (by omega)
          have d4 : decide (a1 ≤ 4094) = false := decide_eq_false (by omega)
          have d5 : decide (-1048576 ≤ a1) = true := decide_eq_true (by omega)
          have d6 : decide (a1 ≤ 1048574) = true := decide_eq_true (by omega)
          clear fI fB fJ tm
          go_wp2_with fail
          go_ret
          exact ⟨rfl, hb⟩
        · have t1 : (gI == 0) = false := fI.trans (decide_eq_false (by omega))
          have t2 : (gB == 0) = false := fB.trans (decide_eq_false (by omega))
          have t3 : (gJ == 0) = false := fJ.trans (decide_eq_false (by omega))
          have t4 : (a1.tmod 2 == 0) = false := tm.trans (decide_eq_false (by omega))
          have t5 : (a1 % 2 == 0) = false := by simp; omega
          have d1 : decide (-2048 ≤ a1) = true := decide_eq_true (by omega)
          have d2 : decide (a1 ≤ 2047) = false := decide_eq_false (by omega)
          have d3 : decide (-4096 ≤ a1) = true := decide_eq_true (by omega)
          have d4 : decide (a1 ≤ 4094) = false := decide_eq_false (by omega)
          have d5 : decide (-1048576 ≤ a1) = true := decide_eq_true (by omega)
          have d6 : decide (a1 ≤ 1048574) = true := decide_eq_true (by omega)
          clear fI fB fJ tm
          go_wp2_with fail
          go_ret
          exact ⟨rfl, hb⟩
      by_cases hp : a1 % 2 = 0
      · have t1 : (gI == 0) = false := fI.trans (decide_eq_false (by omega))
        have t2 : (gB == 0) = false := fB.trans (decide_eq_false (by omega))
        have t3 : (gJ == 0) = false := fJ.trans (decide_eq_false (by omega))
        have t4 : (a1.tmod 2 == 0) = true := tm.trans (decide_eq_true (by omega))
        have t5 : (a1 % 2 == 0) = true := by simp [hp]
        have d1 : decide (-2048 ≤ a1) = true := decide_eq_true (by omega)
        have d2 : decide (a1 ≤ 2047) = false := decide_eq_false (by omega)
        have d3 : decide (-4096 ≤ a1) = true := decide_eq_true (by omega)
        have d4 : decide (a1 ≤ 4094) = false := decide_eq_false (by omega)
        have d5 : decide (-1048576 ≤ a1) = true := decide_eq_true (by omega)
        have d6 : decide (a1 ≤ 1048574) = false := decide_eq_false (by omega)
        clear fI fB fJ tm
        go_wp2_with fail
        go_ret
        exact ⟨rfl, hb⟩
      · have t1 : (gI == 0) = false := fI.trans (decide_eq_false (by omega))
        have t2 : (gB == 0) = false := fB.trans (decide_eq_false (by omega))
        have t3 : (gJ == 0) = false := fJ.trans (decide_eq_false (by omega))
        have t4 : (a1.tmod 2 == 0) = false := tm.trans (decide_eq_false (by omega))
        have t5 : (a1 % 2 == 0) = false := by simp; omega
        have d1 : decide (-2048 ≤ a1) = true := decide_eq_true (by omega)
        have d2 : decide (a1 ≤ 2047) = false := decide_eq_false (by omega)
        have d3 : decide (-4096 ≤ a1) = true := decide_eq_true (by omega)
        have d4 : decide (a1 ≤ 4094) = false := decide_eq_false (by omega)
        have d5 : decide (-1048576 ≤ a1) = true := decide_eq_true (by omega)
        have d6 : decide (a1 ≤ 1048574) = false := decide_eq_false (by omega)
        clear fI fB fJ tm
        go_wp2_with fail
        go_ret
        exact ⟨rfl, hb⟩

set_option maxRecDepth 100000 in
theorem lifted (os : Os) (started : os.Started) (H : Type) (enc : TypeId × Value → H) :
    ReturnsInHanded {} Try.checked os 10 .any (Rows.shapeRefusesSpec.pre6 enc Try.prog Try.f10 Rows.shapeRefusesRow.domain false) (Rows.shapeRefusesSpec.post enc Try.prog Try.f10 false true false false) := by
  refine returnsInHanded_of_change (C := Try.checked) own started (by kernel_rfl) Try.func10
    (ChangeSpec.witness6 (enc := enc) (C := Try.checked) false ⟨#[], #[.int .i64 0, .int .i64 0], []⟩ 12 (by kernel_rfl) (by kernel_rfl) (by kernel_rfl) (by kernel_rfl)) ?_
  intro W base args ds gs before hval0 hW hcnd _
  have hval : ∀ (j : Nat) t v, Try.f10.params[j]? = some t → args[j]? = some v → Value.okWide Try.prog W .any base t v := hval0
  have hW' := hW
  obtain ⟨p, q, hA0, hV, rfl, hfz, hnd⟩ := hW
  have hA : DataW.TrodAll enc Try.prog W 0 (fun _ => true) true Try.f10.params.toList args.toList ds p := hA0
  rw [Try.params10] at hA hval
  obtain ⟨v0, vs0, d0, ds0, p0, q0, hargs, rfl, rfl, h0, r0⟩ := trodAll_cons hA
  obtain ⟨v1, vs1, d1, ds1, p1, q1, rfl, rfl, rfl, h1, r1⟩ := trodAll_cons r0
  obtain ⟨rfl, rfl, rfl⟩ := trodAll_nil r1
  obtain rfl : args = #[v0, v1] := by cases args; simp_all
  obtain ⟨rfl, rfl⟩ := trodVars_none hV
  obtain ⟨a0, rfl, rfl, rfl, w0⟩ := open_int Try.underlying3 (hval 0 3 v0 rfl rfl) h0
  obtain ⟨a1, rfl, rfl, rfl, w1⟩ := open_int Try.underlying3 (hval 1 3 v1 rfl rfl) h1
  clear hA0 hval0
  refine (walk a0 w0 a1 w1 W).mono fun e W' ⟨he, bel⟩ => ?_
  subst he
  exact ⟨_, rfl, _, _, _, [], _, [], hW', trodAll_mk1 (shut_bool Try.underlying4 _), (trodAll_cons_mk (shut_int Try.underlying3 w0) (trodAll_cons_mk (shut_int Try.underlying3 w1) trodAll_mk0)), rfl, bel.frame _, fun h => by cases h⟩

theorem over : Rows.shapeRefusesRow.holds Try.pinned (OpenSpec.ofChange Rows.shapeRefusesSpec) :=
  OpenClaim.holds_of_wide 10 Try.f10 rfl rfl rfl rfl rfl rfl rfl ⟨rfl, rfl, rfl, rfl, rfl⟩ rfl rfl rfl rfl rfl (by kernel_rfl) Try.func10 (by kernel_rfl)
    (of_decide_eq_true (by kernel_rfl)) (by unfold Func.isWrapper; first | (rw [if_pos (by decide +kernel)]; kernel_rfl) | (rw [if_neg (by decide +kernel)]; exact ⟨rfl, rfl⟩))
    (fun os started H enc _ => lifted os started H enc)

theorem proved : Rows.ShapeRefusesSaid :=
  over
#print axioms proved
end Go.Proofs.Ytfmnkammfpodaaa.shapeRefuses
