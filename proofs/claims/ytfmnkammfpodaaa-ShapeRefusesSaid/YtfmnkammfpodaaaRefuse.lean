/- The calls of law ShapeRefuses: which registers and immediates the formats let go. Conditions: the numbers are ints of Go. -/
import Derived.Test.YtfmnkammfpodaaaAwake2
import Derived.Test.YtfmnkammfpodaaaBackB
namespace Go.Proofs.Ytfmnkammfpodaaa
open Go.RowKit

theorem asmE_fit {op rd f3 rs1 rs2 f7 imm : Int} {L : List Sp} {b : Bool} (hF : Fit op rd f3 rs1 rs2 f7 = b) (h2 : inr imm L = true) (h3 : ins imm L = true) :
    (asmE op rd f3 rs1 rs2 f7 imm L == 0) = b ∧ (b = false → asmE op rd f3 rs1 rs2 f7 imm L = 1 ∧ q (asmW op rd f3 rs1 rs2 f7 imm L) = 0) := by
  unfold asmE asmW
  rw [hF, h2, h3]
  cases b
  · exact ⟨rfl, fun _ => ⟨rfl, rfl⟩⟩
  · exact ⟨rfl, fun h => absurd h (by simp)⟩
theorem asmE_imm {op rd f3 rs1 rs2 f7 imm : Int} {L : List Sp} (hF : Fit op rd f3 rs1 rs2 f7 = true) : (asmE op rd f3 rs1 rs2 f7 imm L == 0) = (inr imm L && ins imm L) := by
  unfold asmE
  rw [hF]
  cases inr imm L
  · rfl
  · cases ins imm L <;> rfl
theorem refuse_R (reg : Int) (h : I64 reg) : ∃ (x : BitVec 32) (e : Int), (∀ w : World, Calls Try.prog 30 #[.int .i64 51, .int .i64 reg, .int .i64 0, .int .i64 1, .int .i64 2, .int .i64 0] w fun r w' => r = .returned (.tuple #[.int .u32 (q x), .int .i64 e]) ∧ On w w') ∧
    (e == 0) = In reg 5 ∧ (In reg 5 = false → e = 1 ∧ q x = 0) :=
  ⟨_, _, R_any 51 reg 0 1 2 0 (by unfold I64; omega) h (by unfold I64; omega) (by unfold I64; omega) (by unfold I64; omega) (by unfold I64; omega),
    asmE_fit (by unfold Fit; rw [show In 51 7 = true from rfl, show In 0 3 = true from rfl, show In 1 5 = true from rfl, show In 2 5 = true from rfl, show In 0 7 = true from rfl]; simp) (by decide +kernel) (by decide +kernel)⟩
theorem refuse_I (reg : Int) (h : I64 reg) : ∃ (x : BitVec 32) (e : Int), (∀ w : World, Calls Try.prog 32 #[.int .i64 19, .int .i64 1, .int .i64 0, .int .i64 reg, .int .i64 5] w fun r w' => r = .returned (.tuple #[.int .u32 (q x), .int .i64 e]) ∧ On w w') ∧
    (e == 0) = In reg 5 ∧ (In reg 5 = false → e = 1 ∧ q x = 0) :=
  ⟨_, _, I_any 19 1 0 reg 5 (by unfold I64; omega) (by unfold I64; omega) (by unfold I64; omega) h,
    asmE_fit (by unfold Fit; rw [show In 19 7 = true from rfl, show In 0 3 = true from rfl, show In 1 5 = true from rfl, show In 0 5 = true from rfl, show In 0 7 = true from rfl]; simp) (by decide +kernel) (by decide +kernel)⟩
theorem refuse_S (reg : Int) (h : I64 reg) : ∃ (x : BitVec 32) (e : Int), (∀ w : World, Calls Try.prog 34 #[.int .i64 35, .int .i64 0, .int .i64 1, .int .i64 reg, .int .i64 5] w fun r w' => r = .returned (.tuple #[.int .u32 (q x), .int .i64 e]) ∧ On w w') ∧
    (e == 0) = In reg 5 ∧ (In reg 5 = false → e = 1 ∧ q x = 0) :=
  ⟨_, _, S_any 35 0 1 reg 5 (by unfold I64; omega) (by unfold I64; omega) (by unfold I64; omega) h,
    asmE_fit (by unfold Fit; rw [show In 35 7 = true from rfl, show In 0 3 = true from rfl, show In 1 5 = true from rfl, show In 0 5 = true from rfl, show In 0 7 = true from rfl]; simp) (by decide +kernel) (by decide +kernel)⟩
theorem refuse_imm_I (imm : Int) (h : I64 imm) : ∃ (x : BitVec 32) (e : Int), (∀ w : World, Calls Try.prog 32 #[.int .i64 19, .int .i64 1, .int .i64 0, .int .i64 1, .int .i64 imm] w fun r w' => r = .returned (.tuple #[.int .u32 (q x), .int .i64 e]) ∧ On w w') ∧
    (e == 0) = decide (-2048 ≤ imm ∧ imm ≤ 2047) :=
  ⟨_, _, I_any 19 1 0 1 imm (by unfold I64; omega) (by unfold I64; omega) (by unfold I64; omega) (by unfold I64; omega), by
    rw [asmE_imm (by decide), inr12 imm h LI rfl, ins0 imm LI rfl, Bool.eq_iff_iff]; simp⟩
theorem refuse_imm_B (imm : Int) (h : I64 imm) : ∃ (x : BitVec 32) (e : Int), (∀ w : World, Calls Try.prog 36 #[.int .i64 99, .int .i64 0, .int .i64 1, .int .i64 2, .int .i64 imm] w fun r w' => r = .returned (.tuple #[.int .u32 (q x), .int .i64 e]) ∧ On w w') ∧
    (e == 0) = decide (-4096 ≤ imm ∧ imm ≤ 4094 ∧ imm % 2 = 0) :=
  ⟨_, _, B_any 99 0 1 2 imm (by unfold I64; omega) (by unfold I64; omega) (by unfold I64; omega) (by unfold I64; omega), by
    rw [asmE_imm (by decide), inr13 imm h LB rfl, ins1 imm LB rfl, Bool.eq_iff_iff]; simp; omega⟩
theorem refuse_imm_J (imm : Int) (h : I64 imm) : ∃ (x : BitVec 32) (e : Int), (∀ w : World, Calls Try.prog 40 #[.int .i64 111, .int .i64 1, .int .i64 imm] w fun r w' => r = .returned (.tuple #[.int .u32 (q x), .int .i64 e]) ∧ On w w') ∧
    (e == 0) = decide (-1048576 ≤ imm ∧ imm ≤ 1048574 ∧ imm % 2 = 0) :=
  ⟨_, _, J_any 111 1 imm (by unfold I64; omega) (by unfold I64; omega), by
    rw [asmE_imm (by decide), inr21 imm h LJ rfl, ins1 imm LJ rfl, Bool.eq_iff_iff]; simp; omega⟩
theorem tmod_two (n : Int) : (n.tmod 2 == 0) = decide (n % 2 = 0) := by
  rw [Bool.eq_iff_iff]; simp; rw [← Int.dvd_iff_tmod_eq_zero]; omega
end Go.Proofs.Ytfmnkammfpodaaa
