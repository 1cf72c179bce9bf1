/- The calls of law ShapeBack: what the six formats make of seven numbers, and what is read of it. Conditions: the numbers are ints of Go. -/
import Derived.Test.YtfmnkammfpodaaaAwake2
import Derived.Test.YtfmnkammfpodaaaBackB
namespace Go.Proofs.Ytfmnkammfpodaaa
open Go.RowKit

structure LaidAll (a0 a1 a2 a3 a4 a5 a6 : Int) (xR xI xS xB xU xJ : BitVec 32) (eR eI eS eB eU eJ : Int) : Prop where
  R : ∀ w : World, Calls Try.prog 30 #[.int .i64 a0, .int .i64 a1, .int .i64 a2, .int .i64 a3, .int .i64 a4, .int .i64 a5] w fun r w' => r = .returned (.tuple #[.int .u32 (q xR), .int .i64 eR]) ∧ On w w'
  fR0 : (eR == 0) = true → (fi xR 6 0 != a0) = false
  fR1 : (eR == 0) = true → (fi xR 11 7 != a1) = false
  fR2 : (eR == 0) = true → (fi xR 14 12 != a2) = false
  fR3 : (eR == 0) = true → (fi xR 19 15 != a3) = false
  fR4 : (eR == 0) = true → (fi xR 24 20 != a4) = false
  fR5 : (eR == 0) = true → (fi xR 31 25 != a5) = false
  I : ∀ w : World, Calls Try.prog 32 #[.int .i64 a0, .int .i64 a1, .int .i64 a2, .int .i64 a3, .int .i64 a6] w fun r w' => r = .returned (.tuple #[.int .u32 (q xI), .int .i64 eI]) ∧ On w w'
  fI0 : (eI != 0) = false → (fi xI 11 7 == a1) = true
  fI1 : (eI != 0) = false → (fi xI 19 15 == a3) = true
  fI2 : (eI != 0) = false → (u (immOf (zx xI) LI) == u (wd64 a6)) = true
  S : ∀ w : World, Calls Try.prog 34 #[.int .i64 a0, .int .i64 a2, .int .i64 a3, .int .i64 a4, .int .i64 a6] w fun r w' => r = .returned (.tuple #[.int .u32 (q xS), .int .i64 eS]) ∧ On w w'
  fS0 : (eS != 0) = false → (fi xS 24 20 == a4) = true
  fS1 : (eS != 0) = false → (u (immOf (zx xS) LS) == u (wd64 a6)) = true
  B : ∀ w : World, Calls Try.prog 36 #[.int .i64 a0, .int .i64 a2, .int .i64 a3, .int .i64 a4, .int .i64 a6] w fun r w' => r = .returned (.tuple #[.int .u32 (q xB), .int .i64 eB]) ∧ On w w'
  fB0 : (eB != 0) = false → (fi xB 14 12 == a2) = true
  fB1 : (eB != 0) = false → (u (immOf (zx xB) LB) == u (wd64 a6)) = true
  U : ∀ w : World, Calls Try.prog 38 #[.int .i64 a0, .int .i64 a1, .int .i64 a6] w fun r w' => r = .returned (.tuple #[.int .u32 (q xU), .int .i64 eU]) ∧ On w w'
  fU0 : (eU != 0) = false → (fi xU 6 0 == a0) = true
  fU1 : (eU != 0) = false → (u (immOf (zx xU) LU) == u (wd64 a6)) = true
  J : ∀ w : World, Calls Try.prog 40 #[.int .i64 a0, .int .i64 a1, .int .i64 a6] w fun r w' => r = .returned (.tuple #[.int .u32 (q xJ), .int .i64 eJ]) ∧ On w w'
  fJ0 : (eJ != 0) = false → (fi xJ 11 7 == a1) = true
  fJ1 : (eJ != 0) = false → (u (immOf (zx xJ) LJ) == u (wd64 a6)) = true
theorem laid_all (a0 a1 a2 a3 a4 a5 a6 : Int) (h0 : I64 a0) (h1 : I64 a1) (h2 : I64 a2) (h3 : I64 a3) (h4 : I64 a4) (h5 : I64 a5) : ∃ xR xI xS xB xU xJ eR eI eS eB eU eJ, LaidAll a0 a1 a2 a3 a4 a5 a6 xR xI xS xB xU xJ eR eI eS eB eU eJ := by
  obtain ⟨xR, eR, CR, fR0, fR1, fR2, fR3, fR4, fR5⟩ := R_back a0 a1 a2 a3 a4 a5 h0 h1 h2 h3 h4 h5
  obtain ⟨xI, eI, CI, fI0, fI1, fI2⟩ := I_back a0 a1 a2 a3 a6 h0 h1 h2 h3
  obtain ⟨xS, eS, CS, fS0, fS1⟩ := S_back a0 a2 a3 a4 a6 h0 h2 h3 h4
  obtain ⟨xB, eB, CB, fB0, fB1⟩ := B_back a0 a2 a3 a4 a6 h0 h2 h3 h4
  obtain ⟨xU, eU, CU, fU0, fU1⟩ := U_back a0 a1 a6 h0 h1
  obtain ⟨xJ, eJ, CJ, fJ0, fJ1⟩ := J_back a0 a1 a6 h0 h1
  exact ⟨xR, xI, xS, xB, xU, xJ, eR, eI, eS, eB, eU, eJ, ⟨CR, fR0, fR1, fR2, fR3, fR4, fR5, CI, fI0, fI1, fI2, CS, fS0, fS1, CB, fB0, fB1, CU, fU0, fU1, CJ, fJ0, fJ1⟩⟩
end Go.Proofs.Ytfmnkammfpodaaa
