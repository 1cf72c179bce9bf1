/- The first test of each law of package shape is true. Conditions: none. -/
import Derived.Test.YtfmnkammfpodaaaFlds
import Derived.Test.YtfmnkammfpodaaaAsm
import Derived.OpenShut
namespace Go.Proofs.Ytfmnkammfpodaaa
open Go.RowKit
theorem i_first (w : World) :
    Calls Try.prog 32 #[.int .i64 19, .int .i64 5, .int .i64 0, .int .i64 6, .int .i64 (-1)] w fun e w' => e = .returned (.tuple #[.int .u32 (q 4294115987), .int .i64 0]) ∧ On w w' := by
  have h := I_any 19 5 0 6 (-1) (by unfold I64; omega) (by unfold I64; omega) (by unfold I64; omega) (by unfold I64; omega) w
  have e1 : asmW 19 5 0 6 0 0 (-1) LI = 4294115987 := by decide +kernel
  have e2 : asmE 19 5 0 6 0 0 (-1) LI = 0 := by decide +kernel
  rw [e1, e2] at h
  exact h
theorem i64_of {a : Int} (h : (Lit.int .i64 a).wf = true) : I64 a := bounds_i64 h
theorem awake2_yes (w : World) :
    Calls Try.prog 11 #[] w fun e w' => e = .returned (.bool true) ∧ On w w' := by
  have e1 : q 4294115987 = 4294115987 := by decide +kernel
  have e2 : fi 4294115987 11 7 = 5 := by decide +kernel
  have h : ∀ w : World, Calls Try.prog 14 #[.int .u32 4294115987] w fun e w' => e = .returned (.int .i64 5) ∧ On w w' := by
    intro w
    have := rd_any 4294115987 w
    rw [e1, e2] at this
    exact this
  have H := Lib.hid h
  clear h e2
  go_enter Try.func11, Try.ntmps11
  go_wp2_with (first | (go_at_call 32; refine (i_first _).mono ?_; rintro e w1 ⟨rfl, hb1⟩; have HB1 := Lib.hid hb1; clear hb1) | (go_at_call 14; refine (H.out _).mono ?_; rintro e w2 ⟨rfl, hb2⟩; have HB2 := Lib.hid hb2; clear hb2))
  go_ret
  exact ⟨rfl, HB1.out.trans HB2.out⟩
end Go.Proofs.Ytfmnkammfpodaaa
