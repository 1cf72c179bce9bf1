/- The first test of each law of package bits is true. Conditions: none. -/
import Derived.Test.YtlicpmokcnoeoaaCounts
import Derived.Test.YtlicpmokcnoeoaaLoops
namespace Go.Proofs.Ytlicpmokcnoeoaa
open Go.RowKit
theorem grown_drawn (w : World) (n : Nat) : Grown w (w.drewN n) := Grown.refl w
theorem field_abcd (w : World) :
    Calls Try.prog 12 #[.int .u64 43981, .int .i64 11, .int .i64 4] w fun e w' => e = .returned (.int .u64 188) ∧ ∃ n, w' = w.drewN n := by
  have h := field_any 43981 11 4 w
  have e1 : u 43981 = 43981 := by decide +kernel
  have e2 : u (fld 43981 11 4) = 188 := by decide +kernel
  rw [e1, e2] at h
  exact h
theorem ones_seven (w : World) :
    Calls Try.prog 33 #[.int .u64 7] w fun e w' => e = .returned (.int .i64 3) ∧ w = w' := by
  have h := ones_any 7 w
  have e1 : u 7 = 7 := by decide +kernel
  have e2 : ((cnt 7 64 : Nat) : Int) = 3 := by decide +kernel
  rw [e1, e2] at h
  exact h
theorem awake_yes (w : World) :
    Calls Try.prog 11 #[] w fun e w' => e = .returned (.bool true) ∧ ∃ n, w' = w.drewN n := by
  go_enter Try.func11, Try.ntmps11
  go_wp2_with (first | (go_at_call 12; refine (field_abcd _).mono ?_; rintro e w' ⟨rfl, n, rfl⟩) | (go_at_call 33; refine (ones_seven _).mono ?_; rintro e w' ⟨rfl, rfl⟩))
  go_ret
  exact ⟨rfl, _, rfl⟩
end Go.Proofs.Ytlicpmokcnoeoaa
