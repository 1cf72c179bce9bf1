/- The first test of the laws on package pma. Conditions: none. -/
import Derived.Test.YtiimoaoiekpjoaaPmaP
namespace Go.Proofs.Ytiimoaoiekpjoaa
open Go.RowKit
theorem awake9_yes (w : World) : Calls Try.prog 6 #[] w fun e w' => e = .returned (.bool true) ∧ On w w' := by
  have HB := Lib.hid (On.refl w)
  have A : (2147483648 : Int) = u 2147483648#64 := by decide +kernel
  have K1 := region_any 4 (by decide) 2147483648#64
  have K2 := may_any 4 (by decide) 2147483648#64 8 (by decide) 1 false
  rw [show regA 4 2147483648#64 = 5 by decide +kernel, ← A] at K1
  rw [show mayA 4 2147483648#64 8 1 false = true by decide +kernel, ← A] at K2
  have K1 := Lib.hid K1
  have K2 := Lib.hid K2
  clear A
  go_enter Try.func6, Try.ntmps6
  go_wp2_with (first | (go_at_call 7; refine (K1.out _).mono ?_; rintro e wn ⟨rfl, hb⟩; have HB := Lib.hid (HB.out.trans hb); clear hb) | (go_at_call 14; refine (K2.out _).mono ?_; rintro e wn ⟨rfl, hb⟩; have HB := Lib.hid (HB.out.trans hb); clear hb))
  go_ret
  exact ⟨rfl, HB.out⟩
end Go.Proofs.Ytiimoaoiekpjoaa
