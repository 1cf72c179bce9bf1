/- Bytes spoilt. Conditions: named at each. -/
import Derived.Test.YtkjkmekkcnmjnaaRamL
namespace Go.Proofs.Ytkjkmekkcnmjnaa
open Go.RowKit
set_option linter.unusedVariables false
set_option maxRecDepth 100000

theorem spoil_zero (a : Option Addr) (c : Nat) (w : World) : Calls Try.prog 33 #[.slice a 0 c] w fun e w' => e = .returned (.tuple #[]) ∧ w = w' := by
  go_enter Try.func33, Try.ntmps33
  go_wp2_with fail
  go_loopw [2] (fun x wr => x = .int .i64 0 ∧ w = wr) (fun _ _ => 0)
  case atStart => exact ⟨rfl, rfl⟩
  case round =>
    obtain ⟨rfl, rfl⟩ := hrel
    go_wp2_with fail
    go_end0
    exact ⟨rfl, rfl⟩
theorem spoil_row {w : World} {B len c : Nat} {cur : Array Value} (hlen : (len : Int) ≤ 140737488355328) (hB : w.heap[B]? = some (.cells cur 5 (0, 0))) (hc : ∀ j, j < len → ∃ v : Int, 0 ≤ v ∧ v < 256 ∧ cur[j]? = some (.int .u8 v)) :
    Calls Try.prog 33 #[.slice (some ⟨B, 0, none⟩) len c] w fun e w' => e = .returned (.tuple #[]) ∧ But B w w' := by
  have H0 : Hid (But B w w ∧ ∃ cur, w.heap[B]? = some (.cells cur 5 (0, 0)) ∧ ∀ j, 0 ≤ j → j < len → ∃ v : Int, 0 ≤ v ∧ v < 256 ∧ cur[j]? = some (.int .u8 v)) := Lib.hid ⟨But.refl _ _, cur, hB, fun j _ hj => hc j hj⟩
  clear hB hc
  go_enter Try.func33, Try.ntmps33
  go_wp2_with fail
  go_loopw [2] (fun x wr => ∃ i : Nat, i ≤ len ∧ x = .int .i64 i ∧ Hid (But B w wr ∧ ∃ cur, wr.heap[B]? = some (.cells cur 5 (0, 0)) ∧ ∀ j, i ≤ j → j < len → ∃ v : Int, 0 ≤ v ∧ v < 256 ∧ cur[j]? = some (.int .u8 v))) (fun x _ => (len - intOf x).toNat)
  case atStart => exact ⟨0, by omega, rfl, H0⟩
  case round =>
    obtain ⟨i, hi, rfl, hr⟩ := hrel
    by_cases hlt : (i : Int) < (len : Int)
    · obtain ⟨hb, cur, hB, hc⟩ := hr.out
      obtain ⟨v, hv0, hv1, hv⟩ := hc i (Nat.le_refl _) (by omega)
      have k1 := blk_cell hB i hv
      have k2 := blk_free hB i
      have HH := Lib.hid (And.intro hb (And.intro hB hc))
      clear hr hb hB hc hv
      go_wp2_with fail
      refine ⟨⟨i + 1, by omega, by go_num, Lib.hid ⟨HH.out.1.setCell i _, _, blk_put HH.out.2.1 i _, fun j hj1 hj2 => ?_⟩⟩, by simp [intOf]; omega⟩
      rw [Array.getElem?_setIfInBounds, if_neg (by omega)]
      exact HH.out.2.2 j (by omega) hj2
    · go_wp2_with fail
      go_end0
      exact ⟨rfl, hr.out.1⟩
end Go.Proofs.Ytkjkmekkcnmjnaa
