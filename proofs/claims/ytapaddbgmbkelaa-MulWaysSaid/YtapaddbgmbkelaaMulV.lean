/- How many steps a task takes, and what a unit is behind some of them. Plain lemmas. Conditions: none. -/
import Derived.Test.YtapaddbgmbkelaaMulU
namespace Go.Proofs.Ytapaddbgmbkelaa
open Go.RowKit
theorem stp_range (f : Int) (wd : Bool) (a b : BitVec 64) : 1 ≤ stp f wd a b ∧ stp f wd a b ≤ 64 := by
  unfold stp; split
  · omega
  · cases wd <;> simp
/-- the unit when k steps are wanted -/
def stAt (f : Int) (wd : Bool) (x y : BitVec 64) (k : Int) : Un := if 0 < k then .busy f wd x y k else .fin (tres f wd x y)
theorem stAt_busy (f : Int) (wd : Bool) (x y : BitVec 64) (k : Int) (h : 0 < k) : stAt f wd x y k = .busy f wd x y k := if_pos h
end Go.Proofs.Ytapaddbgmbkelaa
