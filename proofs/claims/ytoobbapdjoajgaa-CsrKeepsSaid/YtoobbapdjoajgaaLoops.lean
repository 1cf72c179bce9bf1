/- What each call of the reference of package bits, and of the counting calls of both, comes to, as words of 64 bits: the loops. Conditions: named at each. -/
import Derived.Test.YtoobbapdjoajgaaCalls
namespace Go.Proofs.Ytoobbapdjoajgaa
open Go.RowKit

/-- what the loop of the reference's Field carries -/
def FieldAt (v : BitVec 64) (hi lo : Int) (t i : Value) : Prop := ∃ k : Int, lo - 1 ≤ k ∧ k ≤ hi ∧ i = .int .i64 k ∧ t = .int .u64 (u (fld v hi (k + 1)))
theorem field_round (v : BitVec 64) (hi lo k : Int) (h : Ends hi k) (hk : lo ≤ k) (n : Int) (hn : n = u (fld v hi k)) : FieldAt v hi lo (.int .u64 n) (.int .i64 (k - 1)) :=
  ⟨k - 1, by omega, by unfold Ends at h; omega, rfl, by rw [hn, show k - 1 + 1 = k by omega]⟩
/-- what the loop of the reference's Put carries -/
def PutAt (v : BitVec 64) (hi lo : Int) (x : BitVec 64) (t i : Value) : Prop := ∃ k : Int, lo ≤ k ∧ k ≤ hi + 1 ∧ i = .int .i64 k ∧ t = .int .u64 (u (put v (k - 1) lo x))
theorem put_round (v : BitVec 64) (hi lo : Int) (x : BitVec 64) (k : Int) (hk1 : lo ≤ k) (hk2 : k ≤ hi) (n : Int) (hn : n = u (put v k lo x)) : PutAt v hi lo x (.int .u64 n) (.int .i64 (k + 1)) :=
  ⟨k + 1, by omega, by omega, rfl, by rw [hn, show k + 1 - 1 = k by omega]⟩
/-- what the loop of the reference's Sext carries -/
def SextAt (v : BitVec 64) (n : Int) (t i : Value) : Prop := ∃ k : Int, n ≤ k ∧ k ≤ 64 ∧ i = .int .i64 k ∧ t = .int .u64 (u (sxtTo v n k))
theorem sext_round (v : BitVec 64) (n k : Int) (hk1 : n ≤ k) (hk2 : k < 64) (m : Int) (hm : m = u (sxtTo v n (k + 1))) : SextAt v n (.int .u64 m) (.int .i64 (k + 1)) :=
  ⟨k + 1, by omega, by omega, rfl, by rw [hm]⟩
end Go.Proofs.Ytoobbapdjoajgaa
