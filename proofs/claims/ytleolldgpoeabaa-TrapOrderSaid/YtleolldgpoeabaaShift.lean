/- Shifts of words of 64 bits by words below 64, as words. Plain lemmas. Conditions: named at each. -/
import Derived.Test.YtleolldgpoeabaaWord
import Derived.WalkKit
import Derived.ProofKit
namespace Go.Proofs.Ytleolldgpoeabaa
open Go.RowKit
theorem shr_run (P : Program) (v n : BitVec 64) (hn : n.toNat < 64) (k : IntKind) (w : World) : (Op.shift .shr .u64 (u v) k (u n)).run P w = .ok (.int .u64 (u (v >>> n.toNat))) w := by
  have L0 := u_nonneg n
  have L1 : u n < 64 := by unfold u; omega
  have L2 : ¬ 64 ≤ u n := by omega
  have E := u_shr v n.toNat
  have E2 : (u n).toNat = n.toNat := by unfold u; simp
  rw [← E]
  go_simp
theorem shl_run (P : Program) (v n : BitVec 64) (hn : n.toNat < 64) (k : IntKind) (w : World) : (Op.shift .shl .u64 (u v) k (u n)).run P w = .ok (.int .u64 (u (v <<< n.toNat))) w := by
  have L0 := u_nonneg n
  have L1 : u n < 64 := by unfold u; omega
  have L2 : ¬ 64 ≤ u n := by omega
  have E := u_shl v n.toNat
  have E2 : (u n).toNat = n.toNat := by unfold u; simp
  rw [← E]
  go_simp
theorem shl1_run (P : Program) (n : BitVec 64) (hn : n.toNat < 64) (k : IntKind) (w : World) : (Op.shift .shl .u64 1 k (u n)).run P w = .ok (.int .u64 (u (1#64 <<< n.toNat))) w := shl_run P 1#64 n hn k w
/-- one bit of a word, as a walk tests it -/
theorem bit_at (v : BitVec 64) (k : Nat) : (bits .and .u64 (u (v >>> k)) 1 != 0) = v.getLsbD k := by
  have h := and1_val v k
  rw [show (1 : Int) = u (1 : BitVec 64) from rfl, u_and, h]; cases v.getLsbD k <;> rfl
theorem bit_at1 (v : BitVec 64) (k : Nat) : (bits .and .u64 (u (v >>> k)) 1 == 1) = v.getLsbD k := by
  have h := and1_val v k
  rw [show bits .and .u64 (u (v >>> k)) 1 = u (v >>> k &&& 1) from u_and _ 1, h]; cases v.getLsbD k <;> rfl
theorem bit_at0 (v : BitVec 64) (k : Nat) : (bits .and .u64 (u (v >>> k)) 1 == 0) = !v.getLsbD k := by
  have h := and1_val v k
  rw [show bits .and .u64 (u (v >>> k)) 1 = u (v >>> k &&& 1) from u_and _ 1, h]; cases v.getLsbD k <;> rfl
end Go.Proofs.Ytleolldgpoeabaa
