/- What traps make of words: bits put and moved, the privilege that was, where a trap leads, which interrupt is taken. Plain definitions and lemmas. Conditions: none. -/
import Derived.Test.YtleolldgpoeabaaHvM
import Derived.Test.YtleolldgpoeabaaHalf
namespace Go.Proofs.Ytleolldgpoeabaa
open Go.RowKit

def putB (v b : BitVec 64) (on : Bool) : BitVec 64 := if on then v ||| b else v &&& ~~~b
def movB (s t f : BitVec 64) : BitVec 64 := putB s t (!(s &&& f == 0#64))
def wmp (s : BitVec 64) (p : Int) : BitVec 64 := (s &&& ~~~0x1800#64) ||| (wd64 p <<< 11 &&& 0x1800#64)
def mpw (s : BitVec 64) : BitVec 64 := s >>> 11 &&& 3#64
def mpq (s : BitVec 64) : Int := if mpw s = 2#64 then 3 else u (mpw s)
def hdl (v c : BitVec 64) : BitVec 64 := if (v.getLsbD 0 && c.getLsbD 63) = true then (v &&& ~~~3#64) + 4#64 * (c &&& 63#64) else v &&& ~~~3#64
def cau (c : BitVec 64) : BitVec 64 := c &&& 0x800000000000003f#64
def dlg (h : Nat → BitVec 64) (p : Int) (c : BitVec 64) : Bool := (p == 0 || p == 1) && (if c.getLsbD 63 = true then h 36 else h 35).getLsbD (c &&& 63#64).toNat
/-- the status behind a trap to Super, to Machine -/
def stS (s : BitVec 64) (p : Int) : BitVec 64 := putB (putB (movB s 32#64 2#64) 2#64 false) 256#64 (p == 1)
def stM (s : BitVec 64) (p : Int) : BitVec 64 := wmp (putB (movB s 128#64 8#64) 8#64 false) p
def entS (h : Nat → BitVec 64) (p : Int) (c t : BitVec 64) : Nat → BitVec 64 := upd (upd (upd (upd (upd h 49 c) 48 (h 0 &&& ~~~3#64)) 50 t) 34 (stS (h 34) p)) 0 (hdl (h 45) c)
def entM (h : Nat → BitVec 64) (p : Int) (c t : BitVec 64) : Nat → BitVec 64 := upd (upd (upd (upd (upd h 43 c) 42 (h 0 &&& ~~~3#64)) 44 t) 34 (stM (h 34) p)) 0 (hdl (h 39) c)
/-- a hart behind a trap -/
def entH (h : Nat → BitVec 64) (p : Int) (c t : BitVec 64) : Nat → BitVec 64 := upd (if dlg h p c = true then entS h p (cau c) t else entM h p (cau c) t) 65 0#64
def entP (h : Nat → BitVec 64) (p : Int) (c : BitVec 64) : Int := if dlg h p c = true then 1 else 3
/-- .. behind the ways back -/
def mrS (s : BitVec 64) : BitVec 64 :=
  if mpq s = 3 then wmp (putB (movB s 8#64 128#64) 128#64 true) 0 else putB (wmp (putB (movB s 8#64 128#64) 128#64 true) 0) 131072#64 false
def mrH (h : Nat → BitVec 64) : Nat → BitVec 64 := upd (upd (upd h 34 (mrS (h 34))) 0 (h 42)) 65 0#64
def mrP (h : Nat → BitVec 64) : Int := mpq (h 34)
def srS (s : BitVec 64) : BitVec 64 := putB (putB (movB s 2#64 32#64) 32#64 true) 131328#64 false
def srH (h : Nat → BitVec 64) : Nat → BitVec 64 := upd (upd (upd h 34 (srS (h 34))) 0 (h 48)) 65 0#64
def srP (h : Nat → BitVec 64) : Int := if (h 34).getLsbD 8 = true then 1 else 0

theorem mpw_and (s : BitVec 64) : (s &&& 0x1800#64) >>> 11 = mpw s := by
  unfold mpw
  apply BitVec.eq_of_getLsbD_eq
  intro i hi
  simp only [BitVec.getLsbD_ushiftRight, BitVec.getLsbD_and]
  have key : (0x1800#64).getLsbD (11 + i) = (3#64).getLsbD i := by
    have h1 : (0x1800#64 >>> 11).getLsbD i = (0x1800#64).getLsbD (11 + i) := BitVec.getLsbD_ushiftRight ..
    rw [← h1]; rfl
  rw [key]
theorem and_lt4 (v : BitVec 64) : (v &&& 3#64).toNat < 4 := by
  rw [BitVec.toNat_and]; exact Nat.lt_of_le_of_lt Nat.and_le_right (by decide)
theorem and_lt64 (v : BitVec 64) : (v &&& 63#64).toNat < 64 := by
  rw [BitVec.toNat_and]; exact Nat.lt_of_le_of_lt Nat.and_le_right (by decide)
theorem mpw_lt (s : BitVec 64) : (mpw s).toNat < 4 := and_lt4 _
theorem mpw_cases (s : BitVec 64) : mpw s = 0#64 ∨ mpw s = 1#64 ∨ mpw s = 2#64 ∨ mpw s = 3#64 := by
  have h := mpw_lt s
  have : ∀ n, n < 4 → n = 0 ∨ n = 1 ∨ n = 2 ∨ n = 3 := by omega
  rcases this _ h with e | e | e | e
  · exact .inl (BitVec.eq_of_toNat_eq e)
  · exact .inr (.inl (BitVec.eq_of_toNat_eq e))
  · exact .inr (.inr (.inl (BitVec.eq_of_toNat_eq e)))
  · exact .inr (.inr (.inr (BitVec.eq_of_toNat_eq e)))
theorem mpq_cases (s : BitVec 64) : mpq s = 0 ∨ mpq s = 1 ∨ mpq s = 3 := by
  unfold mpq
  rcases mpw_cases s with e | e | e | e <;> rw [e] <;> simp [u]
theorem mpq_wf (s : BitVec 64) : (Lit.int .i64 (mpq s)).wf = true := by
  rcases mpq_cases s with e | e | e <;> rw [e] <;> rfl
theorem entP_wf (h : Nat → BitVec 64) (p : Int) (c : BitVec 64) : (Lit.int .i64 (entP h p c)).wf = true := by unfold entP; split <;> rfl
theorem srP_wf (h : Nat → BitVec 64) : (Lit.int .i64 (srP h)).wf = true := by unfold srP; split <;> rfl
theorem wmp_zero (s : BitVec 64) : wmp s 0 = s &&& ~~~0x1800#64 := by
  unfold wmp
  rw [show (wd64 0 <<< 11 &&& 0x1800#64) = 0#64 from rfl]
  simp
theorem mpp_part (p : Int) : wd64 p <<< 11 &&& 0x1800#64 = (wd64 p &&& 3#64) <<< 11 := by
  generalize wd64 p = v
  rw [show (0x1800#64) = 3#64 <<< 11 from rfl]
  apply BitVec.eq_of_getLsbD_eq
  intro i hi
  simp only [BitVec.getLsbD_shiftLeft, BitVec.getLsbD_and]
  cases decide (i < 64) <;> cases decide (i < 11) <;> simp
theorem i64_and3 (p : Int) : IntKind.u64.wrap (bits .and .i64 p 3) = u (wd64 p &&& 3#64) := by
  have h : bits .and .i64 p 3 = IntKind.i64.wrap (u (wd64 p &&& 3#64)) := rfl
  rw [h, wrap_sg, wrap_wd, wd_sg]
theorem bit_test (v : BitVec 64) (k : Nat) (hk : k < 64) : (v &&& (1#64 <<< k) == 0#64) = !v.getLsbD k := by
  have h := and_one_shl v k hk
  rw [show (0 : Int) = u 0#64 from rfl, u_beq] at h
  exact h
/-- a bit of a word, far down -/
theorem shr_test (v n : BitVec 64) : (u (v >>> n.toNat &&& 1#64) == 0) = !v.getLsbD n.toNat := by
  have h := and1_val v n.toNat
  rw [show (1 : BitVec 64) = 1#64 from rfl] at h
  rw [h]; cases v.getLsbD n.toNat <;> rfl
theorem top_test (c : BitVec 64) : (bits .and .u64 (u c) 9223372036854775808 == 0) = !c.getLsbD 63 := by
  rw [show (9223372036854775808 : Int) = u ((1 : BitVec 64) <<< 63) from rfl, u_and, and_one_shl c 63 (by omega)]
theorem low_test1 (v : BitVec 64) : (bits .and .u64 (u v) 1 == 0) = !v.getLsbD 0 := by
  rw [show (1 : Int) = u ((1 : BitVec 64) <<< 0) from rfl, u_and, and_one_shl v 0 (by omega)]
theorem low_test1' (v : BitVec 64) : (bits .and .u64 (u v) 1 == 1) = v.getLsbD 0 := by
  have h := and1_test v 0
  rw [BitVec.ushiftRight_zero] at h
  rw [show (1 : Int) = u (1 : BitVec 64) from rfl, u_and]
  exact h
theorem top_shr1 (c : BitVec 64) : (u (c >>> 63) == 1) = c.getLsbD 63 := by
  have : c >>> 63 = c >>> 63 &&& 1 := by
    apply BitVec.eq_of_getLsbD_eq
    intro i hi
    simp only [BitVec.getLsbD_ushiftRight, BitVec.getLsbD_and, one_bit]
    by_cases e : i = 0
    · subst e; simp
    · rw [BitVec.getLsbD_of_ge c (63 + i) (by omega)]; simp
  rw [this]; exact and1_test c 63
theorem cau_top (c : BitVec 64) : (cau c).getLsbD 63 = c.getLsbD 63 := by
  unfold cau; rw [BitVec.getLsbD_and, show (0x800000000000003f#64).getLsbD 63 = true from rfl, Bool.and_true]
theorem cau_num (c : BitVec 64) : cau c &&& 63#64 = c &&& 63#64 := by
  unfold cau; rw [BitVec.and_assoc]; rfl
theorem dlg_cau (h : Nat → BitVec 64) (p : Int) (c : BitVec 64) : dlg h p (cau c) = dlg h p c := by
  unfold dlg; rw [cau_top, cau_num]
theorem hdl_cau (v c : BitVec 64) : hdl v (cau c) = (if (v.getLsbD 0 && c.getLsbD 63) = true then (v &&& ~~~3#64) + 4#64 * (c &&& 63#64) else v &&& ~~~3#64) := by
  unfold hdl; rw [cau_top, cau_num]
end Go.Proofs.Ytleolldgpoeabaa
