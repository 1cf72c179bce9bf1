/- What the operations of package amo come to, as words of 64 and of 32 bits. Plain definitions and lemmas, no program. Conditions: none. -/
import Derived.Test.YthafghechghbpaaAluW
import Derived.IntWalk
namespace Go.Proofs.Ythafghechghbpaa
open Go.RowKit

/-- what a load of z bytes puts into a register -/
def ext (v : BitVec 64) (z : Int) (s : Bool) : BitVec 64 :=
  if z = 1 ∨ z = 2 ∨ z = 4 ∨ z = 8 then (if s then sxt v (8 * z) else zxt v (8 * z)) else 0
/-- the operations that there are -/
def amF (f : Int) : Bool := f == 1 || f == 0 || f == 4 || f == 8 || f == 12 || f == 16 || f == 20 || f == 24 || f == 28
/-- what they come to, of words of any width -/
def amB {n : Nat} (f : Int) (a b : BitVec n) : BitVec n :=
  if f = 1 then b else if f = 0 then a + b else if f = 4 then a ^^^ b else if f = 8 then a ||| b else if f = 12 then a &&& b
  else if f = 16 then (if a.slt b then a else b) else if f = 20 then (if a.slt b then b else a)
  else if f = 24 then (if a.ult b then a else b) else if f = 28 then (if a.ult b then b else a) else 0
/-- what is stored -/
def amz (f z : Int) (a b : BitVec 64) : BitVec 64 := if z = 8 then amB f a b else zx (amB f (lo32 a) (lo32 b))
/-- the error that is told -/
def amE (f z : Int) : Int := if (z = 4 ∨ z = 8) ∧ amF f = true then 0 else 1
/-- the word that is told -/
def amV (f z : Int) (a b : BitVec 64) : BitVec 64 := if (z = 4 ∨ z = 8) ∧ amF f = true then amz f z a b else 0

theorem zxt_32 (v : BitVec 64) : zxt v 32 = zx (lo32 v) := by
  apply BitVec.eq_of_getLsbD_eq; intro i hi
  rw [zxt_bit, zx_bit, lo32_bit]
  congr 1
  rw [decide_eq_decide]; omega
theorem zxt_64 (v : BitVec 64) : zxt v 64 = v := by unfold zxt; rw [if_neg (by omega), if_pos (by omega)]
theorem sxt_64 (v : BitVec 64) : sxt v 64 = v := sxt_top v
theorem lo_xor (a b : BitVec 64) : lo32 (a ^^^ b) = lo32 a ^^^ lo32 b := by unfold lo32; exact BitVec.setWidth_xor
theorem lo_or (a b : BitVec 64) : lo32 (a ||| b) = lo32 a ||| lo32 b := by unfold lo32; exact BitVec.setWidth_or
theorem lo_and (a b : BitVec 64) : lo32 (a &&& b) = lo32 a &&& lo32 b := by unfold lo32; exact BitVec.setWidth_and
theorem slt_s32 (a b : BitVec 64) : (s32 a).slt (s32 b) = (lo32 a).slt (lo32 b) := by
  unfold s32 BitVec.slt
  rw [BitVec.toInt_signExtend_of_le (by omega), BitVec.toInt_signExtend_of_le (by omega)]
theorem s32_nat (a : BitVec 64) : (s32 a).toNat = if (lo32 a).msb then (lo32 a).toNat + (2 ^ 64 - 2 ^ 32) else (lo32 a).toNat := by
  have h := (lo32 a).isLt
  unfold s32
  rw [BitVec.toNat_signExtend, BitVec.toNat_setWidth]
  cases (lo32 a).msb
  · simp; omega
  · simp; omega
theorem ult_s32 (a b : BitVec 64) : (s32 a).ult (s32 b) = (lo32 a).ult (lo32 b) := by
  have ha := (lo32 a).isLt; have hb := (lo32 b).isLt
  unfold BitVec.ult
  rw [decide_eq_decide, s32_nat, s32_nat]
  have ma := BitVec.msb_eq_decide (lo32 a); have mb := BitVec.msb_eq_decide (lo32 b)
  cases ea : (lo32 a).msb <;> cases eb : (lo32 b).msb <;> rw [ea] at ma <;> rw [eb] at mb <;> simp at ma mb ⊢ <;> omega
theorem slt_zx (a b : BitVec 64) : (s32 (zx (lo32 a))).slt (s32 (zx (lo32 b))) = (lo32 a).slt (lo32 b) := by
  rw [slt_s32, lo_zx, lo_zx]
theorem ult_zx (a b : BitVec 32) : (zx a).ult (zx b) = a.ult b := by
  unfold zx BitVec.ult
  rw [decide_eq_decide, BitVec.toNat_setWidth, BitVec.toNat_setWidth]
  have := a.isLt; have := b.isLt; omega
/-- an operation on words that were sign-extended, its lowest 32 bits -/
theorem amB_s32 (f : Int) (a b : BitVec 64) : lo32 (amB f (s32 a) (s32 b)) = amB f (lo32 a) (lo32 b) := by
  unfold amB
  rw [slt_s32, ult_s32]
  repeat' split
  all_goals first | rfl | simp only [lo_add, lo_xor, lo_or, lo_and, lo32_s32]
  all_goals rfl
/-- .. that were zero-extended -/
theorem amz_zx (f : Int) (a b : BitVec 64) (h : f = 1 ∨ f = 0 ∨ f = 4 ∨ f = 8 ∨ f = 12) : lo32 (amB f (zx (lo32 a)) (zx (lo32 b))) = amB f (lo32 a) (lo32 b) := by
  unfold amB
  rcases h with rfl | rfl | rfl | rfl | rfl
  all_goals simp [lo_add, lo_xor, lo_or, lo_and, lo_zx]
/-- what New says in the end -/
theorem new_4 (f : Int) (a b : BitVec 64) : ext (amB f (ext a 4 true) (ext b 4 true)) 4 false = amz f 4 a b := by
  show zxt (amB f (sxt a 32) (sxt b 32)) 32 = zx (amB f (lo32 a) (lo32 b))
  rw [sxt_s32, sxt_s32, zxt_32, amB_s32]
theorem new_8 (f : Int) (a b : BitVec 64) : ext (amB f (ext a 8 true) (ext b 8 true)) 8 false = amz f 8 a b := by
  show zxt (amB f (sxt a 64) (sxt b 64)) 64 = amB f a b
  rw [sxt_64, sxt_64, zxt_64]
/-! ### the tests of min and max as a walk takes them -/
theorem w64_sg (a : BitVec 64) : wrap64 (u a) = sg a := by rw [← IntWalk.i64_left, wrap_sg]
theorem slt_iff (a b : BitVec 64) : sg a < sg b ↔ a.slt b = true := by rw [← sg_lt]; simp
theorem ult_iff (a b : BitVec 64) : u a < u b ↔ a.ult b = true := by rw [← u_ltb]; simp
theorem w_sg (a : BitVec 64) : IntKind.u64.wrap (wrap64 (u a)) = u a := by rw [w64_sg, wrap_u_sg]
theorem sg_inj {a b : BitVec 64} (h : sg a = sg b) : a = b := by have := congrArg wd64 h; rwa [wd_sg, wd_sg] at this
theorem am_16a (a b : BitVec 64) (h : wrap64 (u b) < wrap64 (u a)) : IntKind.u64.wrap (wrap64 (u b)) = u (amB 16 a b) := by
  rw [w_sg]; rw [w64_sg, w64_sg] at h
  have : ¬ a.slt b = true := by rw [← slt_iff]; omega
  show u b = u (if a.slt b then a else b); rw [if_neg this]
theorem am_16b (a b : BitVec 64) (h : wrap64 (u a) ≤ wrap64 (u b)) : IntKind.u64.wrap (wrap64 (u a)) = u (amB 16 a b) := by
  rw [w_sg]; rw [w64_sg, w64_sg] at h
  show u a = u (if a.slt b then a else b)
  split
  · rfl
  · next c => rw [← slt_iff] at c; rw [sg_inj (show sg a = sg b by omega)]
theorem am_20a (a b : BitVec 64) (h : wrap64 (u a) < wrap64 (u b)) : IntKind.u64.wrap (wrap64 (u b)) = u (amB 20 a b) := by
  rw [w_sg]; rw [w64_sg, w64_sg, slt_iff] at h
  show u b = u (if a.slt b then b else a); rw [if_pos h]
theorem am_20b (a b : BitVec 64) (h : wrap64 (u b) ≤ wrap64 (u a)) : IntKind.u64.wrap (wrap64 (u a)) = u (amB 20 a b) := by
  rw [w_sg]; rw [w64_sg, w64_sg] at h
  have : ¬ a.slt b = true := by rw [← slt_iff]; omega
  show u a = u (if a.slt b then b else a); rw [if_neg this]
theorem am_24a (a b : BitVec 64) (h : u b < u a) : u b = u (amB 24 a b) := by
  have : ¬ a.ult b = true := by rw [← ult_iff]; omega
  show u b = u (if a.ult b then a else b); rw [if_neg this]
theorem am_24b (a b : BitVec 64) (h : u a ≤ u b) : u a = u (amB 24 a b) := by
  show u a = u (if a.ult b then a else b)
  split
  · rfl
  · next c => rw [← ult_iff] at c; omega
theorem am_28a (a b : BitVec 64) (h : u a < u b) : u b = u (amB 28 a b) := by
  rw [ult_iff] at h
  show u b = u (if a.ult b then b else a); rw [if_pos h]
theorem am_28b (a b : BitVec 64) (h : u b ≤ u a) : u a = u (amB 28 a b) := by
  have : ¬ a.ult b = true := by rw [← ult_iff]; omega
  show u a = u (if a.ult b then b else a); rw [if_neg this]
/-- the reference cuts its words first -/
theorem rs_4 (a : BitVec 64) : zxt (zxt a 32) 32 = zx (lo32 a) := by rw [zxt_32, zxt_32, lo_zx]
theorem rs_8 (a : BitVec 64) : zxt (zxt a 64) 64 = a := by rw [zxt_64, zxt_64]
theorem rz_4 (f : Int) (a b : BitVec 64) (h : f = 1 ∨ f = 0 ∨ f = 4 ∨ f = 8 ∨ f = 12) : zxt (amB f (zxt a 32) (zxt b 32)) 32 = amV f 4 a b := by
  rw [zxt_32, zxt_32 a, zxt_32 b, amz_zx f a b h]
  rcases h with rfl | rfl | rfl | rfl | rfl <;> rfl
theorem rz_8 (f : Int) (a b : BitVec 64) (h : f = 1 ∨ f = 0 ∨ f = 4 ∨ f = 8 ∨ f = 12) : zxt (amB f (zxt a 64) (zxt b 64)) 64 = amV f 8 a b := by
  rw [zxt_64, zxt_64 a, zxt_64 b]
  rcases h with rfl | rfl | rfl | rfl | rfl <;> rfl
theorem amV_yes (f z : Int) (a b : BitVec 64) (hz : z = 4 ∨ z = 8) (hf : amF f = true) : amV f z a b = amz f z a b := if_pos ⟨hz, hf⟩
theorem amz_4 (f : Int) (a b : BitVec 64) : amz f 4 a b = zx (amB f (lo32 a) (lo32 b)) := if_neg (by omega)
theorem amz_8 (f : Int) (a b : BitVec 64) : amz f 8 a b = amB f a b := if_pos rfl
theorem amB_16 {n : Nat} (a b : BitVec n) : amB 16 a b = if a.slt b then a else b := rfl
theorem amB_20 {n : Nat} (a b : BitVec n) : amB 20 a b = if a.slt b then b else a := rfl
theorem rb_16_4 (a b : BitVec 64) (p : Bool) (h : (lo32 a).slt (lo32 b) = p) : zxt (zxt (if p then a else b) 32) 32 = amV 16 4 a b := by
  rw [rs_4, amV_yes 16 4 a b (by omega) rfl, amz_4, amB_16, h]; cases p <;> rfl
theorem rb_20_4 (a b : BitVec 64) (p : Bool) (h : (lo32 a).slt (lo32 b) = p) : zxt (zxt (if p then b else a) 32) 32 = amV 20 4 a b := by
  rw [rs_4, amV_yes 20 4 a b (by omega) rfl, amz_4, amB_20, h]; cases p <;> rfl
theorem rb_16_8 (a b : BitVec 64) (p : Bool) (h : a.slt b = p) : zxt (zxt (if p then a else b) 64) 64 = amV 16 8 a b := by
  rw [rs_8, amV_yes 16 8 a b (by omega) rfl, amz_8, amB_16, h]
theorem rb_20_8 (a b : BitVec 64) (p : Bool) (h : a.slt b = p) : zxt (zxt (if p then b else a) 64) 64 = amV 20 8 a b := by
  rw [rs_8, amV_yes 20 8 a b (by omega) rfl, amz_8, amB_20, h]
theorem u_zx (a : BitVec 32) : u (zx a) = q a := (q_zx a).symm
theorem q_ltb (a b : BitVec 32) : (q a < q b) ↔ a.ult b = true := by unfold q BitVec.ult; simp
theorem rm_24a_4 (a b : BitVec 64) (h : u (zxt b 32) < u (zxt a 32)) : u (zxt (zxt b 32) 32) = u (amV 24 4 a b) := by
  rw [rs_4]; rw [zxt_32, zxt_32, u_zx, u_zx] at h
  have : ¬ (lo32 a).ult (lo32 b) = true := by rw [← q_ltb]; omega
  show u (zx (lo32 b)) = u (zx (if (lo32 a).ult (lo32 b) then lo32 a else lo32 b)); rw [if_neg this]
theorem rm_24b_4 (a b : BitVec 64) (h : u (zxt a 32) ≤ u (zxt b 32)) : u (zxt (zxt a 32) 32) = u (amV 24 4 a b) := by
  rw [rs_4]; rw [zxt_32, zxt_32, u_zx, u_zx] at h
  show u (zx (lo32 a)) = u (zx (if (lo32 a).ult (lo32 b) then lo32 a else lo32 b))
  split
  · rfl
  · next c => rw [← q_ltb] at c; rw [q_inj.1 (show q (lo32 a) = q (lo32 b) by omega)]
theorem rm_28a_4 (a b : BitVec 64) (h : u (zxt a 32) < u (zxt b 32)) : u (zxt (zxt b 32) 32) = u (amV 28 4 a b) := by
  rw [rs_4]; rw [zxt_32, zxt_32, u_zx, u_zx, q_ltb] at h
  show u (zx (lo32 b)) = u (zx (if (lo32 a).ult (lo32 b) then lo32 b else lo32 a)); rw [if_pos h]
theorem rm_28b_4 (a b : BitVec 64) (h : u (zxt b 32) ≤ u (zxt a 32)) : u (zxt (zxt a 32) 32) = u (amV 28 4 a b) := by
  rw [rs_4]; rw [zxt_32, zxt_32, u_zx, u_zx] at h
  have : ¬ (lo32 a).ult (lo32 b) = true := by rw [← q_ltb]; omega
  show u (zx (lo32 a)) = u (zx (if (lo32 a).ult (lo32 b) then lo32 b else lo32 a)); rw [if_neg this]
theorem rm_24a_8 (a b : BitVec 64) (h : u (zxt b 64) < u (zxt a 64)) : u (zxt (zxt b 64) 64) = u (amV 24 8 a b) := by
  rw [rs_8]; rw [zxt_64, zxt_64] at h; exact am_24a a b h
theorem rm_24b_8 (a b : BitVec 64) (h : u (zxt a 64) ≤ u (zxt b 64)) : u (zxt (zxt a 64) 64) = u (amV 24 8 a b) := by
  rw [rs_8]; rw [zxt_64, zxt_64] at h; exact am_24b a b h
theorem rm_28a_8 (a b : BitVec 64) (h : u (zxt a 64) < u (zxt b 64)) : u (zxt (zxt b 64) 64) = u (amV 28 8 a b) := by
  rw [rs_8]; rw [zxt_64, zxt_64] at h; exact am_28a a b h
theorem rm_28b_8 (a b : BitVec 64) (h : u (zxt b 64) ≤ u (zxt a 64)) : u (zxt (zxt a 64) 64) = u (amV 28 8 a b) := by
  rw [rs_8]; rw [zxt_64, zxt_64] at h; exact am_28b a b h
end Go.Proofs.Ythafghechghbpaa
