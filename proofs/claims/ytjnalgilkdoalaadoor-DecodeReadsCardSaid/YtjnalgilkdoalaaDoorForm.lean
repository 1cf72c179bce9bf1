/- The six formats of instruction words: their spans, their tables of bits, their ranges; that spans and tables make the same words and the same immediates; that what is laid out is read again, and the other way round. Plain lemmas, no program. Conditions: named at each. -/
import Derived.Test.YtjnalgilkdoalaaDoorSpan
namespace Go.Proofs.YtjnalgilkdoalaaDoor
open Go.RowKit

def LI : List Sp := [⟨31, 20, 0⟩]
def LS : List Sp := [⟨11, 7, 0⟩, ⟨31, 25, 5⟩]
def LB : List Sp := [⟨11, 8, 1⟩, ⟨30, 25, 5⟩, ⟨7, 7, 11⟩, ⟨31, 31, 12⟩]
def LU : List Sp := [⟨31, 12, 12⟩]
def LJ : List Sp := [⟨30, 21, 1⟩, ⟨20, 20, 11⟩, ⟨19, 12, 12⟩, ⟨31, 31, 20⟩]
def FI : List Int := [20, 21, 22, 23, 24, 25, 26, 27, 28, 29, 30, 31]
def FS : List Int := [7, 8, 9, 10, 11, 25, 26, 27, 28, 29, 30, 31]
def FB : List Int := [-1, 8, 9, 10, 11, 25, 26, 27, 28, 29, 30, 7, 31]
def FU : List Int := [-1, -1, -1, -1, -1, -1, -1, -1, -1, -1, -1, -1, 12, 13, 14, 15, 16, 17, 18, 19, 20, 21, 22, 23, 24, 25, 26, 27, 28, 29, 30, 31]
def FJ : List Int := [-1, 21, 22, 23, 24, 25, 26, 27, 28, 29, 30, 20, 12, 13, 14, 15, 16, 17, 18, 19, 31]

/-- spans and a table that are of one format -/
structure Same (L : List Sp) (F : List Int) : Prop where
  ok : L.all Sp.ok = true
  len : F.length ≤ 63
  pos : 1 ≤ F.length
  width : widthOf L = F.length
  join : ∀ i, i < 64 → joinSrc L i = if i < F.length ∧ 0 ≤ F.getD i 0 then some (F.getD i 0).toNat else none
  spread : ∀ j, j < 32 → spreadSrc L j = withSrc F j F.length
  back : ∀ i, i < F.length → (match joinSrc L i with | none => decide (i < lowOf L) | some j => decide (j < 32 ∧ spreadSrc L j = some i)) = true
  again : ∀ j, j < 32 → (match spreadSrc L j with | none => true | some i => decide (joinSrc L i = some j ∧ i < F.length)) = true
  low : ∀ i, i < lowOf L → joinSrc L i = none
  top : joinSrc L (F.length - 1) = some 31
  lowlen : lowOf L < F.length
theorem sameI : Same LI FI := by constructor <;> decide +kernel
theorem sameS : Same LS FS := by constructor <;> decide +kernel
theorem sameB : Same LB FB := by constructor <;> decide +kernel
theorem sameU : Same LU FU := by constructor <;> decide +kernel
theorem sameJ : Same LJ FJ := by constructor <;> decide +kernel

/-- the immediate of a word -/
def immOf (x : BitVec 64) (L : List Sp) : BitVec 64 := sxt (joinAcc x L) (widthOf L)
theorem join_imm {L : List Sp} {F : List Int} (h : Same L F) (x : BitVec 64) : joinAcc x L = immTo x F F.length := by
  have hl := h.len
  apply BitVec.eq_of_getLsbD_eq; intro i hi
  rw [join_bit x L h.ok, imm_bit x F _ i (by omega), h.join i hi]
  by_cases c : i < F.length ∧ 0 ≤ F.getD i 0
  · rw [if_pos c, decide_eq_true c.1, decide_eq_true c.2]; rfl
  · rw [if_neg c]
    by_cases c1 : i < F.length
    · rw [decide_eq_false (fun c2 => c ⟨c1, c2⟩)]; simp [pick]
    · rw [decide_eq_false c1]; simp [pick]
theorem immOf_ref {L : List Sp} {F : List Int} (h : Same L F) (x : BitVec 64) : immOf x L = sxt (immTo x F F.length) F.length := by
  unfold immOf; rw [join_imm h, h.width]
/-- the word has nothing where the immediate goes -/
def Clear (w : BitVec 32) (L : List Sp) : Prop := ∀ j, j < 32 → (spreadSrc L j).isSome = true → w.getLsbD j = false
theorem spread_with {L : List Sp} {F : List Int} (h : Same L F) (w : BitVec 32) (x : BitVec 64) (hc : Clear w L) : w ||| lo32 (spreadAcc x L) = withTo w F x F.length := by
  apply BitVec.eq_of_getLsbD_eq; intro j hj
  rw [BitVec.getLsbD_or, lo32_bit, spread_bit x L h.ok, with_bit w F x j _ hj, ← h.spread j hj]
  have hc := hc j hj
  cases e : spreadSrc L j
  · simp [pick]
  · rw [e] at hc; rw [hc rfl]; simp [pick, hj]

/-! ### ranges -/
theorem sxt_toInt (v : BitVec 64) (n : Nat) (h1 : 1 ≤ n) (h2 : n ≤ 64) : (sxt v n).toInt = Int.bmod v.toNat (2 ^ n) := by
  have e : sxt v n = (v.setWidth n).signExtend 64 := by
    apply BitVec.eq_of_getLsbD_eq; intro i hi
    rw [sxt_bit v n i hi, BitVec.getLsbD_signExtend, BitVec.getLsbD_setWidth, BitVec.msb_eq_getLsbD_last, BitVec.getLsbD_setWidth]
    by_cases c : i < n
    · rw [if_pos (by omega), if_pos c]; simp [hi, c]
    · rw [if_neg (by omega), if_neg c]
      have : ((n : Int) - 1).toNat = n - 1 := by omega
      have e1 : decide (1 ≤ (n : Int)) = true := decide_eq_true (by omega)
      have e2 : decide (n - 1 < n) = true := decide_eq_true (by omega)
      rw [this, e1, e2, decide_eq_true hi]; rfl
  rw [e, BitVec.toInt_signExtend, BitVec.toInt_setWidth, Nat.min_eq_right h2]
  simp
theorem zxt_toNat (v : BitVec 64) (n : Nat) (h2 : n ≤ 64) : (zxt v n).toNat = v.toNat % 2 ^ n := by
  have e : zxt v n = (v.setWidth n).setWidth 64 := by
    apply BitVec.eq_of_getLsbD_eq; intro i hi
    rw [zxt_bit, BitVec.getLsbD_setWidth, BitVec.getLsbD_setWidth]
    simp [hi]
  rw [e, BitVec.toNat_setWidth, BitVec.toNat_setWidth]
  apply Nat.mod_eq_of_lt
  have : v.toNat % 2 ^ n < 2 ^ n := Nat.mod_lt _ (Nat.two_pow_pos n)
  exact Nat.lt_of_lt_of_le this (Nat.pow_le_pow_right (by omega) h2)
theorem wd_toNat (n : Int) : ((wd64 n).toNat : Int) = n % 18446744073709551616 := by
  unfold wd64; rw [BitVec.toNat_ofInt]; omega
theorem wd_toInt (n : Int) (h1 : -9223372036854775808 ≤ n) (h2 : n ≤ 9223372036854775807) : (wd64 n).toInt = n := sg_wd n h1 h2
/-- an int in Go -/
def I64 (n : Int) : Prop := -9223372036854775808 ≤ n ∧ n ≤ 9223372036854775807
def inr (n : Int) (L : List Sp) : Bool := sxt (wd64 n) (widthOf L) == wd64 n
def ins (n : Int) (L : List Sp) : Bool := zxt (wd64 n) (lowOf L) == 0
theorem inr_bmod (n : Int) (h : I64 n) (L : List Sp) (W : Nat) (hW : widthOf L = W) (h1 : 1 ≤ W) (h2 : W ≤ 64) : inr n L = decide (Int.bmod (n % 18446744073709551616) (2 ^ W) = n) := by
  unfold inr
  rw [hW, Bool.eq_iff_iff, beq_iff_eq, decide_eq_true_eq, ← BitVec.toInt_inj, sxt_toInt _ _ h1 h2, wd_toInt n h.1 h.2, wd_toNat]
theorem inr12 (n : Int) (h : I64 n) (L : List Sp) (hW : widthOf L = 12) : inr n L = (decide (-2048 ≤ n) && decide (n ≤ 2047)) := by
  rw [inr_bmod n h L 12 hW (by omega) (by omega), Bool.eq_iff_iff]; unfold I64 at h; simp [Int.bmod_def]; omega
theorem inr13 (n : Int) (h : I64 n) (L : List Sp) (hW : widthOf L = 13) : inr n L = (decide (-4096 ≤ n) && decide (n ≤ 4095)) := by
  rw [inr_bmod n h L 13 hW (by omega) (by omega), Bool.eq_iff_iff]; unfold I64 at h; simp [Int.bmod_def]; omega
theorem inr21 (n : Int) (h : I64 n) (L : List Sp) (hW : widthOf L = 21) : inr n L = (decide (-1048576 ≤ n) && decide (n ≤ 1048575)) := by
  rw [inr_bmod n h L 21 hW (by omega) (by omega), Bool.eq_iff_iff]; unfold I64 at h; simp [Int.bmod_def]; omega
theorem inr32 (n : Int) (h : I64 n) (L : List Sp) (hW : widthOf L = 32) : inr n L = (decide (-2147483648 ≤ n) && decide (n ≤ 2147483647)) := by
  rw [inr_bmod n h L 32 hW (by omega) (by omega), Bool.eq_iff_iff]; unfold I64 at h; simp [Int.bmod_def]; omega
theorem ins_mod (n : Int) (L : List Sp) (k : Nat) (hk : lowOf L = k) (h2 : k ≤ 64) : ins n L = decide (n % 18446744073709551616 % 2 ^ k = 0) := by
  unfold ins
  rw [hk, Bool.eq_iff_iff, beq_iff_eq, decide_eq_true_eq, ← BitVec.toNat_inj, zxt_toNat _ _ h2, ← wd_toNat]
  constructor
  · intro e
    have : (((wd64 n).toNat % 2 ^ k : Nat) : Int) = 0 := by rw [e]; rfl
    simpa using this
  · intro e
    have : (((wd64 n).toNat % 2 ^ k : Nat) : Int) = 0 := by simpa using e
    have : (wd64 n).toNat % 2 ^ k = 0 := by exact_mod_cast this
    rw [this]; rfl
theorem ins0 (n : Int) (L : List Sp) (h : lowOf L = 0) : ins n L = true := by
  rw [ins_mod n L 0 h (by omega)]; simp [Int.emod_one]
theorem ins1 (n : Int) (L : List Sp) (h : lowOf L = 1) : ins n L = decide (n % 2 = 0) := by
  rw [ins_mod n L 1 h (by omega), decide_eq_decide]; omega
theorem ins12 (n : Int) (L : List Sp) (h : lowOf L = 12) : ins n L = decide (n % 4096 = 0) := by
  rw [ins_mod n L 12 h (by omega), decide_eq_decide]; omega
theorem inr_nil (n : Int) (L : List Sp) (h : widthOf L = 0) (hn : n = 0) : inr n L = true := by
  subst hn; unfold inr; rw [h]; decide +kernel

/-! ### back, and again -/
theorem ins_low {n : Int} {L : List Sp} (h : ins n L = true) (i : Nat) (hi : i < lowOf L) : (wd64 n).getLsbD i = false := by
  have e := congrArg (fun v => BitVec.getLsbD v i) (beq_iff_eq.1 h)
  simp only [zxt_bit, decide_eq_true (show (i : Int) < (lowOf L : Int) by omega), Bool.true_and] at e
  simpa using e
/-- what is laid out is read again -/
theorem imm_back {L : List Sp} {F : List Int} (h : Same L F) (w : BitVec 32) (n : Int) (hc : Clear w L) (h1 : inr n L = true) (h2 : ins n L = true) :
    immOf (zx (w ||| lo32 (spreadAcc (wd64 n) L))) L = wd64 n := by
  have h0 : sxt (wd64 n) (widthOf L) = wd64 n := beq_iff_eq.1 h1
  have hp := h.pos
  have hl := h.len
  have key : ∀ i, i < F.length → (joinAcc (zx (w ||| lo32 (spreadAcc (wd64 n) L))) L).getLsbD i = (wd64 n).getLsbD i := by
    intro i hi
    rw [join_bit _ L h.ok]
    have hb := h.back i hi
    cases e : joinSrc L i with
    | none =>
      rw [e] at hb
      rw [ins_low h2 i (of_decide_eq_true hb)]; rfl
    | some j =>
      rw [e] at hb
      obtain ⟨hj, hs⟩ := of_decide_eq_true hb
      show (zx _).getLsbD j = _
      rw [zx_bit, BitVec.getLsbD_or, hc j hj (by rw [hs]; rfl), lo32_bit, spread_bit _ L h.ok, hs, decide_eq_true hj]
      rfl
  refine Eq.trans ?_ h0
  unfold immOf
  apply BitVec.eq_of_getLsbD_eq; intro i hi
  rw [sxt_bit _ _ i hi, sxt_bit _ _ i hi, h.width]
  by_cases c : (i : Int) < (F.length : Int)
  · rw [if_pos c, if_pos c, key i (by omega)]
  · rw [if_neg c, if_neg c, key _ (by omega)]
theorem immOf_inr {L : List Sp} {F : List Int} (h : Same L F) (x : BitVec 64) : inr (sg (immOf x L)) L = true := by
  have hp := h.pos
  have hl := h.len
  unfold inr
  rw [wd_sg, beq_iff_eq]
  unfold immOf
  apply BitVec.eq_of_getLsbD_eq; intro i hi
  rw [sxt_bit _ _ i hi, h.width]
  have h2 := sxt_bit (joinAcc x L) F.length ((F.length : Int) - 1).toNat (by omega)
  rw [if_pos (show ((((F.length : Int) - 1).toNat : Nat) : Int) < (F.length : Int) by omega)] at h2
  by_cases c : (i : Int) < (F.length : Int)
  · rw [if_pos c]
  · rw [if_neg c, h2, sxt_bit _ _ i hi, if_neg c, decide_eq_true (show 1 ≤ (F.length : Int) by omega), Bool.true_and]
theorem immOf_ins {L : List Sp} {F : List Int} (h : Same L F) (x : BitVec 64) : ins (sg (immOf x L)) L = true := by
  have hp := h.pos
  have hl := h.len
  have hw := h.lowlen
  unfold ins
  rw [wd_sg, beq_iff_eq]
  apply BitVec.eq_of_getLsbD_eq; intro i hi
  rw [zxt_bit]
  by_cases c : (i : Int) < (lowOf L : Int)
  · unfold immOf
    rw [sxt_bit _ _ i hi, h.width, if_pos (by omega), join_bit _ L h.ok, h.low i (by omega)]; simp [pick]
  · rw [decide_eq_false c]; simp
theorem spread_again {L : List Sp} {F : List Int} (h : Same L F) (x : BitVec 32) (j : Nat) (hj : j < 32) (hs : (spreadSrc L j).isSome = true) : (spreadAcc (immOf (zx x) L) L).getLsbD j = x.getLsbD j := by
  have hl := h.len
  rw [spread_bit _ L h.ok]
  have ha := h.again j hj
  cases e : spreadSrc L j with
  | none => rw [e] at hs; exact absurd hs (by simp)
  | some i =>
    rw [e] at ha
    obtain ⟨h1, h2⟩ := of_decide_eq_true ha
    show (immOf (zx x) L).getLsbD i = _
    unfold immOf
    rw [sxt_bit _ _ i (by omega), h.width, if_pos (by omega), join_bit _ L h.ok, h1]
    exact zx_bit x j
theorem imm_again {L : List Sp} {F : List Int} (h : Same L F) (x w : BitVec 32) (hc : Clear w L) (hw : ∀ j, j < 32 → spreadSrc L j = none → w.getLsbD j = x.getLsbD j) :
    w ||| lo32 (spreadAcc (immOf (zx x) L) L) = x := by
  apply BitVec.eq_of_getLsbD_eq; intro j hj
  rw [BitVec.getLsbD_or, lo32_bit, decide_eq_true hj, Bool.true_and]
  cases e : spreadSrc L j with
  | none => rw [hw j hj e, spread_bit _ L h.ok, e]; simp [pick]
  | some i => rw [hc j hj (by rw [e]; rfl), spread_again h x j hj (by rw [e]; rfl)]; simp
/-- the sign of an immediate is the word's highest bit -/
theorem imm_sign {L : List Sp} {F : List Int} (h : Same L F) (x : BitVec 32) (i : Nat) (h1 : F.length ≤ i) (hi : i < 64) : (immOf (zx x) L).getLsbD i = x.getLsbD 31 := by
  have hp := h.pos
  unfold immOf
  rw [sxt_bit _ _ i hi, h.width, if_neg (by omega), decide_eq_true (by omega), show ((F.length : Int) - 1).toNat = F.length - 1 by omega, join_bit _ L h.ok, h.top, Bool.true_and]
  exact zx_bit x 31
theorem imm_low {L : List Sp} {F : List Int} (h : Same L F) (x : BitVec 64) (i : Nat) (hi : i < lowOf L) : (immOf x L).getLsbD i = false := by
  have hl := h.len
  have hw := h.lowlen
  unfold immOf
  rw [sxt_bit _ _ i (by omega), h.width, if_pos (by omega), join_bit _ L h.ok, h.low i hi]; rfl
end Go.Proofs.YtjnalgilkdoalaaDoor
