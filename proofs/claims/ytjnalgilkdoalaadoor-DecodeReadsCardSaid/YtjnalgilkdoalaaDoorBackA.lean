/- What is laid out is read again, and what is read is laid out again: package shape's words and fields. Conditions: named at each. -/
import Derived.Test.YtjnalgilkdoalaaDoorRefB
import Derived.Test.YtjnalgilkdoalaaDoorFlds
namespace Go.Proofs.YtjnalgilkdoalaaDoor
open Go.RowKit

/-! ### a field, by its bits -/
theorem fi_of {x : BitVec 32} {n : Int} {k lo hi : Nat} (hn : In n k = true) (hlo : lo + k = hi + 1) (h1 : lo ≤ hi) (h2 : hi < 32) (hb : ∀ i, i < k → x.getLsbD (lo + i) = (wd64 n).getLsbD i) : fi x hi lo = n := by
  have hE : Ends (hi : Int) (lo : Int) := by unfold Ends; omega
  have e : fld (zx x) hi lo = wd64 n := by
    apply BitVec.eq_of_getLsbD_eq; intro i _
    by_cases c : i < k
    · rw [fld_in _ _ _ _ hE (by omega), zx_bit, ← hb i c]; congr 1
    · rw [fld_out _ _ _ _ (by omega), In_high hn i (by omega)]
  unfold fi
  rw [e]
  simp only [In, Bool.and_eq_true, decide_eq_true_eq] at hn
  have hp : (2 : Int) ^ k ≤ 2 ^ 32 := by
    have : (2 : Nat) ^ k ≤ 2 ^ 32 := Nat.pow_le_pow_right (by omega) (by omega)
    exact_mod_cast this
  have e32 : (2 : Int) ^ 32 = 4294967296 := by decide
  exact wd_small n hn.1 (by omega)
theorem wd_fi (x : BitVec 32) (hi lo : Int) : wd64 (fi x hi lo) = fld (zx x) hi lo := ofInt_u _
theorem fi_bit (x : BitVec 32) {hi lo : Nat} (h1 : lo ≤ hi) (h2 : hi < 32) (i : Nat) (hi' : lo + i ≤ hi) : (wd64 (fi x hi lo)).getLsbD i = x.getLsbD (lo + i) := by
  rw [wd_fi, fld_in _ _ _ _ (by unfold Ends; omega) (by omega), zx_bit]; congr 1
theorem fi_in (x : BitVec 32) {hi lo k : Nat} (h : lo + k = hi + 1) : In (fi x hi lo) k = true := by
  have : (fld (zx x) hi lo).toNat < 2 ^ k := by
    apply Nat.lt_pow_two_of_testBit
    intro i hi'
    exact fld_out (zx x) hi lo i (by omega)
  unfold In
  rw [decide_eq_true (fi_nonneg x hi lo), Bool.true_and, decide_eq_true_eq]
  unfold fi u
  exact_mod_cast this
theorem fi_i64 (x : BitVec 32) (hi lo : Int) : I64 (fi x hi lo) := by
  have := fi_nonneg x hi lo; have := fi_lt x hi lo; unfold I64; omega
theorem lb_op (op rd f3 rs1 rs2 f7 : Int) (i : Nat) (h : i < 7) : lb op rd f3 rs1 rs2 f7 (0 + i) = (wd64 op).getLsbD i := by
  unfold lb; rw [Nat.zero_add, if_pos h]
theorem lb_rd (op rd f3 rs1 rs2 f7 : Int) (i : Nat) (h : i < 5) : lb op rd f3 rs1 rs2 f7 (7 + i) = (wd64 rd).getLsbD i := by
  unfold lb; rw [if_neg (by omega), if_pos (by omega), Nat.add_sub_cancel_left]
theorem lb_f3 (op rd f3 rs1 rs2 f7 : Int) (i : Nat) (h : i < 3) : lb op rd f3 rs1 rs2 f7 (12 + i) = (wd64 f3).getLsbD i := by
  unfold lb; rw [if_neg (by omega), if_neg (by omega), if_pos (by omega), Nat.add_sub_cancel_left]
theorem lb_rs1 (op rd f3 rs1 rs2 f7 : Int) (i : Nat) (h : i < 5) : lb op rd f3 rs1 rs2 f7 (15 + i) = (wd64 rs1).getLsbD i := by
  unfold lb; rw [if_neg (by omega), if_neg (by omega), if_neg (by omega), if_pos (by omega), Nat.add_sub_cancel_left]
theorem lb_rs2 (op rd f3 rs1 rs2 f7 : Int) (i : Nat) (h : i < 5) : lb op rd f3 rs1 rs2 f7 (20 + i) = (wd64 rs2).getLsbD i := by
  unfold lb; rw [if_neg (by omega), if_neg (by omega), if_neg (by omega), if_neg (by omega), if_pos (by omega), Nat.add_sub_cancel_left]
theorem lb_f7 (op rd f3 rs1 rs2 f7 : Int) (i : Nat) : lb op rd f3 rs1 rs2 f7 (25 + i) = (wd64 f7).getLsbD i := by
  unfold lb; rw [if_neg (by omega), if_neg (by omega), if_neg (by omega), if_neg (by omega), if_neg (by omega), Nat.add_sub_cancel_left]
theorem asm_ok {op rd f3 rs1 rs2 f7 imm : Int} {L : List Sp} (h : (asmE op rd f3 rs1 rs2 f7 imm L == 0) = true) :
    Fit op rd f3 rs1 rs2 f7 = true ∧ inr imm L = true ∧ ins imm L = true ∧ asmW op rd f3 rs1 rs2 f7 imm L = lay op rd f3 rs1 rs2 f7 ||| lo32 (spreadAcc (wd64 imm) L) := by
  unfold asmE at h
  unfold asmW
  cases h1 : Fit op rd f3 rs1 rs2 f7
  · rw [h1] at h; exact absurd (show ((1 : Int) == 0) = true from h) (by decide)
  cases h2 : inr imm L
  · rw [h1, h2] at h; exact absurd (show ((1 : Int) == 0) = true from h) (by decide)
  cases h3 : ins imm L
  · rw [h1, h2, h3] at h; exact absurd (show ((5 : Int) == 0) = true from h) (by decide)
  exact ⟨rfl, rfl, rfl, rfl⟩
/-- the field of a word that was laid out -/
theorem laid_field {op rd f3 rs1 rs2 f7 imm n : Int} {L : List Sp} {k lo hi : Nat} (hok : L.all Sp.ok = true) (h : Fit op rd f3 rs1 rs2 f7 = true) (hn : In n k = true) (hlo : lo + k = hi + 1) (h1 : lo ≤ hi) (h2 : hi < 32)
    (hs : ∀ i, i < k → spreadSrc L (lo + i) = none) (hlb : ∀ i, i < k → lb op rd f3 rs1 rs2 f7 (lo + i) = (wd64 n).getLsbD i) : fi (lay op rd f3 rs1 rs2 f7 ||| lo32 (spreadAcc (wd64 imm) L)) hi lo = n := by
  refine fi_of hn hlo h1 h2 (fun i hi' => ?_)
  rw [BitVec.getLsbD_or, lay_bit h _ (by omega), hlb i hi', lo32_bit, spread_bit _ L hok, hs i hi']
  simp [pick]
theorem Fit_parts {op rd f3 rs1 rs2 f7 : Int} (h : Fit op rd f3 rs1 rs2 f7 = true) : In op 7 = true ∧ In rd 5 = true ∧ In f3 3 = true ∧ In rs1 5 = true ∧ In rs2 5 = true ∧ In f7 7 = true := by
  simp only [Fit, Bool.and_eq_true] at h
  obtain ⟨⟨⟨⟨⟨h1, h2⟩, h3⟩, h4⟩, h5⟩, h6⟩ := h
  exact ⟨h1, h2, h3, h4, h5, h6⟩
theorem Fit_of {op rd f3 rs1 rs2 f7 : Int} (h1 : In op 7 = true) (h2 : In rd 5 = true) (h3 : In f3 3 = true) (h4 : In rs1 5 = true) (h5 : In rs2 5 = true) (h6 : In f7 7 = true) : Fit op rd f3 rs1 rs2 f7 = true := by
  unfold Fit; rw [h1, h2, h3, h4, h5, h6]; rfl
/-- the fields of any word, laid out, are that word where no immediate stands -/
theorem lb_word (x : BitVec 32) (j : Nat) (hj : j < 32) : lb (fi x 6 0) (fi x 11 7) (fi x 14 12) (fi x 19 15) (fi x 24 20) (fi x 31 25) j = x.getLsbD j := by
  have e : ∀ (hi lo : Nat), lo ≤ hi → hi < 32 → lo ≤ j → j ≤ hi → (wd64 (fi x hi lo)).getLsbD (j - lo) = x.getLsbD j := fun hi lo h1 h2 h3 h4 => by
    rw [fi_bit x h1 h2 (j - lo) (by omega)]; congr 1; omega
  unfold lb
  by_cases g1 : j < 7
  · rw [if_pos g1]; exact e 6 0 (by omega) (by omega) (by omega) (by omega)
  by_cases g2 : j < 12
  · rw [if_neg g1, if_pos g2]; exact e 11 7 (by omega) (by omega) (by omega) (by omega)
  by_cases g3 : j < 15
  · rw [if_neg g1, if_neg g2, if_pos g3]; exact e 14 12 (by omega) (by omega) (by omega) (by omega)
  by_cases g4 : j < 20
  · rw [if_neg g1, if_neg g2, if_neg g3, if_pos g4]; exact e 19 15 (by omega) (by omega) (by omega) (by omega)
  by_cases g5 : j < 25
  · rw [if_neg g1, if_neg g2, if_neg g3, if_neg g4, if_pos g5]; exact e 24 20 (by omega) (by omega) (by omega) (by omega)
  · rw [if_neg g1, if_neg g2, if_neg g3, if_neg g4, if_neg g5]; exact e 31 25 (by omega) (by omega) (by omega) (by omega)
theorem fit_word (x : BitVec 32) : Fit (fi x 6 0) (fi x 11 7) (fi x 14 12) (fi x 19 15) (fi x 24 20) (fi x 31 25) = true :=
  Fit_of (fi_in x (hi := 6) (lo := 0) rfl) (fi_in x (hi := 11) (lo := 7) rfl) (fi_in x (hi := 14) (lo := 12) rfl) (fi_in x (hi := 19) (lo := 15) rfl) (fi_in x (hi := 24) (lo := 20) rfl) (fi_in x (hi := 31) (lo := 25) rfl)
theorem lay_word (x : BitVec 32) : lay (fi x 6 0) (fi x 11 7) (fi x 14 12) (fi x 19 15) (fi x 24 20) (fi x 31 25) = x := by
  apply BitVec.eq_of_getLsbD_eq; intro j hj
  rw [lay_bit (fit_word x) j hj, lb_word x j hj]
theorem top_test (v : BitVec 64) : (u v / 9223372036854775808 == 1) = v.getLsbD 63 := by
  rw [show (9223372036854775808 : Int) = 2 ^ 63 by decide, u_shr]
  have e : v >>> 63 = v >>> 63 &&& 1 := by
    apply BitVec.eq_of_getLsbD_eq; intro i hi
    rw [BitVec.getLsbD_and, BitVec.getLsbD_ushiftRight]
    by_cases c : i = 0
    · subst c; simp
    · rw [BitVec.getLsbD_of_ge v _ (by omega), Bool.false_and]
  rw [e, and1_test]
theorem sign_test {L : List Sp} {F : List Int} (h : Same L F) (x : BitVec 32) : (u (immOf (zx x) L) / 9223372036854775808 == 1) = x.getLsbD 31 := by
  rw [top_test, imm_sign h x 63 (by have := h.len; omega) (by omega)]
theorem top32_test (x : BitVec 32) : (q x / 2147483648 == 1) = x.getLsbD 31 := by
  rw [show (2147483648 : Int) = 2 ^ 31 by decide, q_shr]
  have e : (q (x >>> 31) == 1) = (x >>> 31 == 1) := q_beq _ 1
  have e2 : x >>> 31 = if x.getLsbD 31 then 1 else 0 := by
    apply BitVec.eq_of_getLsbD_eq; intro i hi
    rw [BitVec.getLsbD_ushiftRight]
    by_cases c : i = 0
    · subst c; rw [Nat.add_zero]; cases x.getLsbD 31 <;> decide
    · rw [BitVec.getLsbD_of_ge x _ (by omega)]
      have h1 : (1 : BitVec 32).getLsbD i = false := by
        have := one32_shl_bit 0 i
        rw [BitVec.shiftLeft_zero] at this
        rw [this, decide_eq_false c]; rfl
      cases x.getLsbD 31
      · simp
      · rw [if_pos rfl, h1]
  rw [e, e2]; cases x.getLsbD 31 <;> decide
theorem low_test {L : List Sp} {F : List Int} (h : Same L F) (x : BitVec 64) (n : Nat) (hn : lowOf L = n) : immOf x L &&& low n = 0 := by
  apply BitVec.eq_of_getLsbD_eq; intro i hi
  rw [BitVec.getLsbD_and, low_bit]
  by_cases c : i < n
  · rw [imm_low h x i (by omega)]; simp
  · rw [decide_eq_false (by omega), Bool.and_false]; simp
theorem low1_test {L : List Sp} {F : List Int} (h : Same L F) (x : BitVec 64) (hn : lowOf L = 1) : (bits .and .u64 (u (immOf x L)) 1 == 0) = true := by
  rw [show (1 : Int) = u (low 1) by decide +kernel, u_and, low_test h x 1 hn]; decide
theorem low12_test {L : List Sp} {F : List Int} (h : Same L F) (x : BitVec 64) (hn : lowOf L = 12) : (bits .and .u64 (u (immOf x L)) 4095 == 0) = true := by
  rw [show (4095 : Int) = u (low 12) by decide +kernel, u_and, low_test h x 12 hn]; decide
end Go.Proofs.YtjnalgilkdoalaaDoor
