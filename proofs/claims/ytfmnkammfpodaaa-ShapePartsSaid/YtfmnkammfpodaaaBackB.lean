/- What is laid out is read again, and what is read is laid out again: the calls of package shape. Conditions: named at each. -/
import Derived.Test.YtfmnkammfpodaaaBackA
namespace Go.Proofs.Ytfmnkammfpodaaa
open Go.RowKit

theorem ok_of {e : Int} (h : (e != 0) = false) : (e == 0) = true := by simpa using h
theorem R_back (op rd f3 rs1 rs2 f7 : Int) (hop : I64 op) (hrd : I64 rd) (hf3 : I64 f3) (hrs1 : I64 rs1) (hrs2 : I64 rs2) (hf7 : I64 f7) : ∃ (x : BitVec 32) (e : Int),
    (∀ w : World, Calls Try.prog 30 #[.int .i64 op, .int .i64 rd, .int .i64 f3, .int .i64 rs1, .int .i64 rs2, .int .i64 f7] w fun r w' => r = .returned (.tuple #[.int .u32 (q x), .int .i64 e]) ∧ On w w') ∧
    ((e == 0) = true → (fi x 6 0 != op) = false) ∧ ((e == 0) = true → (fi x 11 7 != rd) = false) ∧ ((e == 0) = true → (fi x 14 12 != f3) = false) ∧ ((e == 0) = true → (fi x 19 15 != rs1) = false) ∧ ((e == 0) = true → (fi x 24 20 != rs2) = false) ∧ ((e == 0) = true → (fi x 31 25 != f7) = false) :=
  ⟨asmW op rd f3 rs1 rs2 f7 0 [], asmE op rd f3 rs1 rs2 f7 0 [], R_any op rd f3 rs1 rs2 f7 hop hrd hf3 hrs1 hrs2 hf7,
    fun h => by obtain ⟨hF, hR, hS, hw⟩ := asm_ok h; have e : fi (asmW op rd f3 rs1 rs2 f7 0 []) 6 0 = op := (by rw [hw]; exact laid_field (hi := 6) (lo := 0) (k := 7) rfl hF (Fit_parts hF).1 rfl (by omega) (by omega) (by decide +kernel) (fun i hi => lb_op _ _ _ _ _ _ i hi)); rw [e]; simp,
    fun h => by obtain ⟨hF, hR, hS, hw⟩ := asm_ok h; have e : fi (asmW op rd f3 rs1 rs2 f7 0 []) 11 7 = rd := (by rw [hw]; exact laid_field (hi := 11) (lo := 7) (k := 5) rfl hF (Fit_parts hF).2.1 rfl (by omega) (by omega) (by decide +kernel) (fun i hi => lb_rd _ _ _ _ _ _ i hi)); rw [e]; simp,
    fun h => by obtain ⟨hF, hR, hS, hw⟩ := asm_ok h; have e : fi (asmW op rd f3 rs1 rs2 f7 0 []) 14 12 = f3 := (by rw [hw]; exact laid_field (hi := 14) (lo := 12) (k := 3) rfl hF (Fit_parts hF).2.2.1 rfl (by omega) (by omega) (by decide +kernel) (fun i hi => lb_f3 _ _ _ _ _ _ i hi)); rw [e]; simp,
    fun h => by obtain ⟨hF, hR, hS, hw⟩ := asm_ok h; have e : fi (asmW op rd f3 rs1 rs2 f7 0 []) 19 15 = rs1 := (by rw [hw]; exact laid_field (hi := 19) (lo := 15) (k := 5) rfl hF (Fit_parts hF).2.2.2.1 rfl (by omega) (by omega) (by decide +kernel) (fun i hi => lb_rs1 _ _ _ _ _ _ i hi)); rw [e]; simp,
    fun h => by obtain ⟨hF, hR, hS, hw⟩ := asm_ok h; have e : fi (asmW op rd f3 rs1 rs2 f7 0 []) 24 20 = rs2 := (by rw [hw]; exact laid_field (hi := 24) (lo := 20) (k := 5) rfl hF (Fit_parts hF).2.2.2.2.1 rfl (by omega) (by omega) (by decide +kernel) (fun i hi => lb_rs2 _ _ _ _ _ _ i hi)); rw [e]; simp,
    fun h => by obtain ⟨hF, hR, hS, hw⟩ := asm_ok h; have e : fi (asmW op rd f3 rs1 rs2 f7 0 []) 31 25 = f7 := (by rw [hw]; exact laid_field (hi := 31) (lo := 25) (k := 7) rfl hF (Fit_parts hF).2.2.2.2.2 rfl (by omega) (by omega) (by decide +kernel) (fun i hi => lb_f7 _ _ _ _ _ _ i)); rw [e]; simp⟩
theorem R_again (x : BitVec 32) (w : World) :
    Calls Try.prog 30 #[.int .i64 (fi x 6 0), .int .i64 (fi x 11 7), .int .i64 (fi x 14 12), .int .i64 (fi x 19 15), .int .i64 (fi x 24 20), .int .i64 (fi x 31 25)] w fun r w' => r = .returned (.tuple #[.int .u32 (q x), .int .i64 0]) ∧ On w w' := by
  have h := R_any (fi x 6 0) (fi x 11 7) (fi x 14 12) (fi x 19 15) (fi x 24 20) (fi x 31 25) (fi_i64 _ _ _) (fi_i64 _ _ _) (fi_i64 _ _ _) (fi_i64 _ _ _) (fi_i64 _ _ _) (fi_i64 _ _ _) w
  have e := asm_nil (fi x 6 0) (fi x 11 7) (fi x 14 12) (fi x 19 15) (fi x 24 20) (fi x 31 25)
  unfold wordOf at e
  rw [fit_word x, if_pos rfl, if_pos rfl, lay_word] at e
  rw [e.1, e.2] at h
  exact h
theorem I_back (op rd f3 rs1 imm : Int) (hop : I64 op) (hrd : I64 rd) (hf3 : I64 f3) (hrs1 : I64 rs1) : ∃ (x : BitVec 32) (e : Int),
    (∀ w : World, Calls Try.prog 32 #[.int .i64 op, .int .i64 rd, .int .i64 f3, .int .i64 rs1, .int .i64 imm] w fun r w' => r = .returned (.tuple #[.int .u32 (q x), .int .i64 e]) ∧ On w w') ∧
    ((e != 0) = false → (fi x 11 7 == rd) = true) ∧ ((e != 0) = false → (fi x 19 15 == rs1) = true) ∧ ((e != 0) = false → (u (immOf (zx x) LI) == u (wd64 imm)) = true) :=
  ⟨asmW op rd f3 rs1 0 0 imm LI, asmE op rd f3 rs1 0 0 imm LI, I_any op rd f3 rs1 imm hop hrd hf3 hrs1,
    fun h => by obtain ⟨hF, hR, hS, hw⟩ := asm_ok (ok_of h); have e : fi (asmW op rd f3 rs1 0 0 imm LI) 11 7 = rd := (by rw [hw]; exact laid_field (hi := 11) (lo := 7) (k := 5) rfl hF (Fit_parts hF).2.1 rfl (by omega) (by omega) (by decide +kernel) (fun i hi => lb_rd _ _ _ _ _ _ i hi)); rw [e]; simp,
    fun h => by obtain ⟨hF, hR, hS, hw⟩ := asm_ok (ok_of h); have e : fi (asmW op rd f3 rs1 0 0 imm LI) 19 15 = rs1 := (by rw [hw]; exact laid_field (hi := 19) (lo := 15) (k := 5) rfl hF (Fit_parts hF).2.2.2.1 rfl (by omega) (by omega) (by decide +kernel) (fun i hi => lb_rs1 _ _ _ _ _ _ i hi)); rw [e]; simp,
    fun h => by obtain ⟨hF, hR, hS, hw⟩ := asm_ok (ok_of h); rw [hw, imm_back sameI _ imm (clearI hF) hR hS]; simp⟩
theorem fitI (x : BitVec 32) : Fit (fi x 6 0) (fi x 11 7) (fi x 14 12) (fi x 19 15) 0 0 = true := Fit_of (fi_in x (hi := 6) (lo := 0) rfl) (fi_in x (hi := 11) (lo := 7) rfl) (fi_in x (hi := 14) (lo := 12) rfl) (fi_in x (hi := 19) (lo := 15) rfl) (In_zero _) (In_zero _)
theorem I_again (x : BitVec 32) (w : World) :
    Calls Try.prog 32 #[.int .i64 (fi x 6 0), .int .i64 (fi x 11 7), .int .i64 (fi x 14 12), .int .i64 (fi x 19 15), .int .i64 (sg (immOf (zx x) LI))] w fun r w' => r = .returned (.tuple #[.int .u32 (q x), .int .i64 0]) ∧ On w w' := by
  have h := I_any (fi x 6 0) (fi x 11 7) (fi x 14 12) (fi x 19 15) (sg (immOf (zx x) LI)) (fi_i64 _ _ _) (fi_i64 _ _ _) (fi_i64 _ _ _) (fi_i64 _ _ _) w
  have e := asm_good (fitI x) (immOf_inr sameI (zx x)) (immOf_ins sameI (zx x))
  rw [wd_sg, imm_again sameI x _ (clearI (fitI x)) (fun j hj hs => by
    have hc := coverI j hj
    rw [hs] at hc
    rw [lay_bit (fitI x) j hj, ← lb_word x j hj]
    simp at hc
    unfold lb
    repeat' split
    all_goals first | rfl | omega)] at e
  rw [e.1, e.2] at h
  exact h
theorem S_back (op f3 rs1 rs2 imm : Int) (hop : I64 op) (hf3 : I64 f3) (hrs1 : I64 rs1) (hrs2 : I64 rs2) : ∃ (x : BitVec 32) (e : Int),
    (∀ w : World, Calls Try.prog 34 #[.int .i64 op, .int .i64 f3, .int .i64 rs1, .int .i64 rs2, .int .i64 imm] w fun r w' => r = .returned (.tuple #[.int .u32 (q x), .int .i64 e]) ∧ On w w') ∧
    ((e != 0) = false → (fi x 24 20 == rs2) = true) ∧ ((e != 0) = false → (u (immOf (zx x) LS) == u (wd64 imm)) = true) :=
  ⟨asmW op 0 f3 rs1 rs2 0 imm LS, asmE op 0 f3 rs1 rs2 0 imm LS, S_any op f3 rs1 rs2 imm hop hf3 hrs1 hrs2,
    fun h => by obtain ⟨hF, hR, hS, hw⟩ := asm_ok (ok_of h); have e : fi (asmW op 0 f3 rs1 rs2 0 imm LS) 24 20 = rs2 := (by rw [hw]; exact laid_field (hi := 24) (lo := 20) (k := 5) rfl hF (Fit_parts hF).2.2.2.2.1 rfl (by omega) (by omega) (by decide +kernel) (fun i hi => lb_rs2 _ _ _ _ _ _ i hi)); rw [e]; simp,
    fun h => by obtain ⟨hF, hR, hS, hw⟩ := asm_ok (ok_of h); rw [hw, imm_back sameS _ imm (clearS hF) hR hS]; simp⟩
theorem fitS (x : BitVec 32) : Fit (fi x 6 0) 0 (fi x 14 12) (fi x 19 15) (fi x 24 20) 0 = true := Fit_of (fi_in x (hi := 6) (lo := 0) rfl) (In_zero _) (fi_in x (hi := 14) (lo := 12) rfl) (fi_in x (hi := 19) (lo := 15) rfl) (fi_in x (hi := 24) (lo := 20) rfl) (In_zero _)
theorem S_again (x : BitVec 32) (w : World) :
    Calls Try.prog 34 #[.int .i64 (fi x 6 0), .int .i64 (fi x 14 12), .int .i64 (fi x 19 15), .int .i64 (fi x 24 20), .int .i64 (sg (immOf (zx x) LS))] w fun r w' => r = .returned (.tuple #[.int .u32 (q x), .int .i64 0]) ∧ On w w' := by
  have h := S_any (fi x 6 0) (fi x 14 12) (fi x 19 15) (fi x 24 20) (sg (immOf (zx x) LS)) (fi_i64 _ _ _) (fi_i64 _ _ _) (fi_i64 _ _ _) (fi_i64 _ _ _) w
  have e := asm_good (fitS x) (immOf_inr sameS (zx x)) (immOf_ins sameS (zx x))
  rw [wd_sg, imm_again sameS x _ (clearS (fitS x)) (fun j hj hs => by
    have hc := coverS j hj
    rw [hs] at hc
    rw [lay_bit (fitS x) j hj, ← lb_word x j hj]
    simp at hc
    unfold lb
    repeat' split
    all_goals first | rfl | omega)] at e
  rw [e.1, e.2] at h
  exact h
theorem B_back (op f3 rs1 rs2 imm : Int) (hop : I64 op) (hf3 : I64 f3) (hrs1 : I64 rs1) (hrs2 : I64 rs2) : ∃ (x : BitVec 32) (e : Int),
    (∀ w : World, Calls Try.prog 36 #[.int .i64 op, .int .i64 f3, .int .i64 rs1, .int .i64 rs2, .int .i64 imm] w fun r w' => r = .returned (.tuple #[.int .u32 (q x), .int .i64 e]) ∧ On w w') ∧
    ((e != 0) = false → (fi x 14 12 == f3) = true) ∧ ((e != 0) = false → (u (immOf (zx x) LB) == u (wd64 imm)) = true) :=
  ⟨asmW op 0 f3 rs1 rs2 0 imm LB, asmE op 0 f3 rs1 rs2 0 imm LB, B_any op f3 rs1 rs2 imm hop hf3 hrs1 hrs2,
    fun h => by obtain ⟨hF, hR, hS, hw⟩ := asm_ok (ok_of h); have e : fi (asmW op 0 f3 rs1 rs2 0 imm LB) 14 12 = f3 := (by rw [hw]; exact laid_field (hi := 14) (lo := 12) (k := 3) rfl hF (Fit_parts hF).2.2.1 rfl (by omega) (by omega) (by decide +kernel) (fun i hi => lb_f3 _ _ _ _ _ _ i hi)); rw [e]; simp,
    fun h => by obtain ⟨hF, hR, hS, hw⟩ := asm_ok (ok_of h); rw [hw, imm_back sameB _ imm (clearB hF) hR hS]; simp⟩
theorem fitB (x : BitVec 32) : Fit (fi x 6 0) 0 (fi x 14 12) (fi x 19 15) (fi x 24 20) 0 = true := Fit_of (fi_in x (hi := 6) (lo := 0) rfl) (In_zero _) (fi_in x (hi := 14) (lo := 12) rfl) (fi_in x (hi := 19) (lo := 15) rfl) (fi_in x (hi := 24) (lo := 20) rfl) (In_zero _)
theorem B_again (x : BitVec 32) (w : World) :
    Calls Try.prog 36 #[.int .i64 (fi x 6 0), .int .i64 (fi x 14 12), .int .i64 (fi x 19 15), .int .i64 (fi x 24 20), .int .i64 (sg (immOf (zx x) LB))] w fun r w' => r = .returned (.tuple #[.int .u32 (q x), .int .i64 0]) ∧ On w w' := by
  have h := B_any (fi x 6 0) (fi x 14 12) (fi x 19 15) (fi x 24 20) (sg (immOf (zx x) LB)) (fi_i64 _ _ _) (fi_i64 _ _ _) (fi_i64 _ _ _) (fi_i64 _ _ _) w
  have e := asm_good (fitB x) (immOf_inr sameB (zx x)) (immOf_ins sameB (zx x))
  rw [wd_sg, imm_again sameB x _ (clearB (fitB x)) (fun j hj hs => by
    have hc := coverB j hj
    rw [hs] at hc
    rw [lay_bit (fitB x) j hj, ← lb_word x j hj]
    simp at hc
    unfold lb
    repeat' split
    all_goals first | rfl | omega)] at e
  rw [e.1, e.2] at h
  exact h
theorem U_back (op rd imm : Int) (hop : I64 op) (hrd : I64 rd) : ∃ (x : BitVec 32) (e : Int),
    (∀ w : World, Calls Try.prog 38 #[.int .i64 op, .int .i64 rd, .int .i64 imm] w fun r w' => r = .returned (.tuple #[.int .u32 (q x), .int .i64 e]) ∧ On w w') ∧
    ((e != 0) = false → (fi x 6 0 == op) = true) ∧ ((e != 0) = false → (u (immOf (zx x) LU) == u (wd64 imm)) = true) :=
  ⟨asmW op rd 0 0 0 0 imm LU, asmE op rd 0 0 0 0 imm LU, U_any op rd imm hop hrd,
    fun h => by obtain ⟨hF, hR, hS, hw⟩ := asm_ok (ok_of h); have e : fi (asmW op rd 0 0 0 0 imm LU) 6 0 = op := (by rw [hw]; exact laid_field (hi := 6) (lo := 0) (k := 7) rfl hF (Fit_parts hF).1 rfl (by omega) (by omega) (by decide +kernel) (fun i hi => lb_op _ _ _ _ _ _ i hi)); rw [e]; simp,
    fun h => by obtain ⟨hF, hR, hS, hw⟩ := asm_ok (ok_of h); rw [hw, imm_back sameU _ imm (clearU hF) hR hS]; simp⟩
theorem fitU (x : BitVec 32) : Fit (fi x 6 0) (fi x 11 7) 0 0 0 0 = true := Fit_of (fi_in x (hi := 6) (lo := 0) rfl) (fi_in x (hi := 11) (lo := 7) rfl) (In_zero _) (In_zero _) (In_zero _) (In_zero _)
theorem U_again (x : BitVec 32) (w : World) :
    Calls Try.prog 38 #[.int .i64 (fi x 6 0), .int .i64 (fi x 11 7), .int .i64 (sg (immOf (zx x) LU))] w fun r w' => r = .returned (.tuple #[.int .u32 (q x), .int .i64 0]) ∧ On w w' := by
  have h := U_any (fi x 6 0) (fi x 11 7) (sg (immOf (zx x) LU)) (fi_i64 _ _ _) (fi_i64 _ _ _) w
  have e := asm_good (fitU x) (immOf_inr sameU (zx x)) (immOf_ins sameU (zx x))
  rw [wd_sg, imm_again sameU x _ (clearU (fitU x)) (fun j hj hs => by
    have hc := coverU j hj
    rw [hs] at hc
    rw [lay_bit (fitU x) j hj, ← lb_word x j hj]
    simp at hc
    unfold lb
    repeat' split
    all_goals first | rfl | omega)] at e
  rw [e.1, e.2] at h
  exact h
theorem J_back (op rd imm : Int) (hop : I64 op) (hrd : I64 rd) : ∃ (x : BitVec 32) (e : Int),
    (∀ w : World, Calls Try.prog 40 #[.int .i64 op, .int .i64 rd, .int .i64 imm] w fun r w' => r = .returned (.tuple #[.int .u32 (q x), .int .i64 e]) ∧ On w w') ∧
    ((e != 0) = false → (fi x 11 7 == rd) = true) ∧ ((e != 0) = false → (u (immOf (zx x) LJ) == u (wd64 imm)) = true) :=
  ⟨asmW op rd 0 0 0 0 imm LJ, asmE op rd 0 0 0 0 imm LJ, J_any op rd imm hop hrd,
    fun h => by obtain ⟨hF, hR, hS, hw⟩ := asm_ok (ok_of h); have e : fi (asmW op rd 0 0 0 0 imm LJ) 11 7 = rd := (by rw [hw]; exact laid_field (hi := 11) (lo := 7) (k := 5) rfl hF (Fit_parts hF).2.1 rfl (by omega) (by omega) (by decide +kernel) (fun i hi => lb_rd _ _ _ _ _ _ i hi)); rw [e]; simp,
    fun h => by obtain ⟨hF, hR, hS, hw⟩ := asm_ok (ok_of h); rw [hw, imm_back sameJ _ imm (clearJ hF) hR hS]; simp⟩
theorem fitJ (x : BitVec 32) : Fit (fi x 6 0) (fi x 11 7) 0 0 0 0 = true := Fit_of (fi_in x (hi := 6) (lo := 0) rfl) (fi_in x (hi := 11) (lo := 7) rfl) (In_zero _) (In_zero _) (In_zero _) (In_zero _)
theorem J_again (x : BitVec 32) (w : World) :
    Calls Try.prog 40 #[.int .i64 (fi x 6 0), .int .i64 (fi x 11 7), .int .i64 (sg (immOf (zx x) LJ))] w fun r w' => r = .returned (.tuple #[.int .u32 (q x), .int .i64 0]) ∧ On w w' := by
  have h := J_any (fi x 6 0) (fi x 11 7) (sg (immOf (zx x) LJ)) (fi_i64 _ _ _) (fi_i64 _ _ _) w
  have e := asm_good (fitJ x) (immOf_inr sameJ (zx x)) (immOf_ins sameJ (zx x))
  rw [wd_sg, imm_again sameJ x _ (clearJ (fitJ x)) (fun j hj hs => by
    have hc := coverJ j hj
    rw [hs] at hc
    rw [lay_bit (fitJ x) j hj, ← lb_word x j hj]
    simp at hc
    unfold lb
    repeat' split
    all_goals first | rfl | omega)] at e
  rw [e.1, e.2] at h
  exact h
end Go.Proofs.Ytfmnkammfpodaaa
