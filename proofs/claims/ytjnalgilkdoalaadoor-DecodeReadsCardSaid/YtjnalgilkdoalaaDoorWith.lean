/- What With, fields and lay of the reference of package shape come to. Conditions: named at each. -/
import Derived.Test.YtjnalgilkdoalaaDoorFrom
namespace Go.Proofs.YtjnalgilkdoalaaDoor
open Go.RowKit

theorem withTo_yes (w : BitVec 32) (F : List Int) (x : BitVec 64) (k : Nat) (h : 0 ≤ F.getD k 0) :
    withTo w F x (k + 1) = withTo w F x k &&& ~~~((1 : BitVec 32) <<< (F.getD k 0).toNat) ||| lo32 (x >>> k &&& 1) <<< (F.getD k 0).toNat := by
  conv => lhs; unfold withTo
  rw [if_pos h]
theorem withTo_no (w : BitVec 32) (F : List Int) (x : BitVec 64) (k : Nat) (h : ¬ 0 ≤ F.getD k 0) : withTo w F x (k + 1) = withTo w F x k := by
  conv => lhs; unfold withTo
  rw [if_neg h]
theorem with_code (W : BitVec 32) (v : BitVec 64) (k : Nat) (f : Int) :
    bits BinOp.or IntKind.u32 (bits BinOp.andNot IntKind.u32 (q W) (2 ^ f.toNat % 4294967296)) (bits BinOp.and IntKind.u64 (u v / 2 ^ k) 1 % 4294967296 * 2 ^ f.toNat % 4294967296) =
      q (W &&& ~~~((1 : BitVec 32) <<< f.toNat) ||| lo32 (v >>> k &&& 1) <<< f.toNat) := by
  have e1 : (2 : Int) ^ f.toNat % 4294967296 = q ((1 : BitVec 32) <<< f.toNat) := by rw [← q_one_shl, wrap32_u32, Int.one_mul]
  rw [e1, u_shr, u_and1, mod_lo, ← wrap32_u32, q_shl, q_andNot, q_or]
theorem refWith_of (c : Int) (F : List Int) (n : Nat) (hn : F.length = n) (hn64 : n ≤ 64) (hF : ∀ k, F.getD k 0 < 32)
    (hfrom : ∀ w : World, Calls Tryd.prog 95 #[.int .u8 c] w fun e w' => e = .returned (.slice (some ⟨w.heap.size, 0, none⟩) n n) ∧ Nums w' w.heap.size F ∧ On w w')
    (x : BitVec 32) (imm : Int) (w : World) :
    Calls Tryd.prog 75 #[.int .u32 (q x), .int .u8 c, .int .i64 imm] w fun e w' => e = .returned (.int .u32 (q (withTo x F (wd64 imm) F.length))) ∧ On w w' := by
  rw [hn]
  have e0 := wrap_wd imm
  have HF := Lib.hid hF
  have Hfrom := Lib.hid hfrom
  have Hn := Lib.hid hn
  clear hF hfrom hn
  go_enter Tryd.func75, Tryd.ntmps75
  go_wp2_with (go_at_call 95; refine (Hfrom.out _).mono ?_; rintro e w1 ⟨rfl, hs, hb1⟩; have HS := Lib.hid hs; have HB1 := Lib.hid hb1; clear hs hb1)
  go_loopw [0, 8] (fun m i wr => ∃ k : Nat, k ≤ n ∧ i = .int .i64 k ∧ m = .int .u32 (q (withTo x F (wd64 imm) k)) ∧ wr = w1) (fun _ i _ => (n - intOf i).toNat)
  case atStart => exact ⟨0, by omega, rfl, rfl, rfl⟩
  case round =>
    obtain ⟨k, hk, rfl, rfl, hw⟩ := hrel
    subst hw
    by_cases hlt : k < n
    · have g1 := HS.out.2 k (by rw [Hn.out]; exact hlt)
      have hf1 := HF.out k
      have i0 : (0 : Int) ≤ (k : Int) := by omega
      have i1 : (k : Int) < (n : Int) := by omega
      by_cases h0 : 0 ≤ F.getD k 0
      · have Hst := Lib.hid (withTo_yes x F (wd64 imm) k h0)
        obtain ⟨f, hf⟩ : ∃ f, F.getD k 0 = f := ⟨_, rfl⟩
        rw [hf] at g1 hf1 h0 Hst
        clear hf
        have e0 : decide (0 ≤ f) = true := decide_eq_true h0
        go_wp2_with fail
        exact ⟨⟨k + 1, by omega, by go_num, by rw [Hst.out, with_code], trivial⟩, by simp [intOf]; omega⟩
      · have Hst := Lib.hid (withTo_no x F (wd64 imm) k h0)
        obtain ⟨f, hf⟩ : ∃ f, F.getD k 0 = f := ⟨_, rfl⟩
        rw [hf] at g1 hf1 h0
        clear hf
        have e0 : decide (0 ≤ f) = false := decide_eq_false h0
        go_wp2_with fail
        exact ⟨⟨k + 1, by omega, by go_num, by rw [Hst.out], trivial⟩, by simp [intOf]; omega⟩
    · have Hk : Hid (k = n) := Lib.hid (by omega)
      go_wp2_with fail
      go_ret
      exact ⟨by rw [Hk.out]; rfl, HB1.out⟩
theorem FI_lt (k : Nat) : FI.getD k 0 < 32 := by
  by_cases h : k < 12
  · revert h; revert k; decide +kernel
  · rw [List.getD_eq_getElem?_getD, List.getElem?_eq_none (by show 12 ≤ k; omega)]; decide
theorem refImmI (x : BitVec 32) (w : World) :
    Calls Tryd.prog 83 #[.int .u32 (q x), .int .u8 73] w fun e w' => e = .returned (.int .u64 (u (immOf (zx x) LI))) ∧ On w w' := by
  rw [immOf_ref sameI]
  exact refImm_of 73 FI 12 rfl (by omega) (fun k => Int.lt_trans (FI_lt k) (by omega)) fromI_any x w
theorem refWithI (x : BitVec 32) (imm : Int) (w : World) :
    Calls Tryd.prog 75 #[.int .u32 (q x), .int .u8 73, .int .i64 imm] w fun e w' => e = .returned (.int .u32 (q (withTo x FI (wd64 imm) FI.length))) ∧ On w w' :=
  refWith_of 73 FI 12 rfl (by omega) FI_lt fromI_any x imm w
theorem FS_lt (k : Nat) : FS.getD k 0 < 32 := by
  by_cases h : k < 12
  · revert h; revert k; decide +kernel
  · rw [List.getD_eq_getElem?_getD, List.getElem?_eq_none (by show 12 ≤ k; omega)]; decide
theorem refImmS (x : BitVec 32) (w : World) :
    Calls Tryd.prog 83 #[.int .u32 (q x), .int .u8 83] w fun e w' => e = .returned (.int .u64 (u (immOf (zx x) LS))) ∧ On w w' := by
  rw [immOf_ref sameS]
  exact refImm_of 83 FS 12 rfl (by omega) (fun k => Int.lt_trans (FS_lt k) (by omega)) fromS_any x w
theorem refWithS (x : BitVec 32) (imm : Int) (w : World) :
    Calls Tryd.prog 75 #[.int .u32 (q x), .int .u8 83, .int .i64 imm] w fun e w' => e = .returned (.int .u32 (q (withTo x FS (wd64 imm) FS.length))) ∧ On w w' :=
  refWith_of 83 FS 12 rfl (by omega) FS_lt fromS_any x imm w
theorem FB_lt (k : Nat) : FB.getD k 0 < 32 := by
  by_cases h : k < 13
  · revert h; revert k; decide +kernel
  · rw [List.getD_eq_getElem?_getD, List.getElem?_eq_none (by show 13 ≤ k; omega)]; decide
theorem refImmB (x : BitVec 32) (w : World) :
    Calls Tryd.prog 83 #[.int .u32 (q x), .int .u8 66] w fun e w' => e = .returned (.int .u64 (u (immOf (zx x) LB))) ∧ On w w' := by
  rw [immOf_ref sameB]
  exact refImm_of 66 FB 13 rfl (by omega) (fun k => Int.lt_trans (FB_lt k) (by omega)) fromB_any x w
theorem refWithB (x : BitVec 32) (imm : Int) (w : World) :
    Calls Tryd.prog 75 #[.int .u32 (q x), .int .u8 66, .int .i64 imm] w fun e w' => e = .returned (.int .u32 (q (withTo x FB (wd64 imm) FB.length))) ∧ On w w' :=
  refWith_of 66 FB 13 rfl (by omega) FB_lt fromB_any x imm w
theorem FU_lt (k : Nat) : FU.getD k 0 < 32 := by
  by_cases h : k < 32
  · revert h; revert k; decide +kernel
  · rw [List.getD_eq_getElem?_getD, List.getElem?_eq_none (by show 32 ≤ k; omega)]; decide
theorem refImmU (x : BitVec 32) (w : World) :
    Calls Tryd.prog 83 #[.int .u32 (q x), .int .u8 85] w fun e w' => e = .returned (.int .u64 (u (immOf (zx x) LU))) ∧ On w w' := by
  rw [immOf_ref sameU]
  exact refImm_of 85 FU 32 rfl (by omega) (fun k => Int.lt_trans (FU_lt k) (by omega)) fromU_any x w
theorem refWithU (x : BitVec 32) (imm : Int) (w : World) :
    Calls Tryd.prog 75 #[.int .u32 (q x), .int .u8 85, .int .i64 imm] w fun e w' => e = .returned (.int .u32 (q (withTo x FU (wd64 imm) FU.length))) ∧ On w w' :=
  refWith_of 85 FU 32 rfl (by omega) FU_lt fromU_any x imm w
theorem FJ_lt (k : Nat) : FJ.getD k 0 < 32 := by
  by_cases h : k < 21
  · revert h; revert k; decide +kernel
  · rw [List.getD_eq_getElem?_getD, List.getElem?_eq_none (by show 21 ≤ k; omega)]; decide
theorem refImmJ (x : BitVec 32) (w : World) :
    Calls Tryd.prog 83 #[.int .u32 (q x), .int .u8 74] w fun e w' => e = .returned (.int .u64 (u (immOf (zx x) LJ))) ∧ On w w' := by
  rw [immOf_ref sameJ]
  exact refImm_of 74 FJ 21 rfl (by omega) (fun k => Int.lt_trans (FJ_lt k) (by omega)) fromJ_any x w
theorem refWithJ (x : BitVec 32) (imm : Int) (w : World) :
    Calls Tryd.prog 75 #[.int .u32 (q x), .int .u8 74, .int .i64 imm] w fun e w' => e = .returned (.int .u32 (q (withTo x FJ (wd64 imm) FJ.length))) ∧ On w w' :=
  refWith_of 74 FJ 21 rfl (by omega) FJ_lt fromJ_any x imm w
theorem lay_shift (n : Int) (k : Nat) (m : Int) (hm : m = 2 ^ k) : n % 4294967296 * m % 4294967296 = q (BitVec.ofInt 32 n <<< k) := by
  rw [hm, ← q_shl, ← q_ofInt, wrap32_u32, wrap32_u32]
theorem lay_code (op rd f3 rs1 rs2 f7 : Int) :
    bits BinOp.or IntKind.u32 (bits BinOp.or IntKind.u32 (bits BinOp.or IntKind.u32 (bits BinOp.or IntKind.u32 (bits BinOp.or IntKind.u32 (op % 4294967296) (rd % 4294967296 * 128 % 4294967296)) (f3 % 4294967296 * 4096 % 4294967296)) (rs1 % 4294967296 * 32768 % 4294967296)) (rs2 % 4294967296 * 1048576 % 4294967296)) (f7 % 4294967296 * 33554432 % 4294967296) = q (lay op rd f3 rs1 rs2 f7) := by
  rw [lay_shift rd 7 128 (by decide), lay_shift f3 12 4096 (by decide), lay_shift rs1 15 32768 (by decide), lay_shift rs2 20 1048576 (by decide), lay_shift f7 25 33554432 (by decide), ← wrap32_u32, q_ofInt op, q_or, q_or, q_or, q_or, q_or]
  rfl
theorem lay_any (op rd f3 rs1 rs2 f7 : Int) (w : World) :
    Calls Tryd.prog 76 #[.int .i64 op, .int .i64 rd, .int .i64 f3, .int .i64 rs1, .int .i64 rs2, .int .i64 f7] w fun e w' => e = .returned (.int .u32 (q (lay op rd f3 rs1 rs2 f7))) ∧ w = w' := by
  have H := Lib.hid (lay_code op rd f3 rs1 rs2 f7)
  go_enter Tryd.func76, Tryd.ntmps76
  go_wp2_with fail
  go_ret
  exact ⟨by rw [← H.out]; rfl, rfl⟩
/-- are these registers? -/
def regsOk (F : List Int) : Bool := F.all fun r => In r 5
/-- the error of fields: 1, or none -/
def fldE (op f3 f7 : Int) (F : List Int) : Int := if In op 7 && In f3 3 && In f7 7 && regsOk F then 0 else 1
theorem fldE_bad {op f3 f7 : Int} {F : List Int} (h : In op 7 = false ∨ In f3 3 = false ∨ In f7 7 = false ∨ regsOk F = false) : fldE op f3 f7 F = 1 := by
  unfold fldE
  rcases h with h | h | h | h
  · rw [h]; rfl
  · rw [h, Bool.and_false]; rfl
  · rw [h, Bool.and_false]; rfl
  · rw [h, Bool.and_false]; rfl
theorem In_neg {n : Int} {k : Nat} (h : n < 0) : In n k = false := by unfold In; rw [decide_eq_false (by omega)]; rfl
theorem In_big {n : Int} {k : Nat} (h : 2 ^ k ≤ n) : In n k = false := by unfold In; rw [decide_eq_false (show ¬ n < 2 ^ k by omega), Bool.and_false]
theorem In_yes {n : Int} {k : Nat} (h : 0 ≤ n) (h2 : n < 2 ^ k) : In n k = true := by unfold In; rw [decide_eq_true h, decide_eq_true h2]; rfl
theorem regs_next {F : List Int} {k : Nat} (hk : k < F.length) (h : regsOk (F.take k) = true) (h2 : In (F.getD k 0) 5 = true) : regsOk (F.take (k + 1)) = true := by
  have e : F[k]? = some (F.getD k 0) := by rw [List.getD_eq_getElem?_getD, List.getElem?_eq_getElem hk]; rfl
  unfold regsOk at *
  rw [take_at e, List.all_append, h, List.all_cons, h2]; rfl
theorem regs_bad {F : List Int} {k : Nat} (hk : k < F.length) (h2 : In (F.getD k 0) 5 = false) : regsOk F = false := by
  have e : F[k]? = some (F.getD k 0) := by rw [List.getD_eq_getElem?_getD, List.getElem?_eq_getElem hk]; rfl
  cases c : regsOk F
  · rfl
  · exact absurd (List.all_eq_true.1 c _ (List.mem_of_getElem? e)) (by rw [h2]; simp)
theorem fields_of (op f3 f7 : Int) (b n : Nat) (F : List Int) (hn : F.length = n) (hl : n ≤ 10) (w : World) (hs : Nums w b F) :
    Calls Tryd.prog 74 #[.int .i64 op, .int .i64 f3, .int .i64 f7, .slice (some ⟨b, 0, none⟩) n n] w fun e w' =>
      e = .returned (.int .i64 (fldE op f3 f7 F)) ∧ w = w' := by
  have HS := Lib.hid hs
  have Hn := Lib.hid hn
  clear hs hn
  by_cases h1 : op < 0
  · have Hb := Lib.hid (fldE_bad (F := F) (f3 := f3) (f7 := f7) (.inl (In_neg (n := op) (k := 7) h1)))
    go_enter Tryd.func74, Tryd.ntmps74
    go_wp2_with fail
    go_ret
    exact ⟨by rw [Hb.out]; rfl, rfl⟩
  by_cases h2 : 127 < op
  · have Hb := Lib.hid (fldE_bad (F := F) (f3 := f3) (f7 := f7) (.inl (In_big (n := op) (k := 7) (by omega))))
    go_enter Tryd.func74, Tryd.ntmps74
    go_wp2_with fail
    go_ret
    exact ⟨by rw [Hb.out]; rfl, rfl⟩
  by_cases h3 : f3 < 0
  · have Hb := Lib.hid (fldE_bad (F := F) (op := op) (f7 := f7) (.inr (.inl (In_neg (n := f3) (k := 3) h3))))
    go_enter Tryd.func74, Tryd.ntmps74
    go_wp2_with fail
    go_ret
    exact ⟨by rw [Hb.out]; rfl, rfl⟩
  by_cases h4 : 7 < f3
  · have Hb := Lib.hid (fldE_bad (F := F) (op := op) (f7 := f7) (.inr (.inl (In_big (n := f3) (k := 3) (by omega)))))
    go_enter Tryd.func74, Tryd.ntmps74
    go_wp2_with fail
    go_ret
    exact ⟨by rw [Hb.out]; rfl, rfl⟩
  by_cases h5 : f7 < 0
  · have Hb := Lib.hid (fldE_bad (F := F) (op := op) (f3 := f3) (.inr (.inr (.inl (In_neg (n := f7) (k := 7) h5)))))
    go_enter Tryd.func74, Tryd.ntmps74
    go_wp2_with fail
    go_ret
    exact ⟨by rw [Hb.out]; rfl, rfl⟩
  by_cases h6 : 127 < f7
  · have Hb := Lib.hid (fldE_bad (F := F) (op := op) (f3 := f3) (.inr (.inr (.inl (In_big (n := f7) (k := 7) (by omega))))))
    go_enter Tryd.func74, Tryd.ntmps74
    go_wp2_with fail
    go_ret
    exact ⟨by rw [Hb.out]; rfl, rfl⟩
  have Hg : Hid (In op 7 = true ∧ In f3 3 = true ∧ In f7 7 = true) := Lib.hid ⟨In_yes (by omega) (by omega), In_yes (by omega) (by omega), In_yes (by omega) (by omega)⟩
  go_enter Tryd.func74, Tryd.ntmps74
  go_wp2_with fail
  go_loopw [9] (fun i wr => ∃ k : Nat, k ≤ n ∧ i = .int .i64 k ∧ Hid (regsOk (F.take k) = true) ∧ wr = w) (fun i _ => (n - intOf i).toNat)
  case atStart => exact ⟨0, by omega, rfl, Lib.hid rfl, rfl⟩
  case round =>
    obtain ⟨k, hk, rfl, hr, hw⟩ := hrel
    subst hw
    by_cases hlt : k < n
    · have g1 := HS.out.2 k (by rw [Hn.out]; exact hlt)
      have i0 : (0 : Int) ≤ (k : Int) := by omega
      have i1 : (k : Int) < (n : Int) := by omega
      obtain ⟨f, hf⟩ : ∃ f, F.getD k 0 = f := ⟨_, rfl⟩
      rw [hf] at g1
      have Hf := Lib.hid hf
      clear hf
      by_cases h7 : f < 0
      · have Hb := Lib.hid (fldE_bad (op := op) (f3 := f3) (f7 := f7) (.inr (.inr (.inr (regs_bad (F := F) (k := k) (by rw [Hn.out]; exact hlt) (by rw [Hf.out]; exact In_neg h7))))))
        have e1 : decide (f < 0) = true := decide_eq_true h7
        go_wp2_with fail
        go_ret
        exact ⟨by rw [Hb.out]; rfl, rfl⟩
      have e1 : decide (f < 0) = false := decide_eq_false h7
      by_cases h8 : 31 < f
      · have Hb := Lib.hid (fldE_bad (op := op) (f3 := f3) (f7 := f7) (.inr (.inr (.inr (regs_bad (F := F) (k := k) (by rw [Hn.out]; exact hlt) (by rw [Hf.out]; exact In_big (by omega)))))))
        have e2 : decide (31 < f) = true := decide_eq_true h8
        go_wp2_with fail
        go_ret
        exact ⟨by rw [Hb.out]; rfl, rfl⟩
      have e2 : decide (31 < f) = false := decide_eq_false h8
      have Hx := Lib.hid (regs_next (F := F) (k := k) (by rw [Hn.out]; exact hlt) hr.out (by rw [Hf.out]; exact In_yes (by omega) (by omega)))
      go_wp2_with fail
      exact ⟨⟨k + 1, by omega, by go_num, Hx, trivial⟩, by simp [intOf]; omega⟩
    · have Hk : Hid (F.take k = F) := Lib.hid (by rw [show k = F.length by rw [Hn.out]; omega, List.take_length])
      have Hb : Hid (fldE op f3 f7 F = 0) := Lib.hid (by have := hr.out; rw [Hk.out] at this; unfold fldE; rw [Hg.out.1, Hg.out.2.1, Hg.out.2.2, this]; rfl)
      go_wp2_with fail
      go_ret
      exact ⟨by rw [Hb.out]; rfl, rfl⟩
end Go.Proofs.YtjnalgilkdoalaaDoor
