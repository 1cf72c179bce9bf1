/- What the fields of package shape and of its reference come to. Conditions: named at each. -/
import Derived.Test.YthcdgjpdnlickaaDoorShape1
import Derived.Test.YthcdgjpdnlickaaDoorLoops
namespace Go.Proofs.YthcdgjpdnlickaaDoor
open Go.RowKit

theorem fld_lt (x : BitVec 32) (hi lo : Int) : u (fld (zx x) hi lo) < 4294967296 := by
  have hz : u (zx x) < 4294967296 := by rw [← q_zx]; exact q_lt x
  unfold fld
  by_cases h : Ends hi lo
  · rw [if_pos h]
    unfold u at *
    rw [BitVec.toNat_and, BitVec.toNat_ushiftRight]
    have h1 : (zx x).toNat >>> lo.toNat &&& (low (hi - lo + 1).toNat).toNat ≤ (zx x).toNat >>> lo.toNat := Nat.and_le_left
    have h2 : (zx x).toNat >>> lo.toNat ≤ (zx x).toNat := Nat.shiftRight_le _ _
    omega
  · rw [if_neg h]; decide +kernel
/-- a field of a word as an int -/
def fi (x : BitVec 32) (hi lo : Int) : Int := u (fld (zx x) hi lo)
theorem fi_nonneg (x : BitVec 32) (hi lo : Int) : 0 ≤ fi x hi lo := u_nonneg _
theorem fi_lt (x : BitVec 32) (hi lo : Int) : fi x hi lo < 4294967296 := fld_lt x hi lo
theorem field_int (x : BitVec 32) (hi lo : Int) (w : World) :
    Calls Tryd.prog 59 #[.int .u32 (q x), .int .i64 hi, .int .i64 lo] w fun e w' => e = .returned (.int .i64 (fi x hi lo)) ∧ On w w' := by
  have e0 := wrap_zx x
  have h1 := fld_lt x hi lo
  have h2 := u_nonneg (fld (zx x) hi lo)
  go_enter Tryd.func59, Tryd.ntmps59
  go_wp2_with (first | (go_at_call 85; refine (field_on _ _ _ _).mono ?_; rintro e w1 ⟨rfl, hb1⟩; have HB1 := Lib.hid hb1; clear hb1))
  go_ret
  exact ⟨rfl, HB1.out⟩
theorem ref_F (x : BitVec 32) (hi lo : Int) (w : World) :
    Calls Tryd.prog 95 #[.int .u32 (q x), .int .i64 hi, .int .i64 lo] w fun e w' => e = .returned (.int .i64 (fi x hi lo)) ∧ w = w' := by
  have e0 := wrap_zx x
  have h1 := fld_lt x hi lo
  have h2 := u_nonneg (fld (zx x) hi lo)
  go_enter Tryd.func95, Tryd.ntmps95
  go_wp2_with (first | (go_at_call 102; refine (ref_field_any _ _ _ _).mono ?_; rintro e w1 ⟨rfl, rfl⟩))
  go_ret
  exact ⟨rfl, rfl⟩
theorem opcode_any (x : BitVec 32) (w : World) :
    Calls Tryd.prog 25 #[.int .u32 (q x)] w fun e w' => e = .returned (.int .i64 (fi x 6 0)) ∧ On w w' := by
  go_enter Tryd.func25, Tryd.ntmps25
  go_wp2_with (first | (go_at_call 59; refine (field_int _ _ _ _).mono ?_; rintro e w1 ⟨rfl, hb1⟩; have HB1 := Lib.hid hb1; clear hb1))
  go_ret
  exact ⟨rfl, HB1.out⟩
theorem ref_opcode (x : BitVec 32) (w : World) :
    Calls Tryd.prog 79 #[.int .u32 (q x)] w fun e w' => e = .returned (.int .i64 (fi x 6 0)) ∧ w = w' := by
  go_enter Tryd.func79, Tryd.ntmps79
  go_wp2_with (first | (go_at_call 95; refine (ref_F _ _ _ _).mono ?_; rintro e w1 ⟨rfl, rfl⟩))
  go_ret
  exact ⟨rfl, rfl⟩
theorem rd_any (x : BitVec 32) (w : World) :
    Calls Tryd.prog 21 #[.int .u32 (q x)] w fun e w' => e = .returned (.int .i64 (fi x 11 7)) ∧ On w w' := by
  go_enter Tryd.func21, Tryd.ntmps21
  go_wp2_with (first | (go_at_call 59; refine (field_int _ _ _ _).mono ?_; rintro e w1 ⟨rfl, hb1⟩; have HB1 := Lib.hid hb1; clear hb1))
  go_ret
  exact ⟨rfl, HB1.out⟩
theorem ref_rd (x : BitVec 32) (w : World) :
    Calls Tryd.prog 74 #[.int .u32 (q x)] w fun e w' => e = .returned (.int .i64 (fi x 11 7)) ∧ w = w' := by
  go_enter Tryd.func74, Tryd.ntmps74
  go_wp2_with (first | (go_at_call 95; refine (ref_F _ _ _ _).mono ?_; rintro e w1 ⟨rfl, rfl⟩))
  go_ret
  exact ⟨rfl, rfl⟩
theorem rs1_any (x : BitVec 32) (w : World) :
    Calls Tryd.prog 22 #[.int .u32 (q x)] w fun e w' => e = .returned (.int .i64 (fi x 19 15)) ∧ On w w' := by
  go_enter Tryd.func22, Tryd.ntmps22
  go_wp2_with (first | (go_at_call 59; refine (field_int _ _ _ _).mono ?_; rintro e w1 ⟨rfl, hb1⟩; have HB1 := Lib.hid hb1; clear hb1))
  go_ret
  exact ⟨rfl, HB1.out⟩
theorem ref_rs1 (x : BitVec 32) (w : World) :
    Calls Tryd.prog 75 #[.int .u32 (q x)] w fun e w' => e = .returned (.int .i64 (fi x 19 15)) ∧ w = w' := by
  go_enter Tryd.func75, Tryd.ntmps75
  go_wp2_with (first | (go_at_call 95; refine (ref_F _ _ _ _).mono ?_; rintro e w1 ⟨rfl, rfl⟩))
  go_ret
  exact ⟨rfl, rfl⟩
theorem rs2_any (x : BitVec 32) (w : World) :
    Calls Tryd.prog 23 #[.int .u32 (q x)] w fun e w' => e = .returned (.int .i64 (fi x 24 20)) ∧ On w w' := by
  go_enter Tryd.func23, Tryd.ntmps23
  go_wp2_with (first | (go_at_call 59; refine (field_int _ _ _ _).mono ?_; rintro e w1 ⟨rfl, hb1⟩; have HB1 := Lib.hid hb1; clear hb1))
  go_ret
  exact ⟨rfl, HB1.out⟩
theorem ref_rs2 (x : BitVec 32) (w : World) :
    Calls Tryd.prog 76 #[.int .u32 (q x)] w fun e w' => e = .returned (.int .i64 (fi x 24 20)) ∧ w = w' := by
  go_enter Tryd.func76, Tryd.ntmps76
  go_wp2_with (first | (go_at_call 95; refine (ref_F _ _ _ _).mono ?_; rintro e w1 ⟨rfl, rfl⟩))
  go_ret
  exact ⟨rfl, rfl⟩
theorem funct3_any (x : BitVec 32) (w : World) :
    Calls Tryd.prog 24 #[.int .u32 (q x)] w fun e w' => e = .returned (.int .i64 (fi x 14 12)) ∧ On w w' := by
  go_enter Tryd.func24, Tryd.ntmps24
  go_wp2_with (first | (go_at_call 59; refine (field_int _ _ _ _).mono ?_; rintro e w1 ⟨rfl, hb1⟩; have HB1 := Lib.hid hb1; clear hb1))
  go_ret
  exact ⟨rfl, HB1.out⟩
theorem ref_funct3 (x : BitVec 32) (w : World) :
    Calls Tryd.prog 77 #[.int .u32 (q x)] w fun e w' => e = .returned (.int .i64 (fi x 14 12)) ∧ w = w' := by
  go_enter Tryd.func77, Tryd.ntmps77
  go_wp2_with (first | (go_at_call 95; refine (ref_F _ _ _ _).mono ?_; rintro e w1 ⟨rfl, rfl⟩))
  go_ret
  exact ⟨rfl, rfl⟩
theorem funct7_any (x : BitVec 32) (w : World) :
    Calls Tryd.prog 67 #[.int .u32 (q x)] w fun e w' => e = .returned (.int .i64 (fi x 31 25)) ∧ On w w' := by
  go_enter Tryd.func67, Tryd.ntmps67
  go_wp2_with (first | (go_at_call 59; refine (field_int _ _ _ _).mono ?_; rintro e w1 ⟨rfl, hb1⟩; have HB1 := Lib.hid hb1; clear hb1))
  go_ret
  exact ⟨rfl, HB1.out⟩
theorem ref_funct7 (x : BitVec 32) (w : World) :
    Calls Tryd.prog 78 #[.int .u32 (q x)] w fun e w' => e = .returned (.int .i64 (fi x 31 25)) ∧ w = w' := by
  go_enter Tryd.func78, Tryd.ntmps78
  go_wp2_with (first | (go_at_call 95; refine (ref_F _ _ _ _).mono ?_; rintro e w1 ⟨rfl, rfl⟩))
  go_ret
  exact ⟨rfl, rfl⟩
end Go.Proofs.YthcdgjpdnlickaaDoor
