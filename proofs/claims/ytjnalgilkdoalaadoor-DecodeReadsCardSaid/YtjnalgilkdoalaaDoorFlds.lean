/- What the fields of package shape and of its reference come to. Conditions: named at each. -/
import Derived.Test.YtjnalgilkdoalaaDoorShape1
import Derived.Test.YtjnalgilkdoalaaDoorLoops
namespace Go.Proofs.YtjnalgilkdoalaaDoor
open Go.RowKit

theorem fld_lt (x : BitVec 32) (hi lo : Int) : u (fld (zx x) hi lo) < 4294967296 := by
  have hz : u (zx x) < 4294967296 := by rw [← q_zx]; exact q_lt x
  unfold fld
  by_cases h : Ends hi lo
  · rw [if_pos h]
    unfold u at *
    rw [BitVec.toNat_and, BitVec.toNat_ushiftRight]
    have h1 : (zx x).toNat >>> lo.toNat &&& (low (hi - lo + 1).toNat).toNat ≤ (zx x).toNat >>> lo.toNat := Nat.and_le_left
    have h2 : (zx x).toNat >>> lo.toNat ≤ (zx x).toNat := Nat.shiftRight_le _ _
    omega
  · rw [if_neg h]; decide +kernel
/-- a field of a word as an int -/
def fi (x : BitVec 32) (hi lo : Int) : Int := u (fld (zx x) hi lo)
theorem fi_nonneg (x : BitVec 32) (hi lo : Int) : 0 ≤ fi x hi lo := u_nonneg _
theorem fi_lt (x : BitVec 32) (hi lo : Int) : fi x hi lo < 4294967296 := fld_lt x hi lo
theorem field_int (x : BitVec 32) (hi lo : Int) (w : World) :
    Calls Tryd.prog 33 #[.int .u32 (q x), .int .i64 hi, .int .i64 lo] w fun e w' => e = .returned (.int .i64 (fi x hi lo)) ∧ On w w' := by
  have e0 := wrap_zx x
  have h1 := fld_lt x hi lo
  have h2 := u_nonneg (fld (zx x) hi lo)
  go_enter Tryd.func33, Tryd.ntmps33
  go_wp2_with (first | (go_at_call 66; refine (field_on _ _ _ _).mono ?_; rintro e w1 ⟨rfl, hb1⟩; have HB1 := Lib.hid hb1; clear hb1))
  go_ret
  exact ⟨rfl, HB1.out⟩
theorem ref_F (x : BitVec 32) (hi lo : Int) (w : World) :
    Calls Tryd.prog 96 #[.int .u32 (q x), .int .i64 hi, .int .i64 lo] w fun e w' => e = .returned (.int .i64 (fi x hi lo)) ∧ w = w' := by
  have e0 := wrap_zx x
  have h1 := fld_lt x hi lo
  have h2 := u_nonneg (fld (zx x) hi lo)
  go_enter Tryd.func96, Tryd.ntmps96
  go_wp2_with (first | (go_at_call 100; refine (ref_field_any _ _ _ _).mono ?_; rintro e w1 ⟨rfl, rfl⟩))
  go_ret
  exact ⟨rfl, rfl⟩
theorem opcode_any (x : BitVec 32) (w : World) :
    Calls Tryd.prog 20 #[.int .u32 (q x)] w fun e w' => e = .returned (.int .i64 (fi x 6 0)) ∧ On w w' := by
  go_enter Tryd.func20, Tryd.ntmps20
  go_wp2_with (first | (go_at_call 33; refine (field_int _ _ _ _).mono ?_; rintro e w1 ⟨rfl, hb1⟩; have HB1 := Lib.hid hb1; clear hb1))
  go_ret
  exact ⟨rfl, HB1.out⟩
theorem ref_opcode (x : BitVec 32) (w : World) :
    Calls Tryd.prog 82 #[.int .u32 (q x)] w fun e w' => e = .returned (.int .i64 (fi x 6 0)) ∧ w = w' := by
  go_enter Tryd.func82, Tryd.ntmps82
  go_wp2_with (first | (go_at_call 96; refine (ref_F _ _ _ _).mono ?_; rintro e w1 ⟨rfl, rfl⟩))
  go_ret
  exact ⟨rfl, rfl⟩
theorem rd_any (x : BitVec 32) (w : World) :
    Calls Tryd.prog 16 #[.int .u32 (q x)] w fun e w' => e = .returned (.int .i64 (fi x 11 7)) ∧ On w w' := by
  go_enter Tryd.func16, Tryd.ntmps16
  go_wp2_with (first | (go_at_call 33; refine (field_int _ _ _ _).mono ?_; rintro e w1 ⟨rfl, hb1⟩; have HB1 := Lib.hid hb1; clear hb1))
  go_ret
  exact ⟨rfl, HB1.out⟩
theorem ref_rd (x : BitVec 32) (w : World) :
    Calls Tryd.prog 77 #[.int .u32 (q x)] w fun e w' => e = .returned (.int .i64 (fi x 11 7)) ∧ w = w' := by
  go_enter Tryd.func77, Tryd.ntmps77
  go_wp2_with (first | (go_at_call 96; refine (ref_F _ _ _ _).mono ?_; rintro e w1 ⟨rfl, rfl⟩))
  go_ret
  exact ⟨rfl, rfl⟩
theorem rs1_any (x : BitVec 32) (w : World) :
    Calls Tryd.prog 17 #[.int .u32 (q x)] w fun e w' => e = .returned (.int .i64 (fi x 19 15)) ∧ On w w' := by
  go_enter Tryd.func17, Tryd.ntmps17
  go_wp2_with (first | (go_at_call 33; refine (field_int _ _ _ _).mono ?_; rintro e w1 ⟨rfl, hb1⟩; have HB1 := Lib.hid hb1; clear hb1))
  go_ret
  exact ⟨rfl, HB1.out⟩
theorem ref_rs1 (x : BitVec 32) (w : World) :
    Calls Tryd.prog 78 #[.int .u32 (q x)] w fun e w' => e = .returned (.int .i64 (fi x 19 15)) ∧ w = w' := by
  go_enter Tryd.func78, Tryd.ntmps78
  go_wp2_with (first | (go_at_call 96; refine (ref_F _ _ _ _).mono ?_; rintro e w1 ⟨rfl, rfl⟩))
  go_ret
  exact ⟨rfl, rfl⟩
theorem rs2_any (x : BitVec 32) (w : World) :
    Calls Tryd.prog 18 #[.int .u32 (q x)] w fun e w' => e = .returned (.int .i64 (fi x 24 20)) ∧ On w w' := by
  go_enter Tryd.func18, Tryd.ntmps18
  go_wp2_with (first | (go_at_call 33; refine (field_int _ _ _ _).mono ?_; rintro e w1 ⟨rfl, hb1⟩; have HB1 := Lib.hid hb1; clear hb1))
  go_ret
  exact ⟨rfl, HB1.out⟩
theorem ref_rs2 (x : BitVec 32) (w : World) :
    Calls Tryd.prog 79 #[.int .u32 (q x)] w fun e w' => e = .returned (.int .i64 (fi x 24 20)) ∧ w = w' := by
  go_enter Tryd.func79, Tryd.ntmps79
  go_wp2_with (first | (go_at_call 96; refine (ref_F _ _ _ _).mono ?_; rintro e w1 ⟨rfl, rfl⟩))
  go_ret
  exact ⟨rfl, rfl⟩
theorem funct3_any (x : BitVec 32) (w : World) :
    Calls Tryd.prog 19 #[.int .u32 (q x)] w fun e w' => e = .returned (.int .i64 (fi x 14 12)) ∧ On w w' := by
  go_enter Tryd.func19, Tryd.ntmps19
  go_wp2_with (first | (go_at_call 33; refine (field_int _ _ _ _).mono ?_; rintro e w1 ⟨rfl, hb1⟩; have HB1 := Lib.hid hb1; clear hb1))
  go_ret
  exact ⟨rfl, HB1.out⟩
theorem ref_funct3 (x : BitVec 32) (w : World) :
    Calls Tryd.prog 80 #[.int .u32 (q x)] w fun e w' => e = .returned (.int .i64 (fi x 14 12)) ∧ w = w' := by
  go_enter Tryd.func80, Tryd.ntmps80
  go_wp2_with (first | (go_at_call 96; refine (ref_F _ _ _ _).mono ?_; rintro e w1 ⟨rfl, rfl⟩))
  go_ret
  exact ⟨rfl, rfl⟩
theorem funct7_any (x : BitVec 32) (w : World) :
    Calls Tryd.prog 41 #[.int .u32 (q x)] w fun e w' => e = .returned (.int .i64 (fi x 31 25)) ∧ On w w' := by
  go_enter Tryd.func41, Tryd.ntmps41
  go_wp2_with (first | (go_at_call 33; refine (field_int _ _ _ _).mono ?_; rintro e w1 ⟨rfl, hb1⟩; have HB1 := Lib.hid hb1; clear hb1))
  go_ret
  exact ⟨rfl, HB1.out⟩
theorem ref_funct7 (x : BitVec 32) (w : World) :
    Calls Tryd.prog 81 #[.int .u32 (q x)] w fun e w' => e = .returned (.int .i64 (fi x 31 25)) ∧ w = w' := by
  go_enter Tryd.func81, Tryd.ntmps81
  go_wp2_with (first | (go_at_call 96; refine (ref_F _ _ _ _).mono ?_; rintro e w1 ⟨rfl, rfl⟩))
  go_ret
  exact ⟨rfl, rfl⟩
end Go.Proofs.YtjnalgilkdoalaaDoor
