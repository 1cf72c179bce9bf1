/- What the plain calls of package muldiv come to, as words of 64 bits: halves, the high half, what a task comes to. Conditions: none. -/
import Derived.Test.YtapaddbgmbkelaaMulW
import Derived.Test.YtapaddbgmbkelaaOn
import Derived.Test.YtapaddbgmbkelaaRows
import Derived.WalkKit
import Derived.ProofKit
import Derived.Lib.Hide
import Derived.IntWalk
import Derived.BigQuiet
import Derived.Deep.QuietTactic
namespace Go.Proofs.Ytapaddbgmbkelaa
open Go.RowKit

theorem mextend_any (v : BitVec 64) (w : World) :
    Calls Try.prog 30 #[.int .u64 (u v)] w fun e w' => e = .returned (.int .u64 (u (s32 v))) ∧ w = w' := by
  have H : Hid (IntKind.u64.wrap (wrap32 (u v)) = u (s32 v)) := Lib.hid (by rw [← IntWalk.i32_left]; exact wrap_s32 v)
  go_enter Try.func30, Try.ntmps30
  go_wp2
  go_ret
  exact ⟨by rw [← H.out]; rfl, rfl⟩
theorem halves_any (v : BitVec 64) (w : World) :
    Calls Try.prog 48 #[.int .u64 (u v)] w fun e w' => e = .returned (.tuple #[.int .u64 (u (z32 v)), .int .u64 (u (v >>> 32))]) ∧ w = w' := by
  have H : Hid (u v % 4294967296 = u (z32 v)) := Lib.hid (by rw [← mod_z32, IntKind.wrap_u64]; omega)
  have H2 : Hid (u v / 4294967296 = u (v >>> 32)) := Lib.hid (u_shr v 32)
  have h0 := u_nonneg v
  go_enter Try.func48, Try.ntmps48
  go_wp2
  go_ret2
  exact ⟨by rw [← H.out, ← H2.out]; rfl, rfl⟩
theorem excess_any (a b : BitVec 64) (w : World) :
    Calls Try.prog 47 #[.int .u64 (u a), .int .u64 (u b)] w fun e w' => e = .returned (.int .u64 (u (exc a b))) ∧ w = w' := by
  have ht : decide (wrap64 (u a) < 0) = a.getLsbD 63 := by rw [← IntWalk.i64_left, wrap_sg, top_sg]
  cases h : a.getLsbD 63
  all_goals
    rw [h] at ht
    have H : Hid (exc a b = if a.getLsbD 63 then b else 0) := Lib.hid rfl
    rw [h] at H
    clear h
    go_enter Try.func47, Try.ntmps47
    go_wp2
    go_ret
    exact ⟨by rw [H.out]; rfl, rfl⟩
theorem high_any (a b : BitVec 64) (w : World) :
    Calls Try.prog 46 #[.int .u64 (u a), .int .u64 (u b)] w fun e w' => e = .returned (.int .u64 (u (mhu a b))) ∧ w = w' := by
  have m1 : Hid (IntKind.u64.wrap (u (z32 a) * u (z32 b)) = u (z32 a * z32 b)) := Lib.hid (u_mul _ _)
  have m2 : Hid (IntKind.u64.wrap (IntKind.u64.wrap (u (a >>> 32) * u (z32 b)) + u ((z32 a * z32 b) >>> 32)) = u ((a >>> 32) * z32 b + (z32 a * z32 b) >>> 32)) := Lib.hid (by rw [u_mul, u_add])
  obtain ⟨x, hx⟩ : ∃ x, (a >>> 32) * z32 b + (z32 a * z32 b) >>> 32 = x := ⟨_, rfl⟩
  have m3 : Hid (IntKind.u64.wrap (IntKind.u64.wrap (u (z32 a) * u (b >>> 32)) + u (z32 x)) = u (z32 a * (b >>> 32) + z32 x)) := Lib.hid (by rw [u_mul, u_add])
  have m4 : Hid (IntKind.u64.wrap (IntKind.u64.wrap (IntKind.u64.wrap (u (a >>> 32) * u (b >>> 32)) + u (x >>> 32)) + u ((z32 a * (b >>> 32) + z32 x) >>> 32)) = u (mhu a b)) := Lib.hid (by rw [u_mul, u_add, u_add, ← high_parts, hx])
  rw [hx] at m2
  clear hx
  go_enter Try.func46, Try.ntmps46
  go_wp2_with fail
  refine (halves_any _ _).mono ?_
  rintro e w' ⟨rfl, rfl⟩
  go_wp2_with fail
  refine (halves_any _ _).mono ?_
  rintro e w' ⟨rfl, rfl⟩
  go_wp2_with fail
  rw [m1.out]
  refine (halves_any _ _).mono ?_
  rintro e w' ⟨rfl, rfl⟩
  go_wp2_with fail
  rw [m2.out]
  refine (halves_any _ _).mono ?_
  rintro e w' ⟨rfl, rfl⟩
  go_wp2_with fail
  rw [m3.out]
  refine (halves_any _ _).mono ?_
  rintro e w' ⟨rfl, rfl⟩
  go_wp2
  go_ret
  exact ⟨by rw [← m4.out]; rfl, rfl⟩
end Go.Proofs.Ytapaddbgmbkelaa
