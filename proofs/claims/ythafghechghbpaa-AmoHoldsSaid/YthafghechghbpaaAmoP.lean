/- What each call of package amo, and of its reference, comes to, as words of 64 bits. Conditions: named at each. -/
import Derived.Test.YthafghechghbpaaAmoW
import Derived.Test.YthafghechghbpaaCalls
import Derived.Test.YthafghechghbpaaLoops
import Derived.IntWalk
namespace Go.Proofs.Ythafghechghbpaa
open Go.RowKit

theorem wide_1 (a b : BitVec 64) (w : World) :
    Calls Try.prog 24 #[.int .i64 1, .int .u64 (u a), .int .u64 (u b)] w fun e w' => e = .returned (.tuple #[.int .u64 (u (amB 1 a b)), .bool true]) ∧ w = w' := by
  go_enter Try.func24, Try.ntmps24
  go_wp2
  go_ret2
  exact ⟨rfl, rfl⟩
theorem wide_0 (a b : BitVec 64) (w : World) :
    Calls Try.prog 24 #[.int .i64 0, .int .u64 (u a), .int .u64 (u b)] w fun e w' => e = .returned (.tuple #[.int .u64 (u (amB 0 a b)), .bool true]) ∧ w = w' := by
  have H : Hid (IntKind.u64.wrap (u a + u b) = u (amB 0 a b)) := Lib.hid (by rw [u_add]; rfl)
  go_enter Try.func24, Try.ntmps24
  go_wp2
  go_ret2
  exact ⟨by rw [← H.out]; rfl, rfl⟩
theorem wide_4 (a b : BitVec 64) (w : World) :
    Calls Try.prog 24 #[.int .i64 4, .int .u64 (u a), .int .u64 (u b)] w fun e w' => e = .returned (.tuple #[.int .u64 (u (amB 4 a b)), .bool true]) ∧ w = w' := by
  have H : Hid (bits BinOp.xor IntKind.u64 (u a) (u b) = u (amB 4 a b)) := Lib.hid (by rw [u_xor]; rfl)
  go_enter Try.func24, Try.ntmps24
  go_wp2
  go_ret2
  exact ⟨by rw [← H.out]; rfl, rfl⟩
theorem wide_8 (a b : BitVec 64) (w : World) :
    Calls Try.prog 24 #[.int .i64 8, .int .u64 (u a), .int .u64 (u b)] w fun e w' => e = .returned (.tuple #[.int .u64 (u (amB 8 a b)), .bool true]) ∧ w = w' := by
  have H : Hid (bits BinOp.or IntKind.u64 (u a) (u b) = u (amB 8 a b)) := Lib.hid (by rw [u_or]; rfl)
  go_enter Try.func24, Try.ntmps24
  go_wp2
  go_ret2
  exact ⟨by rw [← H.out]; rfl, rfl⟩
theorem wide_12 (a b : BitVec 64) (w : World) :
    Calls Try.prog 24 #[.int .i64 12, .int .u64 (u a), .int .u64 (u b)] w fun e w' => e = .returned (.tuple #[.int .u64 (u (amB 12 a b)), .bool true]) ∧ w = w' := by
  have H : Hid (bits BinOp.and IntKind.u64 (u a) (u b) = u (amB 12 a b)) := Lib.hid (by rw [u_and]; rfl)
  go_enter Try.func24, Try.ntmps24
  go_wp2
  go_ret2
  exact ⟨by rw [← H.out]; rfl, rfl⟩
theorem wide_16 (a b : BitVec 64) (w : World) :
    Calls Try.prog 24 #[.int .i64 16, .int .u64 (u a), .int .u64 (u b)] w fun e w' => e = .returned (.tuple #[.int .u64 (u (amB 16 a b)), .bool true]) ∧ w = w' := by
  have H1 : Hid (wrap64 (u b) < wrap64 (u a) → IntKind.u64.wrap (wrap64 (u b)) = u (amB 16 a b)) := Lib.hid (am_16a a b)
  have H2 : Hid (wrap64 (u a) ≤ wrap64 (u b) → IntKind.u64.wrap (wrap64 (u a)) = u (amB 16 a b)) := Lib.hid (am_16b a b)
  go_enter Try.func24, Try.ntmps24
  go_wp2
  · go_ret2
    exact ⟨by rw [← H1.out (by assumption)]; rfl, rfl⟩
  · go_ret2
    exact ⟨by rw [← H2.out (by assumption)]; rfl, rfl⟩
theorem wide_20 (a b : BitVec 64) (w : World) :
    Calls Try.prog 24 #[.int .i64 20, .int .u64 (u a), .int .u64 (u b)] w fun e w' => e = .returned (.tuple #[.int .u64 (u (amB 20 a b)), .bool true]) ∧ w = w' := by
  have H1 : Hid (wrap64 (u a) < wrap64 (u b) → IntKind.u64.wrap (wrap64 (u b)) = u (amB 20 a b)) := Lib.hid (am_20a a b)
  have H2 : Hid (wrap64 (u b) ≤ wrap64 (u a) → IntKind.u64.wrap (wrap64 (u a)) = u (amB 20 a b)) := Lib.hid (am_20b a b)
  go_enter Try.func24, Try.ntmps24
  go_wp2
  · go_ret2
    exact ⟨by rw [← H1.out (by assumption)]; rfl, rfl⟩
  · go_ret2
    exact ⟨by rw [← H2.out (by assumption)]; rfl, rfl⟩
theorem wide_24 (a b : BitVec 64) (w : World) :
    Calls Try.prog 24 #[.int .i64 24, .int .u64 (u a), .int .u64 (u b)] w fun e w' => e = .returned (.tuple #[.int .u64 (u (amB 24 a b)), .bool true]) ∧ w = w' := by
  have H1 : Hid (u b < u a → u b = u (amB 24 a b)) := Lib.hid (am_24a a b)
  have H2 : Hid (u a ≤ u b → u a = u (amB 24 a b)) := Lib.hid (am_24b a b)
  go_enter Try.func24, Try.ntmps24
  go_wp2
  · go_ret2
    exact ⟨by rw [← H1.out (by assumption)]; rfl, rfl⟩
  · go_ret2
    exact ⟨by rw [← H2.out (by assumption)]; rfl, rfl⟩
theorem wide_28 (a b : BitVec 64) (w : World) :
    Calls Try.prog 24 #[.int .i64 28, .int .u64 (u a), .int .u64 (u b)] w fun e w' => e = .returned (.tuple #[.int .u64 (u (amB 28 a b)), .bool true]) ∧ w = w' := by
  have H1 : Hid (u a < u b → u b = u (amB 28 a b)) := Lib.hid (am_28a a b)
  have H2 : Hid (u b ≤ u a → u a = u (amB 28 a b)) := Lib.hid (am_28b a b)
  go_enter Try.func24, Try.ntmps24
  go_wp2
  · go_ret2
    exact ⟨by rw [← H1.out (by assumption)]; rfl, rfl⟩
  · go_ret2
    exact ⟨by rw [← H2.out (by assumption)]; rfl, rfl⟩
theorem wide_none (f : Int) (a b : BitVec 64) (h1 : f ≠ 1) (h0 : f ≠ 0) (h4 : f ≠ 4) (h8 : f ≠ 8) (h12 : f ≠ 12) (h16 : f ≠ 16) (h20 : f ≠ 20) (h24 : f ≠ 24) (h28 : f ≠ 28) (w : World) :
    Calls Try.prog 24 #[.int .i64 f, .int .u64 (u a), .int .u64 (u b)] w fun e w' => e = .returned (.tuple #[.int .u64 0, .bool false]) ∧ w = w' := by
  have e1 : (f == 1) = false := by simpa using h1
  have e0 : (f == 0) = false := by simpa using h0
  have e4 : (f == 4) = false := by simpa using h4
  have e8 : (f == 8) = false := by simpa using h8
  have e12 : (f == 12) = false := by simpa using h12
  have e16 : (f == 16) = false := by simpa using h16
  have e20 : (f == 20) = false := by simpa using h20
  have e24 : (f == 24) = false := by simpa using h24
  have e28 : (f == 28) = false := by simpa using h28
  clear h1 h0 h4 h8 h12 h16 h20 h24 h28
  go_enter Try.func24, Try.ntmps24
  go_wp2
  go_ret2
  exact ⟨rfl, rfl⟩
theorem amF_cases (f : Int) : f = 1 ∨ f = 0 ∨ f = 4 ∨ f = 8 ∨ f = 12 ∨ f = 16 ∨ f = 20 ∨ f = 24 ∨ f = 28 ∨ (amF f = false ∧ f ≠ 1 ∧ f ≠ 0 ∧ f ≠ 4 ∧ f ≠ 8 ∧ f ≠ 12 ∧ f ≠ 16 ∧ f ≠ 20 ∧ f ≠ 24 ∧ f ≠ 28) := by
  by_cases h : f = 1 ∨ f = 0 ∨ f = 4 ∨ f = 8 ∨ f = 12 ∨ f = 16 ∨ f = 20 ∨ f = 24 ∨ f = 28
  · omega
  · refine .inr (.inr (.inr (.inr (.inr (.inr (.inr (.inr (.inr ⟨?_, by omega⟩))))))))
    unfold amF
    simp only [Bool.or_eq_false_iff, beq_eq_false_iff_ne, ne_eq]
    omega
theorem wide_yes (f : Int) (hf : amF f = true) (a b : BitVec 64) (w : World) :
    Calls Try.prog 24 #[.int .i64 f, .int .u64 (u a), .int .u64 (u b)] w fun e w' => e = .returned (.tuple #[.int .u64 (u (amB f a b)), .bool true]) ∧ w = w' := by
  rcases amF_cases f with rfl | rfl | rfl | rfl | rfl | rfl | rfl | rfl | rfl | ⟨h, -⟩
  · exact wide_1 a b w
  · exact wide_0 a b w
  · exact wide_4 a b w
  · exact wide_8 a b w
  · exact wide_12 a b w
  · exact wide_16 a b w
  · exact wide_20 a b w
  · exact wide_24 a b w
  · exact wide_28 a b w
  · rw [h] at hf; cases hf
theorem wide_no (f : Int) (hf : amF f = false) (a b : BitVec 64) (w : World) :
    Calls Try.prog 24 #[.int .i64 f, .int .u64 (u a), .int .u64 (u b)] w fun e w' => e = .returned (.tuple #[.int .u64 0, .bool false]) ∧ w = w' := by
  rcases amF_cases f with rfl | rfl | rfl | rfl | rfl | rfl | rfl | rfl | rfl | ⟨-, h1, h2, h3, h4, h5, h6, h7, h8, h9⟩
  · cases hf
  · cases hf
  · cases hf
  · cases hf
  · cases hf
  · cases hf
  · cases hf
  · cases hf
  · cases hf
  · exact wide_none f a b h1 h2 h3 h4 h5 h6 h7 h8 h9 w
/-! ### Extend -/
theorem ext_1t (v : BitVec 64) (w : World) :
    Calls Try.prog 12 #[.int .u64 (u v), .int .i64 1, .bool true] w fun e w' => e = .returned (.int .u64 (u (ext v 1 true))) ∧ w = w' := by
  go_enter Try.func12, Try.ntmps12
  go_wp2_with (go_at_call 27; refine (sext_any _ _ _).mono ?_; rintro e w' ⟨rfl, rfl⟩)
  go_ret
  exact ⟨rfl, rfl⟩
theorem ext_1f (v : BitVec 64) (w : World) :
    Calls Try.prog 12 #[.int .u64 (u v), .int .i64 1, .bool false] w fun e w' => e = .returned (.int .u64 (u (ext v 1 false))) ∧ w = w' := by
  go_enter Try.func12, Try.ntmps12
  go_wp2_with (go_at_call 28; refine (zext_any _ _ _).mono ?_; rintro e w' ⟨rfl, rfl⟩)
  go_ret
  exact ⟨rfl, rfl⟩
theorem ext_2t (v : BitVec 64) (w : World) :
    Calls Try.prog 12 #[.int .u64 (u v), .int .i64 2, .bool true] w fun e w' => e = .returned (.int .u64 (u (ext v 2 true))) ∧ w = w' := by
  go_enter Try.func12, Try.ntmps12
  go_wp2_with (go_at_call 27; refine (sext_any _ _ _).mono ?_; rintro e w' ⟨rfl, rfl⟩)
  go_ret
  exact ⟨rfl, rfl⟩
theorem ext_2f (v : BitVec 64) (w : World) :
    Calls Try.prog 12 #[.int .u64 (u v), .int .i64 2, .bool false] w fun e w' => e = .returned (.int .u64 (u (ext v 2 false))) ∧ w = w' := by
  go_enter Try.func12, Try.ntmps12
  go_wp2_with (go_at_call 28; refine (zext_any _ _ _).mono ?_; rintro e w' ⟨rfl, rfl⟩)
  go_ret
  exact ⟨rfl, rfl⟩
theorem ext_4t (v : BitVec 64) (w : World) :
    Calls Try.prog 12 #[.int .u64 (u v), .int .i64 4, .bool true] w fun e w' => e = .returned (.int .u64 (u (ext v 4 true))) ∧ w = w' := by
  go_enter Try.func12, Try.ntmps12
  go_wp2_with (go_at_call 27; refine (sext_any _ _ _).mono ?_; rintro e w' ⟨rfl, rfl⟩)
  go_ret
  exact ⟨rfl, rfl⟩
theorem ext_4f (v : BitVec 64) (w : World) :
    Calls Try.prog 12 #[.int .u64 (u v), .int .i64 4, .bool false] w fun e w' => e = .returned (.int .u64 (u (ext v 4 false))) ∧ w = w' := by
  go_enter Try.func12, Try.ntmps12
  go_wp2_with (go_at_call 28; refine (zext_any _ _ _).mono ?_; rintro e w' ⟨rfl, rfl⟩)
  go_ret
  exact ⟨rfl, rfl⟩
theorem ext_8t (v : BitVec 64) (w : World) :
    Calls Try.prog 12 #[.int .u64 (u v), .int .i64 8, .bool true] w fun e w' => e = .returned (.int .u64 (u (ext v 8 true))) ∧ w = w' := by
  go_enter Try.func12, Try.ntmps12
  go_wp2_with (go_at_call 27; refine (sext_any _ _ _).mono ?_; rintro e w' ⟨rfl, rfl⟩)
  go_ret
  exact ⟨rfl, rfl⟩
theorem ext_8f (v : BitVec 64) (w : World) :
    Calls Try.prog 12 #[.int .u64 (u v), .int .i64 8, .bool false] w fun e w' => e = .returned (.int .u64 (u (ext v 8 false))) ∧ w = w' := by
  go_enter Try.func12, Try.ntmps12
  go_wp2_with (go_at_call 28; refine (zext_any _ _ _).mono ?_; rintro e w' ⟨rfl, rfl⟩)
  go_ret
  exact ⟨rfl, rfl⟩
theorem ext_no (v : BitVec 64) (z : Int) (s : Bool) (h1 : z ≠ 1) (h2 : z ≠ 2) (h4 : z ≠ 4) (h8 : z ≠ 8) (w : World) :
    Calls Try.prog 12 #[.int .u64 (u v), .int .i64 z, .bool s] w fun e w' => e = .returned (.int .u64 (u (ext v z s))) ∧ w = w' := by
  have H : Hid (ext v z s = 0) := Lib.hid (by unfold ext; rw [if_neg (by omega)])
  have e1 : (z == 1) = false := by simpa using h1
  have f1 : (z != 1) = true := by simpa using h1
  have e2 : (z == 2) = false := by simpa using h2
  have f2 : (z != 2) = true := by simpa using h2
  have e4 : (z == 4) = false := by simpa using h4
  have f4 : (z != 4) = true := by simpa using h4
  have e8 : (z == 8) = false := by simpa using h8
  have f8 : (z != 8) = true := by simpa using h8
  clear h1 h2 h4 h8
  go_enter Try.func12, Try.ntmps12
  go_wp2
  go_ret
  exact ⟨by rw [H.out]; rfl, rfl⟩
theorem ext_any (v : BitVec 64) (z : Int) (s : Bool) (w : World) :
    Calls Try.prog 12 #[.int .u64 (u v), .int .i64 z, .bool s] w fun e w' => e = .returned (.int .u64 (u (ext v z s))) ∧ w = w' := by
  by_cases h : z = 1 ∨ z = 2 ∨ z = 4 ∨ z = 8
  · cases s
    · rcases h with rfl | rfl | rfl | rfl
      · exact ext_1f v w
      · exact ext_2f v w
      · exact ext_4f v w
      · exact ext_8f v w
    · rcases h with rfl | rfl | rfl | rfl
      · exact ext_1t v w
      · exact ext_2t v w
      · exact ext_4t v w
      · exact ext_8t v w
  · exact ext_no v z s (by omega) (by omega) (by omega) (by omega) w
theorem rext_1t (v : BitVec 64) (w : World) :
    Calls Try.prog 13 #[.int .u64 (u v), .int .i64 1, .bool true] w fun e w' => e = .returned (.int .u64 (u (ext v 1 true))) ∧ w = w' := by
  go_enter Try.func13, Try.ntmps13
  go_wp2_with (go_at_call 26; refine (ref_sext_any _ _ _).mono ?_; rintro e w' ⟨rfl, rfl⟩)
  go_ret
  exact ⟨rfl, rfl⟩
theorem rext_1f (v : BitVec 64) (w : World) :
    Calls Try.prog 13 #[.int .u64 (u v), .int .i64 1, .bool false] w fun e w' => e = .returned (.int .u64 (u (ext v 1 false))) ∧ w = w' := by
  go_enter Try.func13, Try.ntmps13
  go_wp2_with (go_at_call 25; refine (ref_zext_any _ _ _).mono ?_; rintro e w' ⟨rfl, rfl⟩)
  go_ret
  exact ⟨rfl, rfl⟩
theorem rext_2t (v : BitVec 64) (w : World) :
    Calls Try.prog 13 #[.int .u64 (u v), .int .i64 2, .bool true] w fun e w' => e = .returned (.int .u64 (u (ext v 2 true))) ∧ w = w' := by
  go_enter Try.func13, Try.ntmps13
  go_wp2_with (go_at_call 26; refine (ref_sext_any _ _ _).mono ?_; rintro e w' ⟨rfl, rfl⟩)
  go_ret
  exact ⟨rfl, rfl⟩
theorem rext_2f (v : BitVec 64) (w : World) :
    Calls Try.prog 13 #[.int .u64 (u v), .int .i64 2, .bool false] w fun e w' => e = .returned (.int .u64 (u (ext v 2 false))) ∧ w = w' := by
  go_enter Try.func13, Try.ntmps13
  go_wp2_with (go_at_call 25; refine (ref_zext_any _ _ _).mono ?_; rintro e w' ⟨rfl, rfl⟩)
  go_ret
  exact ⟨rfl, rfl⟩
theorem rext_4t (v : BitVec 64) (w : World) :
    Calls Try.prog 13 #[.int .u64 (u v), .int .i64 4, .bool true] w fun e w' => e = .returned (.int .u64 (u (ext v 4 true))) ∧ w = w' := by
  go_enter Try.func13, Try.ntmps13
  go_wp2_with (go_at_call 26; refine (ref_sext_any _ _ _).mono ?_; rintro e w' ⟨rfl, rfl⟩)
  go_ret
  exact ⟨rfl, rfl⟩
theorem rext_4f (v : BitVec 64) (w : World) :
    Calls Try.prog 13 #[.int .u64 (u v), .int .i64 4, .bool false] w fun e w' => e = .returned (.int .u64 (u (ext v 4 false))) ∧ w = w' := by
  go_enter Try.func13, Try.ntmps13
  go_wp2_with (go_at_call 25; refine (ref_zext_any _ _ _).mono ?_; rintro e w' ⟨rfl, rfl⟩)
  go_ret
  exact ⟨rfl, rfl⟩
theorem rext_8t (v : BitVec 64) (w : World) :
    Calls Try.prog 13 #[.int .u64 (u v), .int .i64 8, .bool true] w fun e w' => e = .returned (.int .u64 (u (ext v 8 true))) ∧ w = w' := by
  go_enter Try.func13, Try.ntmps13
  go_wp2_with (go_at_call 26; refine (ref_sext_any _ _ _).mono ?_; rintro e w' ⟨rfl, rfl⟩)
  go_ret
  exact ⟨rfl, rfl⟩
theorem rext_8f (v : BitVec 64) (w : World) :
    Calls Try.prog 13 #[.int .u64 (u v), .int .i64 8, .bool false] w fun e w' => e = .returned (.int .u64 (u (ext v 8 false))) ∧ w = w' := by
  go_enter Try.func13, Try.ntmps13
  go_wp2_with (go_at_call 25; refine (ref_zext_any _ _ _).mono ?_; rintro e w' ⟨rfl, rfl⟩)
  go_ret
  exact ⟨rfl, rfl⟩
theorem rext_no (v : BitVec 64) (z : Int) (s : Bool) (h1 : z ≠ 1) (h2 : z ≠ 2) (h4 : z ≠ 4) (h8 : z ≠ 8) (w : World) :
    Calls Try.prog 13 #[.int .u64 (u v), .int .i64 z, .bool s] w fun e w' => e = .returned (.int .u64 (u (ext v z s))) ∧ w = w' := by
  have H : Hid (ext v z s = 0) := Lib.hid (by unfold ext; rw [if_neg (by omega)])
  have e1 : (z == 1) = false := by simpa using h1
  have f1 : (z != 1) = true := by simpa using h1
  have e2 : (z == 2) = false := by simpa using h2
  have f2 : (z != 2) = true := by simpa using h2
  have e4 : (z == 4) = false := by simpa using h4
  have f4 : (z != 4) = true := by simpa using h4
  have e8 : (z == 8) = false := by simpa using h8
  have f8 : (z != 8) = true := by simpa using h8
  clear h1 h2 h4 h8
  go_enter Try.func13, Try.ntmps13
  go_wp2
  go_ret
  exact ⟨by rw [H.out]; rfl, rfl⟩
theorem rext_any (v : BitVec 64) (z : Int) (s : Bool) (w : World) :
    Calls Try.prog 13 #[.int .u64 (u v), .int .i64 z, .bool s] w fun e w' => e = .returned (.int .u64 (u (ext v z s))) ∧ w = w' := by
  by_cases h : z = 1 ∨ z = 2 ∨ z = 4 ∨ z = 8
  · cases s
    · rcases h with rfl | rfl | rfl | rfl
      · exact rext_1f v w
      · exact rext_2f v w
      · exact rext_4f v w
      · exact rext_8f v w
    · rcases h with rfl | rfl | rfl | rfl
      · exact rext_1t v w
      · exact rext_2t v w
      · exact rext_4t v w
      · exact rext_8t v w
  · exact rext_no v z s (by omega) (by omega) (by omega) (by omega) w
/-! ### New -/
theorem amE_yes (f z : Int) (hz : z = 4 ∨ z = 8) (hf : amF f = true) : amE f z = 0 := if_pos ⟨hz, hf⟩
theorem amV_no (f z : Int) (a b : BitVec 64) (h : ¬ (z = 4 ∨ z = 8) ∨ amF f = false) : amV f z a b = 0 := if_neg (by rintro ⟨h1, h2⟩; rcases h with h | h; exact h h1; rw [h] at h2; cases h2)
theorem amE_no (f z : Int) (h : ¬ (z = 4 ∨ z = 8) ∨ amF f = false) : amE f z = 1 := if_neg (by rintro ⟨h1, h2⟩; rcases h with h | h; exact h h1; rw [h] at h2; cases h2)
theorem new_yes4 (f : Int) (hf : amF f = true) (a b : BitVec 64) (w : World) :
    Calls Try.prog 9 #[.int .i64 f, .int .i64 4, .int .u64 (u a), .int .u64 (u b)] w fun e w' => e = .returned (.tuple #[.int .u64 (u (amV f 4 a b)), .int .i64 (amE f 4)]) ∧ w = w' := by
  have HF := Lib.hid hf
  have H : Hid (u (ext (amB f (ext a 4 true) (ext b 4 true)) 4 false) = u (amV f 4 a b)) := Lib.hid (by rw [new_4, amV_yes f 4 a b (by omega) hf])
  have HE : Hid (amE f 4 = 0) := Lib.hid (amE_yes f 4 (by omega) hf)
  clear hf
  go_enter Try.func9, Try.ntmps9
  go_wp2_with (first | (go_at_call 12; refine (ext_any _ _ _ _).mono ?_; rintro e w' ⟨rfl, rfl⟩) | (go_at_call 24; refine (wide_yes _ HF.out _ _ _).mono ?_; rintro e w' ⟨rfl, rfl⟩))
  go_ret2
  exact ⟨by rw [← H.out, HE.out]; rfl, rfl⟩
theorem new_no4 (f : Int) (hf : amF f = false) (a b : BitVec 64) (w : World) :
    Calls Try.prog 9 #[.int .i64 f, .int .i64 4, .int .u64 (u a), .int .u64 (u b)] w fun e w' => e = .returned (.tuple #[.int .u64 (u (amV f 4 a b)), .int .i64 (amE f 4)]) ∧ w = w' := by
  have HF := Lib.hid hf
  have H : Hid (amV f 4 a b = 0) := Lib.hid (amV_no f 4 a b (.inr hf))
  have HE : Hid (amE f 4 = 1) := Lib.hid (amE_no f 4 (.inr hf))
  clear hf
  go_enter Try.func9, Try.ntmps9
  go_wp2_with (first | (go_at_call 12; refine (ext_any _ _ _ _).mono ?_; rintro e w' ⟨rfl, rfl⟩) | (go_at_call 24; refine (wide_no _ HF.out _ _ _).mono ?_; rintro e w' ⟨rfl, rfl⟩))
  go_ret2
  exact ⟨by rw [H.out, HE.out]; rfl, rfl⟩
theorem new_yes8 (f : Int) (hf : amF f = true) (a b : BitVec 64) (w : World) :
    Calls Try.prog 9 #[.int .i64 f, .int .i64 8, .int .u64 (u a), .int .u64 (u b)] w fun e w' => e = .returned (.tuple #[.int .u64 (u (amV f 8 a b)), .int .i64 (amE f 8)]) ∧ w = w' := by
  have HF := Lib.hid hf
  have H : Hid (u (ext (amB f (ext a 8 true) (ext b 8 true)) 8 false) = u (amV f 8 a b)) := Lib.hid (by rw [new_8, amV_yes f 8 a b (by omega) hf])
  have HE : Hid (amE f 8 = 0) := Lib.hid (amE_yes f 8 (by omega) hf)
  clear hf
  go_enter Try.func9, Try.ntmps9
  go_wp2_with (first | (go_at_call 12; refine (ext_any _ _ _ _).mono ?_; rintro e w' ⟨rfl, rfl⟩) | (go_at_call 24; refine (wide_yes _ HF.out _ _ _).mono ?_; rintro e w' ⟨rfl, rfl⟩))
  go_ret2
  exact ⟨by rw [← H.out, HE.out]; rfl, rfl⟩
theorem new_no8 (f : Int) (hf : amF f = false) (a b : BitVec 64) (w : World) :
    Calls Try.prog 9 #[.int .i64 f, .int .i64 8, .int .u64 (u a), .int .u64 (u b)] w fun e w' => e = .returned (.tuple #[.int .u64 (u (amV f 8 a b)), .int .i64 (amE f 8)]) ∧ w = w' := by
  have HF := Lib.hid hf
  have H : Hid (amV f 8 a b = 0) := Lib.hid (amV_no f 8 a b (.inr hf))
  have HE : Hid (amE f 8 = 1) := Lib.hid (amE_no f 8 (.inr hf))
  clear hf
  go_enter Try.func9, Try.ntmps9
  go_wp2_with (first | (go_at_call 12; refine (ext_any _ _ _ _).mono ?_; rintro e w' ⟨rfl, rfl⟩) | (go_at_call 24; refine (wide_no _ HF.out _ _ _).mono ?_; rintro e w' ⟨rfl, rfl⟩))
  go_ret2
  exact ⟨by rw [H.out, HE.out]; rfl, rfl⟩
theorem new_other (f z : Int) (h4 : z ≠ 4) (h8 : z ≠ 8) (a b : BitVec 64) (w : World) :
    Calls Try.prog 9 #[.int .i64 f, .int .i64 z, .int .u64 (u a), .int .u64 (u b)] w fun e w' => e = .returned (.tuple #[.int .u64 (u (amV f z a b)), .int .i64 (amE f z)]) ∧ w = w' := by
  have H : Hid (amV f z a b = 0) := Lib.hid (amV_no f z a b (.inl (by omega)))
  have HE : Hid (amE f z = 1) := Lib.hid (amE_no f z (.inl (by omega)))
  have f4 : (z != 4) = true := by simpa using h4
  have f8 : (z != 8) = true := by simpa using h8
  clear h4 h8
  go_enter Try.func9, Try.ntmps9
  go_wp2
  go_ret2
  exact ⟨by rw [H.out, HE.out]; rfl, rfl⟩
theorem new_any (f z : Int) (a b : BitVec 64) (w : World) :
    Calls Try.prog 9 #[.int .i64 f, .int .i64 z, .int .u64 (u a), .int .u64 (u b)] w fun e w' => e = .returned (.tuple #[.int .u64 (u (amV f z a b)), .int .i64 (amE f z)]) ∧ w = w' := by
  by_cases h4 : z = 4
  · subst h4
    cases hf : amF f
    · exact new_no4 f hf a b w
    · exact new_yes4 f hf a b w
  · by_cases h8 : z = 8
    · subst h8
      cases hf : amF f
      · exact new_no8 f hf a b w
      · exact new_yes8 f hf a b w
    · exact new_other f z h4 h8 a b w
/-! ### the reference's -/
theorem rnew_other (f z : Int) (h4 : z ≠ 4) (h8 : z ≠ 8) (a b : BitVec 64) (w : World) :
    Calls Try.prog 10 #[.int .i64 f, .int .i64 z, .int .u64 (u a), .int .u64 (u b)] w fun e w' => e = .returned (.tuple #[.int .u64 (u (amV f z a b)), .int .i64 (amE f z)]) ∧ w = w' := by
  have H : Hid (amV f z a b = 0) := Lib.hid (amV_no f z a b (.inl (by omega)))
  have HE : Hid (amE f z = 1) := Lib.hid (amE_no f z (.inl (by omega)))
  have f4 : (z != 4) = true := by simpa using h4
  have f8 : (z != 8) = true := by simpa using h8
  clear h4 h8
  go_enter Try.func10, Try.ntmps10
  go_wp2
  go_ret2
  exact ⟨by rw [H.out, HE.out]; rfl, rfl⟩
theorem below_4 (a b : BitVec 64) : (decide (bits BinOp.xor IntKind.u64 (u (sxt (zxt a 32) 32)) 9223372036854775808 < bits BinOp.xor IntKind.u64 (u (sxt (zxt b 32) 32)) 9223372036854775808)) = (lo32 a).slt (lo32 b) := by
  rw [u_turn, u_turn, u_ltb, slt_turned, zxt_32, zxt_32, sxt_s32, sxt_s32, slt_zx]
theorem rnew_1_4 (a b : BitVec 64) (w : World) :
    Calls Try.prog 10 #[.int .i64 1, .int .i64 4, .int .u64 (u a), .int .u64 (u b)] w fun e w' => e = .returned (.tuple #[.int .u64 (u (amV 1 4 a b)), .int .i64 (amE 1 4)]) ∧ w = w' := by
  have H : Hid (u (zxt ((zxt b 32)) 32) = u (amV 1 4 a b)) := Lib.hid (congrArg u (rz_4 1 a b (by omega)))
  go_enter Try.func10, Try.ntmps10
  go_wp2_with (first | (go_at_call 25; refine (ref_zext_any _ _ _).mono ?_; rintro e w' ⟨rfl, rfl⟩) | (go_at_call 26; refine (ref_sext_any _ _ _).mono ?_; rintro e w' ⟨rfl, rfl⟩))
  go_ret2
  exact ⟨by rw [← H.out]; rfl, rfl⟩
theorem rnew_0_4 (a b : BitVec 64) (w : World) :
    Calls Try.prog 10 #[.int .i64 0, .int .i64 4, .int .u64 (u a), .int .u64 (u b)] w fun e w' => e = .returned (.tuple #[.int .u64 (u (amV 0 4 a b)), .int .i64 (amE 0 4)]) ∧ w = w' := by
  have H : Hid (u (zxt (((zxt a 32) + (zxt b 32))) 32) = u (amV 0 4 a b)) := Lib.hid (congrArg u (rz_4 0 a b (by omega)))
  have e1 : IntKind.u64.wrap (u (zxt a 32) + u (zxt b 32)) = u (((zxt a 32) + (zxt b 32))) := u_add _ _
  go_enter Try.func10, Try.ntmps10
  go_wp2_with (first | (go_at_call 25; refine (ref_zext_any _ _ _).mono ?_; rintro e w' ⟨rfl, rfl⟩) | (go_at_call 26; refine (ref_sext_any _ _ _).mono ?_; rintro e w' ⟨rfl, rfl⟩))
  go_ret2
  exact ⟨by rw [← H.out]; rfl, rfl⟩
theorem rnew_4_4 (a b : BitVec 64) (w : World) :
    Calls Try.prog 10 #[.int .i64 4, .int .i64 4, .int .u64 (u a), .int .u64 (u b)] w fun e w' => e = .returned (.tuple #[.int .u64 (u (amV 4 4 a b)), .int .i64 (amE 4 4)]) ∧ w = w' := by
  have H : Hid (u (zxt (((zxt a 32) ^^^ (zxt b 32))) 32) = u (amV 4 4 a b)) := Lib.hid (congrArg u (rz_4 4 a b (by omega)))
  have e1 : bits BinOp.xor IntKind.u64 (u (zxt a 32)) (u (zxt b 32)) = u (((zxt a 32) ^^^ (zxt b 32))) := u_xor _ _
  go_enter Try.func10, Try.ntmps10
  go_wp2_with (first | (go_at_call 25; refine (ref_zext_any _ _ _).mono ?_; rintro e w' ⟨rfl, rfl⟩) | (go_at_call 26; refine (ref_sext_any _ _ _).mono ?_; rintro e w' ⟨rfl, rfl⟩))
  go_ret2
  exact ⟨by rw [← H.out]; rfl, rfl⟩
theorem rnew_8_4 (a b : BitVec 64) (w : World) :
    Calls Try.prog 10 #[.int .i64 8, .int .i64 4, .int .u64 (u a), .int .u64 (u b)] w fun e w' => e = .returned (.tuple #[.int .u64 (u (amV 8 4 a b)), .int .i64 (amE 8 4)]) ∧ w = w' := by
  have H : Hid (u (zxt (((zxt a 32) ||| (zxt b 32))) 32) = u (amV 8 4 a b)) := Lib.hid (congrArg u (rz_4 8 a b (by omega)))
  have e1 : bits BinOp.or IntKind.u64 (u (zxt a 32)) (u (zxt b 32)) = u (((zxt a 32) ||| (zxt b 32))) := u_or _ _
  go_enter Try.func10, Try.ntmps10
  go_wp2_with (first | (go_at_call 25; refine (ref_zext_any _ _ _).mono ?_; rintro e w' ⟨rfl, rfl⟩) | (go_at_call 26; refine (ref_sext_any _ _ _).mono ?_; rintro e w' ⟨rfl, rfl⟩))
  go_ret2
  exact ⟨by rw [← H.out]; rfl, rfl⟩
theorem rnew_12_4 (a b : BitVec 64) (w : World) :
    Calls Try.prog 10 #[.int .i64 12, .int .i64 4, .int .u64 (u a), .int .u64 (u b)] w fun e w' => e = .returned (.tuple #[.int .u64 (u (amV 12 4 a b)), .int .i64 (amE 12 4)]) ∧ w = w' := by
  have H : Hid (u (zxt (((zxt a 32) &&& (zxt b 32))) 32) = u (amV 12 4 a b)) := Lib.hid (congrArg u (rz_4 12 a b (by omega)))
  have e1 : bits BinOp.and IntKind.u64 (u (zxt a 32)) (u (zxt b 32)) = u (((zxt a 32) &&& (zxt b 32))) := u_and _ _
  go_enter Try.func10, Try.ntmps10
  go_wp2_with (first | (go_at_call 25; refine (ref_zext_any _ _ _).mono ?_; rintro e w' ⟨rfl, rfl⟩) | (go_at_call 26; refine (ref_sext_any _ _ _).mono ?_; rintro e w' ⟨rfl, rfl⟩))
  go_ret2
  exact ⟨by rw [← H.out]; rfl, rfl⟩
theorem rnew_16_4 (a b : BitVec 64) (w : World) :
    Calls Try.prog 10 #[.int .i64 16, .int .i64 4, .int .u64 (u a), .int .u64 (u b)] w fun e w' => e = .returned (.tuple #[.int .u64 (u (amV 16 4 a b)), .int .i64 (amE 16 4)]) ∧ w = w' := by
  cases hs : (lo32 a).slt (lo32 b)
  · have HB : (decide (bits BinOp.xor IntKind.u64 (u (sxt (zxt a 32) 32)) 9223372036854775808 < bits BinOp.xor IntKind.u64 (u (sxt (zxt b 32) 32)) 9223372036854775808)) = false := (below_4 a b).trans hs
    have H : Hid (u (zxt (zxt b 32) 32) = u (amV 16 4 a b)) := Lib.hid (congrArg u (rb_16_4 a b false hs))
    clear hs
    go_enter Try.func10, Try.ntmps10
    go_wp2_with (first | (go_at_call 25; refine (ref_zext_any _ _ _).mono ?_; rintro e w' ⟨rfl, rfl⟩) | (go_at_call 26; refine (ref_sext_any _ _ _).mono ?_; rintro e w' ⟨rfl, rfl⟩))
    go_ret2
    exact ⟨by rw [← H.out]; rfl, rfl⟩
  · have HB : (decide (bits BinOp.xor IntKind.u64 (u (sxt (zxt a 32) 32)) 9223372036854775808 < bits BinOp.xor IntKind.u64 (u (sxt (zxt b 32) 32)) 9223372036854775808)) = true := (below_4 a b).trans hs
    have H : Hid (u (zxt (zxt a 32) 32) = u (amV 16 4 a b)) := Lib.hid (congrArg u (rb_16_4 a b true hs))
    clear hs
    go_enter Try.func10, Try.ntmps10
    go_wp2_with (first | (go_at_call 25; refine (ref_zext_any _ _ _).mono ?_; rintro e w' ⟨rfl, rfl⟩) | (go_at_call 26; refine (ref_sext_any _ _ _).mono ?_; rintro e w' ⟨rfl, rfl⟩))
    go_ret2
    exact ⟨by rw [← H.out]; rfl, rfl⟩
theorem rnew_20_4 (a b : BitVec 64) (w : World) :
    Calls Try.prog 10 #[.int .i64 20, .int .i64 4, .int .u64 (u a), .int .u64 (u b)] w fun e w' => e = .returned (.tuple #[.int .u64 (u (amV 20 4 a b)), .int .i64 (amE 20 4)]) ∧ w = w' := by
  cases hs : (lo32 a).slt (lo32 b)
  · have HB : (decide (bits BinOp.xor IntKind.u64 (u (sxt (zxt a 32) 32)) 9223372036854775808 < bits BinOp.xor IntKind.u64 (u (sxt (zxt b 32) 32)) 9223372036854775808)) = false := (below_4 a b).trans hs
    have H : Hid (u (zxt (zxt a 32) 32) = u (amV 20 4 a b)) := Lib.hid (congrArg u (rb_20_4 a b false hs))
    clear hs
    go_enter Try.func10, Try.ntmps10
    go_wp2_with (first | (go_at_call 25; refine (ref_zext_any _ _ _).mono ?_; rintro e w' ⟨rfl, rfl⟩) | (go_at_call 26; refine (ref_sext_any _ _ _).mono ?_; rintro e w' ⟨rfl, rfl⟩))
    go_ret2
    exact ⟨by rw [← H.out]; rfl, rfl⟩
  · have HB : (decide (bits BinOp.xor IntKind.u64 (u (sxt (zxt a 32) 32)) 9223372036854775808 < bits BinOp.xor IntKind.u64 (u (sxt (zxt b 32) 32)) 9223372036854775808)) = true := (below_4 a b).trans hs
    have H : Hid (u (zxt (zxt b 32) 32) = u (amV 20 4 a b)) := Lib.hid (congrArg u (rb_20_4 a b true hs))
    clear hs
    go_enter Try.func10, Try.ntmps10
    go_wp2_with (first | (go_at_call 25; refine (ref_zext_any _ _ _).mono ?_; rintro e w' ⟨rfl, rfl⟩) | (go_at_call 26; refine (ref_sext_any _ _ _).mono ?_; rintro e w' ⟨rfl, rfl⟩))
    go_ret2
    exact ⟨by rw [← H.out]; rfl, rfl⟩
theorem rnew_24_4 (a b : BitVec 64) (w : World) :
    Calls Try.prog 10 #[.int .i64 24, .int .i64 4, .int .u64 (u a), .int .u64 (u b)] w fun e w' => e = .returned (.tuple #[.int .u64 (u (amV 24 4 a b)), .int .i64 (amE 24 4)]) ∧ w = w' := by
  have H1 : Hid (u (zxt b 32) < u (zxt a 32) → u (zxt (zxt b 32) 32) = u (amV 24 4 a b)) := Lib.hid (rm_24a_4 a b)
  have H2 : Hid (u (zxt a 32) ≤ u (zxt b 32) → u (zxt (zxt a 32) 32) = u (amV 24 4 a b)) := Lib.hid (rm_24b_4 a b)
  generalize amV 24 4 a b = V at *
  obtain ⟨P, HB⟩ : ∃ P : Bool, (decide (bits BinOp.xor IntKind.u64 (u (sxt (zxt a 32) 32)) 9223372036854775808 < bits BinOp.xor IntKind.u64 (u (sxt (zxt b 32) 32)) 9223372036854775808)) = P := ⟨_, rfl⟩
  go_enter Try.func10, Try.ntmps10
  go_wp2_with fail
  refine (ref_zext_any _ _ _).mono ?_
  rintro e w' ⟨rfl, rfl⟩
  go_wp2_with fail
  refine (ref_zext_any _ _ _).mono ?_
  rintro e w' ⟨rfl, rfl⟩
  generalize zxt a 32 = A at *
  generalize zxt b 32 = B at *
  go_wp2_with fail
  refine (ref_sext_any _ _ _).mono ?_
  rintro e w' ⟨rfl, rfl⟩
  go_wp2_with fail
  refine (ref_sext_any _ _ _).mono ?_
  rintro e w' ⟨rfl, rfl⟩
  go_wp2_with fail
  · refine (ref_zext_any _ _ _).mono ?_
    rintro e w' ⟨rfl, rfl⟩
    go_wp2
    go_ret2
    exact ⟨by rw [← H1.out (by assumption)]; rfl, rfl⟩
  · refine (ref_zext_any _ _ _).mono ?_
    rintro e w' ⟨rfl, rfl⟩
    go_wp2
    go_ret2
    exact ⟨by rw [← H2.out (by assumption)]; rfl, rfl⟩
theorem rnew_28_4 (a b : BitVec 64) (w : World) :
    Calls Try.prog 10 #[.int .i64 28, .int .i64 4, .int .u64 (u a), .int .u64 (u b)] w fun e w' => e = .returned (.tuple #[.int .u64 (u (amV 28 4 a b)), .int .i64 (amE 28 4)]) ∧ w = w' := by
  have H1 : Hid (u (zxt a 32) < u (zxt b 32) → u (zxt (zxt b 32) 32) = u (amV 28 4 a b)) := Lib.hid (rm_28a_4 a b)
  have H2 : Hid (u (zxt b 32) ≤ u (zxt a 32) → u (zxt (zxt a 32) 32) = u (amV 28 4 a b)) := Lib.hid (rm_28b_4 a b)
  generalize amV 28 4 a b = V at *
  obtain ⟨P, HB⟩ : ∃ P : Bool, (decide (bits BinOp.xor IntKind.u64 (u (sxt (zxt a 32) 32)) 9223372036854775808 < bits BinOp.xor IntKind.u64 (u (sxt (zxt b 32) 32)) 9223372036854775808)) = P := ⟨_, rfl⟩
  go_enter Try.func10, Try.ntmps10
  go_wp2_with fail
  refine (ref_zext_any _ _ _).mono ?_
  rintro e w' ⟨rfl, rfl⟩
  go_wp2_with fail
  refine (ref_zext_any _ _ _).mono ?_
  rintro e w' ⟨rfl, rfl⟩
  generalize zxt a 32 = A at *
  generalize zxt b 32 = B at *
  go_wp2_with fail
  refine (ref_sext_any _ _ _).mono ?_
  rintro e w' ⟨rfl, rfl⟩
  go_wp2_with fail
  refine (ref_sext_any _ _ _).mono ?_
  rintro e w' ⟨rfl, rfl⟩
  go_wp2_with fail
  · refine (ref_zext_any _ _ _).mono ?_
    rintro e w' ⟨rfl, rfl⟩
    go_wp2
    go_ret2
    exact ⟨by rw [← H1.out (by assumption)]; rfl, rfl⟩
  · refine (ref_zext_any _ _ _).mono ?_
    rintro e w' ⟨rfl, rfl⟩
    go_wp2
    go_ret2
    exact ⟨by rw [← H2.out (by assumption)]; rfl, rfl⟩
theorem rnew_yes4 (f : Int) (hf : amF f = true) (a b : BitVec 64) (w : World) :
    Calls Try.prog 10 #[.int .i64 f, .int .i64 4, .int .u64 (u a), .int .u64 (u b)] w fun e w' => e = .returned (.tuple #[.int .u64 (u (amV f 4 a b)), .int .i64 (amE f 4)]) ∧ w = w' := by
  rcases amF_cases f with rfl | rfl | rfl | rfl | rfl | rfl | rfl | rfl | rfl | ⟨h, -⟩
  · exact rnew_1_4 a b w
  · exact rnew_0_4 a b w
  · exact rnew_4_4 a b w
  · exact rnew_8_4 a b w
  · exact rnew_12_4 a b w
  · exact rnew_16_4 a b w
  · exact rnew_20_4 a b w
  · exact rnew_24_4 a b w
  · exact rnew_28_4 a b w
  · rw [h] at hf; cases hf
theorem rnew_no4 (f : Int) (hf : amF f = false) (a b : BitVec 64) (w : World) :
    Calls Try.prog 10 #[.int .i64 f, .int .i64 4, .int .u64 (u a), .int .u64 (u b)] w fun e w' => e = .returned (.tuple #[.int .u64 (u (amV f 4 a b)), .int .i64 (amE f 4)]) ∧ w = w' := by
  have H : Hid (amV f 4 a b = 0) := Lib.hid (amV_no f 4 a b (.inr hf))
  have HE : Hid (amE f 4 = 1) := Lib.hid (amE_no f 4 (.inr hf))
  have e1 : (f == 1) = false := by cases h : (f == 1); rfl; simp at h; subst h; cases hf
  have e0 : (f == 0) = false := by cases h : (f == 0); rfl; simp at h; subst h; cases hf
  have e4 : (f == 4) = false := by cases h : (f == 4); rfl; simp at h; subst h; cases hf
  have e8 : (f == 8) = false := by cases h : (f == 8); rfl; simp at h; subst h; cases hf
  have e12 : (f == 12) = false := by cases h : (f == 12); rfl; simp at h; subst h; cases hf
  have e16 : (f == 16) = false := by cases h : (f == 16); rfl; simp at h; subst h; cases hf
  have e20 : (f == 20) = false := by cases h : (f == 20); rfl; simp at h; subst h; cases hf
  have e24 : (f == 24) = false := by cases h : (f == 24); rfl; simp at h; subst h; cases hf
  have e28 : (f == 28) = false := by cases h : (f == 28); rfl; simp at h; subst h; cases hf
  clear hf
  go_enter Try.func10, Try.ntmps10
  go_wp2_with (first | (go_at_call 25; refine (ref_zext_any _ _ _).mono ?_; rintro e w' ⟨rfl, rfl⟩) | (go_at_call 26; refine (ref_sext_any _ _ _).mono ?_; rintro e w' ⟨rfl, rfl⟩))
  go_ret2
  exact ⟨by rw [H.out, HE.out]; rfl, rfl⟩
theorem below_8 (a b : BitVec 64) : (decide (bits BinOp.xor IntKind.u64 (u (sxt (zxt a 64) 64)) 9223372036854775808 < bits BinOp.xor IntKind.u64 (u (sxt (zxt b 64) 64)) 9223372036854775808)) = a.slt b := by
  rw [u_turn, u_turn, u_ltb, slt_turned, zxt_64, zxt_64, sxt_64, sxt_64]
theorem rnew_1_8 (a b : BitVec 64) (w : World) :
    Calls Try.prog 10 #[.int .i64 1, .int .i64 8, .int .u64 (u a), .int .u64 (u b)] w fun e w' => e = .returned (.tuple #[.int .u64 (u (amV 1 8 a b)), .int .i64 (amE 1 8)]) ∧ w = w' := by
  have H : Hid (u (zxt ((zxt b 64)) 64) = u (amV 1 8 a b)) := Lib.hid (congrArg u (rz_8 1 a b (by omega)))
  go_enter Try.func10, Try.ntmps10
  go_wp2_with (first | (go_at_call 25; refine (ref_zext_any _ _ _).mono ?_; rintro e w' ⟨rfl, rfl⟩) | (go_at_call 26; refine (ref_sext_any _ _ _).mono ?_; rintro e w' ⟨rfl, rfl⟩))
  go_ret2
  exact ⟨by rw [← H.out]; rfl, rfl⟩
theorem rnew_0_8 (a b : BitVec 64) (w : World) :
    Calls Try.prog 10 #[.int .i64 0, .int .i64 8, .int .u64 (u a), .int .u64 (u b)] w fun e w' => e = .returned (.tuple #[.int .u64 (u (amV 0 8 a b)), .int .i64 (amE 0 8)]) ∧ w = w' := by
  have H : Hid (u (zxt (((zxt a 64) + (zxt b 64))) 64) = u (amV 0 8 a b)) := Lib.hid (congrArg u (rz_8 0 a b (by omega)))
  have e1 : IntKind.u64.wrap (u (zxt a 64) + u (zxt b 64)) = u (((zxt a 64) + (zxt b 64))) := u_add _ _
  go_enter Try.func10, Try.ntmps10
  go_wp2_with (first | (go_at_call 25; refine (ref_zext_any _ _ _).mono ?_; rintro e w' ⟨rfl, rfl⟩) | (go_at_call 26; refine (ref_sext_any _ _ _).mono ?_; rintro e w' ⟨rfl, rfl⟩))
  go_ret2
  exact ⟨by rw [← H.out]; rfl, rfl⟩
theorem rnew_4_8 (a b : BitVec 64) (w : World) :
    Calls Try.prog 10 #[.int .i64 4, .int .i64 8, .int .u64 (u a), .int .u64 (u b)] w fun e w' => e = .returned (.tuple #[.int .u64 (u (amV 4 8 a b)), .int .i64 (amE 4 8)]) ∧ w = w' := by
  have H : Hid (u (zxt (((zxt a 64) ^^^ (zxt b 64))) 64) = u (amV 4 8 a b)) := Lib.hid (congrArg u (rz_8 4 a b (by omega)))
  have e1 : bits BinOp.xor IntKind.u64 (u (zxt a 64)) (u (zxt b 64)) = u (((zxt a 64) ^^^ (zxt b 64))) := u_xor _ _
  go_enter Try.func10, Try.ntmps10
  go_wp2_with (first | (go_at_call 25; refine (ref_zext_any _ _ _).mono ?_; rintro e w' ⟨rfl, rfl⟩) | (go_at_call 26; refine (ref_sext_any _ _ _).mono ?_; rintro e w' ⟨rfl, rfl⟩))
  go_ret2
  exact ⟨by rw [← H.out]; rfl, rfl⟩
theorem rnew_8_8 (a b : BitVec 64) (w : World) :
    Calls Try.prog 10 #[.int .i64 8, .int .i64 8, .int .u64 (u a), .int .u64 (u b)] w fun e w' => e = .returned (.tuple #[.int .u64 (u (amV 8 8 a b)), .int .i64 (amE 8 8)]) ∧ w = w' := by
  have H : Hid (u (zxt (((zxt a 64) ||| (zxt b 64))) 64) = u (amV 8 8 a b)) := Lib.hid (congrArg u (rz_8 8 a b (by omega)))
  have e1 : bits BinOp.or IntKind.u64 (u (zxt a 64)) (u (zxt b 64)) = u (((zxt a 64) ||| (zxt b 64))) := u_or _ _
  go_enter Try.func10, Try.ntmps10
  go_wp2_with (first | (go_at_call 25; refine (ref_zext_any _ _ _).mono ?_; rintro e w' ⟨rfl, rfl⟩) | (go_at_call 26; refine (ref_sext_any _ _ _).mono ?_; rintro e w' ⟨rfl, rfl⟩))
  go_ret2
  exact ⟨by rw [← H.out]; rfl, rfl⟩
theorem rnew_12_8 (a b : BitVec 64) (w : World) :
    Calls Try.prog 10 #[.int .i64 12, .int .i64 8, .int .u64 (u a), .int .u64 (u b)] w fun e w' => e = .returned (.tuple #[.int .u64 (u (amV 12 8 a b)), .int .i64 (amE 12 8)]) ∧ w = w' := by
  have H : Hid (u (zxt (((zxt a 64) &&& (zxt b 64))) 64) = u (amV 12 8 a b)) := Lib.hid (congrArg u (rz_8 12 a b (by omega)))
  have e1 : bits BinOp.and IntKind.u64 (u (zxt a 64)) (u (zxt b 64)) = u (((zxt a 64) &&& (zxt b 64))) := u_and _ _
  go_enter Try.func10, Try.ntmps10
  go_wp2_with (first | (go_at_call 25; refine (ref_zext_any _ _ _).mono ?_; rintro e w' ⟨rfl, rfl⟩) | (go_at_call 26; refine (ref_sext_any _ _ _).mono ?_; rintro e w' ⟨rfl, rfl⟩))
  go_ret2
  exact ⟨by rw [← H.out]; rfl, rfl⟩
theorem rnew_16_8 (a b : BitVec 64) (w : World) :
    Calls Try.prog 10 #[.int .i64 16, .int .i64 8, .int .u64 (u a), .int .u64 (u b)] w fun e w' => e = .returned (.tuple #[.int .u64 (u (amV 16 8 a b)), .int .i64 (amE 16 8)]) ∧ w = w' := by
  cases hs : a.slt b
  · have HB : (decide (bits BinOp.xor IntKind.u64 (u (sxt (zxt a 64) 64)) 9223372036854775808 < bits BinOp.xor IntKind.u64 (u (sxt (zxt b 64) 64)) 9223372036854775808)) = false := (below_8 a b).trans hs
    have H : Hid (u (zxt (zxt b 64) 64) = u (amV 16 8 a b)) := Lib.hid (congrArg u (rb_16_8 a b false hs))
    clear hs
    go_enter Try.func10, Try.ntmps10
    go_wp2_with (first | (go_at_call 25; refine (ref_zext_any _ _ _).mono ?_; rintro e w' ⟨rfl, rfl⟩) | (go_at_call 26; refine (ref_sext_any _ _ _).mono ?_; rintro e w' ⟨rfl, rfl⟩))
    go_ret2
    exact ⟨by rw [← H.out]; rfl, rfl⟩
  · have HB : (decide (bits BinOp.xor IntKind.u64 (u (sxt (zxt a 64) 64)) 9223372036854775808 < bits BinOp.xor IntKind.u64 (u (sxt (zxt b 64) 64)) 9223372036854775808)) = true := (below_8 a b).trans hs
    have H : Hid (u (zxt (zxt a 64) 64) = u (amV 16 8 a b)) := Lib.hid (congrArg u (rb_16_8 a b true hs))
    clear hs
    go_enter Try.func10, Try.ntmps10
    go_wp2_with (first | (go_at_call 25; refine (ref_zext_any _ _ _).mono ?_; rintro e w' ⟨rfl, rfl⟩) | (go_at_call 26; refine (ref_sext_any _ _ _).mono ?_; rintro e w' ⟨rfl, rfl⟩))
    go_ret2
    exact ⟨by rw [← H.out]; rfl, rfl⟩
theorem rnew_20_8 (a b : BitVec 64) (w : World) :
    Calls Try.prog 10 #[.int .i64 20, .int .i64 8, .int .u64 (u a), .int .u64 (u b)] w fun e w' => e = .returned (.tuple #[.int .u64 (u (amV 20 8 a b)), .int .i64 (amE 20 8)]) ∧ w = w' := by
  cases hs : a.slt b
  · have HB : (decide (bits BinOp.xor IntKind.u64 (u (sxt (zxt a 64) 64)) 9223372036854775808 < bits BinOp.xor IntKind.u64 (u (sxt (zxt b 64) 64)) 9223372036854775808)) = false := (below_8 a b).trans hs
    have H : Hid (u (zxt (zxt a 64) 64) = u (amV 20 8 a b)) := Lib.hid (congrArg u (rb_20_8 a b false hs))
    clear hs
    go_enter Try.func10, Try.ntmps10
    go_wp2_with (first | (go_at_call 25; refine (ref_zext_any _ _ _).mono ?_; rintro e w' ⟨rfl, rfl⟩) | (go_at_call 26; refine (ref_sext_any _ _ _).mono ?_; rintro e w' ⟨rfl, rfl⟩))
    go_ret2
    exact ⟨by rw [← H.out]; rfl, rfl⟩
  · have HB : (decide (bits BinOp.xor IntKind.u64 (u (sxt (zxt a 64) 64)) 9223372036854775808 < bits BinOp.xor IntKind.u64 (u (sxt (zxt b 64) 64)) 9223372036854775808)) = true := (below_8 a b).trans hs
    have H : Hid (u (zxt (zxt b 64) 64) = u (amV 20 8 a b)) := Lib.hid (congrArg u (rb_20_8 a b true hs))
    clear hs
    go_enter Try.func10, Try.ntmps10
    go_wp2_with (first | (go_at_call 25; refine (ref_zext_any _ _ _).mono ?_; rintro e w' ⟨rfl, rfl⟩) | (go_at_call 26; refine (ref_sext_any _ _ _).mono ?_; rintro e w' ⟨rfl, rfl⟩))
    go_ret2
    exact ⟨by rw [← H.out]; rfl, rfl⟩
theorem rnew_24_8 (a b : BitVec 64) (w : World) :
    Calls Try.prog 10 #[.int .i64 24, .int .i64 8, .int .u64 (u a), .int .u64 (u b)] w fun e w' => e = .returned (.tuple #[.int .u64 (u (amV 24 8 a b)), .int .i64 (amE 24 8)]) ∧ w = w' := by
  have H1 : Hid (u (zxt b 64) < u (zxt a 64) → u (zxt (zxt b 64) 64) = u (amV 24 8 a b)) := Lib.hid (rm_24a_8 a b)
  have H2 : Hid (u (zxt a 64) ≤ u (zxt b 64) → u (zxt (zxt a 64) 64) = u (amV 24 8 a b)) := Lib.hid (rm_24b_8 a b)
  generalize amV 24 8 a b = V at *
  obtain ⟨P, HB⟩ : ∃ P : Bool, (decide (bits BinOp.xor IntKind.u64 (u (sxt (zxt a 64) 64)) 9223372036854775808 < bits BinOp.xor IntKind.u64 (u (sxt (zxt b 64) 64)) 9223372036854775808)) = P := ⟨_, rfl⟩
  go_enter Try.func10, Try.ntmps10
  go_wp2_with fail
  refine (ref_zext_any _ _ _).mono ?_
  rintro e w' ⟨rfl, rfl⟩
  go_wp2_with fail
  refine (ref_zext_any _ _ _).mono ?_
  rintro e w' ⟨rfl, rfl⟩
  generalize zxt a 64 = A at *
  generalize zxt b 64 = B at *
  go_wp2_with fail
  refine (ref_sext_any _ _ _).mono ?_
  rintro e w' ⟨rfl, rfl⟩
  go_wp2_with fail
  refine (ref_sext_any _ _ _).mono ?_
  rintro e w' ⟨rfl, rfl⟩
  go_wp2_with fail
  · refine (ref_zext_any _ _ _).mono ?_
    rintro e w' ⟨rfl, rfl⟩
    go_wp2
    go_ret2
    exact ⟨by rw [← H1.out (by assumption)]; rfl, rfl⟩
  · refine (ref_zext_any _ _ _).mono ?_
    rintro e w' ⟨rfl, rfl⟩
    go_wp2
    go_ret2
    exact ⟨by rw [← H2.out (by assumption)]; rfl, rfl⟩
theorem rnew_28_8 (a b : BitVec 64) (w : World) :
    Calls Try.prog 10 #[.int .i64 28, .int .i64 8, .int .u64 (u a), .int .u64 (u b)] w fun e w' => e = .returned (.tuple #[.int .u64 (u (amV 28 8 a b)), .int .i64 (amE 28 8)]) ∧ w = w' := by
  have H1 : Hid (u (zxt a 64) < u (zxt b 64) → u (zxt (zxt b 64) 64) = u (amV 28 8 a b)) := Lib.hid (rm_28a_8 a b)
  have H2 : Hid (u (zxt b 64) ≤ u (zxt a 64) → u (zxt (zxt a 64) 64) = u (amV 28 8 a b)) := Lib.hid (rm_28b_8 a b)
  generalize amV 28 8 a b = V at *
  obtain ⟨P, HB⟩ : ∃ P : Bool, (decide (bits BinOp.xor IntKind.u64 (u (sxt (zxt a 64) 64)) 9223372036854775808 < bits BinOp.xor IntKind.u64 (u (sxt (zxt b 64) 64)) 9223372036854775808)) = P := ⟨_, rfl⟩
  go_enter Try.func10, Try.ntmps10
  go_wp2_with fail
  refine (ref_zext_any _ _ _).mono ?_
  rintro e w' ⟨rfl, rfl⟩
  go_wp2_with fail
  refine (ref_zext_any _ _ _).mono ?_
  rintro e w' ⟨rfl, rfl⟩
  generalize zxt a 64 = A at *
  generalize zxt b 64 = B at *
  go_wp2_with fail
  refine (ref_sext_any _ _ _).mono ?_
  rintro e w' ⟨rfl, rfl⟩
  go_wp2_with fail
  refine (ref_sext_any _ _ _).mono ?_
  rintro e w' ⟨rfl, rfl⟩
  go_wp2_with fail
  · refine (ref_zext_any _ _ _).mono ?_
    rintro e w' ⟨rfl, rfl⟩
    go_wp2
    go_ret2
    exact ⟨by rw [← H1.out (by assumption)]; rfl, rfl⟩
  · refine (ref_zext_any _ _ _).mono ?_
    rintro e w' ⟨rfl, rfl⟩
    go_wp2
    go_ret2
    exact ⟨by rw [← H2.out (by assumption)]; rfl, rfl⟩
theorem rnew_yes8 (f : Int) (hf : amF f = true) (a b : BitVec 64) (w : World) :
    Calls Try.prog 10 #[.int .i64 f, .int .i64 8, .int .u64 (u a), .int .u64 (u b)] w fun e w' => e = .returned (.tuple #[.int .u64 (u (amV f 8 a b)), .int .i64 (amE f 8)]) ∧ w = w' := by
  rcases amF_cases f with rfl | rfl | rfl | rfl | rfl | rfl | rfl | rfl | rfl | ⟨h, -⟩
  · exact rnew_1_8 a b w
  · exact rnew_0_8 a b w
  · exact rnew_4_8 a b w
  · exact rnew_8_8 a b w
  · exact rnew_12_8 a b w
  · exact rnew_16_8 a b w
  · exact rnew_20_8 a b w
  · exact rnew_24_8 a b w
  · exact rnew_28_8 a b w
  · rw [h] at hf; cases hf
theorem rnew_no8 (f : Int) (hf : amF f = false) (a b : BitVec 64) (w : World) :
    Calls Try.prog 10 #[.int .i64 f, .int .i64 8, .int .u64 (u a), .int .u64 (u b)] w fun e w' => e = .returned (.tuple #[.int .u64 (u (amV f 8 a b)), .int .i64 (amE f 8)]) ∧ w = w' := by
  have H : Hid (amV f 8 a b = 0) := Lib.hid (amV_no f 8 a b (.inr hf))
  have HE : Hid (amE f 8 = 1) := Lib.hid (amE_no f 8 (.inr hf))
  have e1 : (f == 1) = false := by cases h : (f == 1); rfl; simp at h; subst h; cases hf
  have e0 : (f == 0) = false := by cases h : (f == 0); rfl; simp at h; subst h; cases hf
  have e4 : (f == 4) = false := by cases h : (f == 4); rfl; simp at h; subst h; cases hf
  have e8 : (f == 8) = false := by cases h : (f == 8); rfl; simp at h; subst h; cases hf
  have e12 : (f == 12) = false := by cases h : (f == 12); rfl; simp at h; subst h; cases hf
  have e16 : (f == 16) = false := by cases h : (f == 16); rfl; simp at h; subst h; cases hf
  have e20 : (f == 20) = false := by cases h : (f == 20); rfl; simp at h; subst h; cases hf
  have e24 : (f == 24) = false := by cases h : (f == 24); rfl; simp at h; subst h; cases hf
  have e28 : (f == 28) = false := by cases h : (f == 28); rfl; simp at h; subst h; cases hf
  clear hf
  go_enter Try.func10, Try.ntmps10
  go_wp2_with (first | (go_at_call 25; refine (ref_zext_any _ _ _).mono ?_; rintro e w' ⟨rfl, rfl⟩) | (go_at_call 26; refine (ref_sext_any _ _ _).mono ?_; rintro e w' ⟨rfl, rfl⟩))
  go_ret2
  exact ⟨by rw [H.out, HE.out]; rfl, rfl⟩
theorem rnew_any (f z : Int) (a b : BitVec 64) (w : World) :
    Calls Try.prog 10 #[.int .i64 f, .int .i64 z, .int .u64 (u a), .int .u64 (u b)] w fun e w' => e = .returned (.tuple #[.int .u64 (u (amV f z a b)), .int .i64 (amE f z)]) ∧ w = w' := by
  by_cases h4 : z = 4
  · subst h4
    cases hf : amF f
    · exact rnew_no4 f hf a b w
    · exact rnew_yes4 f hf a b w
  · by_cases h8 : z = 8
    · subst h8
      cases hf : amF f
      · exact rnew_no8 f hf a b w
      · exact rnew_yes8 f hf a b w
    · exact rnew_other f z h4 h8 a b w
end Go.Proofs.Ythafghechghbpaa
