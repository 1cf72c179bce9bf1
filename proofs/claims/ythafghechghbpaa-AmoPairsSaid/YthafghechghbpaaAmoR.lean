/- The two closures of the law on pairs, and what the law asks of words. Conditions: named at each. -/
import Derived.Test.YthafghechghbpaaAmoQ
import Derived.Laws.EntriesVeiled
namespace Go.Proofs.Ythafghechghbpaa
open Go.RowKit

theorem cut_any (x : BitVec 64) (z : Int) (p : Addr) (w : World) (h : w.cell? p = some (.int .i64 z)) :
    Calls Try.prog 22 #[.int .u64 (u x), .pointer (some p)] w fun e w' => e = .returned (.int .u64 (u (ext x z false))) ∧ w = w' := by
  go_enter Try.func22, Try.ntmps22
  go_wp2_with (go_at_call 12; refine (ext_any _ _ _ _).mono ?_; rintro e w' ⟨rfl, rfl⟩)
  go_ret
  exact ⟨rfl, rfl⟩
theorem two_any (x y a b : BitVec 64) (z : Int) (p7 p8 p3 p4 : Addr) (w : World) (h7 : w.cell? p7 = some (.int .i64 z)) (h8 : w.cell? p8 = some (.func (.func 22) #[] #[.pointer (some p7)]))
    (h3 : w.cell? p3 = some (.int .u64 (u a))) (h4 : w.cell? p4 = some (.int .u64 (u b))) (h : x = ext a z false ∧ y = ext b z false ∨ x = ext b z false ∧ y = ext a z false) :
    Calls Try.prog 23 #[.int .u64 (u x), .int .u64 (u y), .pointer (some p8), .pointer (some p3), .pointer (some p4)] w fun e w' => e = .returned (.bool true) ∧ w = w' := by
  have H7 := Lib.hid h7
  by_cases c : x = ext a z false
  · have hy : y = ext b z false := by
      rcases h with h | h
      · exact h.2
      · rw [h.2, ← c, h.1]
    have t1 : (u x == u (ext a z false)) = true := by rw [c]; exact beq_self_eq_true _
    have t2 : (u y == u (ext b z false)) = true := by rw [hy]; exact beq_self_eq_true _
    clear h c hy h7
    go_enter Try.func23, Try.ntmps23
    go_wp2_with (go_at_call 22; refine (cut_any _ _ _ _ H7.out).mono ?_; rintro e w' ⟨rfl, rfl⟩)
    go_ret
    exact ⟨rfl, rfl⟩
  · have t1 : (u x == u (ext a z false)) = false := by rw [u_beq]; simpa using c
    have h2 : x = ext b z false ∧ y = ext a z false := by
      rcases h with h | h
      · exact absurd h.1 c
      · exact h
    have t2 : (u x == u (ext b z false)) = true := by rw [h2.1]; exact beq_self_eq_true _
    have t3 : (u y == u (ext a z false)) = true := by rw [h2.2]; exact beq_self_eq_true _
    clear h c h2 h7
    go_enter Try.func23, Try.ntmps23
    go_wp2_with (go_at_call 22; refine (cut_any _ _ _ _ H7.out).mono ?_; rintro e w' ⟨rfl, rfl⟩)
    go_ret
    exact ⟨rfl, rfl⟩
theorem cut_q (x : BitVec 64) (z : Int) (p : Addr) (w : World) (h : Hid (w.cell? p = some (.int .i64 z))) (n : Nat) :
    Calls Try.prog 22 #[.int .u64 (u x), .pointer (some p)] (w.drewN n) fun e w' => e = .returned (.int .u64 (u (ext x z false))) ∧ ∃ m, w' = w.drewN m :=
  Calls.quiet_of_same ((cut_any x z p (w.drewN n) (show w.cell? p = _ from h.out)).mono (fun _ _ h => ⟨h.1, h.2.symm⟩))
theorem two_q (x y a b : BitVec 64) (z : Int) (p7 p8 p3 p4 : Addr) (w : World) (h7 : Hid (w.cell? p7 = some (.int .i64 z))) (h8 : Hid (w.cell? p8 = some (.func (.func 22) #[] #[.pointer (some p7)])))
    (h3 : Hid (w.cell? p3 = some (.int .u64 (u a)))) (h4 : Hid (w.cell? p4 = some (.int .u64 (u b)))) (h : Hid (x = ext a z false ∧ y = ext b z false ∨ x = ext b z false ∧ y = ext a z false)) (n : Nat) :
    Calls Try.prog 23 #[.int .u64 (u x), .int .u64 (u y), .pointer (some p8), .pointer (some p3), .pointer (some p4)] (w.drewN n) fun e w' => e = .returned (.bool true) ∧ ∃ m, w' = w.drewN m :=
  Calls.quiet_of_same ((two_any x y a b z p7 p8 p3 p4 (w.drewN n) (show w.cell? _ = _ from h7.out) (show w.cell? _ = _ from h8.out) (show w.cell? _ = _ from h3.out) (show w.cell? _ = _ from h4.out) h.out).mono (fun _ _ h => ⟨h.1, h.2.symm⟩))
theorem ext_q (v : BitVec 64) (z : Int) (s : Bool) (w : World) (n : Nat) :
    Calls Try.prog 12 #[.int .u64 (u v), .int .i64 z, .bool s] (w.drewN n) fun e w' => e = .returned (.int .u64 (u (ext v z s))) ∧ ∃ m, w' = w.drewN m :=
  Calls.quiet_of_same ((ext_any v z s (w.drewN n)).mono (fun _ _ h => ⟨h.1, h.2.symm⟩))
theorem four_cells (w : World) (t1 t2 t3 t4 : TypeId) (v1 v2 v3 v4 : Value) :
    ((((w.alloc (.cells #[v1] t1)).alloc (.cells #[v2] t2)).alloc (.cells #[v3] t3)).alloc (.cells #[v4] t4)).cell? ⟨w.heap.size, 0, none⟩ = some v1 ∧
    ((((w.alloc (.cells #[v1] t1)).alloc (.cells #[v2] t2)).alloc (.cells #[v3] t3)).alloc (.cells #[v4] t4)).cell? ⟨w.heap.size + 1, 0, none⟩ = some v2 ∧
    ((((w.alloc (.cells #[v1] t1)).alloc (.cells #[v2] t2)).alloc (.cells #[v3] t3)).alloc (.cells #[v4] t4)).cell? ⟨w.heap.size + 1 + 1, 0, none⟩ = some v3 ∧
    ((((w.alloc (.cells #[v1] t1)).alloc (.cells #[v2] t2)).alloc (.cells #[v3] t3)).alloc (.cells #[v4] t4)).cell? ⟨w.heap.size + 1 + 1 + 1, 0, none⟩ = some v4 := by
  have h1 := on_new (cs := #[v1]) (t := t1) (wr := ((((w.alloc (.cells #[v1] t1)).alloc (.cells #[v2] t2)).alloc (.cells #[v3] t3)).alloc (.cells #[v4] t4))) ((((On.refl _).alloc _).alloc _).alloc _) 0 rfl
  have h2 := on_new (w := w.alloc (.cells #[v1] t1)) (cs := #[v2]) (t := t2) (wr := ((((w.alloc (.cells #[v1] t1)).alloc (.cells #[v2] t2)).alloc (.cells #[v3] t3)).alloc (.cells #[v4] t4))) (((On.refl _).alloc _).alloc _) 0 rfl
  have h3 := on_new (w := (w.alloc (.cells #[v1] t1)).alloc (.cells #[v2] t2)) (cs := #[v3]) (t := t3) (wr := ((((w.alloc (.cells #[v1] t1)).alloc (.cells #[v2] t2)).alloc (.cells #[v3] t3)).alloc (.cells #[v4] t4))) ((On.refl _).alloc _) 0 rfl
  have h4 := on_new (w := ((w.alloc (.cells #[v1] t1)).alloc (.cells #[v2] t2)).alloc (.cells #[v3] t3)) (cs := #[v4]) (t := t4) (wr := ((((w.alloc (.cells #[v1] t1)).alloc (.cells #[v2] t2)).alloc (.cells #[v3] t3)).alloc (.cells #[v4] t4))) (On.refl _) 0 rfl
  rw [alloc_size] at h2
  rw [alloc_size, alloc_size] at h3
  rw [alloc_size, alloc_size, alloc_size] at h4
  exact ⟨h1, h2, h3, h4⟩
/-! ### what the law asks -/
theorem pair_4 (f g : Int) (a b : BitVec 64) (hf : amF f = true) (hg : amF g = true) (h : amB f (lo32 a) (lo32 b) = lo32 a ∧ amB g (lo32 a) (lo32 b) = lo32 b ∨ amB f (lo32 a) (lo32 b) = lo32 b ∧ amB g (lo32 a) (lo32 b) = lo32 a) :
    amV f 4 a b = ext a 4 false ∧ amV g 4 a b = ext b 4 false ∨ amV f 4 a b = ext b 4 false ∧ amV g 4 a b = ext a 4 false := by
  rw [amV_yes f 4 a b (by omega) hf, amV_yes g 4 a b (by omega) hg, amz_4, amz_4, (ext_z a 4 (by omega)).2, (ext_z b 4 (by omega)).2, show (8 * 4 : Int) = 32 from rfl, zxt_32, zxt_32]
  rcases h with h | h
  · exact .inl ⟨by rw [h.1], by rw [h.2]⟩
  · exact .inr ⟨by rw [h.1], by rw [h.2]⟩
theorem pair_8 (f g : Int) (a b : BitVec 64) (hf : amF f = true) (hg : amF g = true) (h : amB f a b = a ∧ amB g a b = b ∨ amB f a b = b ∧ amB g a b = a) :
    amV f 8 a b = ext a 8 false ∧ amV g 8 a b = ext b 8 false ∨ amV f 8 a b = ext b 8 false ∧ amV g 8 a b = ext a 8 false := by
  rw [amV_yes f 8 a b (by omega) hf, amV_yes g 8 a b (by omega) hg, amz_8, amz_8, (ext_8 a).2, (ext_8 b).2]
  exact h
theorem pair_s {n : Nat} (a b : BitVec n) : amB 16 a b = a ∧ amB 20 a b = b ∨ amB 16 a b = b ∧ amB 20 a b = a := by
  rw [amB_16, amB_20]
  cases a.slt b
  · exact .inr ⟨rfl, rfl⟩
  · exact .inl ⟨rfl, rfl⟩
theorem pair_u {n : Nat} (a b : BitVec n) : amB 24 a b = a ∧ amB 28 a b = b ∨ amB 24 a b = b ∧ amB 28 a b = a := by
  show (if a.ult b then a else b) = a ∧ (if a.ult b then b else a) = b ∨ (if a.ult b then a else b) = b ∧ (if a.ult b then b else a) = a
  cases a.ult b
  · exact .inr ⟨rfl, rfl⟩
  · exact .inl ⟨rfl, rfl⟩
theorem ult_le {n : Nat} (a b : BitVec n) : (amB 24 a b).toNat ≤ (amB 28 a b).toNat := by
  show (if a.ult b then a else b).toNat ≤ (if a.ult b then b else a).toNat
  cases c : a.ult b
  · unfold BitVec.ult at c; simp at c ⊢; exact c
  · unfold BitVec.ult at c; simp at c ⊢; omega
theorem slt_le {n : Nat} (a b : BitVec n) : (amB 16 a b).toInt ≤ (amB 20 a b).toInt := by
  rw [amB_16, amB_20]
  cases c : a.slt b
  · unfold BitVec.slt at c; simp at c ⊢; exact c
  · unfold BitVec.slt at c; simp at c ⊢; omega
theorem leu_4 (a b : BitVec 64) : u (amV 24 4 a b) ≤ u (amV 28 4 a b) := by
  rw [amV_yes 24 4 a b (by omega) rfl, amV_yes 28 4 a b (by omega) rfl, amz_4, amz_4, u_zx, u_zx]
  have := ult_le (lo32 a) (lo32 b)
  unfold q; omega
theorem leu_8 (a b : BitVec 64) : u (amV 24 8 a b) ≤ u (amV 28 8 a b) := by
  rw [amV_yes 24 8 a b (by omega) rfl, amV_yes 28 8 a b (by omega) rfl, amz_8, amz_8]
  have := ult_le a b
  unfold u; omega
theorem les_8 (a b : BitVec 64) : wrap64 (u (ext (amV 16 8 a b) 8 true)) ≤ wrap64 (u (ext (amV 20 8 a b) 8 true)) := by
  rw [w64_sg, w64_sg, amV_yes 16 8 a b (by omega) rfl, amV_yes 20 8 a b (by omega) rfl, amz_8, amz_8, (ext_8 _).1, (ext_8 _).1]
  exact slt_le a b
theorem sg_s32 (x : BitVec 64) : sg (s32 x) = (lo32 x).toInt := by unfold sg s32; exact BitVec.toInt_signExtend_of_le (by omega)
theorem les_4 (a b : BitVec 64) : wrap64 (u (ext (amV 16 4 a b) 4 true)) ≤ wrap64 (u (ext (amV 20 4 a b) 4 true)) := by
  rw [w64_sg, w64_sg, amV_yes 16 4 a b (by omega) rfl, amV_yes 20 4 a b (by omega) rfl, amz_4, amz_4, (ext_z _ 4 (by omega)).1, (ext_z _ 4 (by omega)).1, show (8 * 4 : Int) = 32 from rfl, sxt_s32, sxt_s32, sg_s32, sg_s32, lo_zx, lo_zx]
  exact slt_le _ _
theorem swp_4 (a b : BitVec 64) : amV 1 4 a b = ext b 4 false := by
  rw [amV_yes 1 4 a b (by omega) rfl, amz_4, (ext_z b 4 (by omega)).2, show (8 * 4 : Int) = 32 from rfl, zxt_32]; rfl
theorem swp_8 (a b : BitVec 64) : amV 1 8 a b = ext b 8 false := by
  rw [amV_yes 1 8 a b (by omega) rfl, amz_8, (ext_8 b).2]; rfl
end Go.Proofs.Ythafghechghbpaa
