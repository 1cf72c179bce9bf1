/- What the reference's may, Read, Write and Modify come to; each call in one contract. Conditions: named at each. -/
import Derived.Test.YtoobbapdjoajgaaCsrY
import Derived.Test.YtoobbapdjoajgaaCsrK
namespace Go.Proofs.Ytoobbapdjoajgaa
open Go.RowKit

theorem mayB_none {c : Nat → BitVec 64} {n m : Int} {o : Bool} (h : rdb c n m = false) : mayB c n m o = false := by unfold mayB; rw [h]; rfl
theorem rdb_priv {c : Nat → BitVec 64} {n m : Int} (h0 : (m == 0) = false) (h1 : (m == 1) = false) (h3 : (m == 3) = false) : rdb c n m = false := by
  unfold rdb; rw [h0, h1, h3]; cases ex n <;> rfl
theorem rdb_low {c : Nat → BitVec 64} {n m : Int} (h : m < prv n) : rdb c n m = false := by
  unfold rdb; rw [decide_eq_false (Int.not_le.2 h)]; cases ex n <;> cases (m == 0 || m == 1 || m == 3) <;> rfl
theorem mayB_ro {c : Nat → BitVec 64} {n m : Int} (h : (n / 1024 == 3) = true) : mayB c n m true = false := by
  unfold mayB ron; rw [h]; cases rdb c n m <;> rfl
theorem mayB_far {c : Nat → BitVec 64} {n m : Int} {o : Bool} (hx : ex n = true) (hm : (m == 0 || m == 1 || m == 3) = true) (hl : prv n ≤ m) (h2 : (n == 384) = false) (h1 : opn c n m = true) (h3 : o = true → (n / 1024 == 3) = false) : mayB c n m o = true := by
  unfold mayB rdb ron; rw [hx, hm, decide_eq_true hl, h2, h1]
  cases o
  · rfl
  · rw [h3 rfl]; rfl
theorem counter_of {n : Int} (h1 : 3072 ≤ n) (h2 : n < 3079) : n = 3072 ∨ n = 3073 ∨ n = 3074 ∨ n = 3075 ∨ n = 3076 ∨ n = 3077 ∨ n = 3078 := by omega
theorem rmay_at_0 (c e : Nat → BitVec 64) (p q : Bool) (n : Int) (o : Bool) (hx : ex n = true) (w : World) : Calls Try.prog 33 #[.agg (cV c), .int .i64 n, .int .i64 0, .bool o, .agg (eV e p q)] w fun r w' => r = .returned (.bool (mayB c n 0 o)) ∧ On w w' := by
  by_cases hlow : 0 < prv n
  · rw [mayB_none (rdb_low hlow)]; exact rmay_low_0 c e p q n o hx hlow w
  have hl : prv n ≤ 0 := Int.not_lt.1 hlow
  clear hlow
  cases hr : (n / 1024 == 3)
  · have hn : n < 3072 ∨ 3079 ≤ n := by simp only [beq_eq_false_iff_ne] at hr; omega
    by_cases h384 : n = 384
    · subst h384
      exact absurd hl (by decide)
    · have h2 : (n == 384) = false := beq_eq_false_iff_ne.2 h384
      rw [mayB_far hx rfl hl h2 (opn_far (by omega) c 0) (fun _ => hr)]
      cases o <;> rcases hn with hn | hn
      · exact rmay_far_0_false_lo c e p q n hx hl h2 hn w
      · exact rmay_far_0_false_hi c e p q n hx hl h2 hn w
      · exact rmay_far_0_true_lo c e p q n hx hl hr h2 hn w
      · exact rmay_far_0_true_hi c e p q n hx hl hr h2 hn w
  · cases o
    case true => rw [mayB_ro hr]; exact rmay_ro_0 c e p q n hx hl hr w
    have h2 : (n == 384) = false := beq_eq_false_iff_ne.2 (by rintro rfl; exact absurd hr (by decide))
    by_cases hn : 3072 ≤ n ∧ n < 3079
    case neg =>
      have hn : n < 3072 ∨ 3079 ≤ n := by omega
      rw [mayB_far hx rfl hl h2 (opn_far (by omega) c 0) (fun h => by cases h)]
      rcases hn with hn | hn
      · exact rmay_far_0_false_lo c e p q n hx hl h2 hn w
      · exact rmay_far_0_false_hi c e p q n hx hl h2 hn w
    clear hx hl hr h2
    rcases counter_of hn.1 hn.2 with rfl | rfl | rfl | rfl | rfl | rfl | rfl
    · have hm : mayB c 3072 0 false = ((c 6).getLsbD 0 && (c 12).getLsbD 0) := by unfold mayB rdb opn; show ((c 6).getLsbD 0 && (false || (c 12).getLsbD 0) && true) = _; simp
      rw [hm]; clear hm hn
      have h6 := bit0 (c 6) 0
      cases g6 : (c 6).getLsbD 0 <;> rw [g6] at h6
      · exact rmay_3072_0_false c e p q h6 w
      · have h12 := bit0 (c 12) 0
        cases g12 : (c 12).getLsbD 0 <;> rw [g12] at h12
        · exact rmay_3072_0_true_false c e p q h6 h12 w
        · exact rmay_3072_0_true_true c e p q h6 h12 w
    · have hm : mayB c 3073 0 false = ((c 6).getLsbD 1 && (c 12).getLsbD 1) := by unfold mayB rdb opn; show ((c 6).getLsbD 1 && (false || (c 12).getLsbD 1) && true) = _; simp
      rw [hm]; clear hm hn
      have h6 := bit0 (c 6) 1
      cases g6 : (c 6).getLsbD 1 <;> rw [g6] at h6
      · exact rmay_3073_0_false c e p q h6 w
      · have h12 := bit0 (c 12) 1
        cases g12 : (c 12).getLsbD 1 <;> rw [g12] at h12
        · exact rmay_3073_0_true_false c e p q h6 h12 w
        · exact rmay_3073_0_true_true c e p q h6 h12 w
    · have hm : mayB c 3074 0 false = ((c 6).getLsbD 2 && (c 12).getLsbD 2) := by unfold mayB rdb opn; show ((c 6).getLsbD 2 && (false || (c 12).getLsbD 2) && true) = _; simp
      rw [hm]; clear hm hn
      have h6 := bit0 (c 6) 2
      cases g6 : (c 6).getLsbD 2 <;> rw [g6] at h6
      · exact rmay_3074_0_false c e p q h6 w
      · have h12 := bit0 (c 12) 2
        cases g12 : (c 12).getLsbD 2 <;> rw [g12] at h12
        · exact rmay_3074_0_true_false c e p q h6 h12 w
        · exact rmay_3074_0_true_true c e p q h6 h12 w
    · have hm : mayB c 3075 0 false = ((c 6).getLsbD 3 && (c 12).getLsbD 3) := by unfold mayB rdb opn; show ((c 6).getLsbD 3 && (false || (c 12).getLsbD 3) && true) = _; simp
      rw [hm]; clear hm hn
      have h6 := bit0 (c 6) 3
      cases g6 : (c 6).getLsbD 3 <;> rw [g6] at h6
      · exact rmay_3075_0_false c e p q h6 w
      · have h12 := bit0 (c 12) 3
        cases g12 : (c 12).getLsbD 3 <;> rw [g12] at h12
        · exact rmay_3075_0_true_false c e p q h6 h12 w
        · exact rmay_3075_0_true_true c e p q h6 h12 w
    · have hm : mayB c 3076 0 false = ((c 6).getLsbD 4 && (c 12).getLsbD 4) := by unfold mayB rdb opn; show ((c 6).getLsbD 4 && (false || (c 12).getLsbD 4) && true) = _; simp
      rw [hm]; clear hm hn
      have h6 := bit0 (c 6) 4
      cases g6 : (c 6).getLsbD 4 <;> rw [g6] at h6
      · exact rmay_3076_0_false c e p q h6 w
      · have h12 := bit0 (c 12) 4
        cases g12 : (c 12).getLsbD 4 <;> rw [g12] at h12
        · exact rmay_3076_0_true_false c e p q h6 h12 w
        · exact rmay_3076_0_true_true c e p q h6 h12 w
    · have hm : mayB c 3077 0 false = ((c 6).getLsbD 5 && (c 12).getLsbD 5) := by unfold mayB rdb opn; show ((c 6).getLsbD 5 && (false || (c 12).getLsbD 5) && true) = _; simp
      rw [hm]; clear hm hn
      have h6 := bit0 (c 6) 5
      cases g6 : (c 6).getLsbD 5 <;> rw [g6] at h6
      · exact rmay_3077_0_false c e p q h6 w
      · have h12 := bit0 (c 12) 5
        cases g12 : (c 12).getLsbD 5 <;> rw [g12] at h12
        · exact rmay_3077_0_true_false c e p q h6 h12 w
        · exact rmay_3077_0_true_true c e p q h6 h12 w
    · have hm : mayB c 3078 0 false = ((c 6).getLsbD 6 && (c 12).getLsbD 6) := by unfold mayB rdb opn; show ((c 6).getLsbD 6 && (false || (c 12).getLsbD 6) && true) = _; simp
      rw [hm]; clear hm hn
      have h6 := bit0 (c 6) 6
      cases g6 : (c 6).getLsbD 6 <;> rw [g6] at h6
      · exact rmay_3078_0_false c e p q h6 w
      · have h12 := bit0 (c 12) 6
        cases g12 : (c 12).getLsbD 6 <;> rw [g12] at h12
        · exact rmay_3078_0_true_false c e p q h6 h12 w
        · exact rmay_3078_0_true_true c e p q h6 h12 w
theorem rmay_at_1 (c e : Nat → BitVec 64) (p q : Bool) (n : Int) (o : Bool) (hx : ex n = true) (w : World) : Calls Try.prog 33 #[.agg (cV c), .int .i64 n, .int .i64 1, .bool o, .agg (eV e p q)] w fun r w' => r = .returned (.bool (mayB c n 1 o)) ∧ On w w' := by
  by_cases hlow : 1 < prv n
  · rw [mayB_none (rdb_low hlow)]; exact rmay_low_1 c e p q n o hx hlow w
  have hl : prv n ≤ 1 := Int.not_lt.1 hlow
  clear hlow
  cases hr : (n / 1024 == 3)
  · have hn : n < 3072 ∨ 3079 ≤ n := by simp only [beq_eq_false_iff_ne] at hr; omega
    by_cases h384 : n = 384
    · subst h384
      have hb : (bits .and .u64 (u (c 0)) 1048576 != 0) = (c 0).getLsbD 20 := by have := lsb20 (c 0); cases h : (c 0).getLsbD 20 <;> rw [h] at this <;> rw [bne, this] <;> rfl
      have hm : ∀ o, mayB c 384 1 o = !(c 0).getLsbD 20 := fun o => by
        have h1 : opn c 384 1 = true := opn_far (by omega) c 1
        unfold mayB rdb; rw [h1]; cases (c 0).getLsbD 20 <;> cases o <;> rfl
      rw [hm]
      cases h : (c 0).getLsbD 20 <;> cases o
      · exact rmay_384_1_false_false c e p q (hb.trans h) w
      · exact rmay_384_1_true_false c e p q (hb.trans h) w
      · exact rmay_384_1_false_true c e p q (hb.trans h) w
      · exact rmay_384_1_true_true c e p q (hb.trans h) w
    · have h2 : (n == 384) = false := beq_eq_false_iff_ne.2 h384
      rw [mayB_far hx rfl hl h2 (opn_far (by omega) c 1) (fun _ => hr)]
      cases o <;> rcases hn with hn | hn
      · exact rmay_far_1_false_lo c e p q n hx hl h2 hn w
      · exact rmay_far_1_false_hi c e p q n hx hl h2 hn w
      · exact rmay_far_1_true_lo c e p q n hx hl hr h2 hn w
      · exact rmay_far_1_true_hi c e p q n hx hl hr h2 hn w
  · cases o
    case true => rw [mayB_ro hr]; exact rmay_ro_1 c e p q n hx hl hr w
    have h2 : (n == 384) = false := beq_eq_false_iff_ne.2 (by rintro rfl; exact absurd hr (by decide))
    by_cases hn : 3072 ≤ n ∧ n < 3079
    case neg =>
      have hn : n < 3072 ∨ 3079 ≤ n := by omega
      rw [mayB_far hx rfl hl h2 (opn_far (by omega) c 1) (fun h => by cases h)]
      rcases hn with hn | hn
      · exact rmay_far_1_false_lo c e p q n hx hl h2 hn w
      · exact rmay_far_1_false_hi c e p q n hx hl h2 hn w
    clear hx hl hr h2
    rcases counter_of hn.1 hn.2 with rfl | rfl | rfl | rfl | rfl | rfl | rfl
    · have hm : mayB c 3072 1 false = (c 6).getLsbD 0 := by unfold mayB rdb opn; show ((c 6).getLsbD 0 && true && true) = _; simp
      rw [hm]; clear hm hn
      have h6 := bit0 (c 6) 0
      cases g6 : (c 6).getLsbD 0 <;> rw [g6] at h6
      · exact rmay_3072_1_false c e p q 1 rfl rfl rfl (by omega) h6 w
      · exact rmay_3072_1_true c e p q 1 rfl rfl rfl (by omega) h6 w
    · have hm : mayB c 3073 1 false = (c 6).getLsbD 1 := by unfold mayB rdb opn; show ((c 6).getLsbD 1 && true && true) = _; simp
      rw [hm]; clear hm hn
      have h6 := bit0 (c 6) 1
      cases g6 : (c 6).getLsbD 1 <;> rw [g6] at h6
      · exact rmay_3073_1_false c e p q 1 rfl rfl rfl (by omega) h6 w
      · exact rmay_3073_1_true c e p q 1 rfl rfl rfl (by omega) h6 w
    · have hm : mayB c 3074 1 false = (c 6).getLsbD 2 := by unfold mayB rdb opn; show ((c 6).getLsbD 2 && true && true) = _; simp
      rw [hm]; clear hm hn
      have h6 := bit0 (c 6) 2
      cases g6 : (c 6).getLsbD 2 <;> rw [g6] at h6
      · exact rmay_3074_1_false c e p q 1 rfl rfl rfl (by omega) h6 w
      · exact rmay_3074_1_true c e p q 1 rfl rfl rfl (by omega) h6 w
    · have hm : mayB c 3075 1 false = (c 6).getLsbD 3 := by unfold mayB rdb opn; show ((c 6).getLsbD 3 && true && true) = _; simp
      rw [hm]; clear hm hn
      have h6 := bit0 (c 6) 3
      cases g6 : (c 6).getLsbD 3 <;> rw [g6] at h6
      · exact rmay_3075_1_false c e p q 1 rfl rfl rfl (by omega) h6 w
      · exact rmay_3075_1_true c e p q 1 rfl rfl rfl (by omega) h6 w
    · have hm : mayB c 3076 1 false = (c 6).getLsbD 4 := by unfold mayB rdb opn; show ((c 6).getLsbD 4 && true && true) = _; simp
      rw [hm]; clear hm hn
      have h6 := bit0 (c 6) 4
      cases g6 : (c 6).getLsbD 4 <;> rw [g6] at h6
      · exact rmay_3076_1_false c e p q 1 rfl rfl rfl (by omega) h6 w
      · exact rmay_3076_1_true c e p q 1 rfl rfl rfl (by omega) h6 w
    · have hm : mayB c 3077 1 false = (c 6).getLsbD 5 := by unfold mayB rdb opn; show ((c 6).getLsbD 5 && true && true) = _; simp
      rw [hm]; clear hm hn
      have h6 := bit0 (c 6) 5
      cases g6 : (c 6).getLsbD 5 <;> rw [g6] at h6
      · exact rmay_3077_1_false c e p q 1 rfl rfl rfl (by omega) h6 w
      · exact rmay_3077_1_true c e p q 1 rfl rfl rfl (by omega) h6 w
    · have hm : mayB c 3078 1 false = (c 6).getLsbD 6 := by unfold mayB rdb opn; show ((c 6).getLsbD 6 && true && true) = _; simp
      rw [hm]; clear hm hn
      have h6 := bit0 (c 6) 6
      cases g6 : (c 6).getLsbD 6 <;> rw [g6] at h6
      · exact rmay_3078_1_false c e p q 1 rfl rfl rfl (by omega) h6 w
      · exact rmay_3078_1_true c e p q 1 rfl rfl rfl (by omega) h6 w
theorem rmay_at_3 (c e : Nat → BitVec 64) (p q : Bool) (n : Int) (o : Bool) (hx : ex n = true) (w : World) : Calls Try.prog 33 #[.agg (cV c), .int .i64 n, .int .i64 3, .bool o, .agg (eV e p q)] w fun r w' => r = .returned (.bool (mayB c n 3 o)) ∧ On w w' := by
  by_cases hlow : 3 < prv n
  · rw [mayB_none (rdb_low hlow)]; exact rmay_low_3 c e p q n o hx hlow w
  have hl : prv n ≤ 3 := Int.not_lt.1 hlow
  clear hlow
  cases hr : (n / 1024 == 3)
  · have hn : n < 3072 ∨ 3079 ≤ n := by simp only [beq_eq_false_iff_ne] at hr; omega
    by_cases h384 : n = 384
    · subst h384
      rw [show mayB c 384 3 o = true by cases o <;> rfl]
      cases o
      · exact rmay_384_3_false c e p q w
      · exact rmay_384_3_true c e p q w
    · have h2 : (n == 384) = false := beq_eq_false_iff_ne.2 h384
      rw [mayB_far hx rfl hl h2 (opn_far (by omega) c 3) (fun _ => hr)]
      cases o <;> rcases hn with hn | hn
      · exact rmay_far_3_false_lo c e p q n hx hl h2 hn w
      · exact rmay_far_3_false_hi c e p q n hx hl h2 hn w
      · exact rmay_far_3_true_lo c e p q n hx hl hr h2 hn w
      · exact rmay_far_3_true_hi c e p q n hx hl hr h2 hn w
  · cases o
    case true => rw [mayB_ro hr]; exact rmay_ro_3 c e p q n hx hl hr w
    have h2 : (n == 384) = false := beq_eq_false_iff_ne.2 (by rintro rfl; exact absurd hr (by decide))
    by_cases hn : 3072 ≤ n ∧ n < 3079
    case neg =>
      have hn : n < 3072 ∨ 3079 ≤ n := by omega
      rw [mayB_far hx rfl hl h2 (opn_far (by omega) c 3) (fun h => by cases h)]
      rcases hn with hn | hn
      · exact rmay_far_3_false_lo c e p q n hx hl h2 hn w
      · exact rmay_far_3_false_hi c e p q n hx hl h2 hn w
    clear hx hl hr h2
    rcases counter_of hn.1 hn.2 with rfl | rfl | rfl | rfl | rfl | rfl | rfl
    · exact rmay_3072_3 c e p q w
    · exact rmay_3073_3 c e p q w
    · exact rmay_3074_3 c e p q w
    · exact rmay_3075_3 c e p q w
    · exact rmay_3076_3 c e p q w
    · exact rmay_3077_3 c e p q w
    · exact rmay_3078_3 c e p q w
theorem rmay_any (c e : Nat → BitVec 64) (p q : Bool) (n m : Int) (o : Bool) (w : World) : Calls Try.prog 33 #[.agg (cV c), .int .i64 n, .int .i64 m, .bool o, .agg (eV e p q)] w fun r w' => r = .returned (.bool (mayB c n m o)) ∧ On w w' := by
  cases hx : ex n
  · rw [mayB_none (by unfold rdb; rw [hx]; rfl)]; exact rmay_none c e p q n m o hx w
  by_cases h0 : m = 0
  · subst h0; exact rmay_at_0 c e p q n o hx w
  by_cases h1 : m = 1
  · subst h1; exact rmay_at_1 c e p q n o hx w
  by_cases h3 : m = 3
  · subst h3; exact rmay_at_3 c e p q n o hx w
  rw [mayB_none (rdb_priv (beq_eq_false_iff_ne.2 h0) (beq_eq_false_iff_ne.2 h1) (beq_eq_false_iff_ne.2 h3))]
  exact rmay_priv c e p q n m o hx (bne_iff_ne.2 h0) (bne_iff_ne.2 h1) (bne_iff_ne.2 h3) w
theorem mayB_rd {c : Nat → BitVec 64} {n m : Int} : mayB c n m false = rdb c n m := by unfold mayB; exact Bool.and_true _
theorem mayB_wr {c : Nat → BitVec 64} {n m : Int} (h : rdb c n m = true) (hr : ron n = false) (o : Bool) : mayB c n m o = true := by unfold mayB; rw [h, hr]; cases o <;> rfl
theorem mayB_ron {c : Nat → BitVec 64} {n m : Int} (hr : ron n = true) : mayB c n m true = false := by unfold mayB; rw [hr]; cases rdb c n m <;> rfl
set_option maxHeartbeats 1000000 in
theorem rread_yes (c e : Nat → BitVec 64) (p q : Bool) (n m : Int) (h : rdb c n m = true) (w : World) : Calls Try.prog 15 #[.agg (cV c), .int .i64 n, .int .i64 m, .agg (eV e p q)] w fun r w' => r = .returned (.tuple #[.int .u64 (u (rv c e n)), .int .i64 0]) ∧ On w w' := by
  have hx := rdb_ex h
  have hk : mayB c n m false = true := mayB_rd.trans h
  have K1 : Hid (∀ w, Calls Try.prog 33 #[.agg (cV c), .int .i64 n, .int .i64 m, .bool false, .agg (eV e p q)] w fun r w' => r = .returned (.bool true) ∧ On w w') := Lib.hid (fun w => by have := rmay_any c e p q n m false w; rw [hk] at this; exact this)
  have K2 : Hid (∀ w, Calls Try.prog 34 #[.agg (cV c), .int .i64 n, .agg (eV e p q)] w fun r w' => r = .returned (.tuple #[.int .u64 (u (rv c e n)), .bool true]) ∧ On w w') := Lib.hid (fun w => by rw [← hx]; exact rvalue_any c e p q n w)
  clear h hx hk
  have HC : ∀ wr, On ((w.alloc (.cells (cV c) 25)).alloc (.cells (eV e p q) 27)) wr → wr.heap[w.heap.size]? = some (.cells (cV c) 25 (0, 0)) := fun _ h => h.keep (((On.refl _).alloc _).keep (heap_alloc_new _ _))
  have HE : ∀ wr, On ((w.alloc (.cells (cV c) 25)).alloc (.cells (eV e p q) 27)) wr → wr.heap[w.heap.size + 1]? = some (.cells (eV e p q) 27 (0, 0)) := fun _ h => h.keep (box2 _ _ _)
  have hb := On.refl ((w.alloc (.cells (cV c) 25)).alloc (.cells (eV e p q) 27))
  generalize rv c e n = y at *
  go_enter Try.func15, Try.ntmps15
  go_wp2_with (first | ((with_reducible apply csr_ld); (case ho => exact rfl); (case hgd => exact rfl); (case hx => exact rfl); (case hg => exact HC _ (by assumption))) | ((with_reducible apply env_ld); (case ho => exact rfl); (case hgd => exact rfl); (case hx => exact rfl); (case hg => exact HE _ (by assumption))) | (go_at_call 33; refine (K1.out _).mono ?_; rintro e wn ⟨rfl, hb'⟩; have hb := hb.trans hb'; clear hb') | (go_at_call 34; refine (K2.out _).mono ?_; rintro e wn ⟨rfl, hb'⟩; have hb := hb.trans hb'; clear hb'))
  go_ret2
  exact ⟨rfl, (((On.refl w).alloc _).alloc _).trans hb⟩
set_option maxHeartbeats 1000000 in
theorem rread_no (c e : Nat → BitVec 64) (p q : Bool) (n m : Int) (h : rdb c n m = false) (w : World) : Calls Try.prog 15 #[.agg (cV c), .int .i64 n, .int .i64 m, .agg (eV e p q)] w fun r w' => r = .returned (.tuple #[.int .u64 0, .int .i64 7]) ∧ On w w' := by
  have hk : mayB c n m false = false := mayB_rd.trans h
  have K1 : Hid (∀ w, Calls Try.prog 33 #[.agg (cV c), .int .i64 n, .int .i64 m, .bool false, .agg (eV e p q)] w fun r w' => r = .returned (.bool false) ∧ On w w') := Lib.hid (fun w => by have := rmay_any c e p q n m false w; rw [hk] at this; exact this)
  clear h hk
  have HC : ∀ wr, On ((w.alloc (.cells (cV c) 25)).alloc (.cells (eV e p q) 27)) wr → wr.heap[w.heap.size]? = some (.cells (cV c) 25 (0, 0)) := fun _ h => h.keep (((On.refl _).alloc _).keep (heap_alloc_new _ _))
  have HE : ∀ wr, On ((w.alloc (.cells (cV c) 25)).alloc (.cells (eV e p q) 27)) wr → wr.heap[w.heap.size + 1]? = some (.cells (eV e p q) 27 (0, 0)) := fun _ h => h.keep (box2 _ _ _)
  have hb := On.refl ((w.alloc (.cells (cV c) 25)).alloc (.cells (eV e p q) 27))
  go_enter Try.func15, Try.ntmps15
  go_wp2_with (first | ((with_reducible apply csr_ld); (case ho => exact rfl); (case hgd => exact rfl); (case hx => exact rfl); (case hg => exact HC _ (by assumption))) | ((with_reducible apply env_ld); (case ho => exact rfl); (case hgd => exact rfl); (case hx => exact rfl); (case hg => exact HE _ (by assumption))) | (go_at_call 33; refine (K1.out _).mono ?_; rintro e wn ⟨rfl, hb'⟩; have hb := hb.trans hb'; clear hb'))
  go_ret2
  exact ⟨rfl, (((On.refl w).alloc _).alloc _).trans hb⟩
set_option maxHeartbeats 1000000 in
theorem rwrite_yes (c e : Nat → BitVec 64) (p q : Bool) (n m : Int) (v : BitVec 64) (h : rdb c n m = true) (hr : ron n = false) (w : World) : Calls Try.prog 19 #[.agg (cV c), .int .i64 n, .int .i64 m, .int .u64 (u v), .agg (eV e p q)] w fun r w' => r = .returned (.tuple #[.agg (cV (kp c e n v)), .int .i64 0]) ∧ On w w' := by
  have hx := rdb_ex h
  have hk : mayB c n m true = true := mayB_wr h hr true
  have K1 : Hid (∀ w, Calls Try.prog 33 #[.agg (cV c), .int .i64 n, .int .i64 m, .bool true, .agg (eV e p q)] w fun r w' => r = .returned (.bool true) ∧ On w w') := Lib.hid (fun w => by have := rmay_any c e p q n m true w; rw [hk] at this; exact this)
  have K3 : Hid (∀ w, Calls Try.prog 37 #[.agg (cV c), .int .i64 n, .int .u64 (u (v)), .agg (eV e p q)] w fun r w' => r = .returned (.agg (cV (kp c e n (v)))) ∧ On w w') := Lib.hid (fun w => keep_any c e p q n hx hr (v) w)
  clear h hx hk hr
  have hZ := fun w => csr_zero w
  have HC : ∀ wr, On (((w.alloc (.cells (cV c) 25)).alloc (.cells (eV e p q) 27)).alloc (.cells (cV zC) 25)) wr → wr.heap[w.heap.size]? = some (.cells (cV c) 25 (0, 0)) := fun _ h => h.keep (box31 _ _ _ _)
  have HE : ∀ wr, On (((w.alloc (.cells (cV c) 25)).alloc (.cells (eV e p q) 27)).alloc (.cells (cV zC) 25)) wr → wr.heap[w.heap.size + 1]? = some (.cells (eV e p q) 27 (0, 0)) := fun _ h => h.keep (box32 _ _ _ _)
  have HR : ∀ wr, On (((w.alloc (.cells (cV c) 25)).alloc (.cells (eV e p q) 27)).alloc (.cells (cV zC) 25)) wr → wr.heap[w.heap.size + 1 + 1]? = some (.cells (cV zC) 25 (0, 0)) := fun _ h => h.keep (box33 _ _ _ _)
  have HO : Hid (On w (((w.alloc (.cells (cV c) 25)).alloc (.cells (eV e p q) 27)).alloc (.cells (cV zC) 25))) := Lib.hid (on3 _ _ _ _)
  have hb := On.refl (((w.alloc (.cells (cV c) 25)).alloc (.cells (eV e p q) 27)).alloc (.cells (cV zC) 25))
  generalize kp c e n v = z at *
  go_enter Try.func19, Try.ntmps19
  go_wp2_with (first | ((with_reducible apply csr_ld); (case ho => exact rfl); (case hgd => exact rfl); (case hx => exact rfl); (case hg => exact HC _ (by assumption))) | ((with_reducible apply env_ld); (case ho => exact rfl); (case hgd => exact rfl); (case hx => exact rfl); (case hg => exact HE _ (by assumption))) | ((with_reducible apply csr_st); (case ho => exact rfl); (case hgd => exact rfl); (case hx => exact rfl); (case hy => exact rfl); (case hg => exact HR _ (by assumption))) | (go_at_call 33; refine (K1.out _).mono ?_; rintro e wn ⟨rfl, hb'⟩; have hb := hb.trans hb'; clear hb') | (go_at_call 37; refine (K3.out _).mono ?_; rintro e wn ⟨rfl, hb'⟩; have hb := hb.trans hb'; clear hb'))
  refine row_back2 csrT rfl rfl rfl (set_row (HR _ (by assumption))) (cV_size _) rfl ⟨rfl, (HO.out.trans hb).row _ _ (by omega)⟩
set_option maxHeartbeats 1000000 in
theorem rwrite_no (c e : Nat → BitVec 64) (p q : Bool) (n m : Int) (v : BitVec 64) (hk : mayB c n m true = false) (w : World) : Calls Try.prog 19 #[.agg (cV c), .int .i64 n, .int .i64 m, .int .u64 (u v), .agg (eV e p q)] w fun r w' => r = .returned (.tuple #[.agg (cV (zC)), .int .i64 7]) ∧ On w w' := by
  have K1 : Hid (∀ w, Calls Try.prog 33 #[.agg (cV c), .int .i64 n, .int .i64 m, .bool true, .agg (eV e p q)] w fun r w' => r = .returned (.bool false) ∧ On w w') := Lib.hid (fun w => by have := rmay_any c e p q n m true w; rw [hk] at this; exact this)
  clear hk
  have hZ := fun w => csr_zero w
  have HC : ∀ wr, On (((w.alloc (.cells (cV c) 25)).alloc (.cells (eV e p q) 27)).alloc (.cells (cV zC) 25)) wr → wr.heap[w.heap.size]? = some (.cells (cV c) 25 (0, 0)) := fun _ h => h.keep (box31 _ _ _ _)
  have HE : ∀ wr, On (((w.alloc (.cells (cV c) 25)).alloc (.cells (eV e p q) 27)).alloc (.cells (cV zC) 25)) wr → wr.heap[w.heap.size + 1]? = some (.cells (eV e p q) 27 (0, 0)) := fun _ h => h.keep (box32 _ _ _ _)
  have HR : ∀ wr, On (((w.alloc (.cells (cV c) 25)).alloc (.cells (eV e p q) 27)).alloc (.cells (cV zC) 25)) wr → wr.heap[w.heap.size + 1 + 1]? = some (.cells (cV zC) 25 (0, 0)) := fun _ h => h.keep (box33 _ _ _ _)
  have HO : Hid (On w (((w.alloc (.cells (cV c) 25)).alloc (.cells (eV e p q) 27)).alloc (.cells (cV zC) 25))) := Lib.hid (on3 _ _ _ _)
  have hb := On.refl (((w.alloc (.cells (cV c) 25)).alloc (.cells (eV e p q) 27)).alloc (.cells (cV zC) 25))
  go_enter Try.func19, Try.ntmps19
  go_wp2_with (first | ((with_reducible apply csr_ld); (case ho => exact rfl); (case hgd => exact rfl); (case hx => exact rfl); (case hg => exact HC _ (by assumption))) | ((with_reducible apply env_ld); (case ho => exact rfl); (case hgd => exact rfl); (case hx => exact rfl); (case hg => exact HE _ (by assumption))) | ((with_reducible apply csr_st); (case ho => exact rfl); (case hgd => exact rfl); (case hx => exact rfl); (case hy => exact rfl); (case hg => exact HR _ (by assumption))) | (go_at_call 33; refine (K1.out _).mono ?_; rintro e wn ⟨rfl, hb'⟩; have hb := hb.trans hb'; clear hb'))
  refine row_back2 csrT rfl rfl rfl (set_row (HR _ (by assumption))) (cV_size _) rfl ⟨rfl, (HO.out.trans hb).row _ _ (by omega)⟩
set_option maxHeartbeats 1000000 in
theorem rmodify_lo (c e : Nat → BitVec 64) (p q : Bool) (n m f : Int) (x : BitVec 64) (o : Bool) (hf : f < 1) (w : World) : Calls Try.prog 21 #[.agg (cV c), .int .i64 n, .int .i64 m, .int .i64 f, .int .u64 (u x), .bool o, .agg (eV e p q)] w fun r w' => r = .returned (.tuple #[.int .u64 (0), .agg (cV (zC)), .int .i64 7]) ∧ On w w' := by
  have hZ := fun w => csr_zero w
  have HC : ∀ wr, On (((w.alloc (.cells (cV c) 25)).alloc (.cells (eV e p q) 27)).alloc (.cells (cV zC) 25)) wr → wr.heap[w.heap.size]? = some (.cells (cV c) 25 (0, 0)) := fun _ h => h.keep (box31 _ _ _ _)
  have HE : ∀ wr, On (((w.alloc (.cells (cV c) 25)).alloc (.cells (eV e p q) 27)).alloc (.cells (cV zC) 25)) wr → wr.heap[w.heap.size + 1]? = some (.cells (eV e p q) 27 (0, 0)) := fun _ h => h.keep (box32 _ _ _ _)
  have HR : ∀ wr, On (((w.alloc (.cells (cV c) 25)).alloc (.cells (eV e p q) 27)).alloc (.cells (cV zC) 25)) wr → wr.heap[w.heap.size + 1 + 1]? = some (.cells (cV zC) 25 (0, 0)) := fun _ h => h.keep (box33 _ _ _ _)
  have HO : Hid (On w (((w.alloc (.cells (cV c) 25)).alloc (.cells (eV e p q) 27)).alloc (.cells (cV zC) 25))) := Lib.hid (on3 _ _ _ _)
  have hb := On.refl (((w.alloc (.cells (cV c) 25)).alloc (.cells (eV e p q) 27)).alloc (.cells (cV zC) 25))
  go_enter Try.func21, Try.ntmps21
  go_wp2_with ((with_reducible apply csr_st); (case ho => exact rfl); (case hgd => exact rfl); (case hx => exact rfl); (case hy => exact rfl); (case hg => exact HR _ (by assumption)))
  refine row_back3 csrT rfl rfl rfl (set_row (HR _ (by assumption))) (cV_size _) rfl rfl ⟨rfl, (HO.out.trans hb).row _ _ (by omega)⟩
set_option maxHeartbeats 1000000 in
theorem rmodify_hi (c e : Nat → BitVec 64) (p q : Bool) (n m f : Int) (x : BitVec 64) (o : Bool) (h1 : ¬ f < 1) (hf : 3 < f) (w : World) : Calls Try.prog 21 #[.agg (cV c), .int .i64 n, .int .i64 m, .int .i64 f, .int .u64 (u x), .bool o, .agg (eV e p q)] w fun r w' => r = .returned (.tuple #[.int .u64 (0), .agg (cV (zC)), .int .i64 7]) ∧ On w w' := by
  have hZ := fun w => csr_zero w
  have HC : ∀ wr, On (((w.alloc (.cells (cV c) 25)).alloc (.cells (eV e p q) 27)).alloc (.cells (cV zC) 25)) wr → wr.heap[w.heap.size]? = some (.cells (cV c) 25 (0, 0)) := fun _ h => h.keep (box31 _ _ _ _)
  have HE : ∀ wr, On (((w.alloc (.cells (cV c) 25)).alloc (.cells (eV e p q) 27)).alloc (.cells (cV zC) 25)) wr → wr.heap[w.heap.size + 1]? = some (.cells (eV e p q) 27 (0, 0)) := fun _ h => h.keep (box32 _ _ _ _)
  have HR : ∀ wr, On (((w.alloc (.cells (cV c) 25)).alloc (.cells (eV e p q) 27)).alloc (.cells (cV zC) 25)) wr → wr.heap[w.heap.size + 1 + 1]? = some (.cells (cV zC) 25 (0, 0)) := fun _ h => h.keep (box33 _ _ _ _)
  have HO : Hid (On w (((w.alloc (.cells (cV c) 25)).alloc (.cells (eV e p q) 27)).alloc (.cells (cV zC) 25))) := Lib.hid (on3 _ _ _ _)
  have hb := On.refl (((w.alloc (.cells (cV c) 25)).alloc (.cells (eV e p q) 27)).alloc (.cells (cV zC) 25))
  go_enter Try.func21, Try.ntmps21
  go_wp2_with ((with_reducible apply csr_st); (case ho => exact rfl); (case hgd => exact rfl); (case hx => exact rfl); (case hy => exact rfl); (case hg => exact HR _ (by assumption)))
  refine row_back3 csrT rfl rfl rfl (set_row (HR _ (by assumption))) (cV_size _) rfl rfl ⟨rfl, (HO.out.trans hb).row _ _ (by omega)⟩
set_option maxHeartbeats 1000000 in
theorem rmodify_bad (c e : Nat → BitVec 64) (p q : Bool) (n m f : Int) (x : BitVec 64) (o : Bool) (h1 : ¬ f < 1) (h3 : ¬ 3 < f) (hk : mayB c n m o = false) (w : World) : Calls Try.prog 21 #[.agg (cV c), .int .i64 n, .int .i64 m, .int .i64 f, .int .u64 (u x), .bool o, .agg (eV e p q)] w fun r w' => r = .returned (.tuple #[.int .u64 (0), .agg (cV (zC)), .int .i64 7]) ∧ On w w' := by
  have K1 : Hid (∀ w, Calls Try.prog 33 #[.agg (cV c), .int .i64 n, .int .i64 m, .bool o, .agg (eV e p q)] w fun r w' => r = .returned (.bool false) ∧ On w w') := Lib.hid (fun w => by have := rmay_any c e p q n m o w; rw [hk] at this; exact this)
  clear hk
  have hZ := fun w => csr_zero w
  have HC : ∀ wr, On (((w.alloc (.cells (cV c) 25)).alloc (.cells (eV e p q) 27)).alloc (.cells (cV zC) 25)) wr → wr.heap[w.heap.size]? = some (.cells (cV c) 25 (0, 0)) := fun _ h => h.keep (box31 _ _ _ _)
  have HE : ∀ wr, On (((w.alloc (.cells (cV c) 25)).alloc (.cells (eV e p q) 27)).alloc (.cells (cV zC) 25)) wr → wr.heap[w.heap.size + 1]? = some (.cells (eV e p q) 27 (0, 0)) := fun _ h => h.keep (box32 _ _ _ _)
  have HR : ∀ wr, On (((w.alloc (.cells (cV c) 25)).alloc (.cells (eV e p q) 27)).alloc (.cells (cV zC) 25)) wr → wr.heap[w.heap.size + 1 + 1]? = some (.cells (cV zC) 25 (0, 0)) := fun _ h => h.keep (box33 _ _ _ _)
  have HO : Hid (On w (((w.alloc (.cells (cV c) 25)).alloc (.cells (eV e p q) 27)).alloc (.cells (cV zC) 25))) := Lib.hid (on3 _ _ _ _)
  have hb := On.refl (((w.alloc (.cells (cV c) 25)).alloc (.cells (eV e p q) 27)).alloc (.cells (cV zC) 25))
  go_enter Try.func21, Try.ntmps21
  go_wp2_with (first | ((with_reducible apply csr_ld); (case ho => exact rfl); (case hgd => exact rfl); (case hx => exact rfl); (case hg => exact HC _ (by assumption))) | ((with_reducible apply env_ld); (case ho => exact rfl); (case hgd => exact rfl); (case hx => exact rfl); (case hg => exact HE _ (by assumption))) | ((with_reducible apply csr_st); (case ho => exact rfl); (case hgd => exact rfl); (case hx => exact rfl); (case hy => exact rfl); (case hg => exact HR _ (by assumption))) | (go_at_call 33; refine (K1.out _).mono ?_; rintro e wn ⟨rfl, hb'⟩; have hb := hb.trans hb'; clear hb'))
  refine row_back3 csrT rfl rfl rfl (set_row (HR _ (by assumption))) (cV_size _) rfl rfl ⟨rfl, (HO.out.trans hb).row _ _ (by omega)⟩
set_option maxHeartbeats 1000000 in
theorem rmodify_rd (c e : Nat → BitVec 64) (p q : Bool) (n m f : Int) (x : BitVec 64) (h : rdb c n m = true) (h1 : ¬ f < 1) (h3 : ¬ 3 < f) (w : World) : Calls Try.prog 21 #[.agg (cV c), .int .i64 n, .int .i64 m, .int .i64 f, .int .u64 (u x), .bool false, .agg (eV e p q)] w fun r w' => r = .returned (.tuple #[.int .u64 (u (rv c e n)), .agg (cV (c)), .int .i64 0]) ∧ On w w' := by
  have hx := rdb_ex h
  have hk : mayB c n m false = true := mayB_rd.trans h
  have K1 : Hid (∀ w, Calls Try.prog 33 #[.agg (cV c), .int .i64 n, .int .i64 m, .bool false, .agg (eV e p q)] w fun r w' => r = .returned (.bool true) ∧ On w w') := Lib.hid (fun w => by have := rmay_any c e p q n m false w; rw [hk] at this; exact this)
  have K2 : Hid (∀ w, Calls Try.prog 34 #[.agg (cV c), .int .i64 n, .agg (eV e p q)] w fun r w' => r = .returned (.tuple #[.int .u64 (u (rv c e n)), .bool true]) ∧ On w w') := Lib.hid (fun w => by rw [← hx]; exact rvalue_any c e p q n w)
  clear h hx hk
  have hZ := fun w => csr_zero w
  have HC : ∀ wr, On (((w.alloc (.cells (cV c) 25)).alloc (.cells (eV e p q) 27)).alloc (.cells (cV zC) 25)) wr → wr.heap[w.heap.size]? = some (.cells (cV c) 25 (0, 0)) := fun _ h => h.keep (box31 _ _ _ _)
  have HE : ∀ wr, On (((w.alloc (.cells (cV c) 25)).alloc (.cells (eV e p q) 27)).alloc (.cells (cV zC) 25)) wr → wr.heap[w.heap.size + 1]? = some (.cells (eV e p q) 27 (0, 0)) := fun _ h => h.keep (box32 _ _ _ _)
  have HR : ∀ wr, On (((w.alloc (.cells (cV c) 25)).alloc (.cells (eV e p q) 27)).alloc (.cells (cV zC) 25)) wr → wr.heap[w.heap.size + 1 + 1]? = some (.cells (cV zC) 25 (0, 0)) := fun _ h => h.keep (box33 _ _ _ _)
  have HO : Hid (On w (((w.alloc (.cells (cV c) 25)).alloc (.cells (eV e p q) 27)).alloc (.cells (cV zC) 25))) := Lib.hid (on3 _ _ _ _)
  have hb := On.refl (((w.alloc (.cells (cV c) 25)).alloc (.cells (eV e p q) 27)).alloc (.cells (cV zC) 25))
  generalize rv c e n = y at *
  go_enter Try.func21, Try.ntmps21
  go_wp2_with (first | ((with_reducible apply csr_ld); (case ho => exact rfl); (case hgd => exact rfl); (case hx => exact rfl); (case hg => exact HC _ (by assumption))) | ((with_reducible apply env_ld); (case ho => exact rfl); (case hgd => exact rfl); (case hx => exact rfl); (case hg => exact HE _ (by assumption))) | ((with_reducible apply csr_st); (case ho => exact rfl); (case hgd => exact rfl); (case hx => exact rfl); (case hy => exact rfl); (case hg => exact HR _ (by assumption))) | (go_at_call 33; refine (K1.out _).mono ?_; rintro e wn ⟨rfl, hb'⟩; have hb := hb.trans hb'; clear hb') | (go_at_call 34; refine (K2.out _).mono ?_; rintro e wn ⟨rfl, hb'⟩; have hb := hb.trans hb'; clear hb'))
  have hsrc := HC _ hb
  have hres := HR _ hb
  have hlt := blk_lt hres
  have hon := HO.out.trans hb
  clear hb HC HE HR HO hZ
  refine wp_region_slots (by kernel_rfl) (fun i => (#[.int .u64 (u y), .agg (cV c), .int .u64 (u y), undef, .int .i64 0] : Array Value).getD i undef) (ResAt _ (w.heap.size + 1 + 1) (w.heap.size) c) (lex_of (by kernel_rfl)) (oneDst_of (by kernel_rfl)) (ResAt.start _ hsrc hres) ?done ?step
  case step =>
    intro i o hi hi13 l a wr hS hW hl haft
    have hi13 : i < 5 := hi13
    have h13 : i = 0 ∨ i = 1 ∨ i = 2 ∨ i = 3 ∨ i = 4 := by omega
    rcases h13 with rfl | rfl | rfl | rfl | rfl
    · obtain rfl := Option.some.inj hi
      refine wpOp_of hi rfl ?_
      exact wp_move_at rfl (hS.old (by kernel_rfl)) ⟨hS.put (oneDst_of (by kernel_rfl)) hi (fun _ => rfl), hW.step 0 (by omega)⟩
    · obtain rfl := Option.some.inj hi
      refine wpOp_of hi rfl ?_
      exact wp_load_at rfl (hS.old (by kernel_rfl)) (csr_at hW.src) ⟨hS.put (oneDst_of (by kernel_rfl)) hi (fun _ => rfl), hW.step 1 (by omega)⟩
    · obtain rfl := Option.some.inj hi
      refine wpOp_of hi rfl ?_
      exact wp_assign_at rfl (hS.val (i := 0) rfl rfl (haft ⟨0, .data⟩ (by simp) rfl)) ⟨hS.put (oneDst_of (by kernel_rfl)) hi (fun _ => rfl), hW.step 2 (by omega)⟩
    · obtain rfl := Option.some.inj hi
      refine wpOp_of hi rfl ?_
      exact wp_store_row_at csrT rfl (hS.old (by kernel_rfl)) (hS.val (i := 1) rfl rfl (haft ⟨1, .data⟩ (by simp) rfl)) hW.res (cV_size _) (cV_size _) (cV_one _) ⟨hS.put (oneDst_of (by kernel_rfl)) hi (fun _ => rfl), hW.set (by rw [hS.size]; decide) (by omega)⟩
    · obtain rfl := Option.some.inj hi
      refine wpOp_of hi rfl ?_
      exact wp_assign_at rfl rfl ⟨hS.put (oneDst_of (by kernel_rfl)) hi (fun _ => rfl), hW.step 4 (by omega)⟩
  case done =>
    intro wr hW
    have hr : wr.heap[w.heap.size + 1 + 1]? = some (.cells (cV c) 25 (0, 0)) := hW.res
    have hx := Lib.hid hW.but
    clear hW
    simp only [puts]
    go_simp
    go_wp2_with fail
    refine row_back3 csrT rfl rfl rfl hr (cV_size _) rfl rfl ⟨rfl, But.on_new hon (by omega) hx.out⟩
set_option maxHeartbeats 1000000 in
theorem rmodify_1_ip (c e : Nat → BitVec 64) (p q : Bool) (m : Int) (x : BitVec 64) (h : rdb c 836 m = true) (w : World) : Calls Try.prog 21 #[.agg (cV c), .int .i64 836, .int .i64 m, .int .i64 1, .int .u64 (u x), .bool true, .agg (eV e p q)] w fun r w' => r = .returned (.tuple #[.int .u64 (u (rv c e 836)), .agg (cV (kp c e 836 (comb 1 (bas c 836 (rv c e 836)) x))), .int .i64 0]) ∧ On w w' := by
  have hr : ron 836 = false := rfl
  have hx := rdb_ex h
  have hk : mayB c 836 m true = true := mayB_wr h hr true
  have K1 : Hid (∀ w, Calls Try.prog 33 #[.agg (cV c), .int .i64 836, .int .i64 m, .bool true, .agg (eV e p q)] w fun r w' => r = .returned (.bool true) ∧ On w w') := Lib.hid (fun w => by have := rmay_any c e p q 836 m true w; rw [hk] at this; exact this)
  have K2 : Hid (∀ w, Calls Try.prog 34 #[.agg (cV c), .int .i64 836, .agg (eV e p q)] w fun r w' => r = .returned (.tuple #[.int .u64 (u (rv c e 836)), .bool true]) ∧ On w w') := Lib.hid (fun w => by rw [← hx]; exact rvalue_any c e p q 836 w)
  have K3 : Hid (∀ w, Calls Try.prog 37 #[.agg (cV c), .int .i64 836, .int .u64 (u (comb 1 (bas c 836 (rv c e 836)) x)), .agg (eV e p q)] w fun r w' => r = .returned (.agg (cV (kp c e 836 (comb 1 (bas c 836 (rv c e 836)) x)))) ∧ On w w') := Lib.hid (fun w => keep_any c e p q 836 hx hr (comb 1 (bas c 836 (rv c e 836)) x) w)
  have hq : comb 1 (bas c 836 (rv c e 836)) x = x := by unfold comb bas; rfl
  rw [hq] at K3 ⊢
  clear h hx hk hr hq
  have hZ := fun w => csr_zero w
  have HC : ∀ wr, On (((w.alloc (.cells (cV c) 25)).alloc (.cells (eV e p q) 27)).alloc (.cells (cV zC) 25)) wr → wr.heap[w.heap.size]? = some (.cells (cV c) 25 (0, 0)) := fun _ h => h.keep (box31 _ _ _ _)
  have HE : ∀ wr, On (((w.alloc (.cells (cV c) 25)).alloc (.cells (eV e p q) 27)).alloc (.cells (cV zC) 25)) wr → wr.heap[w.heap.size + 1]? = some (.cells (eV e p q) 27 (0, 0)) := fun _ h => h.keep (box32 _ _ _ _)
  have HR : ∀ wr, On (((w.alloc (.cells (cV c) 25)).alloc (.cells (eV e p q) 27)).alloc (.cells (cV zC) 25)) wr → wr.heap[w.heap.size + 1 + 1]? = some (.cells (cV zC) 25 (0, 0)) := fun _ h => h.keep (box33 _ _ _ _)
  have HO : Hid (On w (((w.alloc (.cells (cV c) 25)).alloc (.cells (eV e p q) 27)).alloc (.cells (cV zC) 25))) := Lib.hid (on3 _ _ _ _)
  have hb := On.refl (((w.alloc (.cells (cV c) 25)).alloc (.cells (eV e p q) 27)).alloc (.cells (cV zC) 25))
  generalize kp c e 836 _ = z at *
  generalize rv c e 836 = y at *
  have c4 : ∀ wr, On (((w.alloc (.cells (cV c) 25)).alloc (.cells (eV e p q) 27)).alloc (.cells (cV zC) 25)) wr → wr.cell? ⟨w.heap.size, 4, none⟩ = some (.int .u64 (u (c 4))) := fun _ h => blk_cell (HC _ h) 4 (cV_get c 4 (by omega))
  have hB : bits .or .u64 (bits .andNot .u64 (u y) 512) (bits .and .u64 (u (c 4)) 512) = u (repl y (c 4) 0x200#64) := by rw [show (512 : Int) = u 0x200#64 from rfl, u_andNot, u_and, u_or]; rfl
  go_enter Try.func21, Try.ntmps21
  go_wp2_with (first | ((with_reducible apply csr_ld); (case ho => exact rfl); (case hgd => exact rfl); (case hx => exact rfl); (case hg => exact HC _ (by assumption))) | ((with_reducible apply env_ld); (case ho => exact rfl); (case hgd => exact rfl); (case hx => exact rfl); (case hg => exact HE _ (by assumption))) | ((with_reducible apply csr_st); (case ho => exact rfl); (case hgd => exact rfl); (case hx => exact rfl); (case hy => exact rfl); (case hg => exact HR _ (by assumption))) | (go_at_call 33; refine (K1.out _).mono ?_; rintro e wn ⟨rfl, hb'⟩; have hb := hb.trans hb'; clear hb') | (go_at_call 34; refine (K2.out _).mono ?_; rintro e wn ⟨rfl, hb'⟩; have hb := hb.trans hb'; clear hb') | (go_at_call 37; refine (K3.out _).mono ?_; rintro e wn ⟨rfl, hb'⟩; have hb := hb.trans hb'; clear hb'))
  refine row_back3 csrT rfl rfl rfl (set_row (HR _ (by assumption))) (cV_size _) rfl rfl ⟨rfl, (HO.out.trans hb).row _ _ (by omega)⟩
set_option maxHeartbeats 1000000 in
theorem rmodify_1_no (c e : Nat → BitVec 64) (p q : Bool) (n : Int) (m : Int) (x : BitVec 64) (h : rdb c n m = true) (hr : ron n = false) (h836 : n ≠ 836) (w : World) : Calls Try.prog 21 #[.agg (cV c), .int .i64 n, .int .i64 m, .int .i64 1, .int .u64 (u x), .bool true, .agg (eV e p q)] w fun r w' => r = .returned (.tuple #[.int .u64 (u (rv c e n)), .agg (cV (kp c e n (comb 1 (bas c n (rv c e n)) x))), .int .i64 0]) ∧ On w w' := by
  have hx := rdb_ex h
  have hk : mayB c n m true = true := mayB_wr h hr true
  have K1 : Hid (∀ w, Calls Try.prog 33 #[.agg (cV c), .int .i64 n, .int .i64 m, .bool true, .agg (eV e p q)] w fun r w' => r = .returned (.bool true) ∧ On w w') := Lib.hid (fun w => by have := rmay_any c e p q n m true w; rw [hk] at this; exact this)
  have K2 : Hid (∀ w, Calls Try.prog 34 #[.agg (cV c), .int .i64 n, .agg (eV e p q)] w fun r w' => r = .returned (.tuple #[.int .u64 (u (rv c e n)), .bool true]) ∧ On w w') := Lib.hid (fun w => by rw [← hx]; exact rvalue_any c e p q n w)
  have K3 : Hid (∀ w, Calls Try.prog 37 #[.agg (cV c), .int .i64 n, .int .u64 (u (comb 1 (bas c n (rv c e n)) x)), .agg (eV e p q)] w fun r w' => r = .returned (.agg (cV (kp c e n (comb 1 (bas c n (rv c e n)) x)))) ∧ On w w') := Lib.hid (fun w => keep_any c e p q n hx hr (comb 1 (bas c n (rv c e n)) x) w)
  have hq : comb 1 (bas c n (rv c e n)) x = x := by unfold comb bas; rw [if_neg h836]; rfl
  rw [hq] at K3 ⊢
  clear h hx hk hr hq
  have hZ := fun w => csr_zero w
  have HC : ∀ wr, On (((w.alloc (.cells (cV c) 25)).alloc (.cells (eV e p q) 27)).alloc (.cells (cV zC) 25)) wr → wr.heap[w.heap.size]? = some (.cells (cV c) 25 (0, 0)) := fun _ h => h.keep (box31 _ _ _ _)
  have HE : ∀ wr, On (((w.alloc (.cells (cV c) 25)).alloc (.cells (eV e p q) 27)).alloc (.cells (cV zC) 25)) wr → wr.heap[w.heap.size + 1]? = some (.cells (eV e p q) 27 (0, 0)) := fun _ h => h.keep (box32 _ _ _ _)
  have HR : ∀ wr, On (((w.alloc (.cells (cV c) 25)).alloc (.cells (eV e p q) 27)).alloc (.cells (cV zC) 25)) wr → wr.heap[w.heap.size + 1 + 1]? = some (.cells (cV zC) 25 (0, 0)) := fun _ h => h.keep (box33 _ _ _ _)
  have HO : Hid (On w (((w.alloc (.cells (cV c) 25)).alloc (.cells (eV e p q) 27)).alloc (.cells (cV zC) 25))) := Lib.hid (on3 _ _ _ _)
  have hb := On.refl (((w.alloc (.cells (cV c) 25)).alloc (.cells (eV e p q) 27)).alloc (.cells (cV zC) 25))
  generalize kp c e n _ = z at *
  generalize rv c e n = y at *
  have hN : (n == 836) = false := beq_eq_false_iff_ne.2 h836
  go_enter Try.func21, Try.ntmps21
  go_wp2_with (first | ((with_reducible apply csr_ld); (case ho => exact rfl); (case hgd => exact rfl); (case hx => exact rfl); (case hg => exact HC _ (by assumption))) | ((with_reducible apply env_ld); (case ho => exact rfl); (case hgd => exact rfl); (case hx => exact rfl); (case hg => exact HE _ (by assumption))) | ((with_reducible apply csr_st); (case ho => exact rfl); (case hgd => exact rfl); (case hx => exact rfl); (case hy => exact rfl); (case hg => exact HR _ (by assumption))) | (go_at_call 33; refine (K1.out _).mono ?_; rintro e wn ⟨rfl, hb'⟩; have hb := hb.trans hb'; clear hb') | (go_at_call 34; refine (K2.out _).mono ?_; rintro e wn ⟨rfl, hb'⟩; have hb := hb.trans hb'; clear hb') | (go_at_call 37; refine (K3.out _).mono ?_; rintro e wn ⟨rfl, hb'⟩; have hb := hb.trans hb'; clear hb'))
  refine row_back3 csrT rfl rfl rfl (set_row (HR _ (by assumption))) (cV_size _) rfl rfl ⟨rfl, (HO.out.trans hb).row _ _ (by omega)⟩
set_option maxHeartbeats 1000000 in
theorem rmodify_2_ip (c e : Nat → BitVec 64) (p q : Bool) (m : Int) (x : BitVec 64) (h : rdb c 836 m = true) (w : World) : Calls Try.prog 21 #[.agg (cV c), .int .i64 836, .int .i64 m, .int .i64 2, .int .u64 (u x), .bool true, .agg (eV e p q)] w fun r w' => r = .returned (.tuple #[.int .u64 (u (rv c e 836)), .agg (cV (kp c e 836 (comb 2 (bas c 836 (rv c e 836)) x))), .int .i64 0]) ∧ On w w' := by
  have hr : ron 836 = false := rfl
  have hx := rdb_ex h
  have hk : mayB c 836 m true = true := mayB_wr h hr true
  have K1 : Hid (∀ w, Calls Try.prog 33 #[.agg (cV c), .int .i64 836, .int .i64 m, .bool true, .agg (eV e p q)] w fun r w' => r = .returned (.bool true) ∧ On w w') := Lib.hid (fun w => by have := rmay_any c e p q 836 m true w; rw [hk] at this; exact this)
  have K2 : Hid (∀ w, Calls Try.prog 34 #[.agg (cV c), .int .i64 836, .agg (eV e p q)] w fun r w' => r = .returned (.tuple #[.int .u64 (u (rv c e 836)), .bool true]) ∧ On w w') := Lib.hid (fun w => by rw [← hx]; exact rvalue_any c e p q 836 w)
  have K3 : Hid (∀ w, Calls Try.prog 37 #[.agg (cV c), .int .i64 836, .int .u64 (u (comb 2 (bas c 836 (rv c e 836)) x)), .agg (eV e p q)] w fun r w' => r = .returned (.agg (cV (kp c e 836 (comb 2 (bas c 836 (rv c e 836)) x)))) ∧ On w w') := Lib.hid (fun w => keep_any c e p q 836 hx hr (comb 2 (bas c 836 (rv c e 836)) x) w)
  have hq : comb 2 (bas c 836 (rv c e 836)) x = (repl (rv c e 836) (c 4) 0x200#64) ||| x := by unfold comb bas; rfl
  rw [hq] at K3 ⊢
  clear h hx hk hr hq
  have hZ := fun w => csr_zero w
  have HC : ∀ wr, On (((w.alloc (.cells (cV c) 25)).alloc (.cells (eV e p q) 27)).alloc (.cells (cV zC) 25)) wr → wr.heap[w.heap.size]? = some (.cells (cV c) 25 (0, 0)) := fun _ h => h.keep (box31 _ _ _ _)
  have HE : ∀ wr, On (((w.alloc (.cells (cV c) 25)).alloc (.cells (eV e p q) 27)).alloc (.cells (cV zC) 25)) wr → wr.heap[w.heap.size + 1]? = some (.cells (eV e p q) 27 (0, 0)) := fun _ h => h.keep (box32 _ _ _ _)
  have HR : ∀ wr, On (((w.alloc (.cells (cV c) 25)).alloc (.cells (eV e p q) 27)).alloc (.cells (cV zC) 25)) wr → wr.heap[w.heap.size + 1 + 1]? = some (.cells (cV zC) 25 (0, 0)) := fun _ h => h.keep (box33 _ _ _ _)
  have HO : Hid (On w (((w.alloc (.cells (cV c) 25)).alloc (.cells (eV e p q) 27)).alloc (.cells (cV zC) 25))) := Lib.hid (on3 _ _ _ _)
  have hb := On.refl (((w.alloc (.cells (cV c) 25)).alloc (.cells (eV e p q) 27)).alloc (.cells (cV zC) 25))
  generalize kp c e 836 _ = z at *
  generalize rv c e 836 = y at *
  have c4 : ∀ wr, On (((w.alloc (.cells (cV c) 25)).alloc (.cells (eV e p q) 27)).alloc (.cells (cV zC) 25)) wr → wr.cell? ⟨w.heap.size, 4, none⟩ = some (.int .u64 (u (c 4))) := fun _ h => blk_cell (HC _ h) 4 (cV_get c 4 (by omega))
  have hB : bits .or .u64 (bits .andNot .u64 (u y) 512) (bits .and .u64 (u (c 4)) 512) = u (repl y (c 4) 0x200#64) := by rw [show (512 : Int) = u 0x200#64 from rfl, u_andNot, u_and, u_or]; rfl
  have hV : bits .or .u64 (u (repl y (c 4) 0x200#64)) (u x) = u ((repl y (c 4) 0x200#64) ||| x) := u_or _ _
  go_enter Try.func21, Try.ntmps21
  go_wp2_with (first | ((with_reducible apply csr_ld); (case ho => exact rfl); (case hgd => exact rfl); (case hx => exact rfl); (case hg => exact HC _ (by assumption))) | ((with_reducible apply env_ld); (case ho => exact rfl); (case hgd => exact rfl); (case hx => exact rfl); (case hg => exact HE _ (by assumption))) | ((with_reducible apply csr_st); (case ho => exact rfl); (case hgd => exact rfl); (case hx => exact rfl); (case hy => exact rfl); (case hg => exact HR _ (by assumption))) | (go_at_call 33; refine (K1.out _).mono ?_; rintro e wn ⟨rfl, hb'⟩; have hb := hb.trans hb'; clear hb') | (go_at_call 34; refine (K2.out _).mono ?_; rintro e wn ⟨rfl, hb'⟩; have hb := hb.trans hb'; clear hb') | (go_at_call 37; refine (K3.out _).mono ?_; rintro e wn ⟨rfl, hb'⟩; have hb := hb.trans hb'; clear hb'))
  refine row_back3 csrT rfl rfl rfl (set_row (HR _ (by assumption))) (cV_size _) rfl rfl ⟨rfl, (HO.out.trans hb).row _ _ (by omega)⟩
set_option maxHeartbeats 1000000 in
theorem rmodify_2_no (c e : Nat → BitVec 64) (p q : Bool) (n : Int) (m : Int) (x : BitVec 64) (h : rdb c n m = true) (hr : ron n = false) (h836 : n ≠ 836) (w : World) : Calls Try.prog 21 #[.agg (cV c), .int .i64 n, .int .i64 m, .int .i64 2, .int .u64 (u x), .bool true, .agg (eV e p q)] w fun r w' => r = .returned (.tuple #[.int .u64 (u (rv c e n)), .agg (cV (kp c e n (comb 2 (bas c n (rv c e n)) x))), .int .i64 0]) ∧ On w w' := by
  have hx := rdb_ex h
  have hk : mayB c n m true = true := mayB_wr h hr true
  have K1 : Hid (∀ w, Calls Try.prog 33 #[.agg (cV c), .int .i64 n, .int .i64 m, .bool true, .agg (eV e p q)] w fun r w' => r = .returned (.bool true) ∧ On w w') := Lib.hid (fun w => by have := rmay_any c e p q n m true w; rw [hk] at this; exact this)
  have K2 : Hid (∀ w, Calls Try.prog 34 #[.agg (cV c), .int .i64 n, .agg (eV e p q)] w fun r w' => r = .returned (.tuple #[.int .u64 (u (rv c e n)), .bool true]) ∧ On w w') := Lib.hid (fun w => by rw [← hx]; exact rvalue_any c e p q n w)
  have K3 : Hid (∀ w, Calls Try.prog 37 #[.agg (cV c), .int .i64 n, .int .u64 (u (comb 2 (bas c n (rv c e n)) x)), .agg (eV e p q)] w fun r w' => r = .returned (.agg (cV (kp c e n (comb 2 (bas c n (rv c e n)) x)))) ∧ On w w') := Lib.hid (fun w => keep_any c e p q n hx hr (comb 2 (bas c n (rv c e n)) x) w)
  have hq : comb 2 (bas c n (rv c e n)) x = ((rv c e n)) ||| x := by unfold comb bas; rw [if_neg h836]; rfl
  rw [hq] at K3 ⊢
  clear h hx hk hr hq
  have hZ := fun w => csr_zero w
  have HC : ∀ wr, On (((w.alloc (.cells (cV c) 25)).alloc (.cells (eV e p q) 27)).alloc (.cells (cV zC) 25)) wr → wr.heap[w.heap.size]? = some (.cells (cV c) 25 (0, 0)) := fun _ h => h.keep (box31 _ _ _ _)
  have HE : ∀ wr, On (((w.alloc (.cells (cV c) 25)).alloc (.cells (eV e p q) 27)).alloc (.cells (cV zC) 25)) wr → wr.heap[w.heap.size + 1]? = some (.cells (eV e p q) 27 (0, 0)) := fun _ h => h.keep (box32 _ _ _ _)
  have HR : ∀ wr, On (((w.alloc (.cells (cV c) 25)).alloc (.cells (eV e p q) 27)).alloc (.cells (cV zC) 25)) wr → wr.heap[w.heap.size + 1 + 1]? = some (.cells (cV zC) 25 (0, 0)) := fun _ h => h.keep (box33 _ _ _ _)
  have HO : Hid (On w (((w.alloc (.cells (cV c) 25)).alloc (.cells (eV e p q) 27)).alloc (.cells (cV zC) 25))) := Lib.hid (on3 _ _ _ _)
  have hb := On.refl (((w.alloc (.cells (cV c) 25)).alloc (.cells (eV e p q) 27)).alloc (.cells (cV zC) 25))
  generalize kp c e n _ = z at *
  generalize rv c e n = y at *
  have hN : (n == 836) = false := beq_eq_false_iff_ne.2 h836
  have hV : bits .or .u64 (u (y)) (u x) = u ((y) ||| x) := u_or _ _
  go_enter Try.func21, Try.ntmps21
  go_wp2_with (first | ((with_reducible apply csr_ld); (case ho => exact rfl); (case hgd => exact rfl); (case hx => exact rfl); (case hg => exact HC _ (by assumption))) | ((with_reducible apply env_ld); (case ho => exact rfl); (case hgd => exact rfl); (case hx => exact rfl); (case hg => exact HE _ (by assumption))) | ((with_reducible apply csr_st); (case ho => exact rfl); (case hgd => exact rfl); (case hx => exact rfl); (case hy => exact rfl); (case hg => exact HR _ (by assumption))) | (go_at_call 33; refine (K1.out _).mono ?_; rintro e wn ⟨rfl, hb'⟩; have hb := hb.trans hb'; clear hb') | (go_at_call 34; refine (K2.out _).mono ?_; rintro e wn ⟨rfl, hb'⟩; have hb := hb.trans hb'; clear hb') | (go_at_call 37; refine (K3.out _).mono ?_; rintro e wn ⟨rfl, hb'⟩; have hb := hb.trans hb'; clear hb'))
  refine row_back3 csrT rfl rfl rfl (set_row (HR _ (by assumption))) (cV_size _) rfl rfl ⟨rfl, (HO.out.trans hb).row _ _ (by omega)⟩
set_option maxHeartbeats 1000000 in
theorem rmodify_3_ip (c e : Nat → BitVec 64) (p q : Bool) (m : Int) (x : BitVec 64) (h : rdb c 836 m = true) (w : World) : Calls Try.prog 21 #[.agg (cV c), .int .i64 836, .int .i64 m, .int .i64 3, .int .u64 (u x), .bool true, .agg (eV e p q)] w fun r w' => r = .returned (.tuple #[.int .u64 (u (rv c e 836)), .agg (cV (kp c e 836 (comb 3 (bas c 836 (rv c e 836)) x))), .int .i64 0]) ∧ On w w' := by
  have hr : ron 836 = false := rfl
  have hx := rdb_ex h
  have hk : mayB c 836 m true = true := mayB_wr h hr true
  have K1 : Hid (∀ w, Calls Try.prog 33 #[.agg (cV c), .int .i64 836, .int .i64 m, .bool true, .agg (eV e p q)] w fun r w' => r = .returned (.bool true) ∧ On w w') := Lib.hid (fun w => by have := rmay_any c e p q 836 m true w; rw [hk] at this; exact this)
  have K2 : Hid (∀ w, Calls Try.prog 34 #[.agg (cV c), .int .i64 836, .agg (eV e p q)] w fun r w' => r = .returned (.tuple #[.int .u64 (u (rv c e 836)), .bool true]) ∧ On w w') := Lib.hid (fun w => by rw [← hx]; exact rvalue_any c e p q 836 w)
  have K3 : Hid (∀ w, Calls Try.prog 37 #[.agg (cV c), .int .i64 836, .int .u64 (u (comb 3 (bas c 836 (rv c e 836)) x)), .agg (eV e p q)] w fun r w' => r = .returned (.agg (cV (kp c e 836 (comb 3 (bas c 836 (rv c e 836)) x)))) ∧ On w w') := Lib.hid (fun w => keep_any c e p q 836 hx hr (comb 3 (bas c 836 (rv c e 836)) x) w)
  have hq : comb 3 (bas c 836 (rv c e 836)) x = (repl (rv c e 836) (c 4) 0x200#64) &&& ~~~x := by unfold comb bas; rfl
  rw [hq] at K3 ⊢
  clear h hx hk hr hq
  have hZ := fun w => csr_zero w
  have HC : ∀ wr, On (((w.alloc (.cells (cV c) 25)).alloc (.cells (eV e p q) 27)).alloc (.cells (cV zC) 25)) wr → wr.heap[w.heap.size]? = some (.cells (cV c) 25 (0, 0)) := fun _ h => h.keep (box31 _ _ _ _)
  have HE : ∀ wr, On (((w.alloc (.cells (cV c) 25)).alloc (.cells (eV e p q) 27)).alloc (.cells (cV zC) 25)) wr → wr.heap[w.heap.size + 1]? = some (.cells (eV e p q) 27 (0, 0)) := fun _ h => h.keep (box32 _ _ _ _)
  have HR : ∀ wr, On (((w.alloc (.cells (cV c) 25)).alloc (.cells (eV e p q) 27)).alloc (.cells (cV zC) 25)) wr → wr.heap[w.heap.size + 1 + 1]? = some (.cells (cV zC) 25 (0, 0)) := fun _ h => h.keep (box33 _ _ _ _)
  have HO : Hid (On w (((w.alloc (.cells (cV c) 25)).alloc (.cells (eV e p q) 27)).alloc (.cells (cV zC) 25))) := Lib.hid (on3 _ _ _ _)
  have hb := On.refl (((w.alloc (.cells (cV c) 25)).alloc (.cells (eV e p q) 27)).alloc (.cells (cV zC) 25))
  generalize kp c e 836 _ = z at *
  generalize rv c e 836 = y at *
  have c4 : ∀ wr, On (((w.alloc (.cells (cV c) 25)).alloc (.cells (eV e p q) 27)).alloc (.cells (cV zC) 25)) wr → wr.cell? ⟨w.heap.size, 4, none⟩ = some (.int .u64 (u (c 4))) := fun _ h => blk_cell (HC _ h) 4 (cV_get c 4 (by omega))
  have hB : bits .or .u64 (bits .andNot .u64 (u y) 512) (bits .and .u64 (u (c 4)) 512) = u (repl y (c 4) 0x200#64) := by rw [show (512 : Int) = u 0x200#64 from rfl, u_andNot, u_and, u_or]; rfl
  have hV : bits .andNot .u64 (u (repl y (c 4) 0x200#64)) (u x) = u ((repl y (c 4) 0x200#64) &&& ~~~x) := u_andNot _ _
  go_enter Try.func21, Try.ntmps21
  go_wp2_with (first | ((with_reducible apply csr_ld); (case ho => exact rfl); (case hgd => exact rfl); (case hx => exact rfl); (case hg => exact HC _ (by assumption))) | ((with_reducible apply env_ld); (case ho => exact rfl); (case hgd => exact rfl); (case hx => exact rfl); (case hg => exact HE _ (by assumption))) | ((with_reducible apply csr_st); (case ho => exact rfl); (case hgd => exact rfl); (case hx => exact rfl); (case hy => exact rfl); (case hg => exact HR _ (by assumption))) | (go_at_call 33; refine (K1.out _).mono ?_; rintro e wn ⟨rfl, hb'⟩; have hb := hb.trans hb'; clear hb') | (go_at_call 34; refine (K2.out _).mono ?_; rintro e wn ⟨rfl, hb'⟩; have hb := hb.trans hb'; clear hb') | (go_at_call 37; refine (K3.out _).mono ?_; rintro e wn ⟨rfl, hb'⟩; have hb := hb.trans hb'; clear hb'))
  refine row_back3 csrT rfl rfl rfl (set_row (HR _ (by assumption))) (cV_size _) rfl rfl ⟨rfl, (HO.out.trans hb).row _ _ (by omega)⟩
set_option maxHeartbeats 1000000 in
theorem rmodify_3_no (c e : Nat → BitVec 64) (p q : Bool) (n : Int) (m : Int) (x : BitVec 64) (h : rdb c n m = true) (hr : ron n = false) (h836 : n ≠ 836) (w : World) : Calls Try.prog 21 #[.agg (cV c), .int .i64 n, .int .i64 m, .int .i64 3, .int .u64 (u x), .bool true, .agg (eV e p q)] w fun r w' => r = .returned (.tuple #[.int .u64 (u (rv c e n)), .agg (cV (kp c e n (comb 3 (bas c n (rv c e n)) x))), .int .i64 0]) ∧ On w w' := by
  have hx := rdb_ex h
  have hk : mayB c n m true = true := mayB_wr h hr true
  have K1 : Hid (∀ w, Calls Try.prog 33 #[.agg (cV c), .int .i64 n, .int .i64 m, .bool true, .agg (eV e p q)] w fun r w' => r = .returned (.bool true) ∧ On w w') := Lib.hid (fun w => by have := rmay_any c e p q n m true w; rw [hk] at this; exact this)
  have K2 : Hid (∀ w, Calls Try.prog 34 #[.agg (cV c), .int .i64 n, .agg (eV e p q)] w fun r w' => r = .returned (.tuple #[.int .u64 (u (rv c e n)), .bool true]) ∧ On w w') := Lib.hid (fun w => by rw [← hx]; exact rvalue_any c e p q n w)
  have K3 : Hid (∀ w, Calls Try.prog 37 #[.agg (cV c), .int .i64 n, .int .u64 (u (comb 3 (bas c n (rv c e n)) x)), .agg (eV e p q)] w fun r w' => r = .returned (.agg (cV (kp c e n (comb 3 (bas c n (rv c e n)) x)))) ∧ On w w') := Lib.hid (fun w => keep_any c e p q n hx hr (comb 3 (bas c n (rv c e n)) x) w)
  have hq : comb 3 (bas c n (rv c e n)) x = ((rv c e n)) &&& ~~~x := by unfold comb bas; rw [if_neg h836]; rfl
  rw [hq] at K3 ⊢
  clear h hx hk hr hq
  have hZ := fun w => csr_zero w
  have HC : ∀ wr, On (((w.alloc (.cells (cV c) 25)).alloc (.cells (eV e p q) 27)).alloc (.cells (cV zC) 25)) wr → wr.heap[w.heap.size]? = some (.cells (cV c) 25 (0, 0)) := fun _ h => h.keep (box31 _ _ _ _)
  have HE : ∀ wr, On (((w.alloc (.cells (cV c) 25)).alloc (.cells (eV e p q) 27)).alloc (.cells (cV zC) 25)) wr → wr.heap[w.heap.size + 1]? = some (.cells (eV e p q) 27 (0, 0)) := fun _ h => h.keep (box32 _ _ _ _)
  have HR : ∀ wr, On (((w.alloc (.cells (cV c) 25)).alloc (.cells (eV e p q) 27)).alloc (.cells (cV zC) 25)) wr → wr.heap[w.heap.size + 1 + 1]? = some (.cells (cV zC) 25 (0, 0)) := fun _ h => h.keep (box33 _ _ _ _)
  have HO : Hid (On w (((w.alloc (.cells (cV c) 25)).alloc (.cells (eV e p q) 27)).alloc (.cells (cV zC) 25))) := Lib.hid (on3 _ _ _ _)
  have hb := On.refl (((w.alloc (.cells (cV c) 25)).alloc (.cells (eV e p q) 27)).alloc (.cells (cV zC) 25))
  generalize kp c e n _ = z at *
  generalize rv c e n = y at *
  have hN : (n == 836) = false := beq_eq_false_iff_ne.2 h836
  have hV : bits .andNot .u64 (u (y)) (u x) = u ((y) &&& ~~~x) := u_andNot _ _
  go_enter Try.func21, Try.ntmps21
  go_wp2_with (first | ((with_reducible apply csr_ld); (case ho => exact rfl); (case hgd => exact rfl); (case hx => exact rfl); (case hg => exact HC _ (by assumption))) | ((with_reducible apply env_ld); (case ho => exact rfl); (case hgd => exact rfl); (case hx => exact rfl); (case hg => exact HE _ (by assumption))) | ((with_reducible apply csr_st); (case ho => exact rfl); (case hgd => exact rfl); (case hx => exact rfl); (case hy => exact rfl); (case hg => exact HR _ (by assumption))) | (go_at_call 33; refine (K1.out _).mono ?_; rintro e wn ⟨rfl, hb'⟩; have hb := hb.trans hb'; clear hb') | (go_at_call 34; refine (K2.out _).mono ?_; rintro e wn ⟨rfl, hb'⟩; have hb := hb.trans hb'; clear hb') | (go_at_call 37; refine (K3.out _).mono ?_; rintro e wn ⟨rfl, hb'⟩; have hb := hb.trans hb'; clear hb'))
  refine row_back3 csrT rfl rfl rfl (set_row (HR _ (by assumption))) (cV_size _) rfl rfl ⟨rfl, (HO.out.trans hb).row _ _ (by omega)⟩
/-- may it be done? -/
def mdB (c : Nat → BitVec 64) (n m f : Int) (o : Bool) : Bool := decide (1 ≤ f) && (decide (f ≤ 3) && mayB c n m o)
def mdV (c e : Nat → BitVec 64) (n m f : Int) (o : Bool) : BitVec 64 := if mdB c n m f o = true then rv c e n else 0#64
def mdC (c e : Nat → BitVec 64) (n m f : Int) (x : BitVec 64) (o : Bool) : Nat → BitVec 64 :=
  if mdB c n m f o = true then (if o = true then kp c e n (comb f (bas c n (rv c e n)) x) else c) else zC
def okE (b : Bool) : Int := if b = true then 0 else 7
theorem modify_any (c e : Nat → BitVec 64) (p q : Bool) (n m f : Int) (x : BitVec 64) (o : Bool) (w : World) : Calls Try.prog 20 #[.agg (cV c), .int .i64 n, .int .i64 m, .int .i64 f, .int .u64 (u x), .bool o, .agg (eV e p q)] w fun r w' => r = .returned (.tuple #[.int .u64 (u (mdV c e n m f o)), .agg (cV (mdC c e n m f x o)), .int .i64 (okE (mdB c n m f o))]) ∧ On w w' := by
  have hno : mdB c n m f o = false → (Calls Try.prog 20 #[.agg (cV c), .int .i64 n, .int .i64 m, .int .i64 f, .int .u64 (u x), .bool o, .agg (eV e p q)] w fun r w' => r = .returned (.tuple #[.int .u64 0, .agg (cV zC), .int .i64 7]) ∧ On w w') → Calls Try.prog 20 #[.agg (cV c), .int .i64 n, .int .i64 m, .int .i64 f, .int .u64 (u x), .bool o, .agg (eV e p q)] w fun r w' => r = .returned (.tuple #[.int .u64 (u (mdV c e n m f o)), .agg (cV (mdC c e n m f x o)), .int .i64 (okE (mdB c n m f o))]) ∧ On w w' := fun h k => by
    unfold mdV mdC okE; rw [h]; exact k
  cases h : rdb c n m
  · exact hno (by unfold mdB mayB; rw [h]; simp) (modify_bad c e p q n m f x o h w)
  by_cases h1 : f < 1
  · exact hno (by unfold mdB; rw [decide_eq_false (by omega)]; rfl) (modify_fun c e p q n m f x o h (.inl h1) w)
  by_cases h3 : 3 < f
  · exact hno (by unfold mdB; rw [decide_eq_false (show ¬ f ≤ 3 by omega)]; simp) (modify_fun c e p q n m f x o h (.inr h3) w)
  cases o
  · have hm : mdB c n m f false = true := by unfold mdB; rw [mayB_rd, h, decide_eq_true (show 1 ≤ f by omega), decide_eq_true (show f ≤ 3 by omega)]; rfl
    unfold mdV mdC okE; rw [hm]; exact modify_rd c e p q n m f x h h1 h3 w
  · cases hr : ron n
    · have hm : mdB c n m f true = true := by unfold mdB; rw [mayB_wr h hr, decide_eq_true (show 1 ≤ f by omega), decide_eq_true (show f ≤ 3 by omega)]; rfl
      unfold mdV mdC okE; rw [hm]; exact modify_wr c e p q n m f x h h1 h3 hr w
    · exact hno (by unfold mdB; rw [mayB_ron hr]; simp) (modify_ron c e p q n m f x h h1 h3 hr w)
theorem rmodify_any (c e : Nat → BitVec 64) (p q : Bool) (n m f : Int) (x : BitVec 64) (o : Bool) (w : World) : Calls Try.prog 21 #[.agg (cV c), .int .i64 n, .int .i64 m, .int .i64 f, .int .u64 (u x), .bool o, .agg (eV e p q)] w fun r w' => r = .returned (.tuple #[.int .u64 (u (mdV c e n m f o)), .agg (cV (mdC c e n m f x o)), .int .i64 (okE (mdB c n m f o))]) ∧ On w w' := by
  have hno : mdB c n m f o = false → (Calls Try.prog 21 #[.agg (cV c), .int .i64 n, .int .i64 m, .int .i64 f, .int .u64 (u x), .bool o, .agg (eV e p q)] w fun r w' => r = .returned (.tuple #[.int .u64 0, .agg (cV zC), .int .i64 7]) ∧ On w w') → Calls Try.prog 21 #[.agg (cV c), .int .i64 n, .int .i64 m, .int .i64 f, .int .u64 (u x), .bool o, .agg (eV e p q)] w fun r w' => r = .returned (.tuple #[.int .u64 (u (mdV c e n m f o)), .agg (cV (mdC c e n m f x o)), .int .i64 (okE (mdB c n m f o))]) ∧ On w w' := fun h k => by
    unfold mdV mdC okE; rw [h]; exact k
  by_cases h1 : f < 1
  · exact hno (by unfold mdB; rw [decide_eq_false (by omega)]; rfl) (rmodify_lo c e p q n m f x o h1 w)
  by_cases h3 : 3 < f
  · exact hno (by unfold mdB; rw [decide_eq_false (show ¬ f ≤ 3 by omega)]; simp) (rmodify_hi c e p q n m f x o h1 h3 w)
  cases hk : mayB c n m o
  · exact hno (by unfold mdB; rw [hk]; simp) (rmodify_bad c e p q n m f x o h1 h3 hk w)
  have hm : mdB c n m f o = true := by unfold mdB; rw [hk, decide_eq_true (show 1 ≤ f by omega), decide_eq_true (show f ≤ 3 by omega)]; rfl
  unfold mdV mdC okE; rw [hm]
  have h : rdb c n m = true := by unfold mayB at hk; exact (Bool.and_eq_true_iff.1 hk).1
  cases o
  · exact rmodify_rd c e p q n m f x h h1 h3 w
  · have hr : ron n = false := by unfold mayB at hk; rw [h] at hk; simpa using hk
    have hf : f = 1 ∨ f = 2 ∨ f = 3 := by omega
    by_cases h8 : n = 836
    · subst h8
      rcases hf with rfl | rfl | rfl
      · exact rmodify_1_ip c e p q m x h w
      · exact rmodify_2_ip c e p q m x h w
      · exact rmodify_3_ip c e p q m x h w
    · rcases hf with rfl | rfl | rfl
      · exact rmodify_1_no c e p q n m x h hr h8 w
      · exact rmodify_2_no c e p q n m x h hr h8 w
      · exact rmodify_3_no c e p q n m x h hr h8 w
def rdV (c e : Nat → BitVec 64) (n m : Int) : BitVec 64 := if rdb c n m = true then rv c e n else 0#64
def wrC (c e : Nat → BitVec 64) (n m : Int) (v : BitVec 64) : Nat → BitVec 64 := if mayB c n m true = true then kp c e n v else zC
theorem read_any (c e : Nat → BitVec 64) (p q : Bool) (n m : Int) (w : World) : Calls Try.prog 14 #[.agg (cV c), .int .i64 n, .int .i64 m, .agg (eV e p q)] w fun r w' => r = .returned (.tuple #[.int .u64 (u (rdV c e n m)), .int .i64 (okE (rdb c n m))]) ∧ On w w' := by
  unfold rdV okE; cases h : rdb c n m
  · exact read_no c e p q n m h w
  · exact read_yes c e p q n m h w
theorem rread_any (c e : Nat → BitVec 64) (p q : Bool) (n m : Int) (w : World) : Calls Try.prog 15 #[.agg (cV c), .int .i64 n, .int .i64 m, .agg (eV e p q)] w fun r w' => r = .returned (.tuple #[.int .u64 (u (rdV c e n m)), .int .i64 (okE (rdb c n m))]) ∧ On w w' := by
  unfold rdV okE; cases h : rdb c n m
  · exact rread_no c e p q n m h w
  · exact rread_yes c e p q n m h w
theorem write_any (c e : Nat → BitVec 64) (p q : Bool) (n m : Int) (v : BitVec 64) (w : World) : Calls Try.prog 18 #[.agg (cV c), .int .i64 n, .int .i64 m, .int .u64 (u v), .agg (eV e p q)] w fun r w' => r = .returned (.tuple #[.agg (cV (wrC c e n m v)), .int .i64 (okE (mayB c n m true))]) ∧ On w w' := by
  unfold wrC okE; cases hk : mayB c n m true
  · unfold mayB at hk
    cases h : rdb c n m
    · exact write_bad c e p q n m v h w
    · rw [h] at hk; exact write_ron c e p q n m v h (by simpa using hk) w
  · have h : rdb c n m = true := by unfold mayB at hk; exact (Bool.and_eq_true_iff.1 hk).1
    exact write_yes c e p q n m v h (by unfold mayB at hk; rw [h] at hk; simpa using hk) w
theorem rwrite_any (c e : Nat → BitVec 64) (p q : Bool) (n m : Int) (v : BitVec 64) (w : World) : Calls Try.prog 19 #[.agg (cV c), .int .i64 n, .int .i64 m, .int .u64 (u v), .agg (eV e p q)] w fun r w' => r = .returned (.tuple #[.agg (cV (wrC c e n m v)), .int .i64 (okE (mayB c n m true))]) ∧ On w w' := by
  unfold wrC okE; cases hk : mayB c n m true
  · exact rwrite_no c e p q n m v hk w
  · have h : rdb c n m = true := by unfold mayB at hk; exact (Bool.and_eq_true_iff.1 hk).1
    exact rwrite_yes c e p q n m v h (by unfold mayB at hk; rw [h] at hk; simpa using hk) w
theorem okE_beq (b : Bool) : (okE b == 0) = b := by cases b <;> rfl
theorem okE_bne (b : Bool) : (okE b != 0) = !b := by cases b <;> rfl
end Go.Proofs.Ytoobbapdjoajgaa
