/- What the statements of package csr say of words, of rights and of cells, in plain terms; which CSRs show something of one another. Conditions: named at each. -/
import Derived.Test.YtoobbapdjoajgaaCsrA
namespace Go.Proofs.Ytoobbapdjoajgaa
open Go.RowKit

theorem views_1 (x : BitVec 64) : ((x &&& 0xc0122#64) ||| 0x200000000#64) &&& ~~~0x200000000#64 = x &&& 0xc0122#64 := by
  apply BitVec.eq_of_getLsbD_eq; intro i hi
  simp only [BitVec.getLsbD_and, BitVec.getLsbD_or, BitVec.getLsbD_not, hi, decide_true, Bool.true_and]
  have hm : (0xc0122#64).getLsbD i = true → (0x200000000#64).getLsbD i = false := by revert i; decide
  cases h1 : (0xc0122#64).getLsbD i
  · cases (0x200000000#64).getLsbD i <;> simp
  · rw [hm h1]; simp
theorem views_2 (x : BitVec 64) : (x ||| 0xa00000000#64) &&& 0xc0122#64 = x &&& 0xc0122#64 := by
  apply BitVec.eq_of_getLsbD_eq; intro i hi
  simp only [BitVec.getLsbD_and, BitVec.getLsbD_or]
  have hm : (0xc0122#64).getLsbD i = true → (0xa00000000#64).getLsbD i = false := by revert i; decide
  cases h1 : (0xc0122#64).getLsbD i
  · simp
  · rw [hm h1]; simp
theorem views_b (v : BitVec 64) (k : Nat) : (bits .and .u64 (u (v >>> k)) 1 == 1) = v.getLsbD k := by
  have h := and1_test v k
  rw [show (1 : Int) = u (1 : BitVec 64) from rfl, u_and]
  exact h
theorem views_k (a : Int) : ∃ k : Nat, (k = 0 ∨ k = 1 ∨ k = 2 ∨ k = 3 ∨ k = 4 ∨ k = 5 ∨ k = 6) ∧ IntKind.i64.wrap ((IntKind.u64.wrap a).tmod 7) = (k : Int) := by
  rw [wrap_ofInt]
  generalize BitVec.ofInt 64 a = t
  rw [Int.tmod_eq_emod_of_nonneg (u_nonneg t)]
  have h1 := Int.emod_nonneg (u t) (show (7:Int) ≠ 0 by decide)
  have h2 := Int.emod_lt_of_pos (u t) (show (0:Int) < 7 by decide)
  generalize u t % 7 = r at *
  have h : r = 0 ∨ r = 1 ∨ r = 2 ∨ r = 3 ∨ r = 4 ∨ r = 5 ∨ r = 6 := by omega
  rcases h with rfl | rfl | rfl | rfl | rfl | rfl | rfl
  · exact ⟨0, by simp, by decide⟩
  · exact ⟨1, by simp, by decide⟩
  · exact ⟨2, by simp, by decide⟩
  · exact ⟨3, by simp, by decide⟩
  · exact ⟨4, by simp, by decide⟩
  · exact ⟨5, by simp, by decide⟩
  · exact ⟨6, by simp, by decide⟩
theorem mayB_rdb {c : Nat → BitVec 64} {n m : Int} (h : rdb c n m = false) : mayB c n m true = false := mayB_none h
theorem mayB_ex {c : Nat → BitVec 64} {n m : Int} {o : Bool} (h : mayB c n m o = true) : ex n = true := by
  unfold mayB at h; exact rdb_ex (Bool.and_eq_true_iff.1 h).1
theorem rdb_up1 (c : Nat → BitVec 64) (n : Int) (h : rdb c n 0 = true) : rdb c n 1 = true := by
  unfold rdb opn at *
  have hd : n = 384 → ¬ prv n ≤ 0 := by rintro rfl; decide
  by_cases hp : prv n ≤ 0
  · have h8 : (n == 384) = false := beq_eq_false_iff_ne.2 fun h8 => hd h8 hp
    rw [decide_eq_true hp] at h
    rw [decide_eq_true (show prv n ≤ 1 by omega), h8]
    rw [h8] at h
    generalize ex n = a at *
    generalize (decide (3072 ≤ n) && decide (n ≤ 3078)) = b at *
    generalize (c 6).getLsbD (n - 3072).toNat = d at *
    generalize (c 12).getLsbD (n - 3072).toNat = g at *
    generalize (c 0).getLsbD 20 = t at *
    revert h; cases a <;> cases b <;> cases d <;> cases g <;> cases t <;> decide
  · rw [decide_eq_false hp] at h
    generalize ex n = a at *
    cases a <;> cases h
theorem rdb_3 (x c : Nat → BitVec 64) (n : Int) : rdb x n 3 = rdb c n 3 := by
  unfold rdb opn
  generalize ex n = a
  cases a
  · rfl
  · generalize decide (prv n ≤ 3) = d
    generalize (decide (3072 ≤ n) && decide (n ≤ 3078)) = b
    cases d <;> cases b <;> cases (n == 384) <;> rfl
theorem rdb_up3 (c : Nat → BitVec 64) (n : Int) (h : rdb c n 1 = true) : rdb c n 3 = true := by
  unfold rdb opn at *
  by_cases hp : prv n ≤ 1
  · rw [decide_eq_true (show prv n ≤ 3 by omega)]
    rw [decide_eq_true hp] at h
    generalize ex n = a at *
    generalize (decide (3072 ≤ n) && decide (n ≤ 3078)) = b at *
    cases a
    · cases h
    · cases b <;> cases (n == 384) <;> rfl
  · rw [decide_eq_false hp] at h
    generalize ex n = a at *
    cases a <;> cases h
theorem rdb_800 (c : Nat → BitVec 64) : rdb c 800 3 = true := by unfold rdb; rw [opn_far (by omega) c 3]; rfl
theorem rdb_2816 (c : Nat → BitVec 64) : rdb c 2816 3 = true := by unfold rdb; rw [opn_far (by omega) c 3]; rfl
theorem rdb_832 (c : Nat → BitVec 64) : rdb c 832 3 = true := by unfold rdb; rw [opn_far (by omega) c 3]; rfl
theorem rdb_320 (c : Nat → BitVec 64) : rdb c 320 3 = true := by unfold rdb; rw [opn_far (by omega) c 3]; rfl
theorem bits_832_2 (c e : Nat → BitVec 64) (p q : Bool) (a : BitVec 64) (w : World) : Calls Try.prog 20 #[.agg (cV c), .int .i64 832, .int .i64 3, .int .i64 2, .int .u64 (u a), .bool true, .agg (eV e p q)] w fun r w' => r = .returned (.tuple #[.int .u64 (u (c 7)), .agg (cV (upd c 7 (c 7 ||| a))), .int .i64 0]) ∧ On w w' :=
  modify_wr c e p q 832 3 2 a (rdb_832 c) (by decide) (by decide) rfl w
theorem bits_832_3 (c e : Nat → BitVec 64) (p q : Bool) (a : BitVec 64) (w : World) : Calls Try.prog 20 #[.agg (cV c), .int .i64 832, .int .i64 3, .int .i64 3, .int .u64 (u a), .bool true, .agg (eV e p q)] w fun r w' => r = .returned (.tuple #[.int .u64 (u (c 7)), .agg (cV (upd c 7 (c 7 &&& ~~~a))), .int .i64 0]) ∧ On w w' :=
  modify_wr c e p q 832 3 3 a (rdb_832 c) (by decide) (by decide) rfl w
theorem bits_832_1 (c e : Nat → BitVec 64) (p q : Bool) (w : World) : Calls Try.prog 20 #[.agg (cV c), .int .i64 832, .int .i64 3, .int .i64 1, .int .u64 0, .bool false, .agg (eV e p q)] w fun r w' => r = .returned (.tuple #[.int .u64 (u (c 7)), .agg (cV (c)), .int .i64 0]) ∧ On w w' :=
  modify_rd c e p q 832 3 1 0#64 (rdb_832 c) (by decide) (by decide) w
theorem bits_320_2 (c e : Nat → BitVec 64) (p q : Bool) (a : BitVec 64) (w : World) : Calls Try.prog 20 #[.agg (cV c), .int .i64 320, .int .i64 3, .int .i64 2, .int .u64 (u a), .bool true, .agg (eV e p q)] w fun r w' => r = .returned (.tuple #[.int .u64 (u (c 13)), .agg (cV (upd c 13 (c 13 ||| a))), .int .i64 0]) ∧ On w w' :=
  modify_wr c e p q 320 3 2 a (rdb_320 c) (by decide) (by decide) rfl w
theorem bits_320_3 (c e : Nat → BitVec 64) (p q : Bool) (a : BitVec 64) (w : World) : Calls Try.prog 20 #[.agg (cV c), .int .i64 320, .int .i64 3, .int .i64 3, .int .u64 (u a), .bool true, .agg (eV e p q)] w fun r w' => r = .returned (.tuple #[.int .u64 (u (c 13)), .agg (cV (upd c 13 (c 13 &&& ~~~a))), .int .i64 0]) ∧ On w w' :=
  modify_wr c e p q 320 3 3 a (rdb_320 c) (by decide) (by decide) rfl w
theorem bits_320_1 (c e : Nat → BitVec 64) (p q : Bool) (w : World) : Calls Try.prog 20 #[.agg (cV c), .int .i64 320, .int .i64 3, .int .i64 1, .int .u64 0, .bool false, .agg (eV e p q)] w fun r w' => r = .returned (.tuple #[.int .u64 (u (c 13)), .agg (cV (c)), .int .i64 0]) ∧ On w w' :=
  modify_rd c e p q 320 3 1 0#64 (rdb_320 c) (by decide) (by decide) w
def tmX (c : Nat → BitVec 64) (t : BitVec 64) : Nat → BitVec 64 := kp c (eT t) 800 0#64
def tmY (c : Nat → BitVec 64) (v t : BitVec 64) : Nat → BitVec 64 := kp (tmX c t) (eT t) 2816 v
def tmZ (c : Nat → BitVec 64) (v t m : BitVec 64) : Nat → BitVec 64 := kp (tmY c v t) (eT (t + m)) 800 1#64
def tmU (c : Nat → BitVec 64) (v t m r : BitVec 64) : Nat → BitVec 64 := kp (tmZ c v t m) (eT (t + m + r)) 800 0#64
theorem tmX_eq (c : Nat → BitVec 64) (t : BitVec 64) : tmX c t = upd (upd (upd c 20 (cyc c (eT t))) 21 t) 18 0#64 := rfl
theorem tmY_eq (c : Nat → BitVec 64) (v t : BitVec 64) : tmY c v t = upd (upd (tmX c t) 20 v) 21 t := rfl
theorem tmZ_eq (c : Nat → BitVec 64) (v t m : BitVec 64) : tmZ c v t m = upd (upd (upd (tmY c v t) 20 (cyc (tmY c v t) (eT (t + m)))) 21 (t + m)) 18 1#64 := rfl
theorem tmU_eq (c : Nat → BitVec 64) (v t m r : BitVec 64) : tmU c v t m r = upd (upd (upd (tmZ c v t m) 20 (cyc (tmZ c v t m) (eT (t + m + r)))) 21 (t + m + r)) 18 0#64 := rfl
theorem eT_0 (t : BitVec 64) : eT t 0 = t := rfl
theorem tm_1 (c : Nat → BitVec 64) (v t m : BitVec 64) : cyc (tmY c v t) (eT (t + m)) = v + m := by
  have h18 : tmY c v t 18 = 0#64 := by rw [tmY_eq, upd_ne _ _ (by omega), upd_ne _ _ (by omega), tmX_eq, upd_self]
  have h20 : tmY c v t 20 = v := by rw [tmY_eq, upd_ne _ _ (by omega), upd_self]
  have h21 : tmY c v t 21 = t := by rw [tmY_eq, upd_self]
  unfold cyc; rw [h18, h20, h21, if_neg (by simp), eT_0, show t + m - t = m by rw [BitVec.add_comm, BitVec.add_sub_cancel]]
theorem tm_2 (c : Nat → BitVec 64) (v t m r : BitVec 64) : cyc (tmZ c v t m) (eT (t + m + r)) = v + m := by
  have h18 : tmZ c v t m 18 = 1#64 := by rw [tmZ_eq, upd_self]
  have h20 : tmZ c v t m 20 = v + m := by rw [tmZ_eq, upd_ne _ _ (by omega), upd_ne _ _ (by omega), upd_self, tm_1]
  unfold cyc; rw [h18, h20, if_pos (by decide)]
theorem tm_3 (c : Nat → BitVec 64) (v t m r : BitVec 64) : cyc (tmU c v t m r) (eT (t + m + r + 7#64)) = v + m + 7#64 := by
  have h18 : tmU c v t m r 18 = 0#64 := by rw [tmU_eq, upd_self]
  have h20 : tmU c v t m r 20 = v + m := by rw [tmU_eq, upd_ne _ _ (by omega), upd_ne _ _ (by omega), upd_self, tm_2]
  have h21 : tmU c v t m r 21 = t + m + r := by rw [tmU_eq, upd_ne _ _ (by omega), upd_self]
  unfold cyc; rw [h18, h20, h21, if_neg (by simp), eT_0, show t + m + r + 7#64 - (t + m + r) = 7#64 by rw [BitVec.add_comm, BitVec.add_sub_cancel]]
/-- the group of a number: those of one group show something of one another -/
def grp (n : Int) : Int := (([(768, 1), (256, 1), (771, 2), (772, 2), (260, 2), (836, 2), (324, 2), (800, 3), (2816, 3), (3072, 3), (2818, 4), (3074, 4), (2819, 10), (2820, 11), (2821, 12), (2822, 13), (3075, 10), (3076, 11), (3077, 12), (3078, 13)] : List (Int × Int)).lookup n).getD 0
def kinB (n o : Int) : Bool := grp n != 0 && grp n == grp o
def foot (n : Int) : List Nat := (([(768, [0]), (256, [0]), (769, []), (770, [1]), (771, [2]), (772, [3]), (260, [3, 2]), (836, [4]), (324, [4, 2]), (773, [5]), (261, [11]), (774, [6]), (262, [12]), (800, [18]), (832, [7]), (320, [13]), (835, [10]), (323, [16]), (833, [8]), (321, [14]), (834, [9]), (322, [15]), (384, [17]), (2816, [18, 20, 21]), (3072, [18, 20, 21]), (2818, [19]), (3074, [19]), (803, [22]), (804, [23]), (805, [24]), (806, [25]), (2819, [26]), (2820, [27]), (2821, [28]), (2822, [29]), (3075, [26]), (3076, [27]), (3077, [28]), (3078, [29]), (3073, []), (3857, []), (3858, []), (3859, []), (3860, []), (3861, [])] : List (Int × List Nat)).lookup n).getD []
def wfoot (n : Int) : List Nat := (([(768, [0]), (256, [0]), (770, [1]), (771, [2]), (772, [3]), (260, [3]), (836, [4]), (324, [4]), (773, [5]), (261, [11]), (774, [6]), (262, [12]), (800, [20, 21, 18]), (832, [7]), (320, [13]), (835, [10]), (323, [16]), (833, [8]), (321, [14]), (834, [9]), (322, [15]), (384, [17]), (2816, [20, 21]), (2818, [19]), (803, [22]), (804, [23]), (805, [24]), (806, [25]), (2819, [26]), (2820, [27]), (2821, [28]), (2822, [29])] : List (Int × List Nat)).lookup n).getD []
theorem rv_foot (c d e : Nat → BitVec 64) (n : Int) (hx : ex n = true) (h : ∀ i, i ∈ foot n → c i = d i) : rv c e n = rv d e n := by
  rcases ex_cases hx with rfl | rfl | rfl | rfl | rfl | rfl | rfl | rfl | rfl | rfl | rfl | rfl | rfl | rfl | rfl | rfl | rfl | rfl | rfl | rfl | rfl | rfl | rfl | rfl | rfl | rfl | rfl | rfl | rfl | rfl | rfl | rfl | rfl | rfl | rfl | rfl | rfl | rfl | rfl | rfl | rfl | rfl | rfl | rfl | rfl
  · have h0 : c 0 = d 0 := h 0 (by decide)
    show c 0 ||| 0xa00000000#64 = d 0 ||| 0xa00000000#64
    rw [h0]
  · have h0 : c 0 = d 0 := h 0 (by decide)
    show (c 0 &&& 0xc0122#64) ||| 0x200000000#64 = (d 0 &&& 0xc0122#64) ||| 0x200000000#64
    rw [h0]
  · rfl
  · have h1 : c 1 = d 1 := h 1 (by decide)
    show c 1 = d 1
    rw [h1]
  · have h2 : c 2 = d 2 := h 2 (by decide)
    show c 2 = d 2
    rw [h2]
  · have h3 : c 3 = d 3 := h 3 (by decide)
    show c 3 = d 3
    rw [h3]
  · have h3 : c 3 = d 3 := h 3 (by decide)
    have h2 : c 2 = d 2 := h 2 (by decide)
    show c 3 &&& c 2 = d 3 &&& d 2
    rw [h3, h2]
  · have h4 : c 4 = d 4 := h 4 (by decide)
    show pend c e = pend d e
    unfold pend; simp only [h4]
  · have h4 : c 4 = d 4 := h 4 (by decide)
    have h2 : c 2 = d 2 := h 2 (by decide)
    show pend c e &&& c 2 = pend d e &&& d 2
    unfold pend; simp only [h4, h2]
  · have h5 : c 5 = d 5 := h 5 (by decide)
    show c 5 = d 5
    rw [h5]
  · have h11 : c 11 = d 11 := h 11 (by decide)
    show c 11 = d 11
    rw [h11]
  · have h6 : c 6 = d 6 := h 6 (by decide)
    show c 6 = d 6
    rw [h6]
  · have h12 : c 12 = d 12 := h 12 (by decide)
    show c 12 = d 12
    rw [h12]
  · have h18 : c 18 = d 18 := h 18 (by decide)
    show c 18 = d 18
    rw [h18]
  · have h7 : c 7 = d 7 := h 7 (by decide)
    show c 7 = d 7
    rw [h7]
  · have h13 : c 13 = d 13 := h 13 (by decide)
    show c 13 = d 13
    rw [h13]
  · have h10 : c 10 = d 10 := h 10 (by decide)
    show c 10 = d 10
    rw [h10]
  · have h16 : c 16 = d 16 := h 16 (by decide)
    show c 16 = d 16
    rw [h16]
  · have h8 : c 8 = d 8 := h 8 (by decide)
    show c 8 = d 8
    rw [h8]
  · have h14 : c 14 = d 14 := h 14 (by decide)
    show c 14 = d 14
    rw [h14]
  · have h9 : c 9 = d 9 := h 9 (by decide)
    show c 9 = d 9
    rw [h9]
  · have h15 : c 15 = d 15 := h 15 (by decide)
    show c 15 = d 15
    rw [h15]
  · have h17 : c 17 = d 17 := h 17 (by decide)
    show c 17 = d 17
    rw [h17]
  · have h18 : c 18 = d 18 := h 18 (by decide)
    have h20 : c 20 = d 20 := h 20 (by decide)
    have h21 : c 21 = d 21 := h 21 (by decide)
    show cyc c e = cyc d e
    unfold cyc; simp only [h18, h20, h21]
  · have h18 : c 18 = d 18 := h 18 (by decide)
    have h20 : c 20 = d 20 := h 20 (by decide)
    have h21 : c 21 = d 21 := h 21 (by decide)
    show cyc c e = cyc d e
    unfold cyc; simp only [h18, h20, h21]
  · have h19 : c 19 = d 19 := h 19 (by decide)
    show c 19 = d 19
    rw [h19]
  · have h19 : c 19 = d 19 := h 19 (by decide)
    show c 19 = d 19
    rw [h19]
  · have h22 : c 22 = d 22 := h 22 (by decide)
    show c 22 = d 22
    rw [h22]
  · have h23 : c 23 = d 23 := h 23 (by decide)
    show c 23 = d 23
    rw [h23]
  · have h24 : c 24 = d 24 := h 24 (by decide)
    show c 24 = d 24
    rw [h24]
  · have h25 : c 25 = d 25 := h 25 (by decide)
    show c 25 = d 25
    rw [h25]
  · have h26 : c 26 = d 26 := h 26 (by decide)
    show c 26 + e 3 = d 26 + e 3
    rw [h26]
  · have h27 : c 27 = d 27 := h 27 (by decide)
    show c 27 + e 4 = d 27 + e 4
    rw [h27]
  · have h28 : c 28 = d 28 := h 28 (by decide)
    show c 28 + e 5 = d 28 + e 5
    rw [h28]
  · have h29 : c 29 = d 29 := h 29 (by decide)
    show c 29 + e 6 = d 29 + e 6
    rw [h29]
  · have h26 : c 26 = d 26 := h 26 (by decide)
    show c 26 + e 3 = d 26 + e 3
    rw [h26]
  · have h27 : c 27 = d 27 := h 27 (by decide)
    show c 27 + e 4 = d 27 + e 4
    rw [h27]
  · have h28 : c 28 = d 28 := h 28 (by decide)
    show c 28 + e 5 = d 28 + e 5
    rw [h28]
  · have h29 : c 29 = d 29 := h 29 (by decide)
    show c 29 + e 6 = d 29 + e 6
    rw [h29]
  · rfl
  · rfl
  · rfl
  · rfl
  · rfl
  · rfl
theorem kp_foot (c e : Nat → BitVec 64) (n : Int) (v : BitVec 64) (hx : ex n = true) (i : Nat) (h : i ∉ wfoot n) : kp c e n v i = c i := by
  rcases ex_cases hx with rfl | rfl | rfl | rfl | rfl | rfl | rfl | rfl | rfl | rfl | rfl | rfl | rfl | rfl | rfl | rfl | rfl | rfl | rfl | rfl | rfl | rfl | rfl | rfl | rfl | rfl | rfl | rfl | rfl | rfl | rfl | rfl | rfl | rfl | rfl | rfl | rfl | rfl | rfl | rfl | rfl | rfl | rfl | rfl | rfl
  · have h0 : i ≠ 0 := fun hi => h (hi ▸ by decide)
    show upd c 0 _ i = c i
    exact upd_ne _ _ h0
  · have h0 : i ≠ 0 := fun hi => h (hi ▸ by decide)
    show upd c 0 _ i = c i
    exact upd_ne _ _ h0
  · rfl
  · have h1 : i ≠ 1 := fun hi => h (hi ▸ by decide)
    show upd c 1 _ i = c i
    exact upd_ne _ _ h1
  · have h2 : i ≠ 2 := fun hi => h (hi ▸ by decide)
    show upd c 2 _ i = c i
    exact upd_ne _ _ h2
  · have h3 : i ≠ 3 := fun hi => h (hi ▸ by decide)
    show upd c 3 _ i = c i
    exact upd_ne _ _ h3
  · have h3 : i ≠ 3 := fun hi => h (hi ▸ by decide)
    show upd c 3 _ i = c i
    exact upd_ne _ _ h3
  · have h4 : i ≠ 4 := fun hi => h (hi ▸ by decide)
    show upd c 4 _ i = c i
    exact upd_ne _ _ h4
  · have h4 : i ≠ 4 := fun hi => h (hi ▸ by decide)
    show upd c 4 _ i = c i
    exact upd_ne _ _ h4
  · have h5 : i ≠ 5 := fun hi => h (hi ▸ by decide)
    show upd c 5 _ i = c i
    exact upd_ne _ _ h5
  · have h11 : i ≠ 11 := fun hi => h (hi ▸ by decide)
    show upd c 11 _ i = c i
    exact upd_ne _ _ h11
  · have h6 : i ≠ 6 := fun hi => h (hi ▸ by decide)
    show upd c 6 _ i = c i
    exact upd_ne _ _ h6
  · have h12 : i ≠ 12 := fun hi => h (hi ▸ by decide)
    show upd c 12 _ i = c i
    exact upd_ne _ _ h12
  · have h20 : i ≠ 20 := fun hi => h (hi ▸ by decide)
    have h21 : i ≠ 21 := fun hi => h (hi ▸ by decide)
    have h18 : i ≠ 18 := fun hi => h (hi ▸ by decide)
    show upd (upd (upd c 20 _) 21 _) 18 _ i = c i
    rw [upd_ne _ _ h18, upd_ne _ _ h21, upd_ne _ _ h20]
  · have h7 : i ≠ 7 := fun hi => h (hi ▸ by decide)
    show upd c 7 _ i = c i
    exact upd_ne _ _ h7
  · have h13 : i ≠ 13 := fun hi => h (hi ▸ by decide)
    show upd c 13 _ i = c i
    exact upd_ne _ _ h13
  · have h10 : i ≠ 10 := fun hi => h (hi ▸ by decide)
    show upd c 10 _ i = c i
    exact upd_ne _ _ h10
  · have h16 : i ≠ 16 := fun hi => h (hi ▸ by decide)
    show upd c 16 _ i = c i
    exact upd_ne _ _ h16
  · have h8 : i ≠ 8 := fun hi => h (hi ▸ by decide)
    show upd c 8 _ i = c i
    exact upd_ne _ _ h8
  · have h14 : i ≠ 14 := fun hi => h (hi ▸ by decide)
    show upd c 14 _ i = c i
    exact upd_ne _ _ h14
  · have h9 : i ≠ 9 := fun hi => h (hi ▸ by decide)
    show upd c 9 _ i = c i
    exact upd_ne _ _ h9
  · have h15 : i ≠ 15 := fun hi => h (hi ▸ by decide)
    show upd c 15 _ i = c i
    exact upd_ne _ _ h15
  · have h17 : i ≠ 17 := fun hi => h (hi ▸ by decide)
    show upd c 17 _ i = c i
    exact upd_ne _ _ h17
  · have h20 : i ≠ 20 := fun hi => h (hi ▸ by decide)
    have h21 : i ≠ 21 := fun hi => h (hi ▸ by decide)
    show upd (upd c 20 _) 21 _ i = c i
    rw [upd_ne _ _ h21, upd_ne _ _ h20]
  · rfl
  · have h19 : i ≠ 19 := fun hi => h (hi ▸ by decide)
    show upd c 19 _ i = c i
    exact upd_ne _ _ h19
  · rfl
  · have h22 : i ≠ 22 := fun hi => h (hi ▸ by decide)
    show upd c 22 _ i = c i
    exact upd_ne _ _ h22
  · have h23 : i ≠ 23 := fun hi => h (hi ▸ by decide)
    show upd c 23 _ i = c i
    exact upd_ne _ _ h23
  · have h24 : i ≠ 24 := fun hi => h (hi ▸ by decide)
    show upd c 24 _ i = c i
    exact upd_ne _ _ h24
  · have h25 : i ≠ 25 := fun hi => h (hi ▸ by decide)
    show upd c 25 _ i = c i
    exact upd_ne _ _ h25
  · have h26 : i ≠ 26 := fun hi => h (hi ▸ by decide)
    show upd c 26 _ i = c i
    exact upd_ne _ _ h26
  · have h27 : i ≠ 27 := fun hi => h (hi ▸ by decide)
    show upd c 27 _ i = c i
    exact upd_ne _ _ h27
  · have h28 : i ≠ 28 := fun hi => h (hi ▸ by decide)
    show upd c 28 _ i = c i
    exact upd_ne _ _ h28
  · have h29 : i ≠ 29 := fun hi => h (hi ▸ by decide)
    show upd c 29 _ i = c i
    exact upd_ne _ _ h29
  · rfl
  · rfl
  · rfl
  · rfl
  · rfl
  · rfl
  · rfl
  · rfl
  · rfl
  · rfl
theorem foot_sep : ∀ n, n ∈ csrNums → ∀ o, o ∈ csrNums → n ≠ o → kinB n o = false → ∀ i, i ∈ foot o → i ∉ wfoot n := by decide +kernel
theorem kp_others (c e : Nat → BitVec 64) (n o : Int) (v : BitVec 64) (hx : ex n = true) (hne : n ≠ o) (hk : kinB n o = false) : rdV (kp c e n v) e o 3 = rdV c e o 3 := by
  unfold rdV
  rw [rdb_3 (kp c e n v) c o]
  split
  · next h =>
    have ho := rdb_ex h
    refine rv_foot _ _ _ _ ho fun i hi => kp_foot c e n v hx i ?_
    unfold ex at hx ho
    exact foot_sep n (by simpa using hx) o (by simpa using ho) hne hk i hi
  · rfl
theorem kin1_any (n : Int) (w : World) : Calls Try.prog 41 #[.int .i64 n] w fun e w' => e = .returned (.int .i64 (grp n)) ∧ w = w' := by
  by_cases h256 : n = 256
  · subst h256
    have hg : Hid ((1 : Int) = grp 256) := Lib.hid (by decide)
    go_enter Try.func41, Try.ntmps41
    go_wp2
    go_ret
    exact ⟨by rw [← hg.out]; rfl, rfl⟩
  by_cases h260 : n = 260
  · subst h260
    have hg : Hid ((2 : Int) = grp 260) := Lib.hid (by decide)
    go_enter Try.func41, Try.ntmps41
    go_wp2
    go_ret
    exact ⟨by rw [← hg.out]; rfl, rfl⟩
  by_cases h324 : n = 324
  · subst h324
    have hg : Hid ((2 : Int) = grp 324) := Lib.hid (by decide)
    go_enter Try.func41, Try.ntmps41
    go_wp2
    go_ret
    exact ⟨by rw [← hg.out]; rfl, rfl⟩
  by_cases h768 : n = 768
  · subst h768
    have hg : Hid ((1 : Int) = grp 768) := Lib.hid (by decide)
    go_enter Try.func41, Try.ntmps41
    go_wp2
    go_ret
    exact ⟨by rw [← hg.out]; rfl, rfl⟩
  by_cases h771 : n = 771
  · subst h771
    have hg : Hid ((2 : Int) = grp 771) := Lib.hid (by decide)
    go_enter Try.func41, Try.ntmps41
    go_wp2
    go_ret
    exact ⟨by rw [← hg.out]; rfl, rfl⟩
  by_cases h772 : n = 772
  · subst h772
    have hg : Hid ((2 : Int) = grp 772) := Lib.hid (by decide)
    go_enter Try.func41, Try.ntmps41
    go_wp2
    go_ret
    exact ⟨by rw [← hg.out]; rfl, rfl⟩
  by_cases h800 : n = 800
  · subst h800
    have hg : Hid ((3 : Int) = grp 800) := Lib.hid (by decide)
    go_enter Try.func41, Try.ntmps41
    go_wp2
    go_ret
    exact ⟨by rw [← hg.out]; rfl, rfl⟩
  by_cases h836 : n = 836
  · subst h836
    have hg : Hid ((2 : Int) = grp 836) := Lib.hid (by decide)
    go_enter Try.func41, Try.ntmps41
    go_wp2
    go_ret
    exact ⟨by rw [← hg.out]; rfl, rfl⟩
  by_cases h2816 : n = 2816
  · subst h2816
    have hg : Hid ((3 : Int) = grp 2816) := Lib.hid (by decide)
    go_enter Try.func41, Try.ntmps41
    go_wp2
    go_ret
    exact ⟨by rw [← hg.out]; rfl, rfl⟩
  by_cases h2818 : n = 2818
  · subst h2818
    have hg : Hid ((4 : Int) = grp 2818) := Lib.hid (by decide)
    go_enter Try.func41, Try.ntmps41
    go_wp2
    go_ret
    exact ⟨by rw [← hg.out]; rfl, rfl⟩
  by_cases h2819 : n = 2819
  · subst h2819
    have hg : Hid ((10 : Int) = grp 2819) := Lib.hid (by decide)
    go_enter Try.func41, Try.ntmps41
    go_wp2
    go_ret
    exact ⟨by rw [← hg.out]; rfl, rfl⟩
  by_cases h2820 : n = 2820
  · subst h2820
    have hg : Hid ((11 : Int) = grp 2820) := Lib.hid (by decide)
    go_enter Try.func41, Try.ntmps41
    go_wp2
    go_ret
    exact ⟨by rw [← hg.out]; rfl, rfl⟩
  by_cases h2821 : n = 2821
  · subst h2821
    have hg : Hid ((12 : Int) = grp 2821) := Lib.hid (by decide)
    go_enter Try.func41, Try.ntmps41
    go_wp2
    go_ret
    exact ⟨by rw [← hg.out]; rfl, rfl⟩
  by_cases h2822 : n = 2822
  · subst h2822
    have hg : Hid ((13 : Int) = grp 2822) := Lib.hid (by decide)
    go_enter Try.func41, Try.ntmps41
    go_wp2
    go_ret
    exact ⟨by rw [← hg.out]; rfl, rfl⟩
  by_cases h3072 : n = 3072
  · subst h3072
    have hg : Hid ((3 : Int) = grp 3072) := Lib.hid (by decide)
    go_enter Try.func41, Try.ntmps41
    go_wp2
    go_ret
    exact ⟨by rw [← hg.out]; rfl, rfl⟩
  by_cases h3074 : n = 3074
  · subst h3074
    have hg : Hid ((4 : Int) = grp 3074) := Lib.hid (by decide)
    go_enter Try.func41, Try.ntmps41
    go_wp2
    go_ret
    exact ⟨by rw [← hg.out]; rfl, rfl⟩
  by_cases h3075 : n = 3075
  · subst h3075
    have hg : Hid ((10 : Int) = grp 3075) := Lib.hid (by decide)
    go_enter Try.func41, Try.ntmps41
    go_wp2
    go_ret
    exact ⟨by rw [← hg.out]; rfl, rfl⟩
  by_cases h3076 : n = 3076
  · subst h3076
    have hg : Hid ((11 : Int) = grp 3076) := Lib.hid (by decide)
    go_enter Try.func41, Try.ntmps41
    go_wp2
    go_ret
    exact ⟨by rw [← hg.out]; rfl, rfl⟩
  by_cases h3077 : n = 3077
  · subst h3077
    have hg : Hid ((12 : Int) = grp 3077) := Lib.hid (by decide)
    go_enter Try.func41, Try.ntmps41
    go_wp2
    go_ret
    exact ⟨by rw [← hg.out]; rfl, rfl⟩
  by_cases h3078 : n = 3078
  · subst h3078
    have hg : Hid ((13 : Int) = grp 3078) := Lib.hid (by decide)
    go_enter Try.func41, Try.ntmps41
    go_wp2
    go_ret
    exact ⟨by rw [← hg.out]; rfl, rfl⟩
  have t256 : (n == 256) = false := beq_eq_false_iff_ne.2 h256
  have t260 : (n == 260) = false := beq_eq_false_iff_ne.2 h260
  have t324 : (n == 324) = false := beq_eq_false_iff_ne.2 h324
  have t768 : (n == 768) = false := beq_eq_false_iff_ne.2 h768
  have t771 : (n == 771) = false := beq_eq_false_iff_ne.2 h771
  have t772 : (n == 772) = false := beq_eq_false_iff_ne.2 h772
  have t800 : (n == 800) = false := beq_eq_false_iff_ne.2 h800
  have t836 : (n == 836) = false := beq_eq_false_iff_ne.2 h836
  have t2816 : (n == 2816) = false := beq_eq_false_iff_ne.2 h2816
  have t2818 : (n == 2818) = false := beq_eq_false_iff_ne.2 h2818
  have t2819 : (n == 2819) = false := beq_eq_false_iff_ne.2 h2819
  have t2820 : (n == 2820) = false := beq_eq_false_iff_ne.2 h2820
  have t2821 : (n == 2821) = false := beq_eq_false_iff_ne.2 h2821
  have t2822 : (n == 2822) = false := beq_eq_false_iff_ne.2 h2822
  have t3072 : (n == 3072) = false := beq_eq_false_iff_ne.2 h3072
  have t3074 : (n == 3074) = false := beq_eq_false_iff_ne.2 h3074
  have t3075 : (n == 3075) = false := beq_eq_false_iff_ne.2 h3075
  have t3076 : (n == 3076) = false := beq_eq_false_iff_ne.2 h3076
  have t3077 : (n == 3077) = false := beq_eq_false_iff_ne.2 h3077
  have t3078 : (n == 3078) = false := beq_eq_false_iff_ne.2 h3078
  have hg : Hid ((0 : Int) = grp n) := Lib.hid (by unfold grp; simp only [List.lookup, t256, t260, t324, t768, t771, t772, t800, t836, t2816, t2818, t2819, t2820, t2821, t2822, t3072, t3074, t3075, t3076, t3077, t3078]; rfl)
  have hc : n < 2819 ∨ (2823 ≤ n ∧ n < 3075) ∨ 3079 ≤ n := by omega
  clear h256 h260 h324 h768 h771 h772 h800 h836 h2816 h2818 h2819 h2820 h2821 h2822 h3072 h3074 h3075 h3076 h3077 h3078
  rcases hc with h | ⟨h, h'⟩ | h
  · go_enter Try.func41, Try.ntmps41
    go_wp2
    go_ret
    exact ⟨by rw [← hg.out]; rfl, rfl⟩
  · go_enter Try.func41, Try.ntmps41
    go_wp2
    go_ret
    exact ⟨by rw [← hg.out]; rfl, rfl⟩
  · go_enter Try.func41, Try.ntmps41
    go_wp2
    go_ret
    exact ⟨by rw [← hg.out]; rfl, rfl⟩
theorem kin_any (n o : Int) (w : World) : Calls Try.prog 30 #[.int .i64 n, .int .i64 o] w fun e w' => e = .returned (.bool (kinB n o)) ∧ On w w' := by
  have K : Hid (∀ n w, Calls Try.prog 41 #[.int .i64 n] w fun e w' => e = .returned (.int .i64 (grp n)) ∧ w = w') := Lib.hid kin1_any
  unfold kinB
  generalize grp = g at *
  by_cases h0 : g n = 0
  · have t0 : (g n != 0) = false := by rw [h0]; rfl
    rw [t0]
    go_enter Try.func30, Try.ntmps30
    go_wp2_with (go_at_call 41; refine (K.out _ _).mono ?_; rintro e w' ⟨rfl, rfl⟩)
    go_ret
    exact ⟨rfl, On.refl _⟩
  · have t0 : (g n != 0) = true := bne_iff_ne.2 h0
    rw [t0]
    go_enter Try.func30, Try.ntmps30
    go_wp2_with (go_at_call 41; refine (K.out _ _).mono ?_; rintro e w' ⟨rfl, rfl⟩)
    go_ret
    exact ⟨rfl, On.refl _⟩
end Go.Proofs.Ytoobbapdjoajgaa
