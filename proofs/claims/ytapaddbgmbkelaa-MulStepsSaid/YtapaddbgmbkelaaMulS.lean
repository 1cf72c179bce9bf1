/- What the reference's small calls of stage 5 come to: words of 128 bits, a word without its sign, the quotient bit by bit. Conditions: named at each. -/
import Derived.Test.YtapaddbgmbkelaaMulW
import Derived.Test.YtapaddbgmbkelaaBut
import Derived.Test.YtapaddbgmbkelaaRows
import Derived.WalkKit
import Derived.ProofKit
import Derived.Lib.Hide
import Derived.IntWalk
import Derived.Outline
namespace Go.Proofs.Ytapaddbgmbkelaa
open Go.RowKit

theorem size_any (a : BitVec 64) (w : World) : Calls Try.prog 35 #[.int .u64 (u a)] w fun e w' => e = .returned (.int .u64 (u (mag a))) ∧ w = w' := by
  have ha := u_nonneg a
  have ht : (u a / 9223372036854775808 == 1) = a.getLsbD 63 := by rw [← top_test, ← u_shr]; rfl
  have HM : Hid (mag a = if a.getLsbD 63 then -a else a) := Lib.hid rfl
  have HN := Lib.hid (neg_u a)
  cases h : a.getLsbD 63
  all_goals
    rw [h] at ht HM
    clear h
    go_enter Try.func35, Try.ntmps35
    go_wp2
    go_ret
    exact ⟨by rw [HM.out]; first | rfl | (show _ = Ending.returned (.int .u64 (u (-a))); rw [← HN.out]; rfl), rfl⟩
/-- a word of 128 bits as the two words that it is -/
def wv (x : BitVec 128) : Value := .agg #[.int .u64 (u (hiW x)), .int .u64 (u (loW x))]
def wsx (sign : Bool) (a : BitVec 64) : BitVec 128 := if sign then wideS a else wideU a
theorem wv_pos (a : BitVec 64) : wv (wideU a) = .agg #[.int .u64 0, .int .u64 (u a)] := by unfold wv; rw [hiW_wideU, loW_wideU, ← u_zero]
theorem wv_neg (a : BitVec 64) (h : a.getLsbD 63 = true) : wv (wideS a) = .agg #[.int .u64 18446744073709551615, .int .u64 (u a)] := by unfold wv; rw [hiW_wideS a h, loW_wideS, ← u_ones]
theorem wsx_no (a : BitVec 64) : wsx false a = wideU a := by unfold wsx; rw [if_neg (by decide)]
theorem wsx_yes (a : BitVec 64) : wsx true a = wideS a := by unfold wsx; rw [if_pos rfl]
theorem rextend_no (a : BitVec 64) (w : World) :
    Calls Try.prog 33 #[.int .u64 (u a), .bool false] w fun e w' => e = .returned (.agg #[.int .u64 0, .int .u64 (u a)]) ∧ On w w' := by
  go_enter Try.func33, Try.ntmps33
  go_wp2
  exact bodyPost_ret (v := .agg #[.int .u64 0, .int .u64 (u a)]) (by simp [results, Try.results33, go_sem]) rfl ⟨rfl, (On.refl w).alloc _⟩
theorem rextend_pos (a : BitVec 64) (ht : (u a / 9223372036854775808 == 1) = false) (w : World) :
    Calls Try.prog 33 #[.int .u64 (u a), .bool true] w fun e w' => e = .returned (.agg #[.int .u64 0, .int .u64 (u a)]) ∧ On w w' := by
  have ha := u_nonneg a
  go_enter Try.func33, Try.ntmps33
  go_wp2
  exact bodyPost_ret (v := .agg #[.int .u64 0, .int .u64 (u a)]) (by simp [results, Try.results33, go_sem]) rfl ⟨rfl, (On.refl w).alloc _⟩
theorem rextend_neg (a : BitVec 64) (ht : (u a / 9223372036854775808 == 1) = true) (w : World) :
    Calls Try.prog 33 #[.int .u64 (u a), .bool true] w fun e w' => e = .returned (.agg #[.int .u64 18446744073709551615, .int .u64 (u a)]) ∧ On w w' := by
  have ha := u_nonneg a
  go_enter Try.func33, Try.ntmps33
  go_wp2
  exact bodyPost_ret (v := .agg #[.int .u64 18446744073709551615, .int .u64 (u a)]) (by simp [results, Try.results33, go_sem]) rfl ⟨rfl, (On.refl w).alloc _⟩
theorem rextend_any (a : BitVec 64) (sign : Bool) (w : World) :
    Calls Try.prog 33 #[.int .u64 (u a), .bool sign] w fun e w' => e = .returned (wv (wsx sign a)) ∧ On w w' := by
  have ht : (u a / 9223372036854775808 == 1) = a.getLsbD 63 := by rw [← top_test, ← u_shr]; rfl
  cases sign
  · rw [wsx_no, wv_pos]; exact rextend_no a w
  · rw [wsx_yes]
    cases h : a.getLsbD 63
    · rw [wideS_pos a h, wv_pos]; exact rextend_pos a (ht.trans h) w
    · rw [wv_neg a h]; exact rextend_neg a (ht.trans h) w
theorem radd_any (x y : BitVec 128) (w : World) :
    Calls Try.prog 43 #[.agg #[.int .u64 (u (hiW x)), .int .u64 (u (loW x))], .agg #[.int .u64 (u (hiW y)), .int .u64 (u (loW y))]] w fun e w' => e = .returned (.agg #[.int .u64 (u (hiW (x + y))), .int .u64 (u (loW (x + y)))]) ∧ On w w' := by
  have e1 : IntKind.u64.wrap (u (loW x) + u (loW y)) = u (loW (x + y)) := by rw [u_add, loW_add]
  cases h : decide (u (loW (x + y)) < u (loW x))
  · have H2 : Hid (IntKind.u64.wrap (u (hiW x) + u (hiW y)) = u (hiW (x + y))) := Lib.hid (by rw [u_add, hiW_add x y h])
    have ht : decide (IntKind.u64.wrap (u (loW x) + u (loW y)) < u (loW x)) = false := by rw [e1]; exact h
    have H1 := Lib.hid e1
    clear h e1
    go_enter Try.func43, Try.ntmps43
    go_wp2
    exact bodyPost_ret (v := .agg #[.int .u64 (IntKind.u64.wrap (u (hiW x) + u (hiW y))), .int .u64 (IntKind.u64.wrap (u (loW x) + u (loW y)))]) (by simp [results, Try.results43, go_sem]) rfl ⟨by rw [H1.out, H2.out], (((On.refl w).alloc _).alloc _).alloc _⟩
  · have H2 : Hid (IntKind.u64.wrap (IntKind.u64.wrap (u (hiW x) + u (hiW y)) + 1) = u (hiW (x + y))) := Lib.hid (by rw [u_add, u_one, u_add, hiW_carry x y h])
    have ht : decide (IntKind.u64.wrap (u (loW x) + u (loW y)) < u (loW x)) = true := by rw [e1]; exact h
    have H1 := Lib.hid e1
    clear h e1
    go_enter Try.func43, Try.ntmps43
    go_wp2
    exact bodyPost_ret (v := .agg #[.int .u64 (IntKind.u64.wrap (IntKind.u64.wrap (u (hiW x) + u (hiW y)) + 1)), .int .u64 (IntKind.u64.wrap (u (loW x) + u (loW y)))]) (by simp [results, Try.results43, go_sem]) rfl ⟨by rw [H1.out, H2.out], (((On.refl w).alloc _).alloc _).alloc _⟩
theorem rtwice_any (x : BitVec 128) (w : World) :
    Calls Try.prog 44 #[.agg #[.int .u64 (u (hiW x)), .int .u64 (u (loW x))]] w fun e w' => e = .returned (.agg #[.int .u64 (u (hiW (x + x))), .int .u64 (u (loW (x + x)))]) ∧ On w w' := by
  go_enter Try.func44, Try.ntmps44
  go_wp2_with fail
  refine (radd_any _ _ _).mono ?_
  rintro e w2 ⟨rfl, h2⟩
  have g : w2.heap[w.heap.size + 1]? = some (.cells #[.int .u64 0, .int .u64 0] 55 (0, 0)) := On.keep h2 (heap_alloc2_new _ _ _)
  have c0 := blk_cell g 0 rfl
  have c1 := blk_cell g 1 rfl
  have cf := blk_free g
  have HB : Hid (On w ((w2.setCell ⟨w.heap.size + 1, 0, none⟩ (.int .u64 (u (hiW (x + x))))).setCell ⟨w.heap.size + 1, 1, none⟩ (.int .u64 (u (loW (x + x)))))) := Lib.hid (Below.setCell (Below.setCell ((((On.refl w).alloc _).alloc _).trans h2) (by simp) _) (by simp) _)
  clear g h2
  go_wp2
  exact bodyPost_ret (v := .agg #[.int .u64 (u (hiW (x + x))), .int .u64 (u (loW (x + x)))]) (by simp [results, Try.results44, go_sem, c0, c1]) rfl ⟨rfl, HB.out⟩
end Go.Proofs.Ytapaddbgmbkelaa
