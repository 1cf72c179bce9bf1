/- What the reference's quotient and product of stage 5 come to, bit by bit. Conditions: named at each. -/
import Derived.Test.YtapaddbgmbkelaaMulS
namespace Go.Proofs.Ytapaddbgmbkelaa
open Go.RowKit

/-- the k highest bits that have been taken: the quotient and the remainder of these -/
def qAt (a b : BitVec 64) (k : Nat) : BitVec 64 := (a >>> k) / b
def rAt (a b : BitVec 64) (k : Nat) : BitVec 64 := (a >>> k) % b
/-- .. one more -/
def rUp (a b : BitVec 64) (k : Nat) : BitVec 64 := rAt a b (k + 1) <<< 1 ||| a >>> k &&& 1#64
theorem shr_nat (a : BitVec 64) (k : Nat) : (a >>> k).toNat = a.toNat / 2 ^ k := by rw [BitVec.toNat_ushiftRight, Nat.shiftRight_eq_div_pow]
theorem bit_nat (a : BitVec 64) (k : Nat) : (a >>> k &&& 1#64).toNat = a.toNat / 2 ^ k % 2 := by
  rw [BitVec.toNat_and, shr_nat]; exact Nat.and_one_is_mod _
theorem shr_two (a k : Nat) : a / 2 ^ k = a / 2 ^ (k + 1) * 2 + a / 2 ^ k % 2 := by
  rw [Nat.pow_succ, ← Nat.div_div_eq_div_mul]; omega
theorem or_bit (x y : BitVec 64) (h : y.toNat < 2) : (x <<< 1 ||| y).toNat = (x.toNat * 2 + y.toNat) % 2 ^ 64 := by
  have e : x <<< 1 ||| y = x <<< 1 + y := by
    refine (BitVec.add_eq_or_of_and_eq_zero _ _ ?_).symm
    apply BitVec.eq_of_getLsbD_eq; intro i hi
    rw [BitVec.getLsbD_and, BitVec.getLsbD_shiftLeft]
    by_cases e : i = 0
    · subst e; simp
    · have : y.getLsbD i = false := by
        rw [← BitVec.testBit_toNat]; apply Nat.testBit_lt_two_pow
        have h2 : 2 ^ 1 ≤ 2 ^ i := Nat.pow_le_pow_right (n := 2) (by decide) (by omega)
        omega
      rw [this]; simp
  rw [e, BitVec.toNat_add, BitVec.toNat_shiftLeft, Nat.shiftLeft_eq]; omega
/-- a round of the division: what is to be shown of it, in numbers -/
theorem quo_round (a b : BitVec 64) (hb : b ≠ 0) (k : Nat) :
    ((rAt a b (k + 1)).getLsbD 63 = true ∨ b ≤ rUp a b k → rUp a b k - b = rAt a b k ∧ qAt a b (k + 1) <<< 1 ||| 1#64 = qAt a b k) ∧
    ((rAt a b (k + 1)).getLsbD 63 = false → ¬ b ≤ rUp a b k → rUp a b k = rAt a b k ∧ qAt a b (k + 1) <<< 1 = qAt a b k) := by
  have hb0 : 0 < b.toNat := by
    rcases Nat.eq_zero_or_pos b.toNat with h | h
    · exact absurd (BitVec.eq_of_toNat_eq (by rw [h]; rfl)) hb
    · exact h
  have hbl := b.isLt
  have hal := a.isLt
  obtain ⟨c, hc⟩ : ∃ c, a.toNat / 2 ^ k % 2 = c := ⟨_, rfl⟩
  obtain ⟨x, hx⟩ : ∃ x, a.toNat / 2 ^ (k + 1) = x := ⟨_, rfl⟩
  have hx2 : a.toNat / 2 ^ k = x * 2 + c := by rw [← hc, ← hx]; exact shr_two _ _
  have hc2 : c < 2 := by omega
  have hxl : x * 2 + c < 2 ^ 64 := by rw [← hx2]; exact Nat.lt_of_le_of_lt (Nat.div_le_self _ _) hal
  obtain ⟨r, hr⟩ : ∃ r, x % b.toNat = r := ⟨_, rfl⟩
  obtain ⟨q, hq⟩ : ∃ q, x / b.toNat = q := ⟨_, rfl⟩
  have hrb : r < b.toNat := by rw [← hr]; exact Nat.mod_lt _ hb0
  have hdm : b.toNat * q + r = x := by rw [← hr, ← hq]; exact Nat.div_add_mod _ _
  have hR : (rAt a b (k + 1)).toNat = r := by unfold rAt; rw [BitVec.toNat_umod, shr_nat, hx, hr]
  have hQ : (qAt a b (k + 1)).toNat = q := by unfold qAt; rw [BitVec.toNat_udiv, shr_nat, hx, hq]
  have hU : (rUp a b k).toNat = (r * 2 + c) % 2 ^ 64 := by unfold rUp; rw [or_bit _ _ (by rw [bit_nat, hc]; exact hc2), hR, bit_nat, hc]
  have hT : (rAt a b (k + 1)).getLsbD 63 = decide (2 ^ 63 ≤ r) := by
    rw [← BitVec.testBit_toNat, Nat.testBit_eq_decide_div_mod_eq, hR, decide_eq_decide]; have := (rAt a b (k + 1)).isLt; rw [hR] at this; omega
  have hqx : q ≤ x := by rw [← hq]; exact Nat.div_le_self _ _
  rw [hT, BitVec.le_def, hU]
  constructor
  · intro h
    have hge : b.toNat ≤ r * 2 + c := by
      rcases h with h | h
      · simp at h; omega
      · omega
    have e1 : (x * 2 + c) % b.toNat = r * 2 + c - b.toNat := by
      rw [← hdm, show (b.toNat * q + r) * 2 + c = (r * 2 + c - b.toNat) + b.toNat * (q * 2 + 1) by rw [Nat.add_mul, Nat.mul_add, Nat.mul_one, Nat.mul_assoc]; omega, Nat.add_mul_mod_self_left, Nat.mod_eq_of_lt (by omega)]
    have e2 : (x * 2 + c) / b.toNat = q * 2 + 1 := by
      rw [← hdm, show (b.toNat * q + r) * 2 + c = (r * 2 + c - b.toNat) + b.toNat * (q * 2 + 1) by rw [Nat.add_mul, Nat.mul_add, Nat.mul_one, Nat.mul_assoc]; omega, Nat.add_mul_div_left _ _ hb0, Nat.div_eq_of_lt (by omega), Nat.zero_add]
    have hq2 : q * 2 + 1 < 2 ^ 64 := by rw [← e2]; exact Nat.lt_of_le_of_lt (Nat.div_le_self _ _) hxl
    constructor
    · apply BitVec.eq_of_toNat_eq
      rw [BitVec.toNat_sub, hU]; unfold rAt; rw [BitVec.toNat_umod, shr_nat, hx2, e1]; omega
    · apply BitVec.eq_of_toNat_eq
      rw [or_bit _ _ (by decide), hQ]; unfold qAt; rw [BitVec.toNat_udiv, shr_nat, hx2, e2]; show (q * 2 + 1) % 2 ^ 64 = _; omega
  · intro h h2
    have h : ¬ 2 ^ 63 ≤ r := by simpa using h
    have hlt : r * 2 + c < b.toNat := by omega
    have e1 : (x * 2 + c) % b.toNat = r * 2 + c := by
      rw [← hdm, show (b.toNat * q + r) * 2 + c = (r * 2 + c) + b.toNat * (q * 2) by rw [Nat.add_mul, Nat.mul_assoc]; omega, Nat.add_mul_mod_self_left, Nat.mod_eq_of_lt hlt]
    have e2 : (x * 2 + c) / b.toNat = q * 2 := by
      rw [← hdm, show (b.toNat * q + r) * 2 + c = (r * 2 + c) + b.toNat * (q * 2) by rw [Nat.add_mul, Nat.mul_assoc]; omega, Nat.add_mul_div_left _ _ hb0, Nat.div_eq_of_lt hlt, Nat.zero_add]
    have hq2 : q * 2 < 2 ^ 64 := by rw [← e2]; exact Nat.lt_of_le_of_lt (Nat.div_le_self _ _) hxl
    constructor
    · apply BitVec.eq_of_toNat_eq
      rw [hU]; unfold rAt; rw [BitVec.toNat_umod, shr_nat, hx2, e1]; omega
    · apply BitVec.eq_of_toNat_eq
      rw [BitVec.toNat_shiftLeft, Nat.shiftLeft_eq, hQ]; unfold qAt; rw [BitVec.toNat_udiv, shr_nat, hx2, e2]; omega
theorem quo_top (a b : BitVec 64) : qAt a b 64 = 0 ∧ rAt a b 64 = 0 := by
  have h : a >>> 64 = 0#64 := by apply BitVec.eq_of_toNat_eq; rw [shr_nat]; have := a.isLt; show a.toNat / 2 ^ 64 = 0; omega
  unfold qAt rAt; rw [h]
  constructor
  · apply BitVec.eq_of_toNat_eq; rw [BitVec.toNat_udiv]; show 0 / b.toNat = 0; exact Nat.zero_div _
  · apply BitVec.eq_of_toNat_eq; rw [BitVec.toNat_umod]; show 0 % b.toNat = 0; exact Nat.zero_mod _
theorem quo_end (a b : BitVec 64) : qAt a b 0 = a / b ∧ rAt a b 0 = a % b := by
  unfold qAt rAt; simp
theorem u_or1 (a : BitVec 64) : bits .or .u64 (u a) 1 = u (a ||| 1#64) := u_or a 1#64
set_option maxHeartbeats 1000000 in
theorem quotient_any (a b : BitVec 64) (hb : b ≠ 0) (w : World) :
    Calls Try.prog 34 #[.int .u64 (u a), .int .u64 (u b)] w fun e w' => e = .returned (.tuple #[.int .u64 (u (a / b)), .int .u64 (u (a % b))]) ∧ w = w' := by
  have HR := Lib.hid (quo_round a b hb)
  have HT := Lib.hid (quo_top a b)
  have HE := Lib.hid (quo_end a b)
  have ha := u_nonneg a
  clear hb
  go_enter Try.func34, Try.ntmps34
  go_wp2
  go_loop [6, 7, 8] (fun q r i => ∃ k : Int, -1 ≤ k ∧ k ≤ 63 ∧ i = .int .i64 k ∧ q = .int .u64 (u (qAt a b (k + 1).toNat)) ∧ r = .int .u64 (u (rAt a b (k + 1).toNat))) (fun _ _ i => (intOf i + 1).toNat)
  case atStart => exact ⟨63, by omega, by omega, rfl, by rw [show ((63 : Int) + 1).toNat = 64 from rfl, HT.out.1]; rfl, by rw [show ((63 : Int) + 1).toNat = 64 from rfl, HT.out.2]; rfl⟩
  case round =>
    obtain ⟨k, hk1, hk2, rfl, rfl, rfl⟩ := hrel
    by_cases hk : 0 ≤ k
    · have hr0 := u_nonneg (rAt a b (k + 1).toNat)
      have hr := HR.out k.toNat
      rw [show k.toNat + 1 = (k + 1).toNat by omega] at hr
      have hU : rUp a b k.toNat = rAt a b (k + 1).toNat <<< 1 ||| a >>> k.toNat &&& 1#64 := by unfold rUp; rw [show k.toNat + 1 = (k + 1).toNat by omega]
      have e1 : bits .or .u64 (IntKind.u64.wrap (u (rAt a b (k + 1).toNat) * 2)) (bits .and .u64 (u a / 2 ^ k.toNat) 1) = u (rUp a b k.toNat) := by
        rw [hU, u_shl2, u_shr, u_and1, u_or]; rfl
      have t1 : (u (rAt a b (k + 1).toNat) / 9223372036854775808 == 1) = (rAt a b (k + 1).toNat).getLsbD 63 := by rw [← top_test, ← u_shr]; rfl
      cases hx : (rAt a b (k + 1).toNat).getLsbD 63
      · by_cases hy : b ≤ rUp a b k.toNat
        · have h := hr.1 (.inr hy)
          have t2 : decide (u b ≤ bits .or .u64 (IntKind.u64.wrap (u (rAt a b (k + 1).toNat) * 2)) (bits .and .u64 (u a / 2 ^ k.toNat) 1)) = true := by rw [e1]; simpa [u_le_iff] using hy
          rw [hx] at t1
          have H1 : Hid (IntKind.u64.wrap (bits .or .u64 (IntKind.u64.wrap (u (rAt a b (k + 1).toNat) * 2)) (bits .and .u64 (u a / 2 ^ k.toNat) 1) - u b) = u (rAt a b k.toNat)) := Lib.hid (by rw [e1, u_sub, h.1])
          have H2 : Hid (bits .or .u64 (IntKind.u64.wrap (u (qAt a b (k + 1).toNat) * 2)) 1 = u (qAt a b k.toNat)) := Lib.hid (by rw [u_shl2, u_or1, h.2])
          clear hr hU e1 hx hy h
          go_wp2
          go_round
          case rel => exact ⟨k - 1, by omega, by omega, by go_num, by rw [show k - 1 + 1 = k by omega, ← H2.out], by rw [show k - 1 + 1 = k by omega, ← H1.out]⟩
          case measure => simp [intOf]; omega
        · have h := hr.2 hx hy
          have t2 : decide (u b ≤ bits .or .u64 (IntKind.u64.wrap (u (rAt a b (k + 1).toNat) * 2)) (bits .and .u64 (u a / 2 ^ k.toNat) 1)) = false := by rw [e1]; simpa [u_le_iff] using hy
          rw [hx] at t1
          have H1 : Hid (bits .or .u64 (IntKind.u64.wrap (u (rAt a b (k + 1).toNat) * 2)) (bits .and .u64 (u a / 2 ^ k.toNat) 1) = u (rAt a b k.toNat)) := Lib.hid (by rw [e1, h.1])
          have H2 : Hid (IntKind.u64.wrap (u (qAt a b (k + 1).toNat) * 2) = u (qAt a b k.toNat)) := Lib.hid (by rw [u_shl2, h.2])
          clear hr hU e1 hx hy h
          go_wp2
          go_round
          case rel => exact ⟨k - 1, by omega, by omega, by go_num, by rw [show k - 1 + 1 = k by omega, ← H2.out], by rw [show k - 1 + 1 = k by omega, ← H1.out]⟩
          case measure => simp [intOf]; omega
      · have h := hr.1 (.inl hx)
        rw [hx] at t1
        have H1 : Hid (IntKind.u64.wrap (bits .or .u64 (IntKind.u64.wrap (u (rAt a b (k + 1).toNat) * 2)) (bits .and .u64 (u a / 2 ^ k.toNat) 1) - u b) = u (rAt a b k.toNat)) := Lib.hid (by rw [e1, u_sub, h.1])
        have H2 : Hid (bits .or .u64 (IntKind.u64.wrap (u (qAt a b (k + 1).toNat) * 2)) 1 = u (qAt a b k.toNat)) := Lib.hid (by rw [u_shl2, u_or1, h.2])
        clear hr hU e1 hx h
        go_wp2
        go_round
        case rel => exact ⟨k - 1, by omega, by omega, by go_num, by rw [show k - 1 + 1 = k by omega, ← H2.out], by rw [show k - 1 + 1 = k by omega, ← H1.out]⟩
        case measure => simp [intOf]; omega
    · have e : (k + 1).toNat = 0 := by omega
      have HX : Hid ((k + 1).toNat = 0) := Lib.hid e
      clear e
      go_wp2
      go_ret2
      exact ⟨by rw [← HE.out.1, ← HE.out.2, ← HX.out]; rfl, rfl⟩
/-! ### the product, bit by bit -/
/-- the product's four variables, from block w.heap.size on: the factor that is doubled, the other one, the result, the sum -/
structure W4 (w wr : World) (A Y R P : BitVec 128) : Prop where
  a : wr.heap[w.heap.size]? = some (.cells #[.int .u64 (u (hiW A)), .int .u64 (u (loW A))] 55 (0, 0))
  y : wr.heap[w.heap.size + 1]? = some (.cells #[.int .u64 (u (hiW Y)), .int .u64 (u (loW Y))] 55 (0, 0))
  r : wr.heap[w.heap.size + 2]? = some (.cells #[.int .u64 (u (hiW R)), .int .u64 (u (loW R))] 55 (0, 0))
  p : wr.heap[w.heap.size + 3]? = some (.cells #[.int .u64 (u (hiW P)), .int .u64 (u (loW P))] 55 (0, 0))
  on : On w wr
theorem W4.next {w wr wr' : World} {A Y R P : BitVec 128} (h : W4 w wr A Y R P) (k : On wr wr') : W4 w wr' A Y R P :=
  ⟨k.keep h.a, k.keep h.y, k.keep h.r, k.keep h.p, h.on.trans k⟩
theorem blk_put2 {w : World} {b : Nat} {c0 c1 : Value} {t : TypeId} (h : w.heap[b]? = some (.cells #[c0, c1] t (0, 0))) (v0 v1 : Value) :
    ((w.setCell ⟨b, 0, none⟩ v0).setCell ⟨b, 1, none⟩ v1).heap[b]? = some (.cells #[v0, v1] t (0, 0)) := blk_put (blk_put h 0 v0) 1 v1
theorem blk_far2 {w : World} {b c : Nat} {o : Obj} (h : w.heap[c]? = some o) (hne : c ≠ b) (v0 v1 : Value) : ((w.setCell ⟨b, 0, none⟩ v0).setCell ⟨b, 1, none⟩ v1).heap[c]? = some o :=
  (Below.heap_setCell _ _ _ _ hne).trans ((Below.heap_setCell _ _ _ _ hne).trans h)
theorem W4.putA {w wr : World} {A Y R P : BitVec 128} (h : W4 w wr A Y R P) (A' : BitVec 128) : W4 w ((wr.setCell ⟨w.heap.size, 0, none⟩ (.int .u64 (u (hiW A')))).setCell ⟨w.heap.size, 1, none⟩ (.int .u64 (u (loW A')))) A' Y R P :=
  ⟨blk_put2 h.a _ _, blk_far2 h.y (by omega) _ _, blk_far2 h.r (by omega) _ _, blk_far2 h.p (by omega) _ _, Below.setCell (Below.setCell h.on (by simp) _) (by simp) _⟩
theorem W4.putR {w wr : World} {A Y R P : BitVec 128} (h : W4 w wr A Y R P) (R' : BitVec 128) : W4 w ((wr.setCell ⟨w.heap.size + 2, 0, none⟩ (.int .u64 (u (hiW R')))).setCell ⟨w.heap.size + 2, 1, none⟩ (.int .u64 (u (loW R')))) A Y R' P :=
  ⟨blk_far2 h.a (by omega) _ _, blk_far2 h.y (by omega) _ _, blk_put2 h.r _ _, blk_far2 h.p (by omega) _ _, Below.setCell (Below.setCell h.on (by simp) _) (by simp) _⟩
theorem W4.putP {w wr : World} {A Y R P : BitVec 128} (h : W4 w wr A Y R P) (P' : BitVec 128) : W4 w ((wr.setCell ⟨w.heap.size + 3, 0, none⟩ (.int .u64 (u (hiW P')))).setCell ⟨w.heap.size + 3, 1, none⟩ (.int .u64 (u (loW P')))) A Y R P' :=
  ⟨blk_far2 h.a (by omega) _ _, blk_far2 h.y (by omega) _ _, blk_far2 h.r (by omega) _ _, blk_put2 h.p _ _, Below.setCell (Below.setCell h.on (by simp) _) (by simp) _⟩
theorem heap_at3 (w : World) (a b c d : Obj) : ((((w.alloc a).alloc b).alloc c).alloc d).heap[w.heap.size]? = some a ∧ ((((w.alloc a).alloc b).alloc c).alloc d).heap[w.heap.size + 1]? = some b ∧ ((((w.alloc a).alloc b).alloc c).alloc d).heap[w.heap.size + 2]? = some c ∧ ((((w.alloc a).alloc b).alloc c).alloc d).heap[w.heap.size + 3]? = some d := by
  have s1 := alloc_size w a
  have s2 := alloc_size (w.alloc a) b
  have s3 := alloc_size ((w.alloc a).alloc b) c
  refine ⟨?_, ?_, ?_, ?_⟩
  · rw [heap_alloc_old _ _ (by omega), heap_alloc_old _ _ (by omega), heap_alloc_old _ _ (by omega)]; exact heap_alloc_new _ _
  · rw [heap_alloc_old _ _ (by omega), heap_alloc_old _ _ (by omega), show w.heap.size + 1 = (w.alloc a).heap.size by omega]; exact heap_alloc_new _ _
  · rw [heap_alloc_old _ _ (by omega), show w.heap.size + 2 = ((w.alloc a).alloc b).heap.size by omega]; exact heap_alloc_new _ _
  · rw [show w.heap.size + 3 = (((w.alloc a).alloc b).alloc c).heap.size by omega]; exact heap_alloc_new _ _
theorem W4.first (w : World) (x y : BitVec 128) : W4 w ((((w.alloc (.cells #[.int .u64 (u (hiW x)), .int .u64 (u (loW x))] 55)).alloc (.cells #[.int .u64 (u (hiW y)), .int .u64 (u (loW y))] 55)).alloc (.cells #[.int .u64 0, .int .u64 0] 55)).alloc (.cells #[.int .u64 0, .int .u64 0] 55)) x y 0 0 := by
  obtain ⟨h0, h1, h2, h3⟩ := heap_at3 w (.cells #[.int .u64 (u (hiW x)), .int .u64 (u (loW x))] 55) (.cells #[.int .u64 (u (hiW y)), .int .u64 (u (loW y))] 55) (.cells #[.int .u64 0, .int .u64 0] 55) (.cells #[.int .u64 0, .int .u64 0] 55)
  have z0 : u (hiW 0) = 0 := by decide
  have z1 : u (loW 0) = 0 := by decide
  refine ⟨h0, h1, ?_, ?_, ((((On.refl w).alloc _).alloc _).alloc _).alloc _⟩
  · rw [z0, z1]; exact h2
  · rw [z0, z1]; exact h3
set_option maxHeartbeats 2000000 in
theorem product_ref (x y : BitVec 128) (w : World) :
    Calls Try.prog 32 #[.agg #[.int .u64 (u (hiW x)), .int .u64 (u (loW x))], .agg #[.int .u64 (u (hiW y)), .int .u64 (u (loW y))]] w fun e w' => e = .returned (.agg #[.int .u64 (u (hiW (x * y))), .int .u64 (u (loW (x * y)))]) ∧ On w w' := by
  have HX := Lib.hid (part_all x y)
  go_enter Try.func32, Try.ntmps32
  go_wp2
  go_loopw [6] (fun i wr => ∃ k : Int, 0 ≤ k ∧ k ≤ 128 ∧ i = .int .i64 k ∧ Hid (W4 w wr (x <<< k.toNat) y 0 (part x y k.toNat))) (fun i _ => (128 - intOf i).toNat)
  case atStart => exact ⟨0, by omega, by omega, rfl, Lib.hid (by rw [show (0 : Int).toNat = 0 from rfl, BitVec.shiftLeft_zero]; exact W4.first w x y)⟩
  case round =>
    obtain ⟨k, hk1, hk2, rfl, hw⟩ := hrel
    have a0 := blk_cell hw.out.a 0 rfl
    have a1 := blk_cell hw.out.a 1 rfl
    have y0 := blk_cell hw.out.y 0 rfl
    have y1 := blk_cell hw.out.y 1 rfl
    have p0 := blk_cell hw.out.p 0 rfl
    have p1 := blk_cell hw.out.p 1 rfl
    have r0 := blk_cell hw.out.r 0 rfl
    have r1 := blk_cell hw.out.r 1 rfl
    have af := blk_free hw.out.a
    have pf := blk_free hw.out.p
    have rf := blk_free hw.out.r
    have n0 := u_nonneg (loW y)
    have n1 := u_nonneg (hiW y)
    by_cases hk : k < 128
    · cases hb : y.getLsbD k.toNat
      · have HP : Hid (part x y (k.toNat + 1) = part x y k.toNat) := Lib.hid (by show (if _ then _ else _) = _; rw [hb]; rfl)
        have HW := hw
        by_cases h64 : 63 < k
        · have t2 : (bits .and .u64 (u (hiW y) / 2 ^ (k - 64).toNat) 1 == 1) = false := by rw [u_shr, u_and1, and1_test, show (k - 64).toNat = k.toNat - 64 by omega, bit_high y k.toNat (by omega) (by omega), hb]
          clear hb
          go_wp2_with fail
          refine (rtwice_any _ _).mono ?_
          rintro e w3 ⟨rfl, h3⟩
          clear a0 a1 y0 y1 p0 p1 r0 r1 af pf rf
          have hw := Lib.hid (HW.out.next h3)
          clear h3
          have a0 := blk_cell hw.out.a 0 rfl
          have a1 := blk_cell hw.out.a 1 rfl
          have y0 := blk_cell hw.out.y 0 rfl
          have y1 := blk_cell hw.out.y 1 rfl
          have p0 := blk_cell hw.out.p 0 rfl
          have p1 := blk_cell hw.out.p 1 rfl
          have r0 := blk_cell hw.out.r 0 rfl
          have r1 := blk_cell hw.out.r 1 rfl
          have af := blk_free hw.out.a
          have pf := blk_free hw.out.p
          have rf := blk_free hw.out.r
          go_wp2
          go_roundw
          case rel => exact ⟨k + 1, by omega, by omega, by go_num, Lib.hid (by have h := hw.out.putA (x <<< k.toNat + x <<< k.toNat); rw [show (k + 1).toNat = k.toNat + 1 by omega, ← twice_shl, HP.out]; exact h)⟩
          case measure => simp [intOf]; omega
        · have t2 : (bits .and .u64 (u (loW y) / 2 ^ k.toNat) 1 == 1) = false := by rw [u_shr, u_and1, and1_test, bit_low y k.toNat (by omega), hb]
          clear hb
          go_wp2_with fail
          refine (rtwice_any _ _).mono ?_
          rintro e w3 ⟨rfl, h3⟩
          clear a0 a1 y0 y1 p0 p1 r0 r1 af pf rf
          have hw := Lib.hid (HW.out.next h3)
          clear h3
          have a0 := blk_cell hw.out.a 0 rfl
          have a1 := blk_cell hw.out.a 1 rfl
          have y0 := blk_cell hw.out.y 0 rfl
          have y1 := blk_cell hw.out.y 1 rfl
          have p0 := blk_cell hw.out.p 0 rfl
          have p1 := blk_cell hw.out.p 1 rfl
          have r0 := blk_cell hw.out.r 0 rfl
          have r1 := blk_cell hw.out.r 1 rfl
          have af := blk_free hw.out.a
          have pf := blk_free hw.out.p
          have rf := blk_free hw.out.r
          go_wp2
          go_roundw
          case rel => exact ⟨k + 1, by omega, by omega, by go_num, Lib.hid (by have h := hw.out.putA (x <<< k.toNat + x <<< k.toNat); rw [show (k + 1).toNat = k.toNat + 1 by omega, ← twice_shl, HP.out]; exact h)⟩
          case measure => simp [intOf]; omega
      · have HP : Hid (part x y (k.toNat + 1) = part x y k.toNat + x <<< k.toNat) := Lib.hid (by show (if _ then _ else _) = _; rw [hb]; rfl)
        by_cases h64 : 63 < k
        · have t2 : (bits .and .u64 (u (hiW y) / 2 ^ (k - 64).toNat) 1 == 1) = true := by rw [u_shr, u_and1, and1_test, show (k - 64).toNat = k.toNat - 64 by omega, bit_high y k.toNat (by omega) (by omega), hb]
          clear hb
          go_wp2_with fail
          refine (radd_any _ _ _).mono ?_
          rintro e w2 ⟨rfl, h2⟩
          clear a0 a1 y0 y1 p0 p1 r0 r1 af pf rf
          have hw := Lib.hid (hw.out.next h2)
          clear h2
          have a0 := blk_cell hw.out.a 0 rfl
          have a1 := blk_cell hw.out.a 1 rfl
          have y0 := blk_cell hw.out.y 0 rfl
          have y1 := blk_cell hw.out.y 1 rfl
          have p0 := blk_cell hw.out.p 0 rfl
          have p1 := blk_cell hw.out.p 1 rfl
          have r0 := blk_cell hw.out.r 0 rfl
          have r1 := blk_cell hw.out.r 1 rfl
          have af := blk_free hw.out.a
          have pf := blk_free hw.out.p
          have rf := blk_free hw.out.r
          have HW := Lib.hid (hw.out.putP (part x y k.toNat + x <<< k.toNat))
          go_wp2_with fail
          refine (rtwice_any _ _).mono ?_
          rintro e w3 ⟨rfl, h3⟩
          clear a0 a1 y0 y1 p0 p1 r0 r1 af pf rf
          have hw := Lib.hid (HW.out.next h3)
          clear h3
          have a0 := blk_cell hw.out.a 0 rfl
          have a1 := blk_cell hw.out.a 1 rfl
          have y0 := blk_cell hw.out.y 0 rfl
          have y1 := blk_cell hw.out.y 1 rfl
          have p0 := blk_cell hw.out.p 0 rfl
          have p1 := blk_cell hw.out.p 1 rfl
          have r0 := blk_cell hw.out.r 0 rfl
          have r1 := blk_cell hw.out.r 1 rfl
          have af := blk_free hw.out.a
          have pf := blk_free hw.out.p
          have rf := blk_free hw.out.r
          go_wp2
          go_roundw
          case rel => exact ⟨k + 1, by omega, by omega, by go_num, Lib.hid (by have h := hw.out.putA (x <<< k.toNat + x <<< k.toNat); rw [show (k + 1).toNat = k.toNat + 1 by omega, ← twice_shl, HP.out]; exact h)⟩
          case measure => simp [intOf]; omega
        · have t2 : (bits .and .u64 (u (loW y) / 2 ^ k.toNat) 1 == 1) = true := by rw [u_shr, u_and1, and1_test, bit_low y k.toNat (by omega), hb]
          clear hb
          go_wp2_with fail
          refine (radd_any _ _ _).mono ?_
          rintro e w2 ⟨rfl, h2⟩
          clear a0 a1 y0 y1 p0 p1 r0 r1 af pf rf
          have hw := Lib.hid (hw.out.next h2)
          clear h2
          have a0 := blk_cell hw.out.a 0 rfl
          have a1 := blk_cell hw.out.a 1 rfl
          have y0 := blk_cell hw.out.y 0 rfl
          have y1 := blk_cell hw.out.y 1 rfl
          have p0 := blk_cell hw.out.p 0 rfl
          have p1 := blk_cell hw.out.p 1 rfl
          have r0 := blk_cell hw.out.r 0 rfl
          have r1 := blk_cell hw.out.r 1 rfl
          have af := blk_free hw.out.a
          have pf := blk_free hw.out.p
          have rf := blk_free hw.out.r
          have HW := Lib.hid (hw.out.putP (part x y k.toNat + x <<< k.toNat))
          go_wp2_with fail
          refine (rtwice_any _ _).mono ?_
          rintro e w3 ⟨rfl, h3⟩
          clear a0 a1 y0 y1 p0 p1 r0 r1 af pf rf
          have hw := Lib.hid (HW.out.next h3)
          clear h3
          have a0 := blk_cell hw.out.a 0 rfl
          have a1 := blk_cell hw.out.a 1 rfl
          have y0 := blk_cell hw.out.y 0 rfl
          have y1 := blk_cell hw.out.y 1 rfl
          have p0 := blk_cell hw.out.p 0 rfl
          have p1 := blk_cell hw.out.p 1 rfl
          have r0 := blk_cell hw.out.r 0 rfl
          have r1 := blk_cell hw.out.r 1 rfl
          have af := blk_free hw.out.a
          have pf := blk_free hw.out.p
          have rf := blk_free hw.out.r
          go_wp2
          go_roundw
          case rel => exact ⟨k + 1, by omega, by omega, by go_num, Lib.hid (by have h := hw.out.putA (x <<< k.toNat + x <<< k.toNat); rw [show (k + 1).toNat = k.toNat + 1 by omega, ← twice_shl, HP.out]; exact h)⟩
          case measure => simp [intOf]; omega
    · have e : k.toNat = 128 := by omega
      have HE : Hid (part x y k.toNat = x * y) := Lib.hid (by rw [e]; exact HX.out)
      clear e
      go_wp2
      exact bodyPost_ret (v := .agg #[.int .u64 (u (hiW (part x y k.toNat))), .int .u64 (u (loW (part x y k.toNat)))]) (by simp [results, Try.results32, go_sem, r0, r1]) rfl ⟨by rw [HE.out], (hw.out.putR (part x y k.toNat)).on⟩
end Go.Proofs.Ytapaddbgmbkelaa
