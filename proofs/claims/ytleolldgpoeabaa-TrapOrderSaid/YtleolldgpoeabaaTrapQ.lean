/- The law's own closure: the rank of an interrupt. Conditions: named at each. -/
import Derived.Test.YtleolldgpoeabaaTrapO
namespace Go.Proofs.Ytleolldgpoeabaa
open Go.RowKit
structure RankAt (k : Nat) (t i : Value) : Prop where
  out : ∃ j : Nat, j ≤ 6 ∧ i = .int .i64 j ∧ t = .int .i64 ((if k < j then k else 0 : Nat) : Int)
set_option maxHeartbeats 1000000 in
theorem rank_any (h : Nat → BitVec 64) (p : Int) (r : Bool) (b k : Nat) (hk : k < 6) (w : World) (hb : w.heap[b]? = some (.cells (hV h p r) 28 (0, 0))) :
    Calls Try.prog 25 #[.int .u64 (u (cauN (ordN k))), .pointer (some ⟨b, 0, none⟩)] w fun r' w' => r' = .returned (.int .i64 (rnk (h 36) k : Nat)) ∧ On w w' := by
  have N := cauN_num k
  have hl := ord_lt k
  have hn := ordB_nat k
  obtain ⟨n, en⟩ : ∃ n, ordB k = n := ⟨_, rfl⟩
  have hi : ∀ j, j < 6 → (u (ordB j) == u n) = decide (j = k) := fun j hj => by
    rw [u_beq, ← en]
    by_cases e : j = k
    · subst e; simp
    · rw [decide_eq_false e]; simpa using fun h => e (ordB_inj hj hk h)
  rw [en] at N hn
  have B : bits .and .u64 (u (cauN (ordN k))) 63 = u n := by rw [show (63 : Int) = u 63#64 from rfl, u_and, N]
  generalize cauN (ordN k) = c at *
  have sh := fun v => shr_run Try.prog v n (by omega)
  have hr : rnk (h 36) k = k + if (h 36).getLsbD n.toNat = true then 6 else 0 := by unfold rnk; rw [hn]
  generalize rnk (h 36) k = R at *
  have hlt := blk_lt hb
  have X := fun j (hj : j < 6) => blk_cell (blk_new w (.cells #[.int .u64 11, .int .u64 3, .int .u64 7, .int .u64 9, .int .u64 1, .int .u64 5] 43)) j (ordRow_at hj)
  have hb4 := ((On.refl w).alloc (.cells #[.int .u64 11, .int .u64 3, .int .u64 7, .int .u64 9, .int .u64 1, .int .u64 5] 43)).keep hb
  have c36 := blk_cell hb4 36 (hV_get h p r 36 (by omega) (by omega) (by omega))
  have HB : Hid (On w (w.alloc (.cells #[.int .u64 11, .int .u64 3, .int .u64 7, .int .u64 9, .int .u64 1, .int .u64 5] 43))) := Lib.hid ((On.refl w).alloc _)
  replace hi := Lib.hid hi
  have hk := Lib.hid hk
  clear hb hb4 N hl hn en
  go_enter Try.func25, Try.ntmps25
  go_wp2_with fail
  generalize w.alloc (.cells #[.int .u64 11, .int .u64 3, .int .u64 7, .int .u64 9, .int .u64 1, .int .u64 5] 43) = w4 at *
  generalize w.heap.size = A at *
  go_loop [5, 6] (fun t i => RankAt k t i) (fun _ i => 6 - (intOf i).toNat)
  case atStart => exact ⟨0, by omega, rfl, rfl⟩
  case round =>
    obtain ⟨j, hj, rfl, rfl⟩ := hrel.out
    by_cases hj6 : j < 6
    · replace X := X j hj6
      have hij := hi.out j hj6
      generalize ordB j = q at *
      by_cases e : j = k
      · subst e
        have t1 : (u q == u n) = true := hij.trans (by simp)
        have t2 : u q = u n := by simpa using t1
        clear hij
        go_wp2
        go_round
        case rel => exact ⟨j + 1, by omega, by go_num, by rw [if_pos (by omega)]⟩
        case measure => simp [intOf]; omega
      · have t1 : (u q == u n) = false := hij.trans (by simpa using e)
        have t2 : ¬ u q = u n := by simpa using t1
        have t3 : (if k < j + 1 then k else 0) = (if k < j then k else 0) := by
          by_cases h1 : k < j
          · rw [if_pos h1, if_pos (by omega)]
          · rw [if_neg h1, if_neg (by omega)]
        generalize (if k < j then k else 0) = z at *
        clear hij
        go_wp2
        go_round
        case rel => exact ⟨j + 1, by omega, by go_num, by rw [t3]⟩
        case measure => simp [intOf]; omega
    · obtain rfl : j = 6 := by omega
      have hk := hk.out
      rw [if_pos hk]
      clear hrel hj hj6 X hi
      cases hd : (h 36).getLsbD n.toNat
      · have b1 : bits .and .u64 (u (h 36 >>> n.toNat)) 1 = 0 := by
          have := bit_at0 (h 36) n.toNat
          rw [hd] at this; simpa using this
        have hR : Hid (R = k) := Lib.hid (by rw [hr, hd]; simp)
        clear hr hd
        go_wp2
        go_ret
        exact ⟨by rw [hR.out]; first | rfl | (simp; done), HB.out⟩
      · have b1 : bits .and .u64 (u (h 36 >>> n.toNat)) 1 = 1 := by
          have := bit_at1 (h 36) n.toNat
          rw [hd] at this; simpa using this
        have hR : Hid (R = k + 6) := Lib.hid (by rw [hr, hd]; simp)
        clear hr hd
        go_wp2
        go_ret
        exact ⟨by rw [hR.out]; first | rfl | (simp; done), HB.out⟩
theorem env_zero (w : World) : (zeroValue 35).run Try.prog w = .ok (.agg (eV zC false false)) w := by
  rw [eV_eq]; kernel_rfl
theorem eV_set2 (e : Nat → BitVec 64) (q1 q2 : Bool) (v : BitVec 64) : (eV e q1 q2).setIfInBounds 2 (.int .u64 (u v)) = eV (upd e 2 v) q1 q2 := by
  rw [eV_eq, eV_eq]; rfl
theorem top_div_ne {c : BitVec 64} (h : c.getLsbD 63 = true) : (u c / 9223372036854775808 != 1) = false := by unfold bne; rw [top_div, h]; rfl
end Go.Proofs.Ytleolldgpoeabaa
