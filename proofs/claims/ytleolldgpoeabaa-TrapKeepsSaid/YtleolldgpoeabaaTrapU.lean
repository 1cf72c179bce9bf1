/- Traps on a hart: which interrupt is taken, by the reference. Conditions: named at each. -/
import Derived.Test.YtleolldgpoeabaaTrapT
namespace Go.Proofs.Ytleolldgpoeabaa
open Go.RowKit
theorem cntM_bit (h : Nat → BitVec 64) (p : Int) (x : BitVec 64) (i : Nat) (hi : i < 64) : (cntM h p x).getLsbD i = ((!(p == 3) || (h 34).getLsbD 3) && (x.getLsbD i && !(h 36).getLsbD i)) := by
  unfold cntM
  split
  · next hc => rw [hc, BitVec.getLsbD_and, BitVec.getLsbD_not]; simp [hi]
  · next hc => rw [Bool.not_eq_true _ |>.mp hc]; simp
theorem cntS_bit (h : Nat → BitVec 64) (p : Int) (x : BitVec 64) (i : Nat) : (cntS h p x).getLsbD i = ((p == 0 || (p == 1 && (h 34).getLsbD 1)) && (x.getLsbD i && (h 36).getLsbD i)) := by
  unfold cntS
  split
  · next hc => rw [hc, BitVec.getLsbD_and]; simp
  · next hc => rw [Bool.not_eq_true _ |>.mp hc]; simp
theorem ord_lt (k : Nat) : ordN k < 64 := by unfold ordN; split <;> omega
def ordB (k : Nat) : BitVec 64 := BitVec.ofNat 64 (ordN k)
theorem ordB_nat (k : Nat) : (ordB k).toNat = ordN k := by
  unfold ordB; rw [BitVec.toNat_ofNat]; exact Nat.mod_eq_of_lt (Nat.lt_trans (ord_lt k) (by decide))
def ordRow : Array Value := #[.int .u64 11, .int .u64 3, .int .u64 7, .int .u64 9, .int .u64 1, .int .u64 5]
theorem ordRow_at {k : Nat} (hk : k < 6) : ((#[.int .u64 11, .int .u64 3, .int .u64 7, .int .u64 9, .int .u64 1, .int .u64 5] : Array Value))[k]? = some (.int .u64 (u (ordB k))) := by
  have h6 : k = 0 ∨ k = 1 ∨ k = 2 ∨ k = 3 ∨ k = 4 ∨ k = 5 := by omega
  rcases h6 with rfl | rfl | rfl | rfl | rfl | rfl <;> rfl
structure RselA (m : BitVec 64) (i : Value) : Prop where
  out : ∃ k : Nat, k ≤ 6 ∧ i = .int .i64 k ∧ acc m k = 0#64
theorem cau_or (n : BitVec 64) : bits .or .u64 9223372036854775808 (u n) = u (0x8000000000000000#64 ||| n) := u_or 0x8000000000000000#64 n
theorem cauB (k : Nat) : 0x8000000000000000#64 ||| ordB k = cauN (ordN k) := rfl
theorem selB_of {m s v : BitVec 64} (h : selV m s = v) (hv : v ≠ 0#64) : selB m s = true := by
  unfold selB; rw [h]; simpa using hv

set_option maxRecDepth 100000 in
set_option maxHeartbeats 8000000 in
theorem rsel_any (h e : Nat → BitVec 64) (p : Int) (r q1 q2 : Bool) (w : World) : Calls Try.prog 19 #[.agg (hV h p r), .agg (eV e q1 q2)] w fun r' w' => r' = .returned (.tuple #[.int .u64 (u (selV (cntM h p (cnd h e)) (cntS h p (cnd h e)))), .bool (selB (cntM h p (cnd h e)) (cntS h p (cnd h e)))]) ∧ On w w' := by
  have HB : Hid (On w ((w.alloc (.cells (hV h p r) 28)).alloc (.cells (eV e q1 q2) 35))) := Lib.hid (((On.refl w).alloc _).alloc _)
  have L0 := fun d os => (hcsr_at (((On.refl ((w.alloc (.cells (hV h p r) 28)).alloc (.cells (eV e q1 q2) 35))).grow d os).keep (box1 _ _ _)) : (Instr.loadAt 26 (.pointer (some ⟨w.heap.size, 34, none⟩))).run Try.prog (Sort.grow (redrawn ((w.alloc (.cells (hV h p r) 28)).alloc (.cells (eV e q1 q2) 35)) d) os) = _)
  have L1 := row_lds envT (box2 w (.cells (hV h p r) 28) (.cells (eV e q1 q2) 35)) (eV_size _ _ _)
  have L2 := fun d os => (blk_cell (((On.refl ((w.alloc (.cells (hV h p r) 28)).alloc (.cells (eV e q1 q2) 35))).grow d os).keep (box1 _ _ _)) 37 (hV_get h p r 37 (by omega) (by omega) (by omega)) : (Sort.grow (redrawn ((w.alloc (.cells (hV h p r) 28)).alloc (.cells (eV e q1 q2) 35)) d) os).cell? ⟨w.heap.size, 37, none⟩ = _)
  have A := u_and (pend (cH h) e) (h 37)
  obtain ⟨x, hx⟩ : ∃ x, pend (cH h) e &&& h 37 = x := ⟨_, rfl⟩
  rw [hx] at A
  rw [show cnd h e = x from hx]
  clear hx
  have M := fun i (hi : i < 64) => cntM_bit h p x i hi
  have Sb := fun i => cntS_bit h p x i
  replace M := Lib.hid M
  replace Sb := Lib.hid Sb
  generalize cntM h p x = m at *
  generalize cntS h p x = s at *
  go_enter Try.func19, Try.ntmps19
  go_wp2_with fail
  refine wp_region_quiet_below (by kernel_rfl) (by kernel_rfl) ?_
  repeat (first | (go_big_quiet_want; (first | refine cells_quiet L0 rfl rfl ?_ | refine row_quiet L1 rfl rfl ?_); go_simp; go_big_quiet_on) | go_big_quiet_step (first | (go_at_call 24; exact Calls.on_of (rpend_any _ _ _ _ _))))
  refine wpQuiet_nil ?_
  intro _ hw'
  obtain ⟨⟨dq, osq⟩, hw''⟩ := hw'
  subst hw''
  have hb := (On.refl ((w.alloc (.cells (hV h p r) 28)).alloc (.cells (eV e q1 q2) 35))).grow dq osq
  replace HB := Lib.hid (HB.out.trans hb)
  have HC : ∀ wr, On ((w.alloc (.cells (hV h p r) 28)).alloc (.cells (eV e q1 q2) 35)) wr → wr.heap[w.heap.size]? = some (.cells (hV h p r) 28 (0, 0)) := fun _ k => k.keep (box1 _ _ _)
  have HE : ∀ wr, On ((w.alloc (.cells (hV h p r) 28)).alloc (.cells (eV e q1 q2) 35)) wr → wr.heap[w.heap.size + 1]? = some (.cells (eV e q1 q2) 35 (0, 0)) := fun _ k => k.keep (box2 _ _ _)
  have c34 : ∀ wr, On ((w.alloc (.cells (hV h p r) 28)).alloc (.cells (eV e q1 q2) 35)) wr → wr.cell? ⟨w.heap.size, 34, none⟩ = some (.int .u64 (u (h 34))) := fun _ k => blk_cell (HC _ k) 34 (hV_get h p r 34 (by omega) (by omega) (by omega))
  have c36 : ∀ wr, On ((w.alloc (.cells (hV h p r) 28)).alloc (.cells (eV e q1 q2) 35)) wr → wr.cell? ⟨w.heap.size, 36, none⟩ = some (.int .u64 (u (h 36))) := fun _ k => blk_cell (HC _ k) 36 (hV_get h p r 36 (by omega) (by omega) (by omega))
  have cP : ∀ wr, On ((w.alloc (.cells (hV h p r) 28)).alloc (.cells (eV e q1 q2) 35)) wr → wr.cell? ⟨w.heap.size, 1, none⟩ = some (.int .i64 p) := fun _ k => blk_cell (HC _ k) 1 (hV_priv h p r)
  clear L0 L1 L2 A
  generalize Sort.grow (redrawn ((w.alloc (.cells (hV h p r) 28)).alloc (.cells (eV e q1 q2) 35)) dq) osq = w3 at *
  have hlt : w.heap.size < w3.heap.size := by have := hb.size; simp at this; omega
  have X := fun k (hk : k < 6) => blk_cell (blk_new w3 (.cells #[.int .u64 11, .int .u64 3, .int .u64 7, .int .u64 9, .int .u64 1, .int .u64 5] 43)) k (ordRow_at hk)
  have hb4 : On ((w.alloc (.cells (hV h p r) 28)).alloc (.cells (eV e q1 q2) 35)) (w3.alloc (.cells #[.int .u64 11, .int .u64 3, .int .u64 7, .int .u64 9, .int .u64 1, .int .u64 5] 43)) := hb.alloc _
  replace HB := Lib.hid (HB.out.alloc (.cells #[.int .u64 11, .int .u64 3, .int .u64 7, .int .u64 9, .int .u64 1, .int .u64 5] 43))
  have c34 := c34 _ hb4
  have c36 := c36 _ hb4
  have cP := cP _ hb4
  clear HC HE hb hb4
  go_wp2_with fail
  generalize w3.alloc (.cells #[.int .u64 11, .int .u64 3, .int .u64 7, .int .u64 9, .int .u64 1, .int .u64 5] 43) = w4 at *
  generalize w3.heap.size = B at *
  skip
  go_loop [8] (fun i => RselA m i) (fun i => 6 - (intOf i).toNat)
  case atStart => exact ⟨0, by omega, rfl, rfl⟩
  case round =>
    obtain ⟨k, hk, rfl, hk0⟩ := hrel.out
    by_cases hk6 : k < 6
    · replace X := X k hk6
      have hn := ordB_nat k
      have hl := ord_lt k
      have hc := cauB k
      generalize ordB k = n at *
      have hn64 : n.toNat < 64 := by omega
      have sh := fun v => shr_run Try.prog v n hn64
      have co := cau_or n
      cases hx : x.getLsbD n.toNat
      · have Hm : Hid (acc m (k + 1) = 0#64) := Lib.hid (acc_no hk0 (by rw [M.out _ hl, ← hn, hx]; simp))
        have b1 : (bits .and .u64 (u (x >>> n.toNat)) 1 == 1) = false := (bit_at1 _ _).trans hx
        have b1' : ¬ bits .and .u64 (u (x >>> n.toNat)) 1 = 1 := by simpa using b1
        clear hk0 hx hc hn hl M Sb
        go_wp2
        go_round
        case rel => exact ⟨k + 1, by omega, by go_num, Hm.out⟩
        case measure => simp [intOf]; omega
      · cases hd : (h 36).getLsbD n.toNat
        · by_cases hp : p = 3
          · subst hp
            cases hq : (h 34).getLsbD 3
            · have Hm : Hid (acc m (k + 1) = 0#64) := Lib.hid (acc_no hk0 (by rw [M.out _ hl, ← hn, hx, hd, hq]; simp))
              have b1 : (bits .and .u64 (u (x >>> n.toNat)) 1 == 1) = true := (bit_at1 _ _).trans hx
              have b1' : bits .and .u64 (u (x >>> n.toNat)) 1 = 1 := by simpa using b1
              have b2 : (bits .and .u64 (u (h 36 >>> n.toNat)) 1 == 0) = true := (bit_at0 _ _).trans (by rw [hd]; rfl)
              have b2' : bits .and .u64 (u (h 36 >>> n.toNat)) 1 = 0 := by simpa using b2
              have T8 : (bits .and .u64 (u (h 34)) 8 != 0) = false := (bit_n (h 34) 3 (by omega) 8 rfl).trans hq
              have T9 : bits .and .u64 (u (h 34)) 8 = 0 := by unfold bne at T8; simpa using T8
              clear hk0 hx hc hn hl M Sb hd hq
              go_wp2
              go_round
              case rel => exact ⟨k + 1, by omega, by go_num, Hm.out⟩
              case measure => simp [intOf]; omega
            · have hB : m.getLsbD (ordN k) = true := by rw [M.out _ hl, ← hn, hx, hd, hq]; simp
              have D0 : selV m s = 0x8000000000000000#64 ||| n := by rw [hc]; exact selV_break s hk6 hk0 hB
              have D : Hid ((.tuple #[.int .u64 (u (selV m s)), .bool (selB m s)] : Value) = .tuple #[.int .u64 (u (0x8000000000000000#64 ||| n)), .bool true]) := Lib.hid (by rw [selB_of D0 (by rw [hc]; exact cauN_ne k), D0])
              clear D0
              have b1 : (bits .and .u64 (u (x >>> n.toNat)) 1 == 1) = true := (bit_at1 _ _).trans hx
              have b1' : bits .and .u64 (u (x >>> n.toNat)) 1 = 1 := by simpa using b1
              have b2 : (bits .and .u64 (u (h 36 >>> n.toNat)) 1 == 0) = true := (bit_at0 _ _).trans (by rw [hd]; rfl)
              have b2' : bits .and .u64 (u (h 36 >>> n.toNat)) 1 = 0 := by simpa using b2
              have T8 : (bits .and .u64 (u (h 34)) 8 != 0) = true := (bit_n (h 34) 3 (by omega) 8 rfl).trans hq
              have T9 : ¬ bits .and .u64 (u (h 34)) 8 = 0 := by unfold bne at T8; simpa using T8
              clear hk0 hx hc hn hl M Sb hd hq hB
              go_wp2
              go_ret2
              exact ⟨by rw [D.out]; rfl, HB.out⟩
          · have p3 : (p == 3) = false := by simpa using hp
            have q3 : (p != 3) = true := by unfold bne; rw [p3]; rfl
            have hB : m.getLsbD (ordN k) = true := by rw [M.out _ hl, ← hn, hx, hd, p3]; simp
            have D0 : selV m s = 0x8000000000000000#64 ||| n := by rw [hc]; exact selV_break s hk6 hk0 hB
            have D : Hid ((.tuple #[.int .u64 (u (selV m s)), .bool (selB m s)] : Value) = .tuple #[.int .u64 (u (0x8000000000000000#64 ||| n)), .bool true]) := Lib.hid (by rw [selB_of D0 (by rw [hc]; exact cauN_ne k), D0])
            clear D0
            have b1 : (bits .and .u64 (u (x >>> n.toNat)) 1 == 1) = true := (bit_at1 _ _).trans hx
            have b1' : bits .and .u64 (u (x >>> n.toNat)) 1 = 1 := by simpa using b1
            have b2 : (bits .and .u64 (u (h 36 >>> n.toNat)) 1 == 0) = true := (bit_at0 _ _).trans (by rw [hd]; rfl)
            have b2' : bits .and .u64 (u (h 36 >>> n.toNat)) 1 = 0 := by simpa using b2
            clear hk0 hx hc hn hl M Sb hd hB
            go_wp2
            go_ret2
            exact ⟨by rw [D.out]; rfl, HB.out⟩
        · have Hm : Hid (acc m (k + 1) = 0#64) := Lib.hid (acc_no hk0 (by rw [M.out _ hl, ← hn, hx, hd]; simp))
          have b1 : (bits .and .u64 (u (x >>> n.toNat)) 1 == 1) = true := (bit_at1 _ _).trans hx
          have b1' : bits .and .u64 (u (x >>> n.toNat)) 1 = 1 := by simpa using b1
          have b2 : (bits .and .u64 (u (h 36 >>> n.toNat)) 1 == 0) = false := (bit_at0 _ _).trans (by rw [hd]; rfl)
          have b2' : ¬ bits .and .u64 (u (h 36 >>> n.toNat)) 1 = 0 := by simpa using b2
          clear hk0 hx hc hn hl M Sb hd
          go_wp2
          go_round
          case rel => exact ⟨k + 1, by omega, by go_num, Hm.out⟩
          case measure => simp [intOf]; omega
    · obtain rfl : k = 6 := by omega
      clear hk hk6
      go_wp2_with fail
      go_loop [10] (fun i => RselA s i) (fun i => 6 - (intOf i).toNat)
      case atStart => exact ⟨0, by omega, rfl, rfl⟩
      case round =>
        obtain ⟨k, hk, rfl, hs0⟩ := hrel.out
        by_cases hk6 : k < 6
        · replace X := X k hk6
          have hn := ordB_nat k
          have hl := ord_lt k
          have hc := cauB k
          generalize ordB k = n at *
          have hn64 : n.toNat < 64 := by omega
          have sh := fun v => shr_run Try.prog v n hn64
          have co := cau_or n
          cases hx : x.getLsbD n.toNat
          · have Hm : Hid (acc s (k + 1) = 0#64) := Lib.hid (acc_no hs0 (by rw [Sb.out, ← hn, hx]; simp))
            have b1 : (bits .and .u64 (u (x >>> n.toNat)) 1 == 1) = false := (bit_at1 _ _).trans hx
            have b1' : ¬ bits .and .u64 (u (x >>> n.toNat)) 1 = 1 := by simpa using b1
            clear hs0 hk0 hx hc hn hl M Sb
            go_wp2
            go_round
            case rel => exact ⟨k + 1, by omega, by go_num, Hm.out⟩
            case measure => simp [intOf]; omega
          · cases hd : (h 36).getLsbD n.toNat
            · have Hm : Hid (acc s (k + 1) = 0#64) := Lib.hid (acc_no hs0 (by rw [Sb.out, ← hn, hx, hd]; simp))
              have b1 : (bits .and .u64 (u (x >>> n.toNat)) 1 == 1) = true := (bit_at1 _ _).trans hx
              have b1' : bits .and .u64 (u (x >>> n.toNat)) 1 = 1 := by simpa using b1
              have b2 : (bits .and .u64 (u (h 36 >>> n.toNat)) 1 == 1) = false := (bit_at1 _ _).trans hd
              have b2' : ¬ bits .and .u64 (u (h 36 >>> n.toNat)) 1 = 1 := by simpa using b2
              clear hs0 hk0 hx hc hn hl M Sb hd
              go_wp2
              go_round
              case rel => exact ⟨k + 1, by omega, by go_num, Hm.out⟩
              case measure => simp [intOf]; omega
            · by_cases hp : p = 0
              · subst hp
                have hB : s.getLsbD (ordN k) = true := by rw [Sb.out, ← hn, hx, hd]; simp
                have D0 : selV m s = 0x8000000000000000#64 ||| n := by rw [hc, selV_end s hk0]; exact acc_end hk6 hs0 hB
                have D : Hid ((.tuple #[.int .u64 (u (selV m s)), .bool (selB m s)] : Value) = .tuple #[.int .u64 (u (0x8000000000000000#64 ||| n)), .bool true]) := Lib.hid (by rw [selB_of D0 (by rw [hc]; exact cauN_ne k), D0])
                clear D0
                have b1 : (bits .and .u64 (u (x >>> n.toNat)) 1 == 1) = true := (bit_at1 _ _).trans hx
                have b1' : bits .and .u64 (u (x >>> n.toNat)) 1 = 1 := by simpa using b1
                have b2 : (bits .and .u64 (u (h 36 >>> n.toNat)) 1 == 1) = true := (bit_at1 _ _).trans hd
                have b2' : bits .and .u64 (u (h 36 >>> n.toNat)) 1 = 1 := by simpa using b2
                clear hs0 hk0 hx hc hn hl M Sb hd hB
                go_wp2
                go_ret2
                exact ⟨by rw [D.out]; rfl, HB.out⟩
              · have p0 : (p == 0) = false := by simpa using hp
                by_cases hp1 : p = 1
                · subst hp1
                  cases hq : (h 34).getLsbD 1
                  · have Hm : Hid (acc s (k + 1) = 0#64) := Lib.hid (acc_no hs0 (by rw [Sb.out, ← hn, hx, hd, hq]; simp))
                    have b1 : (bits .and .u64 (u (x >>> n.toNat)) 1 == 1) = true := (bit_at1 _ _).trans hx
                    have b1' : bits .and .u64 (u (x >>> n.toNat)) 1 = 1 := by simpa using b1
                    have b2 : (bits .and .u64 (u (h 36 >>> n.toNat)) 1 == 1) = true := (bit_at1 _ _).trans hd
                    have b2' : bits .and .u64 (u (h 36 >>> n.toNat)) 1 = 1 := by simpa using b2
                    have T8 : (bits .and .u64 (u (h 34)) 2 != 0) = false := (bit_n (h 34) 1 (by omega) 2 rfl).trans hq
                    have T9 : bits .and .u64 (u (h 34)) 2 = 0 := by unfold bne at T8; simpa using T8
                    clear hs0 hk0 hx hc hn hl M Sb hd hq
                    go_wp2
                    go_round
                    case rel => exact ⟨k + 1, by omega, by go_num, Hm.out⟩
                    case measure => simp [intOf]; omega
                  · have hB : s.getLsbD (ordN k) = true := by rw [Sb.out, ← hn, hx, hd, hq]; simp
                    have D0 : selV m s = 0x8000000000000000#64 ||| n := by rw [hc, selV_end s hk0]; exact acc_end hk6 hs0 hB
                    have D : Hid ((.tuple #[.int .u64 (u (selV m s)), .bool (selB m s)] : Value) = .tuple #[.int .u64 (u (0x8000000000000000#64 ||| n)), .bool true]) := Lib.hid (by rw [selB_of D0 (by rw [hc]; exact cauN_ne k), D0])
                    clear D0
                    have b1 : (bits .and .u64 (u (x >>> n.toNat)) 1 == 1) = true := (bit_at1 _ _).trans hx
                    have b1' : bits .and .u64 (u (x >>> n.toNat)) 1 = 1 := by simpa using b1
                    have b2 : (bits .and .u64 (u (h 36 >>> n.toNat)) 1 == 1) = true := (bit_at1 _ _).trans hd
                    have b2' : bits .and .u64 (u (h 36 >>> n.toNat)) 1 = 1 := by simpa using b2
                    have T8 : (bits .and .u64 (u (h 34)) 2 != 0) = true := (bit_n (h 34) 1 (by omega) 2 rfl).trans hq
                    have T9 : ¬ bits .and .u64 (u (h 34)) 2 = 0 := by unfold bne at T8; simpa using T8
                    clear hs0 hk0 hx hc hn hl M Sb hd hq hB
                    go_wp2
                    go_ret2
                    exact ⟨by rw [D.out]; rfl, HB.out⟩
                · have p1 : (p == 1) = false := by simpa using hp1
                  have Hm : Hid (acc s (k + 1) = 0#64) := Lib.hid (acc_no hs0 (by rw [Sb.out, ← hn, hx, hd, p0, p1]; simp))
                  have b1 : (bits .and .u64 (u (x >>> n.toNat)) 1 == 1) = true := (bit_at1 _ _).trans hx
                  have b1' : bits .and .u64 (u (x >>> n.toNat)) 1 = 1 := by simpa using b1
                  have b2 : (bits .and .u64 (u (h 36 >>> n.toNat)) 1 == 1) = true := (bit_at1 _ _).trans hd
                  have b2' : bits .and .u64 (u (h 36 >>> n.toNat)) 1 = 1 := by simpa using b2
                  clear hs0 hk0 hx hc hn hl M Sb hd
                  go_wp2
                  go_round
                  case rel => exact ⟨k + 1, by omega, by go_num, Hm.out⟩
                  case measure => simp [intOf]; omega
        · obtain rfl : k = 6 := by omega
          have D0 : selV m s = 0#64 := by rw [selV_end s hk0]; exact hs0
          have D : Hid ((.tuple #[.int .u64 (u (selV m s)), .bool (selB m s)] : Value) = .tuple #[.int .u64 0, .bool false]) := Lib.hid (by unfold selB; rw [D0]; rfl)
          clear D0
          clear hk hk6 hs0 hk0
          go_wp2
          go_ret2
          exact ⟨by rw [D.out]; rfl, HB.out⟩
end Go.Proofs.Ytleolldgpoeabaa
