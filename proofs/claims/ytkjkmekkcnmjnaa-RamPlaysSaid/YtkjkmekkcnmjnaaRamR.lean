/- The reference's memory: the bytes that were written, one by one; New, in, At, Read, place, Word. Conditions: named at each. -/
import Derived.Test.YtkjkmekkcnmjnaaRamH
namespace Go.Proofs.Ytkjkmekkcnmjnaa
open Go.RowKit
set_option linter.unusedVariables false
set_option maxRecDepth 100000

/-- what is read: the last one written -/
def atL (L : List (Int × Int)) (a : Int) : Int := L.foldl (fun acc e => if e.1 = a then e.2 else acc) 0
theorem atL_nil (a : Int) : atL [] a = 0 := rfl
theorem atL_snoc (L : List (Int × Int)) (e : Int × Int) (a : Int) : atL (L ++ [e]) a = if e.1 = a then e.2 else atL L a := by simp [atL, List.foldl_append]
/-- its cells -/
def flL : List (Int × Int) → List Value
  | [] => []
  | e :: l => .int .u64 e.1 :: .int .u8 e.2 :: flL l
theorem flL_len : ∀ L : List (Int × Int), (flL L).length = L.length * 2
  | [] => rfl
  | e :: l => by simp [flL, flL_len l]; omega
theorem flL_snoc (e : Int × Int) : ∀ L : List (Int × Int), flL (L ++ [e]) = flL L ++ [.int .u64 e.1, .int .u8 e.2]
  | [] => rfl
  | x :: l => by simp [flL, flL_snoc e l]
theorem flL_get : ∀ (L : List (Int × Int)) (i : Nat) (e : Int × Int), L[i]? = some e → (flL L)[i * 2]? = some (.int .u64 e.1) ∧ (flL L)[i * 2 + 1]? = some (.int .u8 e.2)
  | [], i, e, h => by simp at h
  | x :: l, 0, e, h => by simp at h; subst h; exact ⟨rfl, rfl⟩
  | x :: l, i + 1, e, h => by
    have := flL_get l i e (by simpa using h)
    rw [show (i + 1) * 2 = i * 2 + 1 + 1 by omega]
    simp [flL, this.1, this.2]
/-- a reference's memory in its blocks, all from m on -/
structure RefIn (m p N : Nat) (L : List (Int × Int)) (v : Value) (w : World) : Prop where
  pages : 4 ≤ N ∧ N ≤ 256
  low : m ≤ p
  cell : w.heap[p]? = some (.cells #[.int .i64 N, v] 45 (0, 0))
  own : w.ownsRow m 79 2 v L.length (flL L)
def RefAt (m p N : Nat) (L : List (Int × Int)) (w : World) : Prop := ∃ v, RefIn m p N L v w
/-- a block that the reference's calls leave as it is -/
def SafeR (m : Nat) (w : World) (k : Nat) : Prop := k < w.heap.size ∧ (k < m ∨ ∀ cs t fr, w.heap[k]? = some (.cells cs t fr) → t ≠ 45 ∧ t ≠ 79)
structure Kr (m : Nat) (w w' : World) : Prop where
  os : w'.os = w.os
  tape : w'.tape = w.tape
  output : w'.output = w.output
  size : w.heap.size ≤ w'.heap.size
  block : ∀ k, SafeR m w k → w'.heap[k]? = w.heap[k]?
section
variable {m p N : Nat} {L : List (Int × Int)} {v : Value} {a b c w w' : World}
theorem Kr.refl (m : Nat) (w : World) : Kr m w w := ⟨rfl, rfl, rfl, Nat.le_refl _, fun _ _ => rfl⟩
theorem SafeR.on_kr {k : Nat} (h : SafeR m a k) (hk : Kr m a b) : SafeR m b k := by
  have hb := hk.block k h
  exact ⟨Nat.lt_of_lt_of_le h.1 hk.size, h.2.imp id fun x cs t fr h1 => x cs t fr (hb ▸ h1)⟩
theorem Kr.trans (h : Kr m a b) (k : Kr m b c) : Kr m a c :=
  ⟨k.os.trans h.os, k.tape.trans h.tape, k.output.trans h.output, Nat.le_trans h.size k.size, fun i hi => (k.block i (hi.on_kr h)).trans (h.block i hi)⟩
theorem Kr.of_on (h : On a b) : Kr m a b := ⟨h.os, h.tape, h.output, h.size, fun k hk => h.block k hk.1⟩
theorem Kr.on (h : Kr m a b) (k : On b c) : Kr m a c := h.trans (.of_on k)
theorem Kr.below {n : Nat} (h : Below n a b) (hm : n ≤ m) (hb : n ≤ b.heap.size) (k : Kr m b c) : Below n a c :=
  h.trans ⟨k.os, k.tape, k.output, k.size, fun i hi => k.block i ⟨by omega, .inl (by omega)⟩⟩
theorem Kr.keep {k : Nat} {cs : Array Value} {t : TypeId} {fr : Nat × Nat} (h : Kr m a b) (hc : a.heap[k]? = some (.cells cs t fr)) (h1 : t ≠ 45) (h2 : t ≠ 79) : b.heap[k]? = some (.cells cs t fr) :=
  (h.block k ⟨lt_of_block hc, .inr fun cs' t' fr' e => by rw [hc] at e; injection e with e; injection e with _ e _; subst e; exact ⟨h1, h2⟩⟩).trans hc
theorem SafeR.cell {k i : Nat} {x : Value} (h : SafeR m a k) (hk : Kr m a b) (hc : a.cell? ⟨k, i, none⟩ = some x) : b.cell? ⟨k, i, none⟩ = some x := by
  have e := hk.block k h
  rw [← hc]
  simp only [World.cell?, e]
theorem SafeR.of_cells {k : Nat} {cs : Array Value} {t : TypeId} {fr : Nat × Nat} (hc : a.heap[k]? = some (.cells cs t fr)) (h1 : t ≠ 45) (h2 : t ≠ 79) : SafeR m a k :=
  ⟨lt_of_block hc, .inr fun cs' t' fr' e => by rw [hc] at e; injection e with e; injection e with _ e _; subst e; exact ⟨h1, h2⟩⟩
/-- its blocks stay -/
theorem RefIn.stay (R : RefIn m p N L v w) (hs : w.heap.size ≤ w'.heap.size) (h : ∀ (k : Nat) (cs : Array Value) (t : TypeId), (w.heap[k]? = some (Obj.cells cs t (0, 0)) ∧ (t = 45 ∨ t = 79)) → w'.heap[k]? = w.heap[k]?) : RefIn m p N L v w' := by
  refine ⟨R.pages, R.low, (h p _ _ ⟨R.cell, .inl rfl⟩).trans R.cell, R.own.1, ?_⟩
  rcases R.own.2 with h1 | ⟨g, cap, cur, h1, h2, h3, h4⟩
  · exact .inl h1
  · exact .inr ⟨g, cap, cur, h1, h2, (h g _ _ ⟨h3, .inr rfl⟩).trans h3, h4⟩
theorem RefIn.on (R : RefIn m p N L v w) (h : On w w') : RefIn m p N L v w' := R.stay h.size fun k cs t hk => h.block k (lt_of_block hk.1)
theorem RefIn.kp {n : Nat} (R : RefIn m p N L v w) (h : Kp 64 n w w') : RefIn m p N L v w' := R.stay h.size fun k cs t hk => h.block k (.of_cells hk.1 (by rcases hk.2 with rfl | rfl <;> decide))
theorem RefIn.but {B : Nat} {cs : Array Value} {t : TypeId} {fr : Nat × Nat} (R : RefIn m p N L v w) (hB : w.heap[B]? = some (.cells cs t fr)) (h1 : t ≠ 45) (h2 : t ≠ 79) (h : But B w w') : RefIn m p N L v w' :=
  R.stay h.size fun k cs' t' hk => h.block k (lt_of_block hk.1) (fun e => by
    subst e; rw [hB] at hk; obtain ⟨hk, hk2⟩ := hk; injection hk with hk; injection hk with _ e _; subst e; rcases hk2 with e | e; exact h1 e; exact h2 e)
end
theorem RamIn.kr {n r N mb m : Nat} {tab : Nat → Option Nat} {M : Nat → Int} {w w' : World} (R : RamIn n r N mb tab M w) (h : Kr m w w') : RamIn n r N mb tab M w' := by
  obtain ⟨l1, l2, l3⟩ := R.lt
  obtain ⟨es, cl, hm, _⟩ := R.map
  refine R.stay fun k hk => h.block k ?_
  rcases hk with rfl | rfl | ⟨j, hj⟩
  · exact .of_cells R.cell (by decide) (by decide)
  · exact ⟨l2, .inr fun cs t fr e => by rw [hm] at e; cases e⟩
  · exact .of_cells (R.page j k hj) (by decide) (by decide)
theorem RamAt.kr {n r N m : Nat} {M : Nat → Int} {w w' : World} (R : RamAt n r N M w) (h : Kr m w w') : RamAt n r N M w' := by
  obtain ⟨mb, tab, R⟩ := R
  exact ⟨mb, tab, R.kr h⟩
theorem rnew_ok (q : Nat) (hq : 4 ≤ q ∧ q ≤ 256) (w : World) : Calls Try.prog 9 #[.int .i64 q] w fun e w' =>
    e = .returned (.tuple #[.pointer (some ⟨w.heap.size, 0, none⟩), .int .i64 0]) ∧ On w w' ∧ RefAt w.heap.size w.heap.size q [] w' := by
  have h1 : (4 : Int) ≤ (q : Int) := by omega
  have h2 : (q : Int) ≤ 256 := by omega
  have HQ := Lib.hid hq
  clear hq
  go_enter Try.func9, Try.ntmps9
  go_wp2
  go_ret2
  exact ⟨rfl, (On.refl w).alloc _, _, HQ.out, Nat.le_refl _, blk_new _ _, World.ownsRow_nil _ _ _ _⟩
theorem rnew_no (q : Int) (hq : q < 4 ∨ 256 < q) (w : World) : Calls Try.prog 9 #[.int .i64 q] w fun e w' => e = .returned (.tuple #[.pointer none, .int .i64 1]) ∧ w = w' := by
  by_cases h : q < 4
  · go_enter Try.func9, Try.ntmps9
    go_wp2
    go_ret2
    exact ⟨rfl, rfl⟩
  · have h2 : 256 < q := by omega
    have h1 : 4 ≤ q := by omega
    clear hq h
    go_enter Try.func9, Try.ntmps9
    go_wp2
    go_ret2
    exact ⟨rfl, rfl⟩
/-- what the loop of At carries -/
def AtAt (L : List (Int × Int)) (a : Int) (x : Value) : Prop := ∃ k : Nat, k ≤ L.length ∧ x = .int .i64 ((k : Int) - 1) ∧ Hid (atL (L.take k) a = atL L a)
theorem rat_any {m p N : Nat} {L : List (Int × Int)} {w : World} (R : RefAt m p N L w) (hL : L.length ≤ 1000000) (a : Int) :
    Calls Try.prog 46 #[.pointer (some ⟨p, 0, none⟩), .int .u64 a] w fun e w' => e = .returned (.int .u8 (atL L a)) ∧ w = w' := by
  obtain ⟨v, R⟩ := R
  have c1 := blk_cell R.cell 1 rfl
  have ho := R.own
  obtain ⟨hl, ⟨rfl, h0⟩ | ⟨g, cap, cur, rfl, hb, h3, h4, h5, h6, h7⟩⟩ := id ho
  · obtain rfl : L = [] := List.eq_nil_of_length_eq_zero h0
    clear R ho hl h0
    go_enter Try.func46, Try.ntmps46
    go_wp2_with fail
    go_loop [5] (fun x => x = .int .i64 (-1)) (fun _ => 0)
    case atStart => rfl
    case round =>
      subst hrel
      go_wp2_with fail
      go_ret
      exact ⟨rfl, rfl⟩
  · have HG : Hid (∀ (i : Nat) (e : Int × Int), L[i]? = some e → w.cell? ⟨g, i * 2, none⟩ = some (.int .u64 e.1) ∧ w.cell? ⟨g, i * 2 + 1, none⟩ = some (.int .u8 e.2)) := Lib.hid fun i e he => by
      have hi : i < L.length := (List.getElem?_eq_some_iff.1 he).1
      obtain ⟨e1, e2⟩ := flL_get L i e he
      rw [← h7] at e1 e2
      rw [List.getElem?_take_of_lt (by omega), Array.getElem?_toList] at e1 e2
      exact ⟨blk_cell h3 _ e1, blk_cell h3 _ e2⟩
    obtain ⟨n, hn⟩ : ∃ n, L.length = n := ⟨_, rfl⟩
    rw [hn] at c1 h4 hL
    have HN := Lib.hid hn
    have hn2 : (n : Int) ≤ 1000000 := by omega
    have hcap : (n : Int) ≤ (cap : Int) := by omega
    clear R ho hl hb h3 h4 h5 h6 h7 hn hL
    go_enter Try.func46, Try.ntmps46
    go_wp2_with fail
    go_loop [5] (fun x => AtAt L a x) (fun x => (intOf x + 1).toNat)
    case atStart => exact ⟨n, by rw [HN.out]; omega, by go_num, Lib.hid (by rw [← HN.out, List.take_length])⟩
    case round =>
      obtain ⟨k, hk, rfl, hr⟩ := hrel
      rw [HN.out] at hk
      cases k with
      | zero =>
        have E : Hid (atL L a = 0) := Lib.hid (by rw [← hr.out]; rfl)
        clear hr hk
        rw [show (((0 : Nat) : Int) - 1) = -1 from rfl]
        go_wp2_with fail
        go_ret
        exact ⟨by rw [E.out]; rfl, rfl⟩
      | succ j =>
        obtain ⟨e, he⟩ : ∃ e, L[j]? = some e := ⟨_, List.getElem?_eq_getElem (by rw [HN.out]; omega)⟩
        obtain ⟨k1, k2⟩ := HG.out j e he
        have hjn : (j : Int) < (n : Int) := by omega
        have E : Hid (atL (L.take (j + 1)) a = if e.1 = a then e.2 else atL (L.take j) a) := Lib.hid (by
          rw [List.take_add_one, he]; exact atL_snoc _ _ _)
        rw [show (((j + 1 : Nat) : Int) - 1) = (j : Int) by omega]
        obtain ⟨x, y⟩ := e
        have HJ := Lib.hid (show j + 1 ≤ n from hk)
        clear he hk
        by_cases hx : x = a
        · subst hx
          have E2 : Hid (atL L x = y) := Lib.hid (by rw [← hr.out, E.out]; simp)
          clear hr E
          go_wp2_with fail
          go_ret
          exact ⟨by rw [E2.out]; rfl, rfl⟩
        · have E2 : Hid (atL (L.take j) a = atL L a) := Lib.hid (by rw [← hr.out, E.out]; simp [hx])
          have hxb : (x == a) = false := by simpa using hx
          clear hr E
          go_wp2_with fail
          go_round
          case rel => exact ⟨j, by rw [HN.out]; have := HJ.out; omega, by go_num, E2⟩
          case measure => simp [intOf]
set_option maxHeartbeats 1000000 in
theorem rin_any {m p N : Nat} {L : List (Int × Int)} {w : World} (R : RefAt m p N L w) (a : BitVec 64) (k : Int) (hk0 : 0 ≤ k) (hk1 : k ≤ 9223372036854775807) :
    Calls Try.prog 41 #[.pointer (some ⟨p, 0, none⟩), .int .u64 (u a), .int .i64 k] w fun e w' => e = .returned (.bool (hasB N a k)) ∧ w = w' := by
  obtain ⟨v, R⟩ := R
  have c0 := blk_cell R.cell 0 rfl
  have hN := R.pages
  by_cases hk : k = 0
  · subst hk
    clear R
    go_enter Try.func41, Try.ntmps41
    go_wp2_with fail
    go_ret
    exact ⟨by rw [hasB_zero]; rfl, rfl⟩
  · have H := hasB_iff hN a (k := k) (by omega)
    have ua := u_nonneg a
    have ub := u_lt a
    obtain ⟨A, hA⟩ : ∃ A, u a = A := ⟨_, rfl⟩
    rw [hA] at H ua ub ⊢
    have k0 : (k == 0) = false := by simpa using hk
    have ko : IntKind.u64.wrap k = k := wrap_in k hk0 (by omega)
    by_cases h1 : (2147483648 : Int) ≤ A
    · have hw1 : IntKind.u64.wrap (A - 2147483648) = A - 2147483648 := wrap_in _ (by omega) (by omega)
      by_cases h2 : A - 2147483648 < (N : Int) * 4096
      · have hw2 : IntKind.u64.wrap ((N : Int) * 4096 - (A - 2147483648)) = (N : Int) * 4096 - (A - 2147483648) := wrap_in _ (by omega) (by omega)
        by_cases h3 : k ≤ (N : Int) * 4096 - (A - 2147483648)
        · have E : Hid (hasB N a k = true) := Lib.hid (by rw [H]; exact decide_eq_true ⟨h1, by omega⟩)
          clear H R hA hk ub
          go_enter Try.func41, Try.ntmps41
          go_wp2_with fail
          go_ret
          exact ⟨by rw [E.out]; rfl, rfl⟩
        · have E : Hid (hasB N a k = false) := Lib.hid (by rw [H]; exact decide_eq_false (fun h => h3 (by omega)))
          clear H R hA hk ub
          go_enter Try.func41, Try.ntmps41
          go_wp2_with fail
          go_ret
          exact ⟨by rw [E.out]; rfl, rfl⟩
      · have E : Hid (hasB N a k = false) := Lib.hid (by rw [H]; exact decide_eq_false (fun h => h2 (by omega)))
        clear H R hA hk ub
        go_enter Try.func41, Try.ntmps41
        go_wp2_with fail
        go_ret
        exact ⟨by rw [E.out]; rfl, rfl⟩
    · have E : Hid (hasB N a k = false) := Lib.hid (by rw [H]; exact decide_eq_false (fun h => h1 (by omega)))
      clear H R hA hk ub
      go_enter Try.func41, Try.ntmps41
      go_wp2_with fail
      go_ret
      exact ⟨by rw [E.out]; rfl, rfl⟩
end Go.Proofs.Ytkjkmekkcnmjnaa
