/- Copies of slices of bools, and whether they are kept: as of bytes. Conditions: named at each. -/
import Derived.Test.YtkjkmekkcnmjnaaHelpB
import Derived.Test.YtkjkmekkcnmjnaaRead
import Derived.Test.YtkjkmekkcnmjnaaMemRef
import Derived.Laws.BytesArg
import Derived.Outline
namespace Go.Proofs.Ytkjkmekkcnmjnaa.Bl
open Go.RowKit
set_option linter.unusedVariables false
set_option maxRecDepth 100000

/-- a slice of bools that reads so -/
def RB (w : World) (s : Value) (zs : List Bool) : Prop :=
  (∃ a c, s = .slice a 0 c ∧ zs = [] ∧ (a = none → c = 0)) ∨ ∃ b off c, s = .slice (some ⟨b, off, none⟩) zs.length c ∧ 0 < zs.length ∧ zs.length ≤ c ∧ (c : Int) ≤ 9223372036854775807 ∧ ∀ k, k < zs.length → w.cell? ⟨b, off + k, none⟩ = some (.bool (zs.getD k false))
theorem bl_info : (Try.prog.info? 4).map (fun i => (i.zero, i.size, i.bytes)) = some (some (.bool false), 1, 1) := by kernel_rfl
theorem hp_eq_any (a b : Bool) (w : World) :
    Calls Try.prog 54 #[.bool a, .bool b] w fun e w' => e = .returned (.bool (a == b)) ∧ w' = w := by
  go_enter Try.func54, Try.ntmps54
  go_wp2_with fail
  go_ret
  exact ⟨rfl, rfl⟩
theorem hp_eq_self (a : Bool) (w : World) :
    Calls Try.prog 54 #[.bool a, .bool a] w fun e w' => e = .returned (.bool true) ∧ w' = w := by
  have h := hp_eq_any a a w
  rwa [beq_self_eq_true] at h
/-- what the loop of Same carries -/
def SameAt (l : Nat) (w : World) (i : Value) (wr : World) : Prop := ∃ k : Nat, k ≤ l ∧ i = .int .i64 k ∧ Hid (∃ n, wr = w.drewN n)
theorem same_round (l k : Nat) (hk : k < l) (w wr : World) (h : Hid (∃ n, wr = w.drewN n)) (m : Nat) (i : Int) (hi : i = ((k + 1 : Nat) : Int)) : SameAt l w (.int .i64 i) (wr.drewN m) :=
  ⟨k + 1, by omega, by rw [hi], by obtain ⟨n, hn⟩ := h.out; exact Lib.hid ⟨n + m, by rw [hn, World.drewN_drewN]⟩⟩
theorem cell_drawn {w wr : World} (h : Hid (∃ n, wr = w.drewN n)) (a : Addr) : wr.cell? a = w.cell? a := by
  obtain ⟨n, hn⟩ := h.out
  rw [hn, World.cell?_drewN]
theorem same_yes {w : World} {s t : Value} {zs : List Bool} (hs : RB w s zs) (ht : RB w t zs) :
    Calls Try.prog 53 #[s, t, .func (.func 54) #[] #[]] w fun e w' => e = .returned (.bool true) ∧ ∃ n, w' = w.drewN n := by
  rcases hs with ⟨a, c, rfl, rfl, hac⟩ | ⟨b, off, c, rfl, hp, hlc, hc63, hcell⟩
  · rcases ht with ⟨a', c', rfl, _, _⟩ | ⟨b', off', c', rfl, hp', hlc', hc63', hcell'⟩
    · go_enter Try.func53, Try.ntmps53
      go_wp2_with fail
      go_loop [7] (fun i => i = .int .i64 0) (fun _ => 0)
      case atStart => rfl
      case round =>
        subst hrel
        go_wp2_with fail
        go_ret
        exact ⟨rfl, 0, rfl⟩
    · exact absurd hp' (by simp)
  · rcases ht with ⟨a', c', rfl, e, _⟩ | ⟨b', off', c', rfl, hp', hlc', hc63', hcell'⟩
    · rw [e] at hp; exact absurd hp (by simp)
    · have Hcell := Lib.hid hcell
      have Hcell' := Lib.hid hcell'
      clear hcell hcell'
      obtain ⟨l, hl⟩ : ∃ l, zs.length = l := ⟨_, rfl⟩
      rw [hl] at hp hlc hlc' hp' ⊢
      have Hl := Lib.hid hl
      clear hl
      go_enter Try.func53, Try.ntmps53
      go_wp2_with fail
      go_loopw [7] (fun i wr => SameAt l w i wr) (fun i _ => (l - intOf i).toNat)
      case atStart => exact ⟨0, by omega, rfl, Lib.hid ⟨0, rfl⟩⟩
      case round =>
        obtain ⟨k, hk, rfl, hq⟩ := hrel
        by_cases hlt : k < l
        · have hc := (cell_drawn hq _).trans (Hcell.out k (by rw [Hl.out]; exact hlt))
          have hc' := (cell_drawn hq _).trans (Hcell'.out k (by rw [Hl.out]; exact hlt))
          obtain ⟨z, hz⟩ : ∃ z, zs.getD k false = z := ⟨_, rfl⟩
          rw [hz] at hc hc'
          have HZ := Lib.hid hz
          clear hz
          have hi0 : (0 : Int) ≤ (k : Int) := by omega
          have hi1 : (k : Int) < (l : Int) := by omega
          go_wp2_with fail
          go_quiet ((go_at_call 54; exact Calls.quiet_of_same (hp_eq_self _ _)))
          go_wp2_with fail
          exact ⟨same_round l k hlt w wr hq _ _ (by omega), by simp [intOf]; omega⟩
        · go_wp2_with fail
          go_ret
          obtain ⟨n, hn⟩ := hq.out
          exact ⟨rfl, n, hn⟩
theorem plain_yes {w : World} {s t : Value} {zs : List Bool} (hs : RB w s zs) (ht : RB w t zs) :
    Calls Try.prog 43 #[s, t] w fun e w' => e = .returned (.bool true) ∧ ∃ n, w' = w.drewN n := by
  have Hs := Lib.hid hs
  have Ht := Lib.hid ht
  clear hs ht
  go_enter Try.func43, Try.ntmps43
  go_wp2_with (go_at_call 53; refine (same_yes Hs.out Ht.out).mono ?_; rintro e w' ⟨rfl, n, rfl⟩)
  go_ret
  exact ⟨rfl, _, rfl⟩

/-! ### Own and Kept -/
/-- the cells of numbers -/
def cellsOf (zs : List Bool) : List Value := zs.map (Value.bool)
theorem cellsOf_length (zs : List Bool) : (cellsOf zs).length = zs.length := by simp [cellsOf]
theorem cellsOf_get {zs : List Bool} {j : Nat} {y : Value} (h : (cellsOf zs)[j]? = some y) : j < zs.length ∧ y = .bool (zs.getD j false) := by
  unfold cellsOf at h
  rw [List.getElem?_map] at h
  rcases Nat.lt_or_ge j zs.length with hj | hj
  · rw [List.getElem?_eq_getElem hj] at h
    simp at h
    refine ⟨hj, ?_⟩
    rw [← h, List.getD_eq_getElem?_getD, List.getElem?_eq_getElem hj]; rfl
  · rw [List.getElem?_eq_none hj] at h; cases h
theorem cellsOf_at {zs : List Bool} {j : Nat} (hj : j < zs.length) : (cellsOf zs)[j]? = some (.bool (zs.getD j false)) := by
  unfold cellsOf
  rw [List.getElem?_map, List.getElem?_eq_getElem hj, List.getD_eq_getElem?_getD, List.getElem?_eq_getElem hj]; rfl
/-- a row of its own: the numbers, and then what fills it as far as place k -/
def OwnRow (w wr : World) (zs : List Bool) (f : Bool) (k : Nat) : Prop :=
  Below w.heap.size w wr ∧ ∃ cur : Array Value, wr.heap[w.heap.size]? = some (.cells cur 4 (0, 0)) ∧ cur.size = zs.length + 3 ∧ (∀ j, j < zs.length → cur[j]? = some (.bool (zs.getD j false))) ∧ ∀ j, zs.length ≤ j → j < k → cur[j]? = some (.bool f)
theorem OwnRow.cell {w wr : World} {zs : List Bool} {f : Bool} {k : Nat} (h : OwnRow w wr zs f k) (j : Nat) (hj : j < zs.length + 3) : ∃ y, wr.cell? ⟨w.heap.size, j, none⟩ = some y := by
  obtain ⟨_, cur, h1, h2, _⟩ := h
  refine ⟨cur[j], ?_⟩
  rw [cell_of_row wr _ j cur _ _ h1, Array.getElem?_eq_getElem]
theorem OwnRow.frozen {w wr : World} {zs : List Bool} {f : Bool} {k : Nat} (h : OwnRow w wr zs f k) (j : Nat) : wr.frozen? ⟨w.heap.size, j, none⟩ = false := by
  obtain ⟨_, cur, h1, _⟩ := h
  simp [World.frozen?, h1]
theorem OwnRow.store {w wr : World} {zs : List Bool} {f : Bool} {k : Nat} (h : OwnRow w wr zs f k) (hk : k < zs.length + 3) (hl : zs.length ≤ k) : OwnRow w (wr.setCell ⟨w.heap.size, k, none⟩ (.bool f)) zs f (k + 1) := by
  obtain ⟨hb, cur, h1, h2, h3, h4⟩ := h
  refine ⟨hb.setCell (Nat.le_refl _) _, cur.setIfInBounds k (.bool f), ?_, by rw [Array.size_setIfInBounds, h2], fun j hj => ?_, fun j hj hjk => ?_⟩
  · simp [World.setCell, Array.getElem?_modify, h1]
  · rw [Array.getElem?_setIfInBounds, if_neg (by omega)]; exact h3 j hj
  · rw [Array.getElem?_setIfInBounds]
    by_cases e : k = j
    · subst e; rw [if_pos rfl, if_pos (by omega)]
    · rw [if_neg e]; exact h4 j hj (by omega)
theorem block_of_cell {w : World} {a : Addr} {v : Value} (h : w.cell? a = some v) : a.block < w.heap.size := by
  rcases Nat.lt_or_ge a.block w.heap.size with hlt | hge
  · exact hlt
  · unfold World.cell? at h
    rw [Array.getElem?_eq_none hge] at h
    simp at h
/-- the source of the copy -/
theorem source {w : World} {b off : Nat} {zs : List Bool} (hcell : ∀ k, k < zs.length → w.cell? ⟨b, off + k, none⟩ = some (.bool (zs.getD k false))) (o : Obj) (ad : Addr) (h : some (⟨b, off, none⟩ : Addr) = some ad) (j : Nat) (y : Value) (hy : (cellsOf zs)[j]? = some y) :
    (w.alloc o).cell? (ad.add j) = some y := by
  injection h with h
  subst h
  obtain ⟨hj, rfl⟩ := cellsOf_get hy
  have hc := hcell j hj
  have e : (⟨b, off, none⟩ : Addr).add j = ⟨b, off + j, none⟩ := by
    unfold Addr.add
    by_cases h0 : j = 0
    · subst h0; rfl
    · rw [if_neg h0]
  rw [e, World.cell?_alloc_lt _ _ _ (block_of_cell hc), hc]
theorem cellsOf_one (zs : List Bool) : ∀ y ∈ cellsOf zs, y.oneCell' = true := (fun y hy => by unfold cellsOf at hy; obtain ⟨x, _, rfl⟩ := List.mem_map.1 hy; rfl)
/-- behind the append: the row -/
theorem own_start {w w1 : World} {zs : List Bool} {f : Bool} {o : Obj} {l : Nat} (hl : zs.length = l)
    (h : w1.ownsRow w.heap.size 4 1 (.slice (some ⟨w.heap.size, 0, none⟩) (0 + l) (l + 3)) (0 + l) ([] ++ cellsOf zs)) (hg : (w.alloc o).grownBy w1 (some w.heap.size)) : OwnRow w w1 zs f l := by
  obtain ⟨_, h2⟩ := h
  rcases h2 with ⟨h2, _⟩ | ⟨g, cap, cur, he, _, h3, h4, h5, h6, h7⟩
  · cases h2
  · injection he with he1 he2 he3
    injection he1 with he1
    injection he1 with he1 _ _
    subst he1 he3
    refine ⟨((Below.refl _ _).alloc (Nat.le_refl _) o).grown hg (base_alloc (Nat.le_refl _) o) (fun k hk => by cases hk; exact Nat.le_refl _), cur, h3, by rw [h6, hl, Nat.mul_one], fun j hj => ?_, fun j h1 h2 => by omega⟩
    have hc := cellsOf_at hj
    rw [show cellsOf zs = [] ++ cellsOf zs from rfl, ← h7, List.getElem?_take_of_lt (by omega), Array.getElem?_toList] at hc
    exact hc
theorem made_size (l : Nat) : (madeCells #[Value.bool false] (l + 3)).size = (l + 3) * 1 := by rw [size_madeCells, Nat.mul_one]
/-- what the filling loop carries -/
def OwnAt (w : World) (zs : List Bool) (f : Bool) (i : Value) (wr : World) : Prop := ∃ k : Nat, zs.length ≤ k ∧ k ≤ zs.length + 3 ∧ i = .int .i64 k ∧ OwnRow w wr zs f k
theorem own_any (s : Value) (zs : List Bool) (f : Bool) (w : World) (hs : RB w s zs) (hlen : zs.length ≤ 140737488351232) :
    Calls Try.prog 29 #[s, .bool f] w fun e w' => e = .returned (.slice (some ⟨w.heap.size, 0, none⟩) zs.length (zs.length + 3)) ∧ OwnRow w w' zs f (zs.length + 3) := by
  obtain ⟨i0, hi, hz0, hz1, hz2⟩ := info_parts bl_info
  rcases hs with ⟨a, c, rfl, rfl, hac⟩ | ⟨b, off, c, rfl, hp, hlc, hc63, hcell⟩
  · have hmk := run_make (P := Try.prog) w 33 4 i0 (.bool false) Try.underlying33 hi hz0 .i64 .i64 0 3 (by omega) (by omega) (by rw [hz2]; omega) (by omega)
    rw [show Int.toNat 0 = 0 from rfl, hz1, Nat.mul_one, show (Value.bool false).cells = #[Value.bool false] from rfl, show (3 : Int).toNat = 3 from rfl] at hmk
    have Hac := Lib.hid hac
    clear hac
    go_enter Try.func29, Try.ntmps29
    go_wp2_with (at_builtin; refine wpList_append_fits_any _ rfl _ _ 33 rfl w.heap.size 4 i0 1 Try.underlying33 hi hz1 w.heap.size 0 3 [] rfl (World.ownsRow_made w _ 3 (Nat.le_refl _) (by unfold maxLen; omega) (made_size 0)) a 0 c [] rfl rfl (fun h => ⟨rfl, Hac.out h⟩) (fun _ _ _ _ h => by cases h) (fun _ h => by cases h) (by omega) ?_; intro w1 hown1 hgrow1)
    have Hst : Hid (OwnRow w w1 [] f 0) := Lib.hid (own_start rfl hown1 hgrow1)
    clear hown1 hgrow1 hmk
    go_wp2_with fail
    go_loopw [7] (fun i wr => OwnAt w [] f i wr) (fun i _ => (3 - intOf i).toNat)
    case atStart => exact ⟨0, by simp, by simp, rfl, Hst.out⟩
    case round =>
      obtain ⟨k, hk0, hk, rfl, hr⟩ := hrel
      have hk3 : k ≤ 3 := hk
      clear hk0 hk
      have Hr := Lib.hid hr
      clear hr
      by_cases hlt : k < 3
      · obtain ⟨y, hc⟩ := Hr.out.cell k hlt
        have hfz := Hr.out.frozen k
        go_wp2_with fail
        exact ⟨⟨k + 1, by simp, by simp; omega, rfl, Hr.out.store hlt (by simp)⟩, by simp [intOf]; omega⟩
      · have He : Hid (k = 3) := Lib.hid (by omega)
        go_wp2_with fail
        go_ret
        exact ⟨rfl, by rw [← He.out]; exact Hr.out⟩
  · have Hcell := Lib.hid hcell
    clear hcell
    obtain ⟨l, hl⟩ : ∃ l, zs.length = l := ⟨_, rfl⟩
    rw [hl] at hp hlc hlen ⊢
    have Hl := Lib.hid hl
    clear hl
    have hmk := run_make (P := Try.prog) w 33 4 i0 (.bool false) Try.underlying33 hi hz0 .i64 .i64 0 (l + 3) (by omega) (by omega) (by rw [hz2]; omega) (by omega)
    rw [show Int.toNat 0 = 0 from rfl, hz1, Nat.mul_one, show (Value.bool false).cells = #[Value.bool false] from rfl, show ((l : Int) + 3).toNat = l + 3 by omega] at hmk
    go_enter Try.func29, Try.ntmps29
    go_wp2_with (at_builtin; go_loud (refine wpList_append_fits_any _ rfl _ _ 33 rfl w.heap.size 4 i0 1 Try.underlying33 hi hz1 w.heap.size 0 (l + 3) [] rfl (World.ownsRow_made w _ (l + 3) (Nat.le_refl _) (by unfold maxLen; omega) (made_size l)) _ l c (cellsOf zs) rfl (by rw [cellsOf_length, Hl.out, Nat.mul_one]) (fun h => by cases h) (source Hcell.out _) (cellsOf_one zs) (by omega) ?_); intro w1 hown1 hgrow1)
    have Hst : Hid (OwnRow w w1 zs f l) := Lib.hid (own_start Hl.out hown1 hgrow1)
    clear hown1 hgrow1 hmk
    go_wp2_with fail
    go_loopw [7] (fun i wr => OwnAt w zs f i wr) (fun i _ => (l + 3 - intOf i).toNat)
    case atStart => exact ⟨l, by rw [Hl.out]; omega, by rw [Hl.out]; omega, rfl, Hst.out⟩
    case round =>
      obtain ⟨k, hk0, hk, rfl, hr⟩ := hrel
      rw [Hl.out] at hk0 hk
      have Hr := Lib.hid hr
      clear hr
      by_cases hlt : k < l + 3
      · obtain ⟨y, hc⟩ := Hr.out.cell k (by rw [Hl.out]; exact hlt)
        have hfz := Hr.out.frozen k
        go_wp2_with fail
        exact ⟨⟨k + 1, by rw [Hl.out]; omega, by rw [Hl.out]; omega, rfl, Hr.out.store (by rw [Hl.out]; exact hlt) (by rw [Hl.out]; exact hk0)⟩, by simp [intOf]; omega⟩
      · have He : Hid (k = l + 3) := Lib.hid (by omega)
        go_wp2_with fail
        go_ret
        exact ⟨rfl, by rw [← He.out]; exact Hr.out⟩
theorem neq_self (f : Bool) : (f != f) = false := by simp
/-- what the last loop carries -/
def KeptAt (l : Nat) (i : Value) : Prop := ∃ k : Nat, l ≤ k ∧ k ≤ l + 3 ∧ i = .int .i64 k
theorem kept_yes {w : World} {g : Nat} {t : Value} {zs : List Bool} {f : Bool} (hs : RB w (.slice (some ⟨g, 0, none⟩) zs.length (zs.length + 3)) zs) (ht : RB w t zs) (hlen : zs.length ≤ 140737488351232)
    (hx : ∀ j, zs.length ≤ j → j < zs.length + 3 → w.cell? ⟨g, j, none⟩ = some (.bool f)) :
    Calls Try.prog 32 #[.slice (some ⟨g, 0, none⟩) zs.length (zs.length + 3), t, .bool f] w fun e w' => e = .returned (.bool true) ∧ ∃ n, w' = w.drewN n := by
  have Hs := Lib.hid hs
  have Ht := Lib.hid ht
  have hn := neq_self f
  clear hs
  rcases ht with ⟨a, c, rfl, rfl, hac⟩ | ⟨b, off, c, rfl, hp, hlc, hc63, hcell⟩
  · have Hx : Hid (∀ j, j < 3 → w.cell? ⟨g, j, none⟩ = some (.bool f)) := Lib.hid (fun j hj => hx j (by simp) hj)
    clear hx hac
    go_enter Try.func32, Try.ntmps32
    go_wp2_with (go_at_call 43; refine (plain_yes Hs.out Ht.out).mono ?_; rintro e w' ⟨rfl, n, rfl⟩)
    go_loop [8] (fun i => KeptAt 0 i) (fun i => (3 - intOf i).toNat)
    case atStart => exact ⟨0, by omega, by omega, rfl⟩
    case round =>
      obtain ⟨k, hk0, hk, rfl⟩ := hrel
      clear hk0
      by_cases hlt : k < 3
      · have hc := Hx.out k hlt
        go_wp2_with fail
        go_round
        case rel => exact ⟨k + 1, by omega, by omega, rfl⟩
        case measure => simp [intOf]; omega
      · go_wp2_with fail
        go_ret
        exact ⟨rfl, _, rfl⟩
  · obtain ⟨l, hl⟩ : ∃ l, zs.length = l := ⟨_, rfl⟩
    have Hx : Hid (∀ j, l ≤ j → j < l + 3 → w.cell? ⟨g, j, none⟩ = some (.bool f)) := Lib.hid (by rw [← hl]; exact hx)
    rw [hl] at Hs Ht hp hlc hlen ⊢
    have Hl := Lib.hid hl
    clear hl hx hcell
    go_enter Try.func32, Try.ntmps32
    go_wp2_with (go_at_call 43; refine (plain_yes Hs.out Ht.out).mono ?_; rintro e w' ⟨rfl, n, rfl⟩)
    go_loop [8] (fun i => KeptAt l i) (fun i => (l + 3 - intOf i).toNat)
    case atStart => exact ⟨l, by omega, by omega, rfl⟩
    case round =>
      obtain ⟨k, hk0, hk, rfl⟩ := hrel
      by_cases hlt : k < l + 3
      · have hc := Hx.out k hk0 hlt
        go_wp2_with fail
        go_round
        case rel => exact ⟨k + 1, by omega, by omega, rfl⟩
        case measure => simp [intOf]; omega
      · go_wp2_with fail
        go_ret
        exact ⟨rfl, _, rfl⟩

theorem below_drawn (B : Nat) (w : World) (n : Nat) : Below B w (w.drewN n) := ⟨rfl, rfl, rfl, Nat.le_refl _, fun _ _ => rfl⟩
theorem RB.below {w w' : World} {s : Value} {zs : List Bool} (h : RB w s zs) (hb : Below w.heap.size w w') : RB w' s zs := by
  rcases h with h | ⟨b, off, c, h1, h2, h3, h4, h5⟩
  · exact .inl h
  · exact .inr ⟨b, off, c, h1, h2, h3, h4, fun k hk => (hb.cell (p := ⟨b, off + k, none⟩) (block_of_cell (h5 k hk))).trans (h5 k hk)⟩
theorem OwnRow.lt {w wr : World} {zs : List Bool} {f : Bool} {k : Nat} (h : OwnRow w wr zs f k) : w.heap.size < wr.heap.size := by
  obtain ⟨_, cur, h1, _⟩ := h
  rcases Nat.lt_or_ge w.heap.size wr.heap.size with hl | hl
  · exact hl
  · rw [Array.getElem?_eq_none hl] at h1; cases h1
theorem OwnRow.below {w wr w' : World} {zs : List Bool} {f : Bool} {k : Nat} (h : OwnRow w wr zs f k) (hb : Below wr.heap.size wr w') : OwnRow w w' zs f k := by
  have hlt := h.lt
  obtain ⟨h0, cur, h1, h2⟩ := h
  exact ⟨h0.trans (hb.mono h0.size), cur, (hb.block _ hlt).trans h1, h2⟩
theorem OwnRow.rb {w wr : World} {zs : List Bool} {f : Bool} {k : Nat} (h : OwnRow w wr zs f k) (hlen : zs.length ≤ 140737488351232) : RB wr (.slice (some ⟨w.heap.size, 0, none⟩) zs.length (zs.length + 3)) zs := by
  obtain ⟨_, cur, h1, h2, h3, _⟩ := h
  by_cases h0 : zs = []
  · subst h0; exact .inl ⟨_, _, rfl, rfl, fun h => by cases h⟩
  · have hp : 0 < zs.length := List.length_pos_iff.2 h0
    refine .inr ⟨_, 0, _, rfl, hp, by omega, by omega, fun k hk => ?_⟩
    rw [Nat.zero_add, cell_of_row wr _ k cur _ _ h1]
    exact h3 k hk
theorem OwnRow.spare {w wr : World} {zs : List Bool} {f : Bool} (h : OwnRow w wr zs f (zs.length + 3)) (j : Nat) (h1 : zs.length ≤ j) (h2 : j < zs.length + 3) : wr.cell? ⟨w.heap.size, j, none⟩ = some (.bool f) := by
  obtain ⟨_, cur, e1, e2, _, e4⟩ := h
  rw [cell_of_row wr _ j cur _ _ e1]
  exact e4 j h1 h2

end Go.Proofs.Ytkjkmekkcnmjnaa.Bl
