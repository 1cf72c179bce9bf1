/- What the helpers of the laws come to over slices of bytes: Own, Plain, Kept and Bytes of package tappethelp. Conditions: named at each. -/
import Derived.Test.YtkjkmekkcnmjnaaRead
import Derived.Test.YtkjkmekkcnmjnaaMemRef
import Derived.Laws.BytesArg
import Derived.Outline
namespace Go.Proofs.Ytkjkmekkcnmjnaa
open Go.RowKit
set_option maxRecDepth 100000

/-! ### slices that read alike -/
/-- a slice of bytes that can be made a string -/
def RS (w : World) (s : Value) (zs : List Int) : Prop :=
  (∃ c, s = .slice none 0 c ∧ zs = []) ∨ ∃ b off c, s = .slice (some ⟨b, off, none⟩) zs.length c ∧ ∀ k, k < zs.length → w.cell? ⟨b, off + k, none⟩ = some (.int .u8 (zs.getD k 0))
theorem conv_rs {w : World} {s : Value} {zs : List Int} (h : RS w s zs) : (convert 32 9 s).run Try.prog w = .ok (.string (strOfNums zs)) w := by
  rcases h with ⟨c, rfl, rfl⟩ | ⟨b, off, c, rfl, hc⟩
  · exact run_convert_bytes_nil w _ _ Try.underlying32 Try.underlying5 _ _ _ Try.underlying9
  · exact run_convert_bytes_arg w _ _ Try.underlying32 Try.underlying5 b off _ c zs rfl hc _ Try.underlying9
theorem same_bytes_yes {w : World} {s t : Value} {zs : List Int} (hs : RS w s zs) (ht : RS w t zs) :
    Calls Try.prog 19 #[s, t] w fun e w' => e = .returned (.bool true) ∧ w = w' := by
  have h1 := conv_rs hs
  have h2 := conv_rs ht
  clear hs ht
  go_enter Try.func19, Try.ntmps19
  go_wp2_with fail
  go_ret
  exact ⟨rfl, rfl⟩
theorem hp_eq_any (a b : Int) (w : World) :
    Calls Try.prog 52 #[.int .u8 a, .int .u8 b] w fun e w' => e = .returned (.bool (a == b)) ∧ w' = w := by
  go_enter Try.func52, Try.ntmps52
  go_wp2_with fail
  go_ret
  exact ⟨rfl, rfl⟩
theorem hp_eq_self (a : Int) (w : World) :
    Calls Try.prog 52 #[.int .u8 a, .int .u8 a] w fun e w' => e = .returned (.bool true) ∧ w' = w := by
  have h := hp_eq_any a a w
  rwa [beq_self_eq_true] at h
/-- what the loop of Same carries -/
def SameAt (l : Nat) (w : World) (i : Value) (wr : World) : Prop := ∃ k : Nat, k ≤ l ∧ i = .int .i64 k ∧ Hid (∃ n, wr = w.drewN n)
theorem same_round (l k : Nat) (hk : k < l) (w wr : World) (h : Hid (∃ n, wr = w.drewN n)) (m : Nat) (i : Int) (hi : i = ((k + 1 : Nat) : Int)) : SameAt l w (.int .i64 i) (wr.drewN m) :=
  ⟨k + 1, by omega, by rw [hi], by obtain ⟨n, hn⟩ := h.out; exact Lib.hid ⟨n + m, by rw [hn, World.drewN_drewN]⟩⟩
theorem cell_drawn {w wr : World} (h : Hid (∃ n, wr = w.drewN n)) (a : Addr) : wr.cell? a = w.cell? a := by
  obtain ⟨n, hn⟩ := h.out
  rw [hn, World.cell?_drewN]
theorem same_yes {w : World} {s t : Value} {zs : List Int} (hs : RB w s zs) (ht : RB w t zs) :
    Calls Try.prog 51 #[s, t, .func (.func 52) #[] #[]] w fun e w' => e = .returned (.bool true) ∧ ∃ n, w' = w.drewN n := by
  rcases hs with ⟨a, c, rfl, rfl, hac⟩ | ⟨b, off, c, rfl, hp, hlc, hc63, hcell⟩
  · rcases ht with ⟨a', c', rfl, _, _⟩ | ⟨b', off', c', rfl, hp', hlc', hc63', hcell'⟩
    · go_enter Try.func51, Try.ntmps51
      go_wp2_with fail
      go_loop [7] (fun i => i = .int .i64 0) (fun _ => 0)
      case atStart => rfl
      case round =>
        subst hrel
        go_wp2_with fail
        go_ret
        exact ⟨rfl, 0, rfl⟩
    · exact absurd hp' (by simp)
  · rcases ht with ⟨a', c', rfl, e, _⟩ | ⟨b', off', c', rfl, hp', hlc', hc63', hcell'⟩
    · rw [e] at hp; exact absurd hp (by simp)
    · have Hcell := Lib.hid hcell
      have Hcell' := Lib.hid hcell'
      clear hcell hcell'
      obtain ⟨l, hl⟩ : ∃ l, zs.length = l := ⟨_, rfl⟩
      rw [hl] at hp hlc hlc' hp' ⊢
      have Hl := Lib.hid hl
      clear hl
      go_enter Try.func51, Try.ntmps51
      go_wp2_with fail
      go_loopw [7] (fun i wr => SameAt l w i wr) (fun i _ => (l - intOf i).toNat)
      case atStart => exact ⟨0, by omega, rfl, Lib.hid ⟨0, rfl⟩⟩
      case round =>
        obtain ⟨k, hk, rfl, hq⟩ := hrel
        by_cases hlt : k < l
        · have hc := (cell_drawn hq _).trans (Hcell.out k (by rw [Hl.out]; exact hlt))
          have hc' := (cell_drawn hq _).trans (Hcell'.out k (by rw [Hl.out]; exact hlt))
          obtain ⟨z, hz⟩ : ∃ z, zs.getD k 0 = z := ⟨_, rfl⟩
          rw [hz] at hc hc'
          have HZ := Lib.hid hz
          clear hz
          have hi0 : (0 : Int) ≤ (k : Int) := by omega
          have hi1 : (k : Int) < (l : Int) := by omega
          go_wp2_with fail
          go_quiet ((go_at_call 52; exact Calls.quiet_of_same (hp_eq_self _ _)))
          go_wp2_with fail
          exact ⟨same_round l k hlt w wr hq _ _ (by omega), by simp [intOf]; omega⟩
        · go_wp2_with fail
          go_ret
          obtain ⟨n, hn⟩ := hq.out
          exact ⟨rfl, n, hn⟩
theorem plain_yes {w : World} {s t : Value} {zs : List Int} (hs : RB w s zs) (ht : RB w t zs) :
    Calls Try.prog 42 #[s, t] w fun e w' => e = .returned (.bool true) ∧ ∃ n, w' = w.drewN n := by
  have Hs := Lib.hid hs
  have Ht := Lib.hid ht
  clear hs ht
  go_enter Try.func42, Try.ntmps42
  go_wp2_with (go_at_call 51; refine (same_yes Hs.out Ht.out).mono ?_; rintro e w' ⟨rfl, n, rfl⟩)
  go_ret
  exact ⟨rfl, _, rfl⟩

/-! ### Own and Kept -/
/-- the cells of numbers -/
def cellsOf (zs : List Int) : List Value := zs.map (Value.int .u8)
theorem cellsOf_length (zs : List Int) : (cellsOf zs).length = zs.length := by simp [cellsOf]
theorem cellsOf_get {zs : List Int} {j : Nat} {y : Value} (h : (cellsOf zs)[j]? = some y) : j < zs.length ∧ y = .int .u8 (zs.getD j 0) := by
  unfold cellsOf at h
  rw [List.getElem?_map] at h
  rcases Nat.lt_or_ge j zs.length with hj | hj
  · rw [List.getElem?_eq_getElem hj] at h
    simp at h
    refine ⟨hj, ?_⟩
    rw [← h, List.getD_eq_getElem?_getD, List.getElem?_eq_getElem hj]; rfl
  · rw [List.getElem?_eq_none hj] at h; cases h
theorem cellsOf_at {zs : List Int} {j : Nat} (hj : j < zs.length) : (cellsOf zs)[j]? = some (.int .u8 (zs.getD j 0)) := by
  unfold cellsOf
  rw [List.getElem?_map, List.getElem?_eq_getElem hj, List.getD_eq_getElem?_getD, List.getElem?_eq_getElem hj]; rfl
/-- a row of its own: the numbers, and then what fills it as far as place k -/
def OwnRow (w wr : World) (zs : List Int) (f : Int) (k : Nat) : Prop :=
  Below w.heap.size w wr ∧ ∃ cur : Array Value, wr.heap[w.heap.size]? = some (.cells cur 5 (0, 0)) ∧ cur.size = zs.length + 3 ∧ (∀ j, j < zs.length → cur[j]? = some (.int .u8 (zs.getD j 0))) ∧ ∀ j, zs.length ≤ j → j < k → cur[j]? = some (.int .u8 f)
theorem OwnRow.cell {w wr : World} {zs : List Int} {f : Int} {k : Nat} (h : OwnRow w wr zs f k) (j : Nat) (hj : j < zs.length + 3) : ∃ y, wr.cell? ⟨w.heap.size, j, none⟩ = some y := by
  obtain ⟨_, cur, h1, h2, _⟩ := h
  refine ⟨cur[j], ?_⟩
  rw [cell_of_row wr _ j cur _ _ h1, Array.getElem?_eq_getElem]
theorem OwnRow.frozen {w wr : World} {zs : List Int} {f : Int} {k : Nat} (h : OwnRow w wr zs f k) (j : Nat) : wr.frozen? ⟨w.heap.size, j, none⟩ = false := by
  obtain ⟨_, cur, h1, _⟩ := h
  simp [World.frozen?, h1]
theorem OwnRow.store {w wr : World} {zs : List Int} {f : Int} {k : Nat} (h : OwnRow w wr zs f k) (hk : k < zs.length + 3) (hl : zs.length ≤ k) : OwnRow w (wr.setCell ⟨w.heap.size, k, none⟩ (.int .u8 f)) zs f (k + 1) := by
  obtain ⟨hb, cur, h1, h2, h3, h4⟩ := h
  refine ⟨hb.setCell (Nat.le_refl _) _, cur.setIfInBounds k (.int .u8 f), ?_, by rw [Array.size_setIfInBounds, h2], fun j hj => ?_, fun j hj hjk => ?_⟩
  · simp [World.setCell, Array.getElem?_modify, h1]
  · rw [Array.getElem?_setIfInBounds, if_neg (by omega)]; exact h3 j hj
  · rw [Array.getElem?_setIfInBounds]
    by_cases e : k = j
    · subst e; rw [if_pos rfl, if_pos (by omega)]
    · rw [if_neg e]; exact h4 j hj (by omega)
theorem block_of_cell {w : World} {a : Addr} {v : Value} (h : w.cell? a = some v) : a.block < w.heap.size := by
  rcases Nat.lt_or_ge a.block w.heap.size with hlt | hge
  · exact hlt
  · unfold World.cell? at h
    rw [Array.getElem?_eq_none hge] at h
    simp at h
/-- the source of the copy -/
theorem source {w : World} {b off : Nat} {zs : List Int} (hcell : ∀ k, k < zs.length → w.cell? ⟨b, off + k, none⟩ = some (.int .u8 (zs.getD k 0))) (o : Obj) (ad : Addr) (h : some (⟨b, off, none⟩ : Addr) = some ad) (j : Nat) (y : Value) (hy : (cellsOf zs)[j]? = some y) :
    (w.alloc o).cell? (ad.add j) = some y := by
  injection h with h
  subst h
  obtain ⟨hj, rfl⟩ := cellsOf_get hy
  have hc := hcell j hj
  have e : (⟨b, off, none⟩ : Addr).add j = ⟨b, off + j, none⟩ := by
    unfold Addr.add
    by_cases h0 : j = 0
    · subst h0; rfl
    · rw [if_neg h0]
  rw [e, World.cell?_alloc_lt _ _ _ (block_of_cell hc), hc]
theorem cellsOf_one (zs : List Int) : ∀ y ∈ cellsOf zs, y.oneCell' = true := ints_oneCell .u8 zs
/-- behind the append: the row -/
theorem own_start {w w1 : World} {zs : List Int} {f : Int} {o : Obj} {l : Nat} (hl : zs.length = l)
    (h : w1.ownsRow w.heap.size 5 1 (.slice (some ⟨w.heap.size, 0, none⟩) (0 + l) (l + 3)) (0 + l) ([] ++ cellsOf zs)) (hg : (w.alloc o).grownBy w1 (some w.heap.size)) : OwnRow w w1 zs f l := by
  obtain ⟨_, h2⟩ := h
  rcases h2 with ⟨h2, _⟩ | ⟨g, cap, cur, he, _, h3, h4, h5, h6, h7⟩
  · cases h2
  · injection he with he1 he2 he3
    injection he1 with he1
    injection he1 with he1 _ _
    subst he1 he3
    refine ⟨((Below.refl _ _).alloc (Nat.le_refl _) o).grown hg (base_alloc (Nat.le_refl _) o) (fun k hk => by cases hk; exact Nat.le_refl _), cur, h3, by rw [h6, hl, Nat.mul_one], fun j hj => ?_, fun j h1 h2 => by omega⟩
    have hc := cellsOf_at hj
    rw [show cellsOf zs = [] ++ cellsOf zs from rfl, ← h7, List.getElem?_take_of_lt (by omega), Array.getElem?_toList] at hc
    exact hc
theorem made_size (l : Nat) : (madeCells #[Value.int IntKind.u8 0] (l + 3)).size = (l + 3) * 1 := by rw [size_madeCells, Nat.mul_one]
/-- what the filling loop carries -/
def OwnAt (w : World) (zs : List Int) (f : Int) (i : Value) (wr : World) : Prop := ∃ k : Nat, zs.length ≤ k ∧ k ≤ zs.length + 3 ∧ i = .int .i64 k ∧ OwnRow w wr zs f k
theorem own_any (s : Value) (zs : List Int) (f : Int) (w : World) (hs : RB w s zs) (hlen : zs.length ≤ 140737488351232) :
    Calls Try.prog 28 #[s, .int .u8 f] w fun e w' => e = .returned (.slice (some ⟨w.heap.size, 0, none⟩) zs.length (zs.length + 3)) ∧ OwnRow w w' zs f (zs.length + 3) := by
  obtain ⟨i0, hi, hz0, hz1, hz2⟩ := info_parts u8_info
  rcases hs with ⟨a, c, rfl, rfl, hac⟩ | ⟨b, off, c, rfl, hp, hlc, hc63, hcell⟩
  · have hmk := run_make (P := Try.prog) w 32 5 i0 (.int .u8 0) Try.underlying32 hi hz0 .i64 .i64 0 3 (by omega) (by omega) (by rw [hz2]; omega) (by omega)
    rw [show Int.toNat 0 = 0 from rfl, hz1, Nat.mul_one, show (Value.int IntKind.u8 0).cells = #[Value.int IntKind.u8 0] from rfl, show (3 : Int).toNat = 3 from rfl] at hmk
    have Hac := Lib.hid hac
    clear hac
    go_enter Try.func28, Try.ntmps28
    go_wp2_with (at_builtin; refine wpList_append_fits_any _ rfl _ _ 32 rfl w.heap.size 5 i0 1 Try.underlying32 hi hz1 w.heap.size 0 3 [] rfl (World.ownsRow_made w _ 3 (Nat.le_refl _) (by unfold maxLen; omega) (made_size 0)) a 0 c [] rfl rfl (fun h => ⟨rfl, Hac.out h⟩) (fun _ _ _ _ h => by cases h) (fun _ h => by cases h) (by omega) ?_; intro w1 hown1 hgrow1)
    have Hst : Hid (OwnRow w w1 [] f 0) := Lib.hid (own_start rfl hown1 hgrow1)
    clear hown1 hgrow1 hmk
    go_wp2_with fail
    go_loopw [7] (fun i wr => OwnAt w [] f i wr) (fun i _ => (3 - intOf i).toNat)
    case atStart => exact ⟨0, by simp, by simp, rfl, Hst.out⟩
    case round =>
      obtain ⟨k, hk0, hk, rfl, hr⟩ := hrel
      have hk3 : k ≤ 3 := hk
      clear hk0 hk
      have Hr := Lib.hid hr
      clear hr
      by_cases hlt : k < 3
      · obtain ⟨y, hc⟩ := Hr.out.cell k hlt
        have hfz := Hr.out.frozen k
        go_wp2_with fail
        exact ⟨⟨k + 1, by simp, by simp; omega, rfl, Hr.out.store hlt (by simp)⟩, by simp [intOf]; omega⟩
      · have He : Hid (k = 3) := Lib.hid (by omega)
        go_wp2_with fail
        go_ret
        exact ⟨rfl, by rw [← He.out]; exact Hr.out⟩
  · have Hcell := Lib.hid hcell
    clear hcell
    obtain ⟨l, hl⟩ : ∃ l, zs.length = l := ⟨_, rfl⟩
    rw [hl] at hp hlc hlen ⊢
    have Hl := Lib.hid hl
    clear hl
    have hmk := run_make (P := Try.prog) w 32 5 i0 (.int .u8 0) Try.underlying32 hi hz0 .i64 .i64 0 (l + 3) (by omega) (by omega) (by rw [hz2]; omega) (by omega)
    rw [show Int.toNat 0 = 0 from rfl, hz1, Nat.mul_one, show (Value.int IntKind.u8 0).cells = #[Value.int IntKind.u8 0] from rfl, show ((l : Int) + 3).toNat = l + 3 by omega] at hmk
    go_enter Try.func28, Try.ntmps28
    go_wp2_with (at_builtin; go_loud (refine wpList_append_fits_any _ rfl _ _ 32 rfl w.heap.size 5 i0 1 Try.underlying32 hi hz1 w.heap.size 0 (l + 3) [] rfl (World.ownsRow_made w _ (l + 3) (Nat.le_refl _) (by unfold maxLen; omega) (made_size l)) _ l c (cellsOf zs) rfl (by rw [cellsOf_length, Hl.out, Nat.mul_one]) (fun h => by cases h) (source Hcell.out _) (cellsOf_one zs) (by omega) ?_); intro w1 hown1 hgrow1)
    have Hst : Hid (OwnRow w w1 zs f l) := Lib.hid (own_start Hl.out hown1 hgrow1)
    clear hown1 hgrow1 hmk
    go_wp2_with fail
    go_loopw [7] (fun i wr => OwnAt w zs f i wr) (fun i _ => (l + 3 - intOf i).toNat)
    case atStart => exact ⟨l, by rw [Hl.out]; omega, by rw [Hl.out]; omega, rfl, Hst.out⟩
    case round =>
      obtain ⟨k, hk0, hk, rfl, hr⟩ := hrel
      rw [Hl.out] at hk0 hk
      have Hr := Lib.hid hr
      clear hr
      by_cases hlt : k < l + 3
      · obtain ⟨y, hc⟩ := Hr.out.cell k (by rw [Hl.out]; exact hlt)
        have hfz := Hr.out.frozen k
        go_wp2_with fail
        exact ⟨⟨k + 1, by rw [Hl.out]; omega, by rw [Hl.out]; omega, rfl, Hr.out.store (by rw [Hl.out]; exact hlt) (by rw [Hl.out]; exact hk0)⟩, by simp [intOf]; omega⟩
      · have He : Hid (k = l + 3) := Lib.hid (by omega)
        go_wp2_with fail
        go_ret
        exact ⟨rfl, by rw [← He.out]; exact Hr.out⟩
theorem neq_self (f : Int) : (f != f) = false := by simp
/-- what the last loop carries -/
def KeptAt (l : Nat) (i : Value) : Prop := ∃ k : Nat, l ≤ k ∧ k ≤ l + 3 ∧ i = .int .i64 k
theorem kept_yes {w : World} {g : Nat} {t : Value} {zs : List Int} {f : Int} (hs : RB w (.slice (some ⟨g, 0, none⟩) zs.length (zs.length + 3)) zs) (ht : RB w t zs) (hlen : zs.length ≤ 140737488351232)
    (hx : ∀ j, zs.length ≤ j → j < zs.length + 3 → w.cell? ⟨g, j, none⟩ = some (.int .u8 f)) :
    Calls Try.prog 31 #[.slice (some ⟨g, 0, none⟩) zs.length (zs.length + 3), t, .int .u8 f] w fun e w' => e = .returned (.bool true) ∧ ∃ n, w' = w.drewN n := by
  have Hs := Lib.hid hs
  have Ht := Lib.hid ht
  have hn := neq_self f
  clear hs
  rcases ht with ⟨a, c, rfl, rfl, hac⟩ | ⟨b, off, c, rfl, hp, hlc, hc63, hcell⟩
  · have Hx : Hid (∀ j, j < 3 → w.cell? ⟨g, j, none⟩ = some (.int .u8 f)) := Lib.hid (fun j hj => hx j (by simp) hj)
    clear hx hac
    go_enter Try.func31, Try.ntmps31
    go_wp2_with (go_at_call 42; refine (plain_yes Hs.out Ht.out).mono ?_; rintro e w' ⟨rfl, n, rfl⟩)
    go_loop [8] (fun i => KeptAt 0 i) (fun i => (3 - intOf i).toNat)
    case atStart => exact ⟨0, by omega, by omega, rfl⟩
    case round =>
      obtain ⟨k, hk0, hk, rfl⟩ := hrel
      clear hk0
      by_cases hlt : k < 3
      · have hc := Hx.out k hlt
        go_wp2_with fail
        go_round
        case rel => exact ⟨k + 1, by omega, by omega, rfl⟩
        case measure => simp [intOf]; omega
      · go_wp2_with fail
        go_ret
        exact ⟨rfl, _, rfl⟩
  · obtain ⟨l, hl⟩ : ∃ l, zs.length = l := ⟨_, rfl⟩
    have Hx : Hid (∀ j, l ≤ j → j < l + 3 → w.cell? ⟨g, j, none⟩ = some (.int .u8 f)) := Lib.hid (by rw [← hl]; exact hx)
    rw [hl] at Hs Ht hp hlc hlen ⊢
    have Hl := Lib.hid hl
    clear hl hx hcell
    go_enter Try.func31, Try.ntmps31
    go_wp2_with (go_at_call 42; refine (plain_yes Hs.out Ht.out).mono ?_; rintro e w' ⟨rfl, n, rfl⟩)
    go_loop [8] (fun i => KeptAt l i) (fun i => (l + 3 - intOf i).toNat)
    case atStart => exact ⟨l, by omega, by omega, rfl⟩
    case round =>
      obtain ⟨k, hk0, hk, rfl⟩ := hrel
      by_cases hlt : k < l + 3
      · have hc := Hx.out k hk0 hlt
        go_wp2_with fail
        go_round
        case rel => exact ⟨k + 1, by omega, by omega, rfl⟩
        case measure => simp [intOf]; omega
      · go_wp2_with fail
        go_ret
        exact ⟨rfl, _, rfl⟩

/-! ### what is kept from call to call -/
theorem byte_nil : Byte [] := fun k => by simp
theorem rb_of_cells {w : World} {x : Addr} {len cap : Nat} {z : List Int} (hl : len ≤ cap) (hz : z.length = cap) (hr : cap * 1 ≤ 140737488351232)
    (hcell : ∀ i, i < z.length → w.cell? (x.add i) = some (.int .u8 (z.getD i 0))) (hwz : ∀ n ∈ z, (Lit.int .u8 n).wf = true) :
    ∃ zs, RB w (.slice (some x) len cap) zs ∧ Byte zs ∧ zs.length ≤ 140737488351232 := by
  by_cases h0 : len = 0
  · subst h0
    exact ⟨[], .inl ⟨_, _, rfl, rfl, fun h => by cases h⟩, byte_nil, by simp⟩
  · obtain ⟨b, off, spot⟩ := x
    have hspot : spot = none := by simpa [Addr.add] using World.cell?_spot (hcell 0 (by omega))
    subst hspot
    have hlen : (z.take len).length = len := by rw [List.length_take]; omega
    refine ⟨z.take len, .inr ⟨b, off, cap, by rw [hlen], by omega, by omega, by omega, fun k hk => ?_⟩, fun k => ?_, by omega⟩
    · rw [hlen] at hk
      have hc := hcell k (by omega)
      have e : (⟨b, off, none⟩ : Addr).add k = ⟨b, off + k, none⟩ := by
        unfold Addr.add
        by_cases h1 : k = 0
        · subst h1; rfl
        · rw [if_neg h1]
      rw [e] at hc
      rw [hc, List.getD_eq_getElem?_getD, List.getD_eq_getElem?_getD, List.getElem?_take_of_lt hk]
    · rw [List.getD_eq_getElem?_getD]
      cases hg : (z.take len)[k]? with
      | none => simp
      | some y =>
        have hm := hwz y (List.mem_of_mem_take (List.mem_of_getElem? hg))
        simp [Lit.wf, IntKind.bits, IntKind.signed, IntKind.min, IntKind.max] at hm
        simp; omega
theorem below_drawn (B : Nat) (w : World) (n : Nat) : Below B w (w.drewN n) := ⟨rfl, rfl, rfl, Nat.le_refl _, fun _ _ => rfl⟩
theorem RB.below {w w' : World} {s : Value} {zs : List Int} (h : RB w s zs) (hb : Below w.heap.size w w') : RB w' s zs := by
  rcases h with h | ⟨b, off, c, h1, h2, h3, h4, h5⟩
  · exact .inl h
  · exact .inr ⟨b, off, c, h1, h2, h3, h4, fun k hk => (hb.cell (p := ⟨b, off + k, none⟩) (block_of_cell (h5 k hk))).trans (h5 k hk)⟩
theorem OwnRow.lt {w wr : World} {zs : List Int} {f : Int} {k : Nat} (h : OwnRow w wr zs f k) : w.heap.size < wr.heap.size := by
  obtain ⟨_, cur, h1, _⟩ := h
  rcases Nat.lt_or_ge w.heap.size wr.heap.size with hl | hl
  · exact hl
  · rw [Array.getElem?_eq_none hl] at h1; cases h1
theorem OwnRow.below {w wr w' : World} {zs : List Int} {f : Int} {k : Nat} (h : OwnRow w wr zs f k) (hb : Below wr.heap.size wr w') : OwnRow w w' zs f k := by
  have hlt := h.lt
  obtain ⟨h0, cur, h1, h2⟩ := h
  exact ⟨h0.trans (hb.mono h0.size), cur, (hb.block _ hlt).trans h1, h2⟩
theorem OwnRow.rb {w wr : World} {zs : List Int} {f : Int} {k : Nat} (h : OwnRow w wr zs f k) (hlen : zs.length ≤ 140737488351232) : RB wr (.slice (some ⟨w.heap.size, 0, none⟩) zs.length (zs.length + 3)) zs := by
  obtain ⟨_, cur, h1, h2, h3, _⟩ := h
  by_cases h0 : zs = []
  · subst h0; exact .inl ⟨_, _, rfl, rfl, fun h => by cases h⟩
  · have hp : 0 < zs.length := List.length_pos_iff.2 h0
    refine .inr ⟨_, 0, _, rfl, hp, by omega, by omega, fun k hk => ?_⟩
    rw [Nat.zero_add, cell_of_row wr _ k cur _ _ h1]
    exact h3 k hk
theorem OwnRow.spare {w wr : World} {zs : List Int} {f : Int} (h : OwnRow w wr zs f (zs.length + 3)) (j : Nat) (h1 : zs.length ≤ j) (h2 : j < zs.length + 3) : wr.cell? ⟨w.heap.size, j, none⟩ = some (.int .u8 f) := by
  obtain ⟨_, cur, e1, e2, _, e4⟩ := h
  rw [cell_of_row wr _ j cur _ _ e1]
  exact e4 j h1 h2

/-! ### the bytes of a word -/
def byteNums (v : BitVec 64) (m : Nat) : List Int := (List.range m).map (byteAt v)
theorem byteNums_length (v : BitVec 64) (m : Nat) : (byteNums v m).length = m := by simp [byteNums]
theorem byteNums_get (v : BitVec 64) (m k : Nat) (hk : k < m) : (byteNums v m).getD k 0 = byteAt v k := by
  simp [byteNums, hk]
theorem byteNums_byte (v : BitVec 64) (m : Nat) : Byte (byteNums v m) := fun k => by
  by_cases hk : k < m
  · rw [byteNums_get v m k hk]; exact ⟨byteAt_nonneg v k, byteAt_lt v k⟩
  · rw [List.getD_eq_getElem?_getD, List.getElem?_eq_none (by rw [byteNums_length]; omega)]; simp
theorem byteNums_word (v : BitVec 64) (m : Nat) (hm : m ≤ 8) : wordOf (byteNums v m) = zxt v (8 * (m : Int)) := by
  unfold wordOf
  rw [byteNums_length, Nat.min_eq_left hm]
  apply BitVec.eq_of_getLsbD_eq; intro j hj
  rw [wordTo_bit (byteNums_byte v m) m j hj, zxt_bit]
  by_cases h : j < 8 * m
  · rw [decide_eq_true h, decide_eq_true (show (j : Int) < 8 * (m : Int) by omega)]
    unfold bv
    rw [byteNums_get v m _ (by omega)]
    unfold byteAt
    rw [ofInt_u, byte_bit, decide_eq_true (show j % 8 < 8 by omega), show 8 * (j / 8) + j % 8 = j by omega]
    simp
  · rw [decide_eq_false h, decide_eq_false (show ¬ (j : Int) < 8 * (m : Int) by omega)]; simp
theorem made_cell {w w' : World} {v : BitVec 64} {m : Nat} {B : Nat} (hb : Below B (w.alloc (.cells (rowTo v m m) 5)) w') (hB : w.heap.size < B) (k : Nat) (hk : k < m) :
    w'.cell? ⟨w.heap.size, k, none⟩ = some (.int .u8 (byteAt v k)) := by
  rw [hb.cell (p := ⟨w.heap.size, k, none⟩) hB, World.cell?_alloc_new, rowTo_get v m m k hk, if_pos hk]
theorem made_rs {w w' : World} {v : BitVec 64} {m : Nat} {B : Nat} (hb : Below B (w.alloc (.cells (rowTo v m m) 5)) w') (hB : w.heap.size < B) : RS w' (.slice (some ⟨w.heap.size, 0, none⟩) m m) (byteNums v m) :=
  .inr ⟨w.heap.size, 0, m, by rw [byteNums_length], fun k hk => by
    rw [byteNums_length] at hk
    rw [Nat.zero_add, byteNums_get v m k hk]; exact made_cell hb hB k hk⟩
theorem made_rb {w w' : World} {v : BitVec 64} {m : Nat} (hm : m ≤ 8) {B : Nat} (hb : Below B (w.alloc (.cells (rowTo v m m) 5)) w') (hB : w.heap.size < B) : RB w' (.slice (some ⟨w.heap.size, 0, none⟩) m m) (byteNums v m) := by
  by_cases h0 : m = 0
  · subst h0; exact .inl ⟨_, _, rfl, rfl, fun h => by cases h⟩
  · refine .inr ⟨w.heap.size, 0, m, by rw [byteNums_length], by rw [byteNums_length]; omega, by rw [byteNums_length]; omega, by omega, fun k hk => ?_⟩
    rw [byteNums_length] at hk
    rw [Nat.zero_add, byteNums_get v m k hk]; exact made_cell hb hB k hk
theorem owned_rs {w : World} {base : Nat} {r : Value} {v : BitVec 64} {m : Nat} (h : w.ownsRow base 5 1 r m (byteCells v m)) : RS w r (byteNums v m) := by
  obtain ⟨_, h2⟩ := id h
  rcases h2 with ⟨rfl, rfl⟩ | ⟨g, cap, cur, rfl, _⟩
  · exact .inl ⟨0, rfl, rfl⟩
  · refine .inr ⟨g, 0, cap, by rw [byteNums_length], fun k hk => ?_⟩
    rw [byteNums_length] at hk
    rw [Nat.zero_add, h.cellAt k (by omega), byteNums_get v m k hk]
    simp [byteCells, hk]

/-! ### an append behind a test -/
theorem hp_wanted {P : Program} {ops : Array Oper} {Q : Exit → Act → World → Prop} {a : Act} {w : World} {rest : List Oper} {o : Oper} (hw : Region.wanted o (yielded ops a.tmps) = true)
    (h : ∀ K : Act → World → Prop, (∀ a w, wpList P ops Q rest a w → K a w) → o.wp P a w K Q) : wpList P ops Q (o :: rest) a w :=
  wpList_step fun K hK => by rw [if_pos hw]; exact h K hK
theorem bytes_four {a : Int} {v : BitVec 64} (h : a = u v) (w : World) :
    Calls Try.prog 26 #[.int .u64 a, .int .i64 4] w fun e w' => e = .returned (.slice (some ⟨w.heap.size, 0, none⟩) 4 4) ∧ w' = w.alloc (.cells (rowTo v 4 4) 5) := bytes_at h 4 w
theorem bytes_eight (v : BitVec 64) (w : World) :
    Calls Try.prog 26 #[.int .u64 (u v), .int .i64 8] w fun e w' => e = .returned (.slice (some ⟨w.heap.size, 0, none⟩) 8 8) ∧ w' = w.alloc (.cells (rowTo v 8 8) 5) := bytes_any v 8 w
theorem byteAt_half (v : BitVec 64) (i : Nat) : byteAt (v >>> 32) i = byteAt v (i + 4) := by
  unfold byteAt
  rw [← BitVec.shiftRight_add, show 32 + 8 * i = 8 * (i + 4) by omega]
theorem rowTo_cells (v : BitVec 64) (m : Nat) : (rowTo v m m).toList = byteCells v m := by
  unfold rowTo byteCells
  simp only [List.map_inj_left]
  intro i hi
  rw [if_pos (List.mem_range.1 hi)]
theorem halves (v : BitVec 64) : (rowTo v 4 4).toList ++ (rowTo (v >>> 32) 4 4).toList = byteCells v 8 := by
  rw [rowTo_cells, rowTo_cells]
  simp [byteCells, List.range_succ, byteAt_half]
/-- the two halves, as the append finds them -/
structure Halves (v : BitVec 64) (w w' : World) : Prop where
  left : w'.ownsRow w.heap.size 5 1 (.slice (some ⟨w.heap.size, 0, none⟩) 4 4) 4 (rowTo v 4 4).toList
  right : ∀ (j : Nat) (y : Value), (rowTo (v >>> 32) 4 4).toList[j]? = some y → w'.cell? ((⟨w.heap.size + 1, 0, none⟩ : Addr).add j) = some y
  one : ∀ y ∈ (rowTo (v >>> 32) 4 4).toList, y.oneCell' = true
  length : (rowTo (v >>> 32) 4 4).toList.length = 4 * 1
  size : w.heap.size ≤ w'.heap.size
  below : Below w.heap.size w w'
theorem halves_made (v : BitVec 64) (w w3 w4 : World) (h3 : w3 = w.alloc (.cells (rowTo v 4 4) 5)) (h4 : w4 = w3.alloc (.cells (rowTo (v >>> 32) 4 4) 5)) : Halves v w w4 := by
  subst h3
  subst h4
  have hs : (w.alloc (.cells (rowTo v 4 4) 5)).heap.size = w.heap.size + 1 := by simp
  refine ⟨(World.ownsRow_lit w _ 4 (Nat.le_refl _) (by unfold maxLen; omega) (by rw [rowTo_size])).alloc _, fun j y hy => ?_, fun y hy => ?_, by rw [Array.length_toList, rowTo_size], by simp; omega, ((Below.refl _ _).alloc (Nat.le_refl _) _).alloc (by rw [hs]; omega) _⟩
  · have e : (⟨w.heap.size + 1, 0, none⟩ : Addr).add j = ⟨w.heap.size + 1, j, none⟩ := by
      unfold Addr.add
      by_cases h1 : j = 0
      · subst h1; rfl
      · rw [if_neg h1, Nat.zero_add]
    rw [e, ← hs, World.cell?_alloc_new, ← Array.getElem?_toList]
    exact hy
  · rw [rowTo_cells] at hy
    simp only [byteCells, List.mem_map] at hy
    obtain ⟨i, _, rfl⟩ := hy
    rfl
theorem join_below {v : BitVec 64} {w w1 w2 w4 w5 w6 : World} {n1 n2 : Nat} {cs : Array Value} (h1 : w1 = w.drewN n1) (h2 : w2 = w1.drewN n2) (hh : Halves v w2 w4) (hg : w4.grownBy w5 (some w2.heap.size)) (h6 : w6 = w5.alloc (.cells cs 5)) : Below w.heap.size w w6 := by
  have hs : w2.heap.size = w.heap.size := by rw [h2, h1]; rfl
  have b2 : Below w.heap.size w w2 := by rw [h2, h1]; exact (below_drawn _ _ n1).trans (below_drawn _ _ n2)
  have b5 : Below w2.heap.size w2 w5 := hh.below.grown hg hh.size (fun k hk => by cases hk; exact Nat.le_refl _)
  rw [h6]
  exact (b2.trans (b5.mono (by omega))).alloc (by have := b5.size; omega) _
theorem join_left {v : BitVec 64} {w5 w6 : World} {b : Nat} {r : Value} {cs : Array Value} (h : w5.ownsRow b 5 1 r (4 + 4) ((rowTo v 4 4).toList ++ (rowTo (v >>> 32) 4 4).toList)) (h6 : w6 = w5.alloc (.cells cs 5)) : RS w6 r (byteNums v 8) := by
  rw [halves] at h
  rw [h6]
  exact owned_rs (h.alloc _)
theorem join_right {v : BitVec 64} {w5 w6 : World} (h6 : w6 = w5.alloc (.cells (rowTo v 8 8) 5)) : RS w6 (.slice (some ⟨w5.heap.size, 0, none⟩) 8 8) (byteNums v 8) := by
  rw [h6]
  exact made_rs (Below.refl (w5.heap.size + 1) _) (by omega)
end Go.Proofs.Ytkjkmekkcnmjnaa
