/- The region of the law on reservations that makes its two harts, in any order. Conditions: named at each. -/
import Derived.Test.YthafghechghbpaaAmoS
import Derived.Test.YthafghechghbpaaInv
namespace Go.Proofs.Ythafghechghbpaa
open Go.RowKit

/-- the law's frame at its second region -/
def holdFr (hs : Array Value) (a b : BitVec 64) (n : Nat) (v7 v8 v9 v10 v11 v12 v13 : Value) : Act :=
  ⟨List.toArray (.agg hs :: .int .u64 (u a) :: .int .u64 (u b) :: .pointer (some ⟨n, 0, none⟩) :: undef :: undef :: .bool false :: v7 :: v8 :: v9 :: v10 :: v11 :: v12 :: v13 :: undef :: undef :: undef :: undef :: undef :: undef :: undef :: undef :: undef :: undef :: undef :: undef :: undef :: undef :: undef :: undef :: undef :: undef :: undef :: undef :: undef :: undef :: undef :: undef :: undef :: undef :: undef :: undef :: undef :: undef :: undef :: undef :: undef :: undef :: undef :: undef :: undef :: undef :: undef :: undef :: undef :: undef :: undef :: undef :: undef :: undef :: undef :: []), []⟩
/-- a block of the law's own with a hart, which is cs once it is stored -/
def OwnHart (w wr : World) (v : Value) (stored : Bool) (cs : Array Value) : Prop :=
  ∃ (g : Nat) (old : Array Value), v = .pointer (some ⟨g, 0, none⟩) ∧ w.heap.size < g ∧ old.size = 66 ∧ wr.heap[g]? = some (.cells old 35 (0, 0)) ∧ (stored = true → old = cs)
/-- what stands while it runs: l: what is done -/
structure HoldAt (hs : Array Value) (a b : BitVec 64) (w : World) (l : Array Bool) (c : Act) (wr : World) : Prop where
  size : l.size = 9
  ord : (l.getD 7 false = true → l.getD 5 false = true) ∧ (l.getD 8 false = true → l.getD 6 false = true)
  on : On w wr
  box : wr.heap[w.heap.size]? = some (.cells hs 35 (0, 0))
  fr : ∃ v7 v8 v9 v10 v11 v12 v13, c = holdFr hs a b w.heap.size v7 v8 v9 v10 v11 v12 v13 ∧
    (l.getD 0 false = true → v9 = .agg hs) ∧ (l.getD 1 false = true → v10 = .int .u64 (u a)) ∧ (l.getD 2 false = true → v11 = .agg (setRes hs true (a - a % 8#64))) ∧
    (l.getD 3 false = true → v12 = .agg hs) ∧ (l.getD 4 false = true → v13 = .agg (setRes hs false 0#64)) ∧
    (l.getD 5 false = true → OwnHart w wr v7 (l.getD 7 false) (setRes hs true (a - a % 8#64))) ∧ (l.getD 6 false = true → OwnHart w wr v8 (l.getD 8 false) (setRes hs false 0#64)) ∧
    (l.getD 5 false = true → l.getD 6 false = true → v7 ≠ v8)
theorem OwnHart.on {w wr wx : World} {v : Value} {s : Bool} {cs : Array Value} (h : OwnHart w wr v s cs) (k : On wr wx) : OwnHart w wx v s cs := by
  obtain ⟨g, old, h1, h2, h3, h4, h5⟩ := h
  exact ⟨g, old, h1, h2, h3, k.keep h4, h5⟩
theorem OwnHart.lt {w wr : World} {v : Value} {s : Bool} {cs : Array Value} (h : OwnHart w wr v s cs) : v ≠ .pointer (some ⟨wr.heap.size, 0, none⟩) := by
  obtain ⟨g, old, rfl, h2, h3, h4, h5⟩ := h
  have h6 := blk_lt h4
  intro e
  have h7 : g = wr.heap.size := by injection e with e; injection e with e; injection e
  omega
theorem OwnHart.row {w wr : World} {v : Value} {s : Bool} {cs : Array Value} (h : OwnHart w wr v s cs) (g : Nat) (x : Array Value) (hne : v ≠ .pointer (some ⟨g, 0, none⟩)) : OwnHart w (wr.setRow g x) v s cs := by
  obtain ⟨k, old, rfl, h2, h3, h4, h5⟩ := h
  exact ⟨k, old, rfl, h2, h3, by rw [setRow_other _ _ _ _ (by intro e; exact hne (by rw [e]))]; exact h4, h5⟩

theorem hold_0 (hs : Array Value) (hF : Fits hartLeaves hs.toList) (a b : BitVec 64) (w : World) (l : Array Bool) (c : Act) (wr : World) (h : HoldAt hs a b w l c wr) (Q : Exit → Act → World → Prop) (o : Oper)
    (ho : o = { dst := some 9, op := .load 35 (.tmp 3), type := 35, pos := "law.go:30", after := #[], guard := none }) :
    o.wp Try.prog c wr (HoldAt hs a b w (l.setIfInBounds 0 true)) Q := by
  obtain ⟨hz, ⟨ho1, ho2⟩, hon, hbox, v7, v8, v9, v10, v11, v12, v13, rfl, e9, e10, e11, e12, e13, e7, e8, hne⟩ := h
  have hz2 : (l.setIfInBounds 0 true).size = 9 := by simpa using hz
  have hord : ((l.setIfInBounds 0 true).getD 7 false = true → (l.setIfInBounds 0 true).getD 5 false = true) ∧ ((l.setIfInBounds 0 true).getD 8 false = true → (l.setIfInBounds 0 true).getD 6 false = true) :=
    ⟨fun h => g_mono (ho1 (g_ne (by omega) h)), fun h => g_mono (ho2 (g_ne (by omega) h))⟩
  subst ho
  refine wp_load_row 35 (.tmp 3) rfl w.heap.size rfl 35 hs (0, 0) _ hbox Try.underlying35 rfl (by rw [hart_len hF]; exact hart_size) ?_
  exact ⟨hz2, hord, hon, hbox, _, _, _, _, _, _, _, rfl, fun _ => rfl, fun h => e10 (g_ne (by omega) h), fun h => e11 (g_ne (by omega) h), fun h => e12 (g_ne (by omega) h), fun h => e13 (g_ne (by omega) h), fun h => by rw [g_eq (by omega)]; exact e7 (g_ne (by omega) h), fun h => by rw [g_eq (by omega)]; exact e8 (g_ne (by omega) h), fun h1 h2 => hne (g_ne (by omega) h1) (g_ne (by omega) h2)⟩
theorem hold_3 (hs : Array Value) (hF : Fits hartLeaves hs.toList) (a b : BitVec 64) (w : World) (l : Array Bool) (c : Act) (wr : World) (h : HoldAt hs a b w l c wr) (Q : Exit → Act → World → Prop) (o : Oper)
    (ho : o = { dst := some 12, op := .load 35 (.tmp 3), type := 35, pos := "law.go:30", after := #[], guard := none }) :
    o.wp Try.prog c wr (HoldAt hs a b w (l.setIfInBounds 3 true)) Q := by
  obtain ⟨hz, ⟨ho1, ho2⟩, hon, hbox, v7, v8, v9, v10, v11, v12, v13, rfl, e9, e10, e11, e12, e13, e7, e8, hne⟩ := h
  have hz2 : (l.setIfInBounds 3 true).size = 9 := by simpa using hz
  have hord : ((l.setIfInBounds 3 true).getD 7 false = true → (l.setIfInBounds 3 true).getD 5 false = true) ∧ ((l.setIfInBounds 3 true).getD 8 false = true → (l.setIfInBounds 3 true).getD 6 false = true) :=
    ⟨fun h => g_mono (ho1 (g_ne (by omega) h)), fun h => g_mono (ho2 (g_ne (by omega) h))⟩
  subst ho
  refine wp_load_row 35 (.tmp 3) rfl w.heap.size rfl 35 hs (0, 0) _ hbox Try.underlying35 rfl (by rw [hart_len hF]; exact hart_size) ?_
  exact ⟨hz2, hord, hon, hbox, _, _, _, _, _, _, _, rfl, fun h => e9 (g_ne (by omega) h), fun h => e10 (g_ne (by omega) h), fun h => e11 (g_ne (by omega) h), fun _ => rfl, fun h => e13 (g_ne (by omega) h), fun h => by rw [g_eq (by omega)]; exact e7 (g_ne (by omega) h), fun h => by rw [g_eq (by omega)]; exact e8 (g_ne (by omega) h), fun h1 h2 => hne (g_ne (by omega) h1) (g_ne (by omega) h2)⟩
theorem hold_1 (hs : Array Value) (a b : BitVec 64) (w : World) (l : Array Bool) (c : Act) (wr : World) (h : HoldAt hs a b w l c wr) (Q : Exit → Act → World → Prop) (o : Oper)
    (ho : o = { dst := some 10, op := .move (.tmp 1), type := 22, pos := "law.go:30", after := #[], guard := none }) :
    o.wp Try.prog c wr (HoldAt hs a b w (l.setIfInBounds 1 true)) Q := by
  obtain ⟨hz, ⟨ho1, ho2⟩, hon, hbox, v7, v8, v9, v10, v11, v12, v13, rfl, e9, e10, e11, e12, e13, e7, e8, hne⟩ := h
  have hz2 : (l.setIfInBounds 1 true).size = 9 := by simpa using hz
  have hord : ((l.setIfInBounds 1 true).getD 7 false = true → (l.setIfInBounds 1 true).getD 5 false = true) ∧ ((l.setIfInBounds 1 true).getD 8 false = true → (l.setIfInBounds 1 true).getD 6 false = true) :=
    ⟨fun h => g_mono (ho1 (g_ne (by omega) h)), fun h => g_mono (ho2 (g_ne (by omega) h))⟩
  subst ho
  refine BigFrame.wp_move (.tmp 1) rfl ?_
  exact ⟨hz2, hord, hon, hbox, _, _, _, _, _, _, _, rfl, fun h => e9 (g_ne (by omega) h), fun _ => rfl, fun h => e11 (g_ne (by omega) h), fun h => e12 (g_ne (by omega) h), fun h => e13 (g_ne (by omega) h), fun h => by rw [g_eq (by omega)]; exact e7 (g_ne (by omega) h), fun h => by rw [g_eq (by omega)]; exact e8 (g_ne (by omega) h), fun h1 h2 => hne (g_ne (by omega) h1) (g_ne (by omega) h2)⟩
theorem hold_2 (hs : Array Value) (hF : Fits hartLeaves hs.toList) (a b : BitVec 64) (w : World) (l : Array Bool) (c : Act) (wr : World) (h : HoldAt hs a b w l c wr) (Q : Exit → Act → World → Prop) (o : Oper)
    (ho : o = { dst := some 11, op := .call { callee := .value (.func 14), args := #[.tmp 9, .tmp 10], argTypes := #[35, 22] }, type := 35, pos := "law.go:30", after := #[{ on := 0, ground := .data }, { on := 1, ground := .data }], guard := none }) (h0 : l.getD 0 false = true) (h1 : l.getD 1 false = true) :
    o.wp Try.prog c wr (HoldAt hs a b w (l.setIfInBounds 2 true)) Q := by
  obtain ⟨hz, ⟨ho1, ho2⟩, hon, hbox, v7, v8, v9, v10, v11, v12, v13, rfl, e9, e10, e11, e12, e13, e7, e8, hne⟩ := h
  have hz2 : (l.setIfInBounds 2 true).size = 9 := by simpa using hz
  have hord : ((l.setIfInBounds 2 true).getD 7 false = true → (l.setIfInBounds 2 true).getD 5 false = true) ∧ ((l.setIfInBounds 2 true).getD 8 false = true → (l.setIfInBounds 2 true).getD 6 false = true) :=
    ⟨fun h => g_mono (ho1 (g_ne (by omega) h)), fun h => g_mono (ho2 (g_ne (by omega) h))⟩
  subst ho
  obtain rfl := e9 h0
  obtain rfl := e10 h1
  unfold holdFr
  go_big_op
  refine (hold_any hs hF a _).mono ?_
  rintro e wx ⟨rfl, K⟩
  exact ⟨hz2, hord, hon.trans K, K.keep hbox, _, _, _, _, _, _, _, rfl, fun h => e9 (g_ne (by omega) h), fun h => e10 (g_ne (by omega) h), fun _ => rfl, fun h => e12 (g_ne (by omega) h), fun h => e13 (g_ne (by omega) h), fun h => by rw [g_eq (by omega)]; exact (e7 (g_ne (by omega) h)).on K, fun h => by rw [g_eq (by omega)]; exact (e8 (g_ne (by omega) h)).on K, fun h1 h2 => hne (g_ne (by omega) h1) (g_ne (by omega) h2)⟩
theorem hold_4 (hs : Array Value) (hF : Fits hartLeaves hs.toList) (a b : BitVec 64) (w : World) (l : Array Bool) (c : Act) (wr : World) (h : HoldAt hs a b w l c wr) (Q : Exit → Act → World → Prop) (o : Oper)
    (ho : o = { dst := some 13, op := .call { callee := .value (.func 15), args := #[.tmp 12], argTypes := #[35] }, type := 35, pos := "law.go:30", after := #[{ on := 3, ground := .data }, { on := 2, ground := .chain }], guard := none }) (h3 : l.getD 3 false = true) :
    o.wp Try.prog c wr (HoldAt hs a b w (l.setIfInBounds 4 true)) Q := by
  obtain ⟨hz, ⟨ho1, ho2⟩, hon, hbox, v7, v8, v9, v10, v11, v12, v13, rfl, e9, e10, e11, e12, e13, e7, e8, hne⟩ := h
  have hz2 : (l.setIfInBounds 4 true).size = 9 := by simpa using hz
  have hord : ((l.setIfInBounds 4 true).getD 7 false = true → (l.setIfInBounds 4 true).getD 5 false = true) ∧ ((l.setIfInBounds 4 true).getD 8 false = true → (l.setIfInBounds 4 true).getD 6 false = true) :=
    ⟨fun h => g_mono (ho1 (g_ne (by omega) h)), fun h => g_mono (ho2 (g_ne (by omega) h))⟩
  subst ho
  obtain rfl := e12 h3
  unfold holdFr
  go_big_op
  refine (clear_any hs hF _).mono ?_
  rintro e wx ⟨rfl, K⟩
  exact ⟨hz2, hord, hon.trans K, K.keep hbox, _, _, _, _, _, _, _, rfl, fun h => e9 (g_ne (by omega) h), fun h => e10 (g_ne (by omega) h), fun h => e11 (g_ne (by omega) h), fun h => e12 (g_ne (by omega) h), fun _ => rfl, fun h => by rw [g_eq (by omega)]; exact (e7 (g_ne (by omega) h)).on K, fun h => by rw [g_eq (by omega)]; exact (e8 (g_ne (by omega) h)).on K, fun h1 h2 => hne (g_ne (by omega) h1) (g_ne (by omega) h2)⟩
theorem hold_5 (hs : Array Value) (a b : BitVec 64) (w : World) (l : Array Bool) (c : Act) (wr : World) (h : HoldAt hs a b w l c wr) (Q : Exit → Act → World → Prop) (o : Oper)
    (ho : o = { dst := some 7, op := .alloc 35, type := 0, pos := "law.go:30", after := #[], guard := none }) (hl : l.getD 5 true = false) :
    o.wp Try.prog c wr (HoldAt hs a b w (l.setIfInBounds 5 true)) Q := by
  obtain ⟨hz, ⟨ho1, ho2⟩, hon, hbox, v7, v8, v9, v10, v11, v12, v13, rfl, e9, e10, e11, e12, e13, e7, e8, hne⟩ := h
  have hz2 : (l.setIfInBounds 5 true).size = 9 := by simpa using hz
  have hord : ((l.setIfInBounds 5 true).getD 7 false = true → (l.setIfInBounds 5 true).getD 5 false = true) ∧ ((l.setIfInBounds 5 true).getD 8 false = true → (l.setIfInBounds 5 true).getD 6 false = true) :=
    ⟨fun h => g_mono (ho1 (g_ne (by omega) h)), fun h => g_mono (ho2 (g_ne (by omega) h))⟩
  subst ho
  have S := g_ahead ho1 hl
  refine wp_alloc_of rfl (hart_zero wr) ?_
  have K : On wr (wr.alloc (.cells hartZero 35)) := (On.refl _).alloc _
  exact ⟨hz2, hord, hon.trans K, K.keep hbox, _, _, _, _, _, _, _, rfl, fun h => e9 (g_ne (by omega) h), fun h => e10 (g_ne (by omega) h), fun h => e11 (g_ne (by omega) h), fun h => e12 (g_ne (by omega) h), fun h => e13 (g_ne (by omega) h), fun _ => ⟨wr.heap.size, hartZero, rfl, blk_lt hbox, rfl, heap_alloc_new _ _, fun h => by rw [g_eq (by omega)] at h; rw [S] at h; cases h⟩, fun h => by rw [g_eq (by omega)]; exact (e8 (g_ne (by omega) h)).on K, fun _ h2 => Ne.symm (e8 (g_ne (by omega) h2)).lt⟩
theorem hold_6 (hs : Array Value) (a b : BitVec 64) (w : World) (l : Array Bool) (c : Act) (wr : World) (h : HoldAt hs a b w l c wr) (Q : Exit → Act → World → Prop) (o : Oper)
    (ho : o = { dst := some 8, op := .alloc 35, type := 0, pos := "law.go:30", after := #[], guard := none }) (hl : l.getD 6 true = false) :
    o.wp Try.prog c wr (HoldAt hs a b w (l.setIfInBounds 6 true)) Q := by
  obtain ⟨hz, ⟨ho1, ho2⟩, hon, hbox, v7, v8, v9, v10, v11, v12, v13, rfl, e9, e10, e11, e12, e13, e7, e8, hne⟩ := h
  have hz2 : (l.setIfInBounds 6 true).size = 9 := by simpa using hz
  have hord : ((l.setIfInBounds 6 true).getD 7 false = true → (l.setIfInBounds 6 true).getD 5 false = true) ∧ ((l.setIfInBounds 6 true).getD 8 false = true → (l.setIfInBounds 6 true).getD 6 false = true) :=
    ⟨fun h => g_mono (ho1 (g_ne (by omega) h)), fun h => g_mono (ho2 (g_ne (by omega) h))⟩
  subst ho
  have S := g_ahead ho2 hl
  refine wp_alloc_of rfl (hart_zero wr) ?_
  have K : On wr (wr.alloc (.cells hartZero 35)) := (On.refl _).alloc _
  exact ⟨hz2, hord, hon.trans K, K.keep hbox, _, _, _, _, _, _, _, rfl, fun h => e9 (g_ne (by omega) h), fun h => e10 (g_ne (by omega) h), fun h => e11 (g_ne (by omega) h), fun h => e12 (g_ne (by omega) h), fun h => e13 (g_ne (by omega) h), fun h => by rw [g_eq (by omega)]; exact (e7 (g_ne (by omega) h)).on K, fun _ => ⟨wr.heap.size, hartZero, rfl, blk_lt hbox, rfl, heap_alloc_new _ _, fun h => by rw [g_eq (by omega)] at h; rw [S] at h; cases h⟩, fun h1 _ => (e7 (g_ne (by omega) h1)).lt⟩
theorem hold_7 (hs : Array Value) (hF : Fits hartLeaves hs.toList) (a b : BitVec 64) (w : World) (l : Array Bool) (c : Act) (wr : World) (h : HoldAt hs a b w l c wr) (Q : Exit → Act → World → Prop) (o : Oper) (aft : Array Edge)
    (ho : o = { dst := none, op := .store 35 (.tmp 7) (.tmp 11), type := 0, pos := "law.go:30", after := aft, guard := none }) (h5 : l.getD 5 false = true) (h6 : l.getD 6 false = true) (h2 : l.getD 2 false = true) :
    o.wp Try.prog c wr (HoldAt hs a b w (l.setIfInBounds 7 true)) Q := by
  obtain ⟨hz, ⟨ho1, ho2⟩, hon, hbox, v7, v8, v9, v10, v11, v12, v13, rfl, e9, e10, e11, e12, e13, e7, e8, hne⟩ := h
  have hz2 : (l.setIfInBounds 7 true).size = 9 := by simpa using hz
  have hord : ((l.setIfInBounds 7 true).getD 7 false = true → (l.setIfInBounds 7 true).getD 5 false = true) ∧ ((l.setIfInBounds 7 true).getD 8 false = true → (l.setIfInBounds 7 true).getD 6 false = true) :=
    ⟨fun _ => g_mono h5, fun h => g_mono (ho2 (g_ne (by omega) h))⟩
  subst ho
  have hd : v8 ≠ v7 := Ne.symm (hne h5 h6)
  obtain ⟨g, old, rfl, hg, hs1, hc, -⟩ := e7 h5
  obtain rfl := e11 h2
  refine wp_store_row 35 (.tmp 7) (.tmp 11) rfl g _ rfl rfl 35 old hc (by rw [hart_len (setRes_fits hF true (a - a % 8#64))]; exact hart_size) (by rw [hs1, hart_len (setRes_fits hF true (a - a % 8#64))]) (fits_one (setRes_fits hF true (a - a % 8#64))) ?_
  exact ⟨hz2, hord, hon.row _ _ (by omega), by rw [setRow_other _ _ _ _ (by omega)]; exact hbox, _, _, _, _, _, _, _, rfl, fun h => e9 (g_ne (by omega) h), fun h => e10 (g_ne (by omega) h), fun h => e11 (g_ne (by omega) h), fun h => e12 (g_ne (by omega) h), fun h => e13 (g_ne (by omega) h), fun _ => ⟨g, _, rfl, hg, hart_len (setRes_fits hF true (a - a % 8#64)), setRow_heap _ _ _ _ _ _ hc, fun _ => rfl⟩, fun _ => by rw [g_eq (by omega)]; exact (e8 h6).row g _ hd, fun _ _ => hne h5 h6⟩
theorem hold_8 (hs : Array Value) (hF : Fits hartLeaves hs.toList) (a b : BitVec 64) (w : World) (l : Array Bool) (c : Act) (wr : World) (h : HoldAt hs a b w l c wr) (Q : Exit → Act → World → Prop) (o : Oper) (aft : Array Edge)
    (ho : o = { dst := none, op := .store 35 (.tmp 8) (.tmp 13), type := 0, pos := "law.go:30", after := aft, guard := none }) (h5 : l.getD 5 false = true) (h6 : l.getD 6 false = true) (h4 : l.getD 4 false = true) :
    o.wp Try.prog c wr (HoldAt hs a b w (l.setIfInBounds 8 true)) Q := by
  obtain ⟨hz, ⟨ho1, ho2⟩, hon, hbox, v7, v8, v9, v10, v11, v12, v13, rfl, e9, e10, e11, e12, e13, e7, e8, hne⟩ := h
  have hz2 : (l.setIfInBounds 8 true).size = 9 := by simpa using hz
  have hord : ((l.setIfInBounds 8 true).getD 7 false = true → (l.setIfInBounds 8 true).getD 5 false = true) ∧ ((l.setIfInBounds 8 true).getD 8 false = true → (l.setIfInBounds 8 true).getD 6 false = true) :=
    ⟨fun h => g_mono (ho1 (g_ne (by omega) h)), fun _ => g_mono h6⟩
  subst ho
  have hd : v7 ≠ v8 := hne h5 h6
  obtain ⟨g, old, rfl, hg, hs1, hc, -⟩ := e8 h6
  obtain rfl := e13 h4
  refine wp_store_row 35 (.tmp 8) (.tmp 13) rfl g _ rfl rfl 35 old hc (by rw [hart_len (setRes_fits hF false 0#64)]; exact hart_size) (by rw [hs1, hart_len (setRes_fits hF false 0#64)]) (fits_one (setRes_fits hF false 0#64)) ?_
  exact ⟨hz2, hord, hon.row _ _ (by omega), by rw [setRow_other _ _ _ _ (by omega)]; exact hbox, _, _, _, _, _, _, _, rfl, fun h => e9 (g_ne (by omega) h), fun h => e10 (g_ne (by omega) h), fun h => e11 (g_ne (by omega) h), fun h => e12 (g_ne (by omega) h), fun h => e13 (g_ne (by omega) h), fun _ => by rw [g_eq (by omega)]; exact (e7 h5).row g _ hd, fun _ => ⟨g, _, rfl, hg, hart_len (setRes_fits hF false 0#64), setRow_heap _ _ _ _ _ _ hc, fun _ => rfl⟩, fun _ _ => hne h5 h6⟩
/-! ### the last region -/
/-- a contract for arguments that are held against the call's own -/
theorem Calls.on_arg {P : Program} {f : FuncId} {args args0 : Array Value} {w : World} {d : Nat} {os : Array Obj} {v : Value} (h : Hid (∀ w, Calls P f args0 w fun e w' => e = .returned v ∧ On w w')) (e : args = args0) :
    Calls P f args (Sort.grow (redrawn w d) os) fun e w'' => e = .returned v ∧ ∃ p : Regrown, w'' = Sort.grow (redrawn w p.d) p.os := by
  subst e
  exact Calls.on_of (h.out _)
theorem gran_same (a b : BitVec 64) : (u a / 8 == u b / 8) = (a - a % 8#64 == b - b % 8#64) := by
  rw [show u a / 8 = u (a / 8#64) from u_div a 8#64, show u b / 8 = u (b / 8#64) from u_div b 8#64, u_beq, Bool.eq_iff_iff, beq_iff_eq, beq_iff_eq]
  have ha : (a - a % 8#64).toNat = a.toNat / 8 * 8 := by
    rw [BitVec.toNat_sub_of_le (by rw [BitVec.le_def, BitVec.toNat_umod]; exact Nat.mod_le _ _), BitVec.toNat_umod]
    show a.toNat - a.toNat % 8 = _; omega
  have hb : (b - b % 8#64).toNat = b.toNat / 8 * 8 := by
    rw [BitVec.toNat_sub_of_le (by rw [BitVec.le_def, BitVec.toNat_umod]; exact Nat.mod_le _ _), BitVec.toNat_umod]
    show b.toNat - b.toNat % 8 = _; omega
  constructor
  · intro h
    have h1 := congrArg BitVec.toNat h
    rw [BitVec.toNat_udiv, BitVec.toNat_udiv] at h1
    exact BitVec.eq_of_toNat_eq (by rw [ha, hb]; have : a.toNat / 8 = b.toNat / 8 := h1; omega)
  · intro h
    have h1 := congrArg BitVec.toNat h
    rw [ha, hb] at h1
    exact BitVec.eq_of_toNat_eq (by rw [BitVec.toNat_udiv, BitVec.toNat_udiv]; show a.toNat / 8 = b.toNat / 8; omega)
theorem div8 (a : BitVec 64) : IntKind.u64.wrap ((u a).tdiv 8) = u a / 8 := by
  rw [Int.tdiv_eq_ediv_of_nonneg (u_nonneg a), show u a / 8 = u (a / 8#64) from u_div a 8#64, wrap_u]
theorem gran_same2 (a b : BitVec 64) : (IntKind.u64.wrap ((u a).tdiv 8) == IntKind.u64.wrap ((u b).tdiv 8)) = (a - a % 8#64 == b - b % 8#64) := by
  rw [div8, div8, gran_same]
/-- a hart out of a block, in each later world -/
theorem hart_lds {w : World} {g : Nat} {cs : Array Value} (hg : w.heap[g]? = some (.cells cs 35 (0, 0))) (hs : cs.size = 66) (d : Nat) (os : Array Obj) :
    (Instr.loadAt 35 (.pointer (some ⟨g, 0, none⟩))).run Try.prog (Sort.grow (redrawn w d) os) = .ok (.agg cs) (Sort.grow (redrawn w d) os) :=
  hart_load (((On.refl w).grow d os).keep hg) hs
/-- a hart out of a block, in a region that draws its order and makes memory only in its calls -/
theorem hart_quiet {o : Oper} {a : Act} {K : Act → Prop} {w : World} {g : Nat} {cs : Array Value} {p : Tmp}
    (hl : ∀ d os, (Instr.loadAt 35 (.pointer (some ⟨g, 0, none⟩))).run Try.prog (Sort.grow (redrawn w d) os) = .ok (.agg cs) (Sort.grow (redrawn w d) os))
    (ho : o.op = .load 35 (.tmp p)) (hx : a.eval (.tmp p) = .pointer (some ⟨g, 0, none⟩)) (hk : K (a.put o.dst (.agg cs))) :
    o.quiet Try.prog a (fun w' => ∃ p : Regrown, w' = Sort.grow (redrawn w p.d) p.os) K := by
  refine ⟨.agg cs, ?_, hk⟩
  rintro w' ⟨q, rfl⟩
  unfold Oper.quietAt execOp
  simp only [ho, hx, Sem.run_bind, hl, Result.andThen_ok, Sem.run_pure]
  exact ⟨rfl, rfl⟩
end Go.Proofs.Ythafghechghbpaa
