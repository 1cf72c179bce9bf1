/- Slices that came in as the calls of package ram take them; a copy of bytes. Conditions: named at each. -/
import Derived.Test.YtkjkmekkcnmjnaaRamF
import Derived.Test.YtkjkmekkcnmjnaaRowC
namespace Go.Proofs.Ytkjkmekkcnmjnaa
open Go.RowKit
set_option linter.unusedVariables false
set_option maxRecDepth 100000

/-- bytes from before the memory was made, the first k of them -/
theorem src_old {n : Nat} {w0 w : World} {a : Option Addr} {l c k : Nat} {z : Nat → Int} (h : l = 0 ∨ ∃ b off, a = some ⟨b, off, none⟩ ∧ b < w0.heap.size ∧ ∀ i, i < l → w0.cell? ⟨b, off + i, none⟩ = some (.int .u8 (z i)))
    (hk : k ≤ l) (hlc : l ≤ c) (hc : c ≤ maxLen) (hn : w0.heap.size ≤ n) (hw : On w0 w) : Src n w (.slice a k c) k z := by
  by_cases h0 : k = 0
  · subst h0; exact .inl ⟨_, _, rfl, rfl⟩
  · rcases h with h | ⟨b, off, rfl, hb, hx⟩
    · omega
    · refine .inr ⟨b, off, c, rfl, by omega, by omega, by unfold maxLen at hc; omega, ⟨by have := hw.size; omega, .inl (by omega)⟩, fun i hi => ?_⟩
      exact (Below.cell hw (p := ⟨b, off + i, none⟩) hb).trans (hx i (by omega))
theorem srcB_old {n : Nat} {w0 w : World} {a : Option Addr} {l c : Nat} {z : Nat → Bool} (h : l = 0 ∨ ∃ b off, a = some ⟨b, off, none⟩ ∧ b < w0.heap.size ∧ ∀ i, i < l → w0.cell? ⟨b, off + i, none⟩ = some (.bool (z i)))
    (hl : l ≤ maxLen) (hn : w0.heap.size ≤ n) (hw : On w0 w) : SrcB n w (.slice a l c) l z := by
  by_cases h0 : l = 0
  · subst h0; exact .inl ⟨_, _, rfl, rfl⟩
  · rcases h with h | ⟨b, off, rfl, hb, hx⟩
    · omega
    · refine .inr ⟨b, off, c, rfl, by omega, by unfold maxLen at hl; omega, ⟨by have := hw.size; omega, .inl (by omega)⟩, fun i hi => ?_⟩
      exact (Below.cell hw (p := ⟨b, off + i, none⟩) hb).trans (hx i hi)
/-- a row of its own that begins so -/
def OwnB (g : Nat) (w : World) (k : Nat) (z : Nat → Int) : Prop := ∃ cur, w.heap[g]? = some (.cells cur 5 (0, 0)) ∧ ∀ j, j < k → cur[j]? = some (.int .u8 (z j))
theorem OwnB.put {g k : Nat} {w : World} {z : Nat → Int} (h : OwnB g w k z) {i : Nat} (hi : i < k) (x : Int) : OwnB g (w.setCell ⟨g, i, none⟩ (.int .u8 x)) k (fun j => if j = i then x else z j) := by
  obtain ⟨cur, h1, h2⟩ := h
  refine ⟨_, blk_put h1 i _, fun j hj => ?_⟩
  rw [Array.getElem?_setIfInBounds]
  have hs : i < cur.size := by
    have := h2 i hi
    exact (Array.getElem?_eq_some_iff.1 this).1
  by_cases e : i = j
  · subst e; rw [if_pos rfl, if_pos hs]; simp
  · rw [if_neg e, h2 j hj]; simp; intro h; exact absurd h.symm e
theorem copy_nil (w : World) : Calls Try.prog 22 #[.slice none 0 0] w fun e w' => e = .returned (.slice none 0 0) ∧ w = w' := by
  go_enter Try.func22, Try.ntmps22
  go_wp2
  go_ret
  exact ⟨rfl, rfl⟩
theorem add_plain' (b off j : Nat) : (⟨b, off, none⟩ : Addr).add j = ⟨b, off + j, none⟩ := by unfold Addr.add; split <;> simp_all
theorem copy_some {a : Addr} {k c : Nat} {z : Nat → Int} {w : World} (hk : k ≤ 140737488355328) (hc : 0 < k → ∃ b off, a = ⟨b, off, none⟩ ∧ ∀ i, i < k → w.cell? ⟨b, off + i, none⟩ = some (.int .u8 (z i))) :
    Calls Try.prog 22 #[.slice (some a) k c] w fun e w' => On w w' ∧ ∃ v, e = .returned v ∧ w'.ownsRow w.heap.size 5 1 v k (clN k z) := by
  obtain ⟨i0, hi, hz0, hz1, hz2⟩ := info_parts u8_info
  have hsrc : ∀ (j : Nat) (y : Value), (clN k z)[j]? = some y → w.cell? (a.add j) = some y := fun j y hy => by
    obtain ⟨hj, rfl⟩ := clN_get hy
    obtain ⟨b, off, rfl, hx⟩ := hc (by omega)
    rw [add_plain']; exact hx j hj
  have hm : k ≤ maxLen := by unfold maxLen; omega
  have HH := Lib.hid (And.intro hsrc (And.intro hm hk))
  clear hsrc hm hk hc
  go_enter Try.func22, Try.ntmps22
  go_wp2_with (at_builtin; refine wpList_append_own _ rfl _ _ 32 rfl w.heap.size 5 i0 (.int .u8 0) 1 1 Try.underlying32 hi hz0 hz1 hz2 rfl (by decide) _ 0 [] rfl (World.ownsRow_nil _ _ _ _) a k c (clN k z) rfl (by rw [clN_len, Nat.mul_one]) HH.out.1 (clN_one k z) (by rw [Nat.zero_add]; exact HH.out.2.1) (by rw [Nat.zero_add, Nat.mul_one]; exact HH.out.2.2) (Nat.le_refl _) ?_; intro v' w1 hown' hgrow _)
  go_ret
  refine ⟨?_, _, rfl, ?_⟩
  · exact (Below.refl _ _).grown hgrow (Nat.le_refl _) (fun k hk => by cases hk)
  · rw [Nat.zero_add] at hown'; exact hown'
theorem OwnB.of_owns {w : World} {b k : Nat} {v : Value} {z : Nat → Int} (h : w.ownsRow b 5 1 v k (clN k z)) (hk : 0 < k) : ∃ g c, v = .slice (some ⟨g, 0, none⟩) k c ∧ b ≤ g ∧ OwnB g w k z := by
  obtain ⟨_, ⟨_, h0⟩ | ⟨g, cap, cur, he, hb, h3, h4, h5, h6, h7⟩⟩ := h
  · omega
  · refine ⟨g, cap, he, hb, cur, h3, fun j hj => ?_⟩
    have hc := clN_at (z := z) hj
    rw [← h7, List.getElem?_take_of_lt (by omega), Array.getElem?_toList] at hc
    exact hc
theorem rs_of_owns0 {w : World} {b : Nat} {v : Value} {z : Nat → Int} (h : w.ownsRow b 5 1 v 0 (clN 0 z)) : ∃ a c, v = .slice a 0 c ∧ RS w v [] := by
  obtain ⟨_, ⟨rfl, h0⟩ | ⟨g, cap, cur, he, hb, h3, h4, h5, h6, h7⟩⟩ := h
  · exact ⟨_, _, rfl, .inl ⟨0, rfl, rfl⟩⟩
  · subst he; exact ⟨_, _, rfl, .inr ⟨g, 0, cap, rfl, fun k hk => by simp at hk⟩⟩
theorem copy_zero {a : Option Addr} {c : Nat} (h : a = none → c = 0) (w : World) : Calls Try.prog 22 #[.slice a 0 c] w fun e w' => On w w' ∧ ∃ a' c', e = .returned (.slice a' 0 c') ∧ RS w' (.slice a' 0 c') [] := by
  cases a with
  | none =>
    obtain rfl := h rfl
    refine (copy_nil w).mono ?_
    rintro e w' ⟨rfl, rfl⟩
    exact ⟨On.refl _, none, 0, rfl, .inl ⟨0, rfl, rfl⟩⟩
  | some ad =>
    refine (copy_some (z := fun _ => 0) (by omega) (fun h => by omega)).mono ?_
    rintro e w' ⟨h1, v, rfl, h2⟩
    obtain ⟨a', c', rfl, h3⟩ := rs_of_owns0 h2
    exact ⟨h1, a', c', rfl, h3⟩
theorem OwnB.rs {g k c : Nat} {w : World} {z : Nat → Int} {zs : List Int} (h : OwnB g w k z) (hl : zs.length = k) (hz : ∀ j, j < k → z j = zs.getD j 0) : RS w (.slice (some ⟨g, 0, none⟩) k c) zs := by
  obtain ⟨cur, h1, h2⟩ := h
  refine .inr ⟨g, 0, c, by rw [hl], fun j hj => ?_⟩
  rw [Nat.zero_add, blk_cell h1 j (h2 j (by omega)), hz j (by omega)]
theorem row_rs {w : World} {B k o : Nat} {M : Nat → Int} (h : w.heap[B]? = some (.cells (rwA k fun i => M (o + i)) 5 (0, 0))) : RS w (.slice (some ⟨B, 0, none⟩) k k) (rdL M o k) := by
  refine .inr ⟨B, 0, k, by rw [rdL_len], fun j hj => ?_⟩
  rw [rdL_len] at hj
  rw [Nat.zero_add, rdL_get M o hj, blk_cell h j (rw_get _ hj)]
theorem OwnB.on {g k : Nat} {w w' : World} {z : Nat → Int} (h : OwnB g w k z) (hw : On w w') : OwnB g w' k z := by
  obtain ⟨cur, h1, h2⟩ := h
  exact ⟨cur, hw.keep h1, h2⟩
theorem OwnB.cell {g k : Nat} {w : World} {z : Nat → Int} (h : OwnB g w k z) {j : Nat} (hj : j < k) : w.cell? ⟨g, j, none⟩ = some (.int .u8 (z j)) ∧ w.frozen? ⟨g, j, none⟩ = false := by
  obtain ⟨cur, h1, h2⟩ := h
  exact ⟨blk_cell h1 j (h2 j hj), blk_free h1 j⟩
theorem OwnB.congr {g k : Nat} {w : World} {z z' : Nat → Int} (h : OwnB g w k z) (hz : ∀ j, j < k → z j = z' j) : OwnB g w k z' := by
  obtain ⟨cur, h1, h2⟩ := h
  exact ⟨cur, h1, fun j hj => by rw [h2 j hj, hz j hj]⟩
theorem RS.on {w w' : World} {s : Value} {zs : List Int} (h : RS w s zs) (hw : On w w') : RS w' s zs := by
  rcases h with h | ⟨b, off, c, h1, h2⟩
  · exact .inl h
  · exact .inr ⟨b, off, c, h1, fun k hk => (Below.cell hw (p := ⟨b, off + k, none⟩) (block_of_cell (h2 k hk))).trans (h2 k hk)⟩
theorem OwnB.ram {g k n r N : Nat} {M : Nat → Int} {w : World} {z : Nat → Int} (h : OwnB g w k z) (R : RamAt n r N M w) (i : Nat) (v : Value) : RamAt n r N M (w.setCell ⟨g, i, none⟩ v) := by
  obtain ⟨cur, h1, _⟩ := h
  exact R.but h1 (by decide) (by decide) ((But.refl _ _).setCell i v)
end Go.Proofs.Ytkjkmekkcnmjnaa
