/- Slices that came in, whose elements are structs (or arrays) of integers and bools alone, or such a one: opened at every index. Plain lemmas, no program. Conditions: none. -/
import Derived.Test.YtmclkllmpamblaaFlat
import Derived.Deep.Slices
import Derived.OpenShut
namespace Go.Proofs.Ytmclkllmpamblaa
open Go.ChangeShapes Go.WideShapes

/-- a slice whose elements hold these leaves: its pointer, its length, where they lie -/
def IsRow (ls : List Leaf) (w : World) (a0 : Option Addr) (len : Nat) : Prop :=
  len ≤ maxLen ∧ (len = 0 ∨ ∃ b off, a0 = some ⟨b, off, none⟩ ∧ b < w.heap.size ∧ ∀ i, i < len → ∃ cs, Fits ls cs ∧ ∀ j, j < ls.length → w.cell? ⟨b, off + i * ls.length + j, none⟩ = cs[j]?)
section
variable {H : Type} {enc : TypeId × Value → H} {P : Program} {w : World} {base : Nat} {spare : Nat → Bool} {held : Bool}
theorem open_row {r : Reach} {b0 : Nat} {t e : TypeId} {v : Value} {d : DataW H} {p : List MemPlace} (n : Nat) (ls : List Leaf) (hl : leaves P n e = some ls) (hc : P.cellsOf e = ls.length) (hpos : 0 < ls.length)
    (ht : P.underlying t = some (.slice e)) (hv : Value.okWide P w r b0 t v) (h : DataW.Trod enc P w base spare held t v d p) :
    ∃ a0 len cap, v = .slice a0 len cap ∧ IsRow ls w a0 len := by
  obtain ⟨a0, len, cap, rfl⟩ := okWide_slice ht hv
  obtain ⟨fuel, hf⟩ := h
  refine ⟨a0, len, cap, rfl, ?_⟩
  rcases Go.Deep.open_slice ht (by simpa [Value.cells] using hf) with ⟨hcs, _⟩ | ⟨a, len', cap', m, k, D, Pl, hcs, _, hle, hm, hmm, _, hx⟩
  · simp at hcs; obtain ⟨_, rfl, _⟩ := hcs
    exact ⟨by unfold maxLen; omega, .inl rfl⟩
  · simp at hcs
    obtain ⟨rfl, rfl, rfl⟩ := hcs
    refine ⟨by omega, ?_⟩
    rcases Nat.eq_zero_or_pos len with hz | hz
    · exact .inl hz
    · right
      have hlm : len ≤ m := by rw [hmm]; split <;> omega
      obtain ⟨b, off, spot⟩ := a
      have hspot : spot = none := by
        obtain ⟨cs', h1, _⟩ := hx 0 (by omega)
        obtain ⟨_, hlen, hcell⟩ := World.cells?_some h1
        have h0 := hcell 0 (by omega)
        have : ∃ v, cs'[0]? = some v := ⟨cs'[0]'(by omega), List.getElem?_eq_getElem (by omega)⟩
        obtain ⟨v, hv⟩ := this
        rw [hv] at h0
        simpa [Addr.add] using World.cell?_spot h0
      subst hspot
      have key : ∀ i, i < len → ∃ cs, Fits ls cs ∧ ∀ j, j < ls.length → w.cell? ⟨b, off + i * ls.length + j, none⟩ = cs[j]? := by
        intro i hi
        obtain ⟨cs', h1, h2⟩ := hx i (by omega)
        obtain ⟨_, hlen, hcell⟩ := World.cells?_some h1
        refine ⟨cs', leaves_fits n e ls hl _ _ _ h2 hlen hc, fun j hj => ?_⟩
        rw [← hcell j (by omega), hc, Go.WideShapes.add_plain, Go.WideShapes.add_plain]
      refine ⟨b, off, rfl, ?_, key⟩
      obtain ⟨cs, hfit, hcell⟩ := key 0 hz
      have h0 := hcell 0 hpos
      have hv : cs[0]? = some (cs[0]'(by rw [Fits.length hfit]; exact hpos)) := List.getElem?_eq_getElem _
      rw [hv] at h0
      exact World.block_lt_of_cell? w _ h0
end
end Go.Proofs.Ytmclkllmpamblaa
