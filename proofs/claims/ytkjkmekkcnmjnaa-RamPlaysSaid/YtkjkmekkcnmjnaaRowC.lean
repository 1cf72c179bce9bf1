/- Slices that came in: no longer than their capacity. Plain lemma, no program. Conditions: none. -/
import Derived.Test.YtkjkmekkcnmjnaaRow
namespace Go.Proofs.Ytkjkmekkcnmjnaa
open Go.ChangeShapes Go.WideShapes
theorem open_caps {H : Type} {enc : TypeId × Value → H} {P : Program} {w : World} {base : Nat} {spare : Nat → Bool} {held : Bool} {t e : TypeId} {a0 : Option Addr} {len cap : Nat} {d : DataW H} {p : List MemPlace}
    (ht : P.underlying t = some (.slice e)) (h : DataW.Trod enc P w base spare held t (.slice a0 len cap) d p) : (len ≤ cap ∧ cap ≤ maxLen) ∧ (a0 = none → len = 0 ∧ cap = 0) := by
  obtain ⟨fuel, hf⟩ := h
  rcases Go.Deep.open_slice ht (by simpa [Value.cells] using hf) with ⟨hcs, _⟩ | ⟨a, len', cap', m, k, D, Pl, hcs, _, hle, hm, _⟩
  · simp at hcs
    obtain ⟨_, rfl, rfl⟩ := hcs
    exact ⟨⟨Nat.le_refl _, Nat.zero_le _⟩, fun _ => ⟨rfl, rfl⟩⟩
  · simp at hcs
    obtain ⟨rfl, rfl, rfl⟩ := hcs
    exact ⟨⟨hle, hm⟩, fun h => by cases h⟩
/-- bytes that came in -/
theorem row_bytes {w : World} {a : Option Addr} {l : Nat} (h : IsRow [.int .u8] w a l) : ∃ z : Nat → Int, (∀ i, 0 ≤ z i ∧ z i < 256) ∧ (l = 0 ∨ ∃ b off, a = some ⟨b, off, none⟩ ∧ b < w.heap.size ∧ ∀ i, i < l → w.cell? ⟨b, off + i, none⟩ = some (.int .u8 (z i))) := by
  obtain ⟨_, h0 | ⟨b, off, ha, hb, hc⟩⟩ := h
  · exact ⟨fun _ => 0, fun _ => ⟨Int.le_refl 0, by show (0 : Int) < 256; omega⟩, .inl h0⟩
  · have key : ∀ i, i < l → ∃ v : Int, 0 ≤ v ∧ v < 256 ∧ w.cell? ⟨b, off + i, none⟩ = some (.int .u8 v) := fun i hi => by
      obtain ⟨cs, hf, hx⟩ := hc i hi
      obtain ⟨v, vs, rfl, hw, rfl⟩ := hf
      have := hx 0 (by simp)
      simp at this
      simp [Lit.wf, IntKind.bits, IntKind.signed, IntKind.min, IntKind.max] at hw
      exact ⟨v, by omega, by omega, this⟩
    refine ⟨fun i => if hi : i < l then Classical.choose (key i hi) else 0, fun i => ?_, .inr ⟨b, off, ha, hb, fun i hi => ?_⟩⟩
    · by_cases hi : i < l
      · have := Classical.choose_spec (key i hi)
        simp only [hi, dif_pos]; exact ⟨this.1, this.2.1⟩
      · simp only [hi, dif_neg, not_false_eq_true]; omega
    · have := Classical.choose_spec (key i hi)
      simp only [hi, dif_pos]; exact this.2.2
/-- bools that came in -/
theorem row_bools {w : World} {a : Option Addr} {l : Nat} (h : IsRow [.bool] w a l) : ∃ z : Nat → Bool, l = 0 ∨ ∃ b off, a = some ⟨b, off, none⟩ ∧ b < w.heap.size ∧ ∀ i, i < l → w.cell? ⟨b, off + i, none⟩ = some (.bool (z i)) := by
  obtain ⟨_, h0 | ⟨b, off, ha, hb, hc⟩⟩ := h
  · exact ⟨fun _ => false, .inl h0⟩
  · have key : ∀ i, i < l → ∃ v : Bool, w.cell? ⟨b, off + i, none⟩ = some (.bool v) := fun i hi => by
      obtain ⟨cs, hf, hx⟩ := hc i hi
      obtain ⟨v, vs, rfl, rfl⟩ := hf
      have := hx 0 (by simp)
      simp at this
      exact ⟨v, this⟩
    refine ⟨fun i => if hi : i < l then Classical.choose (key i hi) else false, .inr ⟨b, off, ha, hb, fun i hi => ?_⟩⟩
    have := Classical.choose_spec (key i hi)
    simp only [hi, dif_pos]; exact this
end Go.Proofs.Ytkjkmekkcnmjnaa
