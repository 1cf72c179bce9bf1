/- Structs and arrays by value that hold integers and bools alone, whatever their shape: opened into their cells. Plain lemmas, no program. Conditions: none. -/
import Derived.ProofKit
import Derived.OpenShut
import Derived.KernelRfl
namespace Go.Proofs.Ytmclkllmpamblaa
open Go.ChangeShapes Go.WideShapes

inductive Leaf where
  | int (k : IntKind)
  | bool
/-- the values that lie there are of these leaves -/
def Fits : List Leaf → List Value → Prop
  | [], vs => vs = []
  | .int k :: ls, vs => ∃ a vs', vs = .int k a :: vs' ∧ (Lit.int k a).wf = true ∧ Fits ls vs'
  | .bool :: ls, vs => ∃ b vs', vs = .bool b :: vs' ∧ Fits ls vs'
theorem Fits.append : ∀ {l1 l2 : List Leaf} {a b : List Value}, Fits l1 a → Fits l2 b → Fits (l1 ++ l2) (a ++ b)
  | [], _, _, _, h1, h2 => by subst h1; exact h2
  | .int k :: ls, _, _, _, h1, h2 => by
    obtain ⟨x, vs, rfl, hw, h⟩ := h1
    exact ⟨x, _, rfl, hw, Fits.append h h2⟩
  | .bool :: ls, _, _, _, h1, h2 => by
    obtain ⟨x, vs, rfl, h⟩ := h1
    exact ⟨x, _, rfl, Fits.append h h2⟩
theorem Fits.length : ∀ {l : List Leaf} {a : List Value}, Fits l a → a.length = l.length
  | [], _, h => by subst h; rfl
  | .int _ :: _, _, h => by obtain ⟨_, _, rfl, _, h⟩ := h; simp [Fits.length h]
  | .bool :: _, _, h => by obtain ⟨_, _, rfl, h⟩ := h; simp [Fits.length h]

/-- the leaves of fields that lie one behind the other -/
def packed (P : Program) (lv : TypeId → Option (List Leaf)) : Nat → List Field → Option (List Leaf)
  | _, [] => some []
  | off, f :: fs =>
    match lv f.type with
    | none => none
    | some l => if f.offset = off ∧ P.cellsOf f.type = l.length then (packed P lv (off + l.length) fs).map (l ++ ·) else none
def repeated : Nat → List Leaf → List Leaf
  | 0, _ => []
  | n + 1, l => l ++ repeated n l
def leaves (P : Program) : Nat → TypeId → Option (List Leaf)
  | 0, _ => none
  | n + 1, t =>
    match P.underlying t with
    | some .bool => some [.bool]
    | some (.int k) => some [.int k]
    | some (.struct fs) => packed P (leaves P n) 0 fs.toList
    | some (.array m e) => match leaves P n e with
      | none => none
      | some l => if P.cellsOf e = l.length then some (repeated m l) else none
    | _ => none

section
variable {H : Type} {enc : TypeId × Value → H} {P : Program} {w : World} {base : Nat} {spare : Nat → Bool} {held : Bool}
theorem repeated_length (n : Nat) (l : List Leaf) : (repeated n l).length = n * l.length := by
  induction n with
  | zero => simp [repeated]
  | succ n ih => simp [repeated, ih, Nat.succ_mul]; omega
theorem repeated_fits {l : List Leaf} {cs : List Value} : ∀ (m off : Nat), (∀ i, i < m → Fits l ((cs.drop (off + i * l.length)).take l.length)) → Fits (repeated m l) ((cs.drop off).take (m * l.length)) := by
  intro m
  induction m with
  | zero => intro off _; simp [repeated, Fits]
  | succ m ih =>
    intro off h
    have h0 := h 0 (by omega)
    rw [Nat.zero_mul, Nat.add_zero] at h0
    have h1 := ih (off + l.length) (fun i hi => by
      have := h (i + 1) (by omega)
      rw [Nat.succ_mul, Nat.add_comm (i * l.length), ← Nat.add_assoc] at this
      exact this)
    rw [Nat.succ_mul, Nat.add_comm (m * l.length), List.take_add, List.drop_drop]
    exact h0.append h1
theorem leaves_fits : ∀ (n : Nat) (t : TypeId) (ls : List Leaf), leaves P n t = some ls → ∀ (fuel : Nat) (cs : List Value) (x : DataW H × List MemPlace), DataW.trod enc P w base spare held fuel t cs = some x → cs.length = P.cellsOf t → P.cellsOf t = ls.length → Fits ls cs := by
  intro n
  induction n with
  | zero => intro t ls h; simp [leaves] at h
  | succ n ih =>
    intro t ls h fuel cs x hx hlen hc
    unfold leaves at h
    cases hu : P.underlying t with
    | none => rw [hu] at h; simp at h
    | some d =>
      rw [hu] at h
      cases d with
      | bool =>
        simp at h; subst h
        obtain ⟨b, rfl, _⟩ := DataW.trod_bool hu hx
        exact ⟨b, [], rfl, rfl⟩
      | int k =>
        simp at h; subst h
        obtain ⟨a, rfl, _, hw⟩ := DataW.trod_int hu hx
        exact ⟨a, [], rfl, hw, rfl⟩
      | struct fs =>
        simp only [] at h
        obtain ⟨xs, m, rfl, _, _, hl, hf⟩ := DataW.trod_struct hu hx
        have hy : ∀ f ∈ fs.toList, ∃ y, DataW.trod enc P w base spare held m f.type ((cs.drop f.offset).take (P.cellsOf f.type)) = some y := by
          intro f hf'
          obtain ⟨i, hi, he⟩ := List.getElem_of_mem hf'
          have hi' : i < fs.size := by simpa using hi
          refine ⟨xs[i]'(by omega), ?_⟩
          rw [hf i f (by rw [← he]; simp [hi']), List.getElem?_eq_getElem]
        have hall : ∀ (gs : List Field) (off : Nat) (rs : List Leaf), packed P (leaves P n) off gs = some rs → (∀ f ∈ gs, ∃ y, DataW.trod enc P w base spare held m f.type ((cs.drop f.offset).take (P.cellsOf f.type)) = some y) → off + rs.length ≤ cs.length → Fits rs ((cs.drop off).take rs.length) := by
          intro gs
          induction gs with
          | nil => intro off rs hp _ _; simp [packed] at hp; subst hp; simp [Fits]
          | cons f gs ihg =>
            intro off rs hp hy hle
            unfold packed at hp
            cases e : leaves P n f.type with
            | none => rw [e] at hp; simp at hp
            | some l =>
              rw [e] at hp
              simp only [] at hp
              by_cases c : f.offset = off ∧ P.cellsOf f.type = l.length
              · rw [if_pos c] at hp
                cases e2 : packed P (leaves P n) (off + l.length) gs with
                | none => rw [e2] at hp; simp at hp
                | some r =>
                  rw [e2] at hp
                  simp at hp
                  subst hp
                  rw [List.length_append] at hle
                  obtain ⟨y, h0⟩ := hy f (List.mem_cons_self ..)
                  rw [c.1, c.2] at h0
                  have h1 := ih _ _ e _ _ _ h0 (by rw [List.length_take, List.length_drop, c.2]; omega) c.2
                  have h2 := ihg _ _ e2 (fun g hg => hy g (List.mem_cons_of_mem _ hg)) (by omega)
                  rw [List.length_append, List.take_add, List.drop_drop]
                  exact h1.append h2
              · rw [if_neg c] at hp; simp at hp
        have := hall fs.toList 0 ls h hy (by omega)
        rw [List.drop_zero, ← hc, ← hlen, List.take_length] at this
        exact this
      | array m e =>
        simp only [] at h
        cases e1 : leaves P n e with
        | none => rw [e1] at h; simp at h
        | some l =>
          rw [e1] at h
          simp only [] at h
          by_cases c : P.cellsOf e = l.length
          · rw [if_pos c] at h
            simp at h
            subst h
            obtain ⟨xs, k, rfl, _, _, hl, hf⟩ := DataW.trod_array hu hx
            rw [repeated_length] at hc
            have hall : ∀ i, i < m → Fits l ((cs.drop (0 + i * l.length)).take l.length) := by
              intro i hi
              have h0 := hf i hi
              rw [List.getElem?_eq_getElem (by omega), c] at h0
              rw [Nat.zero_add]
              have hle : (i + 1) * l.length ≤ m * l.length := Nat.mul_le_mul_right _ (by omega)
              rw [Nat.succ_mul] at hle
              exact ih _ _ e1 _ _ _ h0 (by rw [List.length_take, List.length_drop, c]; omega) c
            have := repeated_fits m 0 hall
            rw [List.drop_zero, ← hc, ← hlen, List.take_length] at this
            exact this
          · rw [if_neg c] at h; simp at h
      | _ => simp at h
/-- a struct or an array of integers and bools, by value -/
theorem open_flat {r : Reach} {b0 : Nat} {t : TypeId} {v : Value} {d : DataW H} {p : List MemPlace} (n : Nat) (ls : List Leaf) (hl : leaves P n t = some ls) (hc : P.cellsOf t = ls.length)
    (hu : (∃ fs, P.underlying t = some (.struct fs)) ∨ ∃ m e, P.underlying t = some (.array m e)) (hv : Value.okWide P w r b0 t v) (h : DataW.Trod enc P w base spare held t v d p) :
    ∃ cs, v = .agg cs.toArray ∧ Fits ls cs := by
  have hv' : ∃ cs, v = .agg cs ∧ cs.size = P.cellsOf t := by
    rcases hu with ⟨fs, hu⟩ | ⟨m, e, hu⟩
    · exact okWide_struct hu hv
    · unfold Value.okWide at hv; rw [hu] at hv
      obtain ⟨cs, h1, h2, _⟩ := hv
      exact ⟨cs, h1, h2⟩
  obtain ⟨cs, rfl, hsz⟩ := hv'
  obtain ⟨fuel, hf⟩ := h
  refine ⟨cs.toList, by simp, ?_⟩
  exact leaves_fits n t ls hl fuel _ _ (by simpa [Value.cells] using hf) (by simpa using hsz) hc
end
end Go.Proofs.Ytmclkllmpamblaa
