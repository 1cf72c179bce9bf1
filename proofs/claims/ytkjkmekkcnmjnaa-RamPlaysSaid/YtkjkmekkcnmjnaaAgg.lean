/- Structs and arrays of integers and bools by value, as a whole: compared with themselves, loaded, their zero. Plain lemmas, no program. Conditions: none. -/
import Derived.Test.YtkjkmekkcnmjnaaFlat
import Derived.Test.YtkjkmekkcnmjnaaBut
import Derived.DeepKeys
import Derived.Laws.Tables
import Derived.Laws.StructEq
import Derived.Deep.WholeRow
namespace Go.Proofs.Ytkjkmekkcnmjnaa
open Go.RowKit

theorem Fits.cut : ∀ {l1 l2 : List Leaf} {cs : List Value}, Fits (l1 ++ l2) cs → Fits l1 (cs.take l1.length) ∧ Fits l2 (cs.drop l1.length)
  | [], _, _, h => ⟨by simp [Fits], by simpa using h⟩
  | .int k :: ls, l2, _, h => by
    obtain ⟨a, vs, rfl, hw, h⟩ := h
    obtain ⟨h1, h2⟩ := Fits.cut h
    exact ⟨⟨a, _, rfl, hw, h1⟩, by simpa using h2⟩
  | .bool :: ls, l2, _, h => by
    obtain ⟨a, vs, rfl, h⟩ := h
    obtain ⟨h1, h2⟩ := Fits.cut h
    exact ⟨⟨a, _, rfl, h1⟩, by simpa using h2⟩
theorem Fits.chunk {l : List Leaf} : ∀ (m : Nat) {cs : List Value}, Fits (repeated m l) cs → ∀ i, i < m → Fits l ((cs.drop (i * l.length)).take l.length)
  | 0, _, _, i, hi => by omega
  | m + 1, cs, h, i, hi => by
    obtain ⟨h1, h2⟩ := Fits.cut h
    cases i with
    | zero => simpa using h1
    | succ i =>
      have := Fits.chunk m h2 i (by omega)
      rw [List.drop_drop] at this
      rw [Nat.succ_mul, Nat.add_comm (i * l.length)]
      exact this
theorem Fits.one : ∀ {ls : List Leaf} {cs : List Value}, Fits ls cs → ∀ v ∈ cs, v.oneCell' = true
  | [], _, h, v, hv => by subst h; simp at hv
  | .int k :: ls, _, h, v, hv => by
    obtain ⟨a, vs, rfl, _, h⟩ := h
    rcases List.mem_cons.1 hv with rfl | hv
    · rfl
    · exact Fits.one h v hv
  | .bool :: ls, _, h, v, hv => by
    obtain ⟨a, vs, rfl, h⟩ := h
    rcases List.mem_cons.1 hv with rfl | hv
    · rfl
    · exact Fits.one h v hv
theorem mapM_some {α β : Type} {f : α → Option β} : ∀ (l : List α), (∀ x ∈ l, ∃ y, f x = some y) → ∃ ys, l.mapM f = some ys
  | [], _ => ⟨[], rfl⟩
  | x :: l, h => by
    obtain ⟨y, hy⟩ := h x (by simp)
    obtain ⟨ys, hys⟩ := mapM_some l (fun z hz => h z (by simp [hz]))
    exact ⟨y :: ys, by rw [List.mapM_cons, hy, hys]; rfl⟩
/-- a value that fits a leaf -/
def LeafOk : Leaf → Value → Prop
  | .int k, v => ∃ a, v = .int k a ∧ (Lit.int k a).wf = true
  | .bool, v => ∃ b, v = .bool b
theorem Fits.get : ∀ {ls : List Leaf} {cs : List Value}, Fits ls cs → ∀ (i : Nat) (lf : Leaf), ls[i]? = some lf → ∃ v, cs[i]? = some v ∧ LeafOk lf v
  | [], _, _, i, lf, hi => by simp at hi
  | .int k :: ls, _, h, i, lf, hi => by
    obtain ⟨a, vs, rfl, hw, h⟩ := h
    cases i with
    | zero => simp at hi; subst hi; exact ⟨_, rfl, a, rfl, hw⟩
    | succ i => exact Fits.get h i lf (by simpa using hi)
  | .bool :: ls, _, h, i, lf, hi => by
    obtain ⟨b, vs, rfl, h⟩ := h
    cases i with
    | zero => simp at hi; subst hi; exact ⟨_, rfl, b, rfl⟩
    | succ i => exact Fits.get h i lf (by simpa using hi)
theorem Fits.set : ∀ {ls : List Leaf} {cs : List Value}, Fits ls cs → ∀ (i : Nat) (lf : Leaf) (v : Value), ls[i]? = some lf → LeafOk lf v → Fits ls (cs.set i v)
  | [], _, _, i, lf, v, hi, _ => by simp at hi
  | .int k :: ls, _, h, i, lf, v, hi, hv => by
    obtain ⟨a, vs, rfl, hw, h⟩ := h
    cases i with
    | zero => simp at hi; subst hi; obtain ⟨b, rfl, hb⟩ := hv; exact ⟨b, vs, rfl, hb, h⟩
    | succ i => exact ⟨a, _, rfl, hw, Fits.set h i lf v (by simpa using hi) hv⟩
  | .bool :: ls, _, h, i, lf, v, hi, hv => by
    obtain ⟨b, vs, rfl, h⟩ := h
    cases i with
    | zero => simp at hi; subst hi; obtain ⟨c, rfl⟩ := hv; exact ⟨c, vs, rfl, h⟩
    | succ i => exact ⟨b, _, rfl, Fits.set h i lf v (by simpa using hi) hv⟩
/-- .. of arrays -/
theorem fits_set {ls : List Leaf} {cs : Array Value} (h : Fits ls cs.toList) (i : Nat) (lf : Leaf) (v : Value) (hi : ls[i]? = some lf) (hv : LeafOk lf v) : Fits ls (cs.setIfInBounds i v).toList := by
  rw [Array.toList_setIfInBounds]; exact h.set i lf v hi hv
theorem fits_one {ls : List Leaf} {cs : Array Value} (h : Fits ls cs.toList) : cs.all (·.oneCell') = true :=
  Array.all_eq_true_iff_forall_mem.2 fun v hv => h.one v (Array.mem_toList_iff.2 hv)
section
variable {P : Program}
theorem packed_fits {lv : TypeId → Option (List Leaf)} : ∀ (fs : List Field) (off : Nat) (ls : List Leaf), packed P lv off fs = some ls → ∀ cs : List Value, Fits ls (cs.drop off) →
    ∀ f ∈ fs, ∃ l, lv f.type = some l ∧ P.cellsOf f.type = l.length ∧ Fits l ((cs.drop f.offset).take l.length)
  | [], _, _, _, _, _, f, hf => by simp at hf
  | g :: fs, off, ls, h, cs, hfit, f, hf => by
    unfold packed at h
    cases hg : lv g.type with
    | none => rw [hg] at h; simp at h
    | some l =>
      rw [hg] at h
      simp only at h
      split at h
      · next c =>
        cases hp : packed P lv (off + l.length) fs with
        | none => rw [hp] at h; simp at h
        | some ls' =>
          rw [hp] at h
          simp at h
          subst h
          obtain ⟨h1, h2⟩ := Fits.cut hfit
          rcases List.mem_cons.1 hf with rfl | hf
          · exact ⟨l, hg, c.2, by rw [c.1]; exact h1⟩
          · exact packed_fits fs _ _ hp cs (by rw [List.drop_drop] at h2; exact h2) f hf
      · simp at h
theorem lits_fit : ∀ (n : Nat) (t : TypeId) (ls : List Leaf), leaves P n t = some ls → P.keyTypeAt n t = true → P.cellsOf t = ls.length → ∀ cs, Fits ls cs → ∃ lx, P.keyLits n t cs = some lx
  | 0, _, _, h, _, _, _, _ => by simp [leaves] at h
  | n + 1, t, ls, h, hk, hc, cs, hf => by
    unfold leaves at h
    unfold Program.keyTypeAt at hk
    cases hu : P.underlying t with
    | none => rw [hu] at h; simp at h
    | some kd =>
      rw [hu] at h hk
      cases kd with
      | bool => simp at h; subst h; obtain ⟨b, vs, rfl, rfl⟩ := hf; exact ⟨[.bool b], by simp [Program.keyLits, hu]⟩
      | int k => simp at h; subst h; obtain ⟨a, vs, rfl, hw, rfl⟩ := hf; exact ⟨[.int k a], by simp [Program.keyLits, hu, hw]⟩
      | struct fs =>
        simp only [Bool.and_eq_true, Array.all_eq_true_iff_forall_mem] at h hk
        have hl := hf.length
        have hall : ∀ f ∈ fs.toList, ∃ y, P.keyLits n f.type ((cs.drop f.offset).take (P.cellsOf f.type)) = some y := by
          intro f hm
          obtain ⟨l, h1, h2, h3⟩ := packed_fits fs.toList 0 ls h cs (by simpa using hf) f hm
          rw [h2]
          exact lits_fit n f.type l h1 (by have := hk.1.1 f (Array.mem_toList_iff.1 hm); simp at this; exact this.2) h2 _ h3
        obtain ⟨ys, hys⟩ := mapM_some _ hall
        refine ⟨ys.flatten, ?_⟩
        unfold Program.keyLits
        simp only [hu]
        rw [if_pos ⟨by rw [hl, hc], Array.all_eq_true_iff_forall_mem.2 fun f hm => by have := hk.1.1 f hm; simp at this; simpa using this.1⟩, hys]
        rfl
      | array m e =>
        simp only at h hk
        have hl := hf.length
        cases he : leaves P n e with
        | none => rw [he] at h; simp at h
        | some l =>
          rw [he] at h
          simp only at h
          split at h
          · next c =>
            simp at h
            subst h
            have hall : ∀ i ∈ List.range m, ∃ y, P.keyLits n e ((cs.drop (i * P.cellsOf e)).take (P.cellsOf e)) = some y := by
              intro i hi
              rw [c]
              exact lits_fit n e l he hk c _ (Fits.chunk m hf i (List.mem_range.1 hi))
            obtain ⟨ys, hys⟩ := mapM_some _ hall
            refine ⟨ys.flatten, ?_⟩
            unfold Program.keyLits
            simp only [hu]
            rw [if_pos (by rw [hl, hc]), hys]
            rfl
          · simp at h
      | _ => simp at h
/-- a value of such a type is itself -/
theorem eq_self {n : Nat} {t : TypeId} {ls : List Leaf} {cs : Array Value} (hl : leaves P n t = some ls) (hk : P.keyTypeAt n t = true) (hc : P.cellsOf t = ls.length) (hn : n ≤ 10000)
    (hu : (match P.underlying t with | some (.struct _) | some (.array _ _) => true | _ => false) = true) (hf : Fits ls cs.toList) (w : World) :
    (Op.equalIn 10000 t (.agg cs) (.agg cs)).run P w = .ok true w := by
  obtain ⟨lx, hx⟩ := lits_fit n t ls hl hk hc _ hf
  have hform : (Value.agg cs).formed P t = true := by
    have := hf.length
    unfold Value.formed
    split at hu
    · next h => simp only [h]; simp [hc]; simpa using this
    · next h => simp only [h]; simp [hc]; simpa using this
    · cases hu
  obtain ⟨r, h1, h2⟩ := run_equalIn_deep (P := P) (10000 - n) n t hk w n n (.agg cs) (.agg cs) lx lx hform hform (by simpa [Value.cells] using hx) (by simpa [Value.cells] using hx)
  rw [show 10000 - n + n = 10000 by omega] at h1
  rw [h1, h2.2 rfl]
theorem loadAt_row {w : World} {g : Nat} {t ty : TypeId} {cs : Array Value} {fr : Nat × Nat} {d : TypeDesc} (hg : w.heap[g]? = some (.cells cs t fr)) (hu : P.underlying ty = some d)
    (hd : (match d with | .struct _ | .array _ _ => true | _ => false) = true) (hi : (P.info? ty).map (·.size) = some cs.size) : (Instr.loadAt ty (.pointer (some ⟨g, 0, none⟩))).run P w = .ok (.agg cs) w := by
  simp only [Instr.loadAt, Instr.sureAddr, Sem.run_bind, Sem.run_pure, Result.andThen]
  exact run_loadVar_row w g t ty cs fr d hg hu hd hi
end
end Go.Proofs.Ytkjkmekkcnmjnaa
