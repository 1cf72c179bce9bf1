/- A hart as words: what its cells are, one cell written, its CSRs and its registers out of it. Plain definitions and lemmas. Conditions: none. -/
import Derived.Test.YtleolldgpoeabaaCsrM
namespace Go.Proofs.Ytleolldgpoeabaa
open Go.RowKit

/-- the cells of a hart: h by the cell's number (1 and 64 play no part), p the privilege, r whether there is a reservation -/
def hL (h : Nat → BitVec 64) (p : Int) (r : Bool) : Array Value :=
  Array.ofFn (n := 66) fun i => if i.val = 1 then .int .i64 p else if i.val = 64 then .bool r else .int .u64 (u (h i.val))
theorem hV_is : ∃ f : (Nat → BitVec 64) → Int → Bool → Array Value, ∀ h p r, f h p r = hL h p r := ⟨hL, fun _ _ _ => rfl⟩
noncomputable def hV : (Nat → BitVec 64) → Int → Bool → Array Value := Classical.choose hV_is
theorem hV_eq (h : Nat → BitVec 64) (p : Int) (r : Bool) : hV h p r = hL h p r := Classical.choose_spec hV_is h p r
theorem hV_size (h : Nat → BitVec 64) (p : Int) (r : Bool) : (hV h p r).size = 66 := by rw [hV_eq]; simp [hL]
theorem hV_at (h : Nat → BitVec 64) (p : Int) (r : Bool) (i : Nat) : (hV h p r)[i]? = if i < 66 then some (if i = 1 then .int .i64 p else if i = 64 then .bool r else .int .u64 (u (h i))) else none := by
  rw [hV_eq]; unfold hL; rw [Array.getElem?_ofFn]
  split <;> rfl
theorem hV_get (h : Nat → BitVec 64) (p : Int) (r : Bool) (i : Nat) (h1 : i < 66) (h2 : i ≠ 1) (h3 : i ≠ 64) : (hV h p r)[i]? = some (.int .u64 (u (h i))) := by
  rw [hV_at, if_pos h1, if_neg h2, if_neg h3]
theorem hV_priv (h : Nat → BitVec 64) (p : Int) (r : Bool) : (hV h p r)[1]? = some (.int .i64 p) := by rw [hV_at]; rfl
theorem hV_res (h : Nat → BitVec 64) (p : Int) (r : Bool) : (hV h p r)[64]? = some (.bool r) := by rw [hV_at]; rfl
theorem hV_set (h : Nat → BitVec 64) (p : Int) (r : Bool) (i : Nat) (v : BitVec 64) (h2 : i ≠ 1) (h3 : i ≠ 64) : (hV h p r).setIfInBounds i (.int .u64 (u v)) = hV (upd h i v) p r := by
  apply Array.ext_getElem?
  intro j
  rw [Array.getElem?_setIfInBounds, hV_at, hV_at, hV_size]
  unfold upd
  by_cases e : i = j
  · subst e; rw [if_pos rfl, if_pos rfl, if_neg h2, if_neg h3]
  · rw [if_neg e, if_neg (Ne.symm e)]
theorem hV_setp (h : Nat → BitVec 64) (p : Int) (r : Bool) (v : Int) : (hV h p r).setIfInBounds 1 (.int .i64 v) = hV h v r := by
  apply Array.ext_getElem?
  intro j
  rw [Array.getElem?_setIfInBounds, hV_at, hV_at, hV_size]
  by_cases e : 1 = j
  · subst e; rfl
  · rw [if_neg e, if_neg (Ne.symm e), if_neg (Ne.symm e)]
theorem hV_setr (h : Nat → BitVec 64) (p : Int) (r : Bool) (v : Bool) : (hV h p r).setIfInBounds 64 (.bool v) = hV h p v := by
  apply Array.ext_getElem?
  intro j
  rw [Array.getElem?_setIfInBounds, hV_at, hV_at, hV_size]
  by_cases e : 64 = j
  · subst e; rfl
  · rw [if_neg e]
    by_cases h1 : j = 1
    · subst h1; rfl
    · rw [if_neg h1, if_neg h1, if_neg (Ne.symm e), if_neg (Ne.symm e)]
/-- the cells 1 and 64 play no part -/
theorem hV_congr {h k : Nat → BitVec 64} (e : ∀ i, i < 66 → i ≠ 1 → i ≠ 64 → h i = k i) (p : Int) (r : Bool) : hV h p r = hV k p r := by
  apply Array.ext_getElem?
  intro j
  rw [hV_at, hV_at]
  by_cases h1 : j < 66
  · rw [if_pos h1, if_pos h1]
    by_cases h2 : j = 1
    · rw [if_pos h2, if_pos h2]
    · rw [if_neg h2, if_neg h2]
      by_cases h3 : j = 64
      · rw [if_pos h3, if_pos h3]
      · rw [if_neg h3, if_neg h3, e j h1 h2 h3]
  · rw [if_neg h1, if_neg h1]
theorem hV_flat (h : Nat → BitVec 64) (p : Int) (r : Bool) :
    (hV h p r).toList = .int .u64 (u (h 0)) :: .int .i64 p :: ((List.ofFn (n := 62) fun i => Value.int .u64 (u (h (i.val + 2)))) ++ [.bool r, .int .u64 (u (h 65))]) := by
  rw [hV_eq]; unfold hL; rw [Array.toList_ofFn]; rfl
def hartLvs : List Leaf := [.int .u64, .int .i64] ++ (List.replicate 62 (.int .u64) ++ [.bool, .int .u64])
theorem hV_fits (h : Nat → BitVec 64) {p : Int} (r : Bool) (hp : (Lit.int .i64 p).wf = true) : Fits hartLvs (hV h p r).toList := by
  rw [hV_flat]
  have h2 : Fits [.bool, .int .u64] [Value.bool r, .int .u64 (u (h 65))] := ⟨_, _, rfl, _, _, rfl, u_wf _, rfl⟩
  have h1 : Fits (List.replicate 62 (.int .u64) ++ [.bool, .int .u64]) ((List.ofFn (n := 62) fun i => Value.int .u64 (u (h (i.val + 2)))) ++ [.bool r, .int .u64 (u (h 65))]) := Fits.append (fits_words 62 fun i => h (i + 2)) h2
  exact ⟨_, _, rfl, u_wf _, _, _, rfl, hp, h1⟩
theorem oneI (k : IntKind) (a : Int) : (Value.int k a).oneCell' = true := rfl
theorem hV_one (h : Nat → BitVec 64) (p : Int) (r : Bool) : (hV h p r).all (·.oneCell') = true := by
  refine Array.all_eq_true_iff_forall_mem.2 fun v hv => ?_
  have hv := Array.mem_toList_iff.2 hv
  rw [hV_flat] at hv
  simp only [List.mem_cons, List.mem_append, List.mem_ofFn, List.not_mem_nil, or_false] at hv
  rcases hv with rfl | rfl | ⟨i, rfl⟩ | rfl | rfl <;> rfl
/-- .. and whatever lies there is a hart -/
theorem hV_of {l : List Value} (hf : Fits hartLvs l) : ∃ h p r, (Lit.int .i64 p).wf = true ∧ l.toArray = hV h p r := by
  obtain ⟨a, l, rfl, wa, hf⟩ := hf
  obtain ⟨p, l, rfl, wp, hf⟩ := hf
  have hf : Fits (List.replicate 62 (.int .u64) ++ [.bool, .int .u64]) l := hf
  obtain ⟨h1, h2⟩ := Fits.cut hf
  rw [List.length_replicate] at h1 h2
  obtain ⟨f, hf1⟩ := words_of 62 _ h1
  obtain ⟨r, l2, hl2, h2⟩ := h2
  obtain ⟨b, l3, rfl, wb, h2⟩ := h2
  obtain rfl : l3 = [] := h2
  obtain ⟨x, rfl⟩ := u_of wa
  obtain ⟨y, rfl⟩ := u_of wb
  have hl : l = (List.ofFn (n := 62) fun i => Value.int .u64 (u (f i))) ++ [.bool r, .int .u64 (u y)] := by
    rw [← List.take_append_drop 62 l, hf1, hl2]
  refine ⟨fun i => if i = 0 then x else if i = 65 then y else f (i - 2), p, r, wp, ?_⟩
  rw [← Array.toList_inj, hV_flat, hl]
  simp only [Nat.reduceEqDiff, if_true, if_false, List.cons.injEq, true_and, List.append_cancel_right_eq]
  congr 1
  funext i
  have hi := i.isLt
  simp [show i.val ≠ 63 by omega]
/-! ### the CSRs of a hart -/
def cH (h : Nat → BitVec 64) : Nat → BitVec 64 := fun i => h (34 + i)
theorem cH_upd (h : Nat → BitVec 64) (i : Nat) (v : BitVec 64) : cH (upd h (34 + i) v) = upd (cH h) i v := by
  funext j; unfold cH upd
  by_cases e : j = i
  · subst e; rw [if_pos rfl, if_pos rfl]
  · rw [if_neg (by omega), if_neg e]
theorem cH_low (h : Nat → BitVec 64) (i : Nat) (v : BitVec 64) (hi : i < 34) : cH (upd h i v) = cH h := by
  funext j; unfold cH upd; rw [if_neg (by omega)]
theorem cH_65 (h : Nat → BitVec 64) (v : BitVec 64) {j : Nat} (hj : j < 30) : cH (upd h 65 v) j = cH h j := by
  unfold cH upd; rw [if_neg (by omega)]
theorem cV_congr {c d : Nat → BitVec 64} (e : ∀ i, i < 30 → c i = d i) : cV c = cV d := by
  apply Array.ext_getElem?
  intro j
  by_cases hj : j < 30
  · rw [cV_get c j hj, cV_get d j hj, e j hj]
  · rw [Array.getElem?_eq_none (by rw [cV_size]; omega), Array.getElem?_eq_none (by rw [cV_size]; omega)]
theorem hV_csr (h : Nat → BitVec 64) (p : Int) (r : Bool) (j : Nat) (v : Value) (hv : (cV (cH h))[j]? = some v) : (hV h p r)[34 + j]? = some v := by
  have hj : j < 30 := by
    rcases Nat.lt_or_ge j 30 with h1 | h1
    · exact h1
    · rw [Array.getElem?_eq_none (by rw [cV_size]; omega)] at hv; cases hv
  rw [cV_get _ j hj] at hv
  rw [hV_get _ _ _ _ (by omega) (by omega) (by omega)]; exact hv
theorem hV_csrs (h : Nat → BitVec 64) (p : Int) (r : Bool) : (hV h p r).extract 34 64 = cV (cH h) := by
  apply Array.ext_getElem?
  intro j
  rw [Array.getElem?_extract, hV_size]
  by_cases hj : j < 30
  · rw [if_pos (by omega), hV_get _ _ _ _ (by omega) (by omega) (by omega), cV_get _ _ hj]; rfl
  · rw [if_neg (by omega), Array.getElem?_eq_none (by rw [cV_size]; omega)]
/-! ### the registers of a hart -/
def xL (h : Nat → BitVec 64) : Array Value := Array.ofFn (n := 32) fun i => .int .u64 (u (h (2 + i.val)))
theorem xV_is : ∃ f : (Nat → BitVec 64) → Array Value, ∀ h, f h = xL h := ⟨xL, fun _ => rfl⟩
noncomputable def xV : (Nat → BitVec 64) → Array Value := Classical.choose xV_is
theorem xV_eq (h : Nat → BitVec 64) : xV h = xL h := Classical.choose_spec xV_is h
theorem xV_size (h : Nat → BitVec 64) : (xV h).size = 32 := by rw [xV_eq]; simp [xL]
theorem xV_get (h : Nat → BitVec 64) (j : Nat) (hj : j < 32) : (xV h)[j]? = some (.int .u64 (u (h (2 + j)))) := by
  rw [xV_eq]; unfold xL; rw [Array.getElem?_ofFn]; simp [hj]
theorem xV_congr {h k : Nat → BitVec 64} (e : ∀ i, 2 ≤ i → i < 34 → h i = k i) : xV h = xV k := by
  apply Array.ext_getElem?
  intro j
  by_cases hj : j < 32
  · rw [xV_get _ j hj, xV_get _ j hj, e _ (by omega) (by omega)]
  · rw [Array.getElem?_eq_none (by rw [xV_size]; omega), Array.getElem?_eq_none (by rw [xV_size]; omega)]
theorem xV_fits (h : Nat → BitVec 64) : Fits (List.replicate 32 (.int .u64)) (xV h).toList := by
  rw [xV_eq]; unfold xL; rw [Array.toList_ofFn]; exact fits_words 32 (fun i => h (2 + i))
theorem hV_regs (h : Nat → BitVec 64) (p : Int) (r : Bool) (j : Nat) (v : Value) (hv : (xV h)[j]? = some v) : (hV h p r)[2 + j]? = some v := by
  have hj : j < 32 := by
    rcases Nat.lt_or_ge j 32 with h1 | h1
    · exact h1
    · rw [Array.getElem?_eq_none (by rw [xV_size]; omega)] at hv; cases hv
  rw [xV_get _ j hj] at hv
  rw [hV_get _ _ _ _ (by omega) (by omega) (by omega)]; exact hv
end Go.Proofs.Ytleolldgpoeabaa
