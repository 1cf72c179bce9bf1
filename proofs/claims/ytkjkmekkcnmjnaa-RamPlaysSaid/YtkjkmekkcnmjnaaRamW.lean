/- Rows of bytes as one value; a map from numbers to blocks. Plain lemmas. Conditions: named at each. -/
import Derived.Test.YtkjkmekkcnmjnaaBut
import Derived.Maps.Own
import Derived.Maps.RangeRun
import Derived.Laws.CopyRow
import Derived.Laws.CopyOwn
import Derived.Lib.Hide
namespace Go.Proofs.Ytkjkmekkcnmjnaa
open Go.RowKit
open Go.ChangeMaps (setBlock)
open Go.MapKept

/-! ### rows of bytes -/
theorem rw_ex (n : Nat) (f : Nat → Int) : ∃ cs : Array Value, cs.size = n ∧ ∀ i, i < n → cs[i]? = some (.int .u8 (f i)) :=
  ⟨((List.range n).map fun i => Value.int .u8 (f i)).toArray, by simp, fun i h => by simp [h]⟩
/-- n bytes -/
noncomputable def rwA (n : Nat) (f : Nat → Int) : Array Value := Classical.choose (rw_ex n f)
theorem rw_size (n : Nat) (f : Nat → Int) : (rwA n f).size = n := (Classical.choose_spec (rw_ex n f)).1
theorem rw_get {n : Nat} (f : Nat → Int) {i : Nat} (h : i < n) : (rwA n f)[i]? = some (.int .u8 (f i)) := (Classical.choose_spec (rw_ex n f)).2 i h
theorem rw_of {n : Nat} {f : Nat → Int} {cs : Array Value} (hs : cs.size = n) (h : ∀ i, i < n → cs[i]? = some (.int .u8 (f i))) : cs = rwA n f := by
  apply Array.ext_getElem?
  intro i
  by_cases hi : i < n
  · rw [h i hi, rw_get f hi]
  · rw [Array.getElem?_eq_none (by omega), Array.getElem?_eq_none (by rw [rw_size]; omega)]
theorem rw_congr {n : Nat} {f g : Nat → Int} (h : ∀ i, i < n → f i = g i) : rwA n f = rwA n g :=
  rw_of (rw_size n f) fun i hi => by rw [rw_get f hi, h i hi]
theorem rw_set (n : Nat) (f : Nat → Int) (k : Nat) (v : Int) : (rwA n f).setIfInBounds k (.int .u8 v) = rwA n (fun i => if i = k then v else f i) :=
  rw_of (by rw [Array.size_setIfInBounds, rw_size]) fun i hi => by
    rw [Array.getElem?_setIfInBounds, rw_size]
    by_cases e : k = i
    · subst e; rw [if_pos rfl, if_pos hi, if_pos rfl]
    · rw [if_neg e, rw_get f hi, if_neg (fun h => e h.symm)]
/-- m numbers laid over from place o on -/
def ov (f : Nat → Int) (o m : Nat) (z : Nat → Int) : Nat → Int := fun i => if o ≤ i ∧ i < o + m then z (i - o) else f i
/-- m numbers as cells -/
def clN (m : Nat) (z : Nat → Int) : List Value := (List.range m).map fun i => Value.int .u8 (z i)
theorem clN_len (m : Nat) (z : Nat → Int) : (clN m z).length = m := by simp [clN]
theorem clN_get {m : Nat} {z : Nat → Int} {j : Nat} {v : Value} (h : (clN m z)[j]? = some v) : j < m ∧ v = .int .u8 (z j) := by
  unfold clN at h
  rw [List.getElem?_map] at h
  by_cases hj : j < m
  · rw [List.getElem?_range hj] at h; simp at h; exact ⟨hj, h.symm⟩
  · rw [List.getElem?_eq_none (by simp; omega)] at h; simp at h
theorem clN_at {m : Nat} {z : Nat → Int} {j : Nat} (h : j < m) : (clN m z)[j]? = some (.int .u8 (z j)) := by
  unfold clN; rw [List.getElem?_map, List.getElem?_range h]; rfl
theorem clN_one (m : Nat) (z : Nat → Int) : ∀ v ∈ clN m z, v.oneCell' = true := by
  intro v hv
  obtain ⟨i, _, rfl⟩ := List.mem_map.1 hv
  rfl
theorem rw_copy {n o m : Nat} {f z : Nat → Int} (ho : o + m ≤ n) : ((rwA n f).toList.take o ++ clN m z ++ (rwA n f).toList.drop (o + (clN m z).length)).toArray = rwA n (ov f o m z) := by
  have hl : (rwA n f).toList.length = n := by rw [Array.length_toList, rw_size]
  refine rw_of (by simp [clN_len, rw_size]; omega) fun i hi => ?_
  rw [List.getElem?_toArray, List.append_assoc]
  unfold ov
  by_cases h1 : i < o
  · rw [List.getElem?_append_left (by rw [List.length_take, hl]; omega), List.getElem?_take_of_lt h1, Array.getElem?_toList, rw_get f hi, if_neg (by omega)]
  · rw [List.getElem?_append_right (by rw [List.length_take, hl]; omega), List.length_take, hl, Nat.min_eq_left (by omega)]
    by_cases h2 : i < o + m
    · rw [List.getElem?_append_left (by rw [clN_len]; omega), clN_at (by omega), if_pos ⟨by omega, h2⟩]
    · rw [List.getElem?_append_right (by rw [clN_len]; omega), clN_len, List.getElem?_drop, Array.getElem?_toList, if_neg (by omega)]
      rw [show o + m + (i - o - m) = i by omega, rw_get f hi]

/-! ### what a call may do that keeps all below n and all but pages (cells of type T) and maps -/
/-- a block that such a call leaves as it is -/
def SafeB (T : TypeId) (n : Nat) (w : World) (k : Nat) : Prop := k < w.heap.size ∧ (k < n ∨ ∃ cs t fr, w.heap[k]? = some (.cells cs t fr) ∧ t ≠ T)
structure Kp (T : TypeId) (n : Nat) (w w' : World) : Prop where
  os : w'.os = w.os
  tape : w'.tape = w.tape
  output : w'.output = w.output
  size : w.heap.size ≤ w'.heap.size
  block : ∀ k, SafeB T n w k → w'.heap[k]? = w.heap[k]?
section
variable {T : TypeId} {n : Nat} {a b c w w' : World}
theorem Kp.refl (T : TypeId) (n : Nat) (w : World) : Kp T n w w := ⟨rfl, rfl, rfl, Nat.le_refl _, fun _ _ => rfl⟩
theorem SafeB.on_kp {k : Nat} (h : SafeB T n a k) (hk : Kp T n a b) : SafeB T n b k := by
  have hb := hk.block k h
  refine ⟨Nat.lt_of_lt_of_le h.1 hk.size, h.2.imp id ?_⟩
  rintro ⟨cs, t, fr, h1, h2⟩
  exact ⟨cs, t, fr, hb.trans h1, h2⟩
theorem Kp.trans (h : Kp T n a b) (k : Kp T n b c) : Kp T n a c :=
  ⟨k.os.trans h.os, k.tape.trans h.tape, k.output.trans h.output, Nat.le_trans h.size k.size, fun i hi => (k.block i (hi.on_kp h)).trans (h.block i hi)⟩
theorem Kp.of_on (h : On a b) : Kp T n a b := ⟨h.os, h.tape, h.output, h.size, fun k hk => h.block k hk.1⟩
theorem Kp.mono {m : Nat} (h : Kp T n a b) (hm : m ≤ n) : Kp T m a b :=
  ⟨h.os, h.tape, h.output, h.size, fun k hk => h.block k ⟨hk.1, hk.2.imp (fun x => Nat.lt_of_lt_of_le x hm) id⟩⟩
theorem Kp.on (h : Kp T n a b) (k : On b c) : Kp T n a c := h.trans (.of_on k)
/-- of what was there ahead of n nothing turns -/
theorem Kp.below {m : Nat} (h : Below m a b) (hm : m ≤ n) (hb : m ≤ b.heap.size) (k : Kp T n b c) : Below m a c :=
  h.trans ⟨k.os, k.tape, k.output, k.size, fun i hi => k.block i ⟨by omega, .inl (by omega)⟩⟩
theorem Kp.keep {k : Nat} {cs : Array Value} {t : TypeId} {fr : Nat × Nat} (h : Kp T n a b) (hc : a.heap[k]? = some (.cells cs t fr)) (ht : t ≠ T) : b.heap[k]? = some (.cells cs t fr) :=
  (h.block k ⟨lt_of_block hc, .inr ⟨cs, t, fr, hc, ht⟩⟩).trans hc
theorem Kp.old {k : Nat} {o : Obj} (h : Kp T n a b) (hc : a.heap[k]? = some o) (hk : k < n) : b.heap[k]? = some o :=
  (h.block k ⟨lt_of_block hc, .inl hk⟩).trans hc
theorem SafeB.of_cells {k : Nat} {cs : Array Value} {t : TypeId} {fr : Nat × Nat} (hc : a.heap[k]? = some (.cells cs t fr)) (ht : t ≠ T) : SafeB T n a k := ⟨lt_of_block hc, .inr ⟨cs, t, fr, hc, ht⟩⟩
theorem SafeB.cell {k i : Nat} {v : Value} (h : SafeB T n a k) (hk : Kp T n a b) (hc : a.cell? ⟨k, i, none⟩ = some v) : b.cell? ⟨k, i, none⟩ = some v := by
  have e := hk.block k h
  rw [← hc]
  simp only [World.cell?, e]
theorem But.cell {B k i : Nat} {v : Value} (h : But B a b) (hk : k ≠ B) (hc : a.cell? ⟨k, i, none⟩ = some v) : b.cell? ⟨k, i, none⟩ = some v := by
  have hlt : k < a.heap.size := by
    rcases Nat.lt_or_ge k a.heap.size with h1 | h1
    · exact h1
    · simp [World.cell?, Array.getElem?_eq_none h1] at hc
  rw [← hc]
  simp only [World.cell?, h.block k hlt hk]
theorem But.of_row (w : World) (g : Nat) (cs : Array Value) : But g w (w.setRow g cs) :=
  ⟨rfl, rfl, rfl, by simp [World.setRow], fun k _ hn => setRow_other _ _ _ _ hn⟩
theorem But.of_block (w : World) (g : Nat) (o : Obj) : But g w (setBlock w g o) :=
  ⟨rfl, rfl, rfl, by simp [setBlock], fun k _ hn => by
    simp only [setBlock, Array.getElem?_setIfInBounds]
    rw [if_neg (fun e => hn (Eq.symm e))]⟩
end

/-! ### copy between two rows -/
theorem run_copy_rw {P : Program} (w : World) (dT sT ty elem : TypeId) (g o dLen dCap b off sLen sCap n m : Nat) (t : TypeId) (f z : Nat → Int)
    (hu : P.underlying dT = some (.slice elem)) (hs : (P.info? elem).map (·.size) = some 1) (hg : w.heap[g]? = some (.cells (rwA n f) t (0, 0))) (hm : m = Nat.min sLen dLen)
    (hsrc : ∀ i, i < m → w.cell? ⟨b, off + i, none⟩ = some (.int .u8 (z i))) (hfit : o + m ≤ n) :
    (Builtin.copy_ #[dT, sT] ty #[.slice (some ⟨g, o, none⟩) dLen dCap, .slice (some ⟨b, off, none⟩) sLen sCap]).run P w = .ok (.int .i64 m) (w.setRow g (rwA n (ov f o m z))) := by
  have h := run_copy_row (P := P) w dT sT ty elem g o dLen dCap ⟨b, off, none⟩ sLen sCap (rwA n f) t (clN m z) hu hs hg (by rw [clN_len, hm]) (fun j v hv => by
    obtain ⟨hj, rfl⟩ := clN_get hv
    have e : (⟨b, off, none⟩ : Addr).add j = ⟨b, off + j, none⟩ := by unfold Addr.add; split <;> simp_all
    rw [e, hsrc j hj]) (by rw [clN_len, rw_size]; exact hfit) (clN_one m z)
  rw [rw_copy hfit, clN_len] at h
  exact h
/-- .. the world behind it as a variable -/
theorem copy_rw {P : Program} {w : World} {dT sT ty elem : TypeId} {g o dLen dCap b off sLen sCap n m : Nat} {t : TypeId} {f z : Nat → Int}
    (hu : P.underlying dT = some (.slice elem)) (hs : (P.info? elem).map (·.size) = some 1) (hg : w.heap[g]? = some (.cells (rwA n f) t (0, 0))) (hm : m = Nat.min sLen dLen)
    (hsrc : ∀ i, i < m → w.cell? ⟨b, off + i, none⟩ = some (.int .u8 (z i))) (hfit : o + m ≤ n) :
    ∃ w', (Builtin.copy_ #[dT, sT] ty #[.slice (some ⟨g, o, none⟩) dLen dCap, .slice (some ⟨b, off, none⟩) sLen sCap]).run P w = .ok (.int .i64 m) w' ∧ But g w w' ∧ w'.heap[g]? = some (.cells (rwA n (ov f o m z)) t (0, 0)) :=
  ⟨_, run_copy_rw w dT sT ty elem g o dLen dCap b off sLen sCap n m t f z hu hs hg hm hsrc hfit, But.of_row w g _, setRow_heap _ _ _ _ _ _ hg⟩
/-- .. as a step of a walk: behind it a world of which the row is known -/
theorem wp_copy_rw {P : Program} {w : World} {ops : Array Oper} {rest : List Oper} {o : Oper} {a : Act} {Q : Exit → Act → World → Prop} (hgd : o.guard = none) {d s : Operand} {dT sT elem : TypeId}
    (ho : o.op = .call { callee := .builtin .copy, args := #[d, s], argTypes := #[dT, sT] }) (hu : P.underlying dT = some (.slice elem)) (hsz : (P.info? elem).map (·.size) = some 1)
    {g off dLen dCap b off2 sLen sCap : Nat} (hd : a.eval d = .slice (some ⟨g, off, none⟩) dLen dCap) (hs : a.eval s = .slice (some ⟨b, off2, none⟩) sLen sCap)
    {n : Nat} (m : Nat) {t : TypeId} {f : Nat → Int} (z : Nat → Int) (hg : w.heap[g]? = some (.cells (rwA n f) t (0, 0))) (hm : m = Nat.min sLen dLen)
    (hsrc : ∀ i, i < m → w.cell? ⟨b, off2 + i, none⟩ = some (.int .u8 (z i))) (hfit : off + m ≤ n)
    (h : ∀ w', But g w w' → Hid (w'.heap[g]? = some (.cells (rwA n (ov f off m z)) t (0, 0))) → wpList P ops Q rest (a.put o.dst (.int .i64 m)) w') : wpList P ops Q (o :: rest) a w := by
  refine wpList_plain hgd fun K hK => ?_
  have hrun := run_copy_rw (P := P) w dT sT o.type elem g off dLen dCap b off2 sLen sCap n m t f z hu hsz hg hm hsrc hfit
  unfold Oper.wp
  simp [execOp, ho, resolve, invoke, builtin, hd, hs, hrun, Result.andThen]
  exact hK _ _ (h _ (But.of_row w g _) (Lib.hid (setRow_heap _ _ _ _ _ _ hg)))

/-- .. as a step of a region that draws -/
theorem step_copy_rw {P : Program} {ops : Array Oper} {o : Oper} {a : Act} {w : World} {K : Act → World → Prop} {Q : Exit → Act → World → Prop} {E : Prop} (hgd : o.guard = none) {d s : Operand} {dT sT elem : TypeId}
    (ho : o.op = .call { callee := .builtin .copy, args := #[d, s], argTypes := #[dT, sT] }) (hu : P.underlying dT = some (.slice elem)) (hsz : (P.info? elem).map (·.size) = some 1)
    {g off dLen dCap b off2 sLen sCap : Nat} (hd : a.eval d = .slice (some ⟨g, off, none⟩) dLen dCap) (hs : a.eval s = .slice (some ⟨b, off2, none⟩) sLen sCap)
    {n : Nat} (m : Nat) {t : TypeId} {f : Nat → Int} (z : Nat → Int) (hg : w.heap[g]? = some (.cells (rwA n f) t (0, 0))) (hm : m = Nat.min sLen dLen)
    (hsrc : ∀ i, i < m → w.cell? ⟨b, off2 + i, none⟩ = some (.int .u8 (z i))) (hfit : off + m ≤ n)
    (h : ∀ w', But g w w' → Hid (w'.heap[g]? = some (.cells (rwA n (ov f off m z)) t (0, 0))) → K (a.put o.dst (.int .i64 m)) w') : if Region.wanted o (yielded ops a.tmps) = true then Oper.wp P o a w K Q else E := by
  have hw : Region.wanted o (yielded ops a.tmps) = true := by simp [Region.wanted, hgd]
  rw [if_pos hw]
  have hrun := run_copy_rw (P := P) w dT sT o.type elem g off dLen dCap b off2 sLen sCap n m t f z hu hsz hg hm hsrc hfit
  unfold Oper.wp
  simp [execOp, ho, resolve, invoke, builtin, hd, hs, hrun, Result.andThen]
  exact h _ (But.of_row w g _) (Lib.hid (setRow_heap _ _ _ _ _ _ hg))

/-! ### a map from numbers to blocks -/
/-- what a number leads to -/
def pgV : Option Nat → Value
  | some b => .pointer (some ⟨b, 0, none⟩)
  | none => .pointer none
structure Tab (es : Array MapEntry) (clock : Nat) (tab : Nat → Option Nat) : Prop where
  st : Stamped es clock
  ent : ∀ e ∈ es.toList, ∃ k b : Nat, k < 18446744073709551616 ∧ e.key = .int .u64 k ∧ e.val = pgV (some b) ∧ tab k = some b
  has : ∀ k b : Nat, tab k = some b → ∃ e ∈ es.toList, e.key = .int .u64 k ∧ e.val = pgV (some b)
theorem tab_empty : Tab #[] 0 (fun _ => none) := ⟨stamped_empty 0, by simp, by simp⟩
section
variable {P : Program} {t kt et : TypeId} {w : World} {mb : Nat} {es : Array MapEntry} {clock : Nat} {tab : Nat → Option Nat}
theorem u64_wf {k : Nat} (h : k < 18446744073709551616) : (Lit.int .u64 (k : Nat)).wf = true := by
  simp [Lit.wf, IntKind.bits, IntKind.signed, IntKind.min, IntKind.max]; omega
theorem tab_find (hu : P.underlying kt = some (.int .u64)) (T : Tab es clock tab) {k : Nat} (hk : k < 18446744073709551616) (w : World) :
    (tab k = none ∧ (Instr.findKey kt (.int .u64 k) es.toList).run P w = .ok none w ∧ ∀ e ∈ es.toList, e.key ≠ .int .u64 k) ∨
    ∃ j b, tab k = some b ∧ (Instr.findKey kt (.int .u64 k) es.toList).run P w = .ok (some (j, pgV (some b))) w := by
  have K := Maps.int_keyed hu
  have hkey := Maps.keyOf_int_mk hu (u64_wf hk)
  rcases K.find w hkey es.toList (fun e he => by
    obtain ⟨k', b, hk', h1, _⟩ := T.ent e he
    exact ⟨_, by rw [h1]; exact Maps.keyOf_int_mk hu (u64_wf hk')⟩) with ⟨h1, h2⟩ | ⟨j, e, h1, h2, h3⟩
  · refine .inl ⟨?_, h1, h2⟩
    cases ht : tab k with
    | none => rfl
    | some b =>
      obtain ⟨e, he, hk1, _⟩ := T.has k b ht
      exact absurd hk1 (h2 e he)
  · obtain ⟨k', b, _, e1, e2, e3⟩ := T.ent e (List.mem_of_getElem? h2)
    rw [h3] at e1
    injection e1 with _ e1
    have : k = k' := by omega
    subst this
    exact .inr ⟨j, b, e3, by rw [h1, e2]⟩
theorem tab_lookup (ht : P.underlying t = some (.map kt et)) (hu : P.underlying kt = some (.int .u64)) (hz : (zeroValue et).run P w = .ok (.pointer none) w) (hb : w.heap[mb]? = some (.map es clock)) (T : Tab es clock tab) {k : Nat} (hk : k < 18446744073709551616) (ok : Bool) :
    (Instr.lookup t (.map (some mb)) (.int .u64 k) ok).run P w = .ok (if ok then .tuple #[pgV (tab k), .bool (tab k).isSome] else pgV (tab k)) w := by
  have K := Maps.int_keyed hu
  have hkey := Maps.keyOf_int_mk hu (u64_wf hk)
  rcases tab_find hu T hk w with ⟨h0, h1, _⟩ | ⟨j, b, h0, h1⟩
  · simp [Instr.lookup, run_underlying ht, MapKept.run_getObj_map hb, K.check w _ hkey, h1, h0, hz, Result.andThen, pgV]
  · simp [Instr.lookup, run_underlying ht, MapKept.run_getObj_map hb, K.check w _ hkey, h1, h0, Result.andThen]
/-- one number more -/
def tabP (tab : Nat → Option Nat) (k b : Nat) : Nat → Option Nat := fun j => if j = k then some b else tab j
theorem tab_store (ht : P.underlying t = some (.map kt et)) (hu : P.underlying kt = some (.int .u64)) (hb : w.heap[mb]? = some (.map es clock)) (T : Tab es clock tab) {k : Nat} (hk : k < 18446744073709551616) (hn : tab k = none) (b : Nat) :
    (Instr.mapUpdate t (.map (some mb)) (.int .u64 k) (.pointer (some ⟨b, 0, none⟩))).run P w = .ok () (setBlock w mb (.map (es.push ⟨.int .u64 k, pgV (some b), clock⟩) (clock + 1))) ∧
      Tab (es.push ⟨.int .u64 k, pgV (some b), clock⟩) (clock + 1) (tabP tab k b) := by
  have K := Maps.int_keyed hu
  have hkey := Maps.keyOf_int_mk hu (u64_wf hk)
  rcases tab_find hu T hk w with ⟨_, h1, h2⟩ | ⟨j, b, h0, h1⟩
  · refine ⟨?_, stamped_push T.st h2, ?_, ?_⟩
    · simp [Instr.mapUpdate, run_underlying ht, MapKept.run_getObj_map hb, K.check w false hkey, h1, MapKept.run_setObj_map _ hb, Result.andThen, setBlock, pgV]
    · intro e he
      simp only [Array.toList_push, List.mem_append, List.mem_singleton] at he
      rcases he with he | rfl
      · obtain ⟨k', b', h3, h4, h5, h6⟩ := T.ent e he
        refine ⟨k', b', h3, h4, h5, ?_⟩
        unfold tabP
        rw [if_neg]
        · exact h6
        · rintro rfl
          exact h2 e he h4
      · exact ⟨k, b, hk, rfl, rfl, by unfold tabP; rw [if_pos rfl]⟩
    · intro k' b' h3
      unfold tabP at h3
      by_cases e : k' = k
      · subst e
        rw [if_pos rfl] at h3
        injection h3 with h3
        subst h3
        exact ⟨⟨.int .u64 k', pgV (some b), clock⟩, by simp, rfl, rfl⟩
      · rw [if_neg e] at h3
        obtain ⟨x, h4, h5⟩ := T.has k' b' h3
        exact ⟨x, by simp; exact .inl (by simpa using h4), h5⟩
  · rw [hn] at h0; cases h0
end
end Go.Proofs.Ytkjkmekkcnmjnaa
