/- A region that draws its order, of many operations: that its operations may come in the order of the text, reckoned off small tables (the kernel does not end over the operations themselves where there are ninety). Plain lemmas, no program. Conditions: none. -/
import Derived.Lib.QuietBelow
import Derived.NoCompilerSame
namespace Go.Proofs.Ytkjkmekkcnmjnaa

/-- what an operation waits for, what it writes (0: nothing), at what it looks -/
structure Row where
  after : List Nat
  dst : Nat
  looks : List Nat
def rowOf (ops : Array Oper) (o : Oper) : Row := ⟨(o.after.toList.filter (Region.binds .any)).map (·.on), (match o.dst with | some d => d + 1 | none => 0), o.looksAt ops⟩
/-- neither writes what the other reads, and they do not write the same -/
def Row.apart (x y : Row) : Bool :=
  (x.dst == 0 || !(y.looks.any fun n => n + 1 == x.dst) && !(y.dst == x.dst)) && (y.dst == 0 || !(x.looks.any fun n => n + 1 == y.dst))
def rowsOk : Nat → List Row → Bool
  | _, [] => true
  | k, x :: rest => x.after.all (fun n => decide (n < k)) && rest.all (fun y => y.after.contains k || x.apart y) && rowsOk (k + 1) rest
theorem looks_any (l : List Nat) (d : Nat) : (l.any fun n => n + 1 == d + 1) = l.contains d := by
  rw [Bool.eq_iff_iff, List.contains_iff_mem, List.any_eq_true]
  constructor
  · rintro ⟨n, hn, h⟩
    have : n = d := by simpa using h
    exact this ▸ hn
  · intro h; exact ⟨d, h, by simp⟩
theorem apart_row (ops : Array Oper) (x y : Oper) : (rowOf ops x).apart (rowOf ops y) = x.apart ops y := by
  have hz : ∀ a : Nat, (a + 1 == 0) = false := fun a => by simp
  have hs : ∀ a b : Nat, (a + 1 == b + 1) = (some a == some b) := fun a b => by simp
  obtain ⟨dx, hdx⟩ : ∃ d, x.dst = d := ⟨_, rfl⟩
  obtain ⟨dy, hdy⟩ : ∃ d, y.dst = d := ⟨_, rfl⟩
  unfold Row.apart rowOf Oper.apart
  rw [hdx, hdy]
  rcases dx with _ | a <;> rcases dy with _ | b
  · rfl
  · simp only [hz, looks_any, Bool.false_or, beq_self_eq_true, Bool.true_or, Bool.true_and]
  · simp only [hz, looks_any, Bool.false_or, beq_self_eq_true, Bool.true_or, Bool.and_true]
    simp
  · simp only [hz, looks_any, Bool.false_or]
    rw [hs]
    rfl
theorem rowsOk_at : ∀ (l : List Row) (k : Nat), rowsOk k l = true → ∀ (i : Nat) (x : Row), l[i]? = some x → x.after.all (fun n => decide (n < k + i)) = true ∧ ∀ (j : Nat) (y : Row), i < j → l[j]? = some y → (y.after.contains (k + i) || x.apart y) = true := by
  intro l
  induction l with
  | nil => intro k _ i x h; simp at h
  | cons z rest ih =>
    intro k h i x hx
    unfold rowsOk at h
    simp only [Bool.and_eq_true] at h
    cases i with
    | zero =>
      simp at hx; subst hx
      refine ⟨h.1.1, fun j y hj hy => ?_⟩
      obtain ⟨j', rfl⟩ : ∃ j', j = j' + 1 := ⟨j - 1, by omega⟩
      simp at hy
      exact List.all_eq_true.1 h.1.2 y (List.mem_of_getElem? hy)
    | succ i =>
      simp at hx
      obtain ⟨h1, h2⟩ := ih (k + 1) h.2 i x hx
      refine ⟨by rw [show k + (i + 1) = k + 1 + i by omega]; exact h1, fun j y hj hy => ?_⟩
      obtain ⟨j', rfl⟩ : ∃ j', j = j' + 1 := ⟨j - 1, by omega⟩
      simp at hy
      rw [show k + (i + 1) = k + 1 + i by omega]
      exact h2 j' y (by omega) hy
theorem lex_of_rows {ops : Array Oper} (h : rowsOk 0 (ops.toList.map (rowOf ops)) = true) : ∀ (fuel k : Nat) (listed : Array Bool), k + fuel = ops.size → listed.size = ops.size → (∀ j, j < ops.size → listed.getD j true = decide (j < k)) → (∀ j, j < ops.size → listed.getD j false = decide (j < k)) →
    Region.lexFrom .any ops fuel k listed = true := by
  have hat : ∀ (i : Nat) (o : Oper), ops[i]? = some o → (rowOf ops o).after.all (fun n => decide (n < i)) = true ∧ ∀ (j : Nat) (p : Oper), i < j → ops[j]? = some p → ((rowOf ops p).after.contains i || (rowOf ops o).apart (rowOf ops p)) = true := by
    intro i o ho
    have := rowsOk_at _ 0 h i (rowOf ops o) (by rw [List.getElem?_map, Array.getElem?_toList, ho]; rfl)
    refine ⟨by simpa using this.1, fun j p hj hp => ?_⟩
    have := this.2 j (rowOf ops p) hj (by rw [List.getElem?_map, Array.getElem?_toList, hp]; rfl)
    simpa using this
  intro fuel
  induction fuel with
  | zero =>
    intro k listed hk hs h1 _
    unfold Region.lexFrom Region.ready
    rw [List.isEmpty_iff, List.filter_eq_nil_iff]
    intro i hi
    rw [List.mem_range] at hi
    rw [h1 i hi, decide_eq_true (by omega)]
    simp
  | succ fuel ih =>
    intro k listed hk hs h1 h2
    have hlt : k < ops.size := by omega
    have ho : ops[k]? = some ops[k] := Array.getElem?_eq_getElem hlt
    obtain ⟨ha, hb⟩ := hat k ops[k] ho
    unfold Region.lexFrom
    simp only [Bool.and_eq_true]
    refine ⟨⟨?_, ?_⟩, ih (k + 1) _ (by omega) (by simpa using hs) ?_ ?_⟩
    · -- ready
      rw [List.contains_iff_mem]
      unfold Region.ready
      rw [List.mem_filter]
      refine ⟨List.mem_range.2 hlt, ?_⟩
      rw [h1 k hlt, decide_eq_false (by omega), ho]
      simp only [Option.map_some, Option.getD_some, Bool.not_false, Bool.true_and]
      rw [Array.all_eq_true_iff_forall_mem]
      intro e he
      cases hbd : Region.binds .any e
      · rfl
      · simp only [Bool.not_true, Bool.false_or]
        have hm : e.on ∈ (rowOf ops ops[k]).after := by
          unfold rowOf
          exact List.mem_map.2 ⟨e, List.mem_filter.2 ⟨Array.mem_def.1 he, hbd⟩, rfl⟩
        have := of_decide_eq_true (List.all_eq_true.1 ha _ hm)
        rw [h2 e.on (by omega), decide_eq_true this]
    · -- free
      unfold Region.free
      rw [ho]
      simp only [List.all_eq_true, List.mem_range]
      intro j hj
      rw [h1 j hj]
      rcases Nat.lt_trichotomy j k with c | c | c
      · rw [decide_eq_true c]; simp
      · subst c; simp
      · have hp : ops[j]? = some ops[j] := Array.getElem?_eq_getElem hj
        have := hb j ops[j] c hp
        rw [apart_row] at this
        rw [hp]
        simp only []
        have hc : (rowOf ops ops[j]).after.contains k = ops[j].after.any (fun e => Region.binds .any e && e.on == k) := by
          unfold rowOf
          simp only []
          rw [List.contains_eq_any_beq, List.any_map, List.any_filter, ← Array.any_toList]
          congr 1
          funext e
          simp [Bool.beq_comm]
        rw [← hc, this]; simp
    · intro j hj
      rw [Array.getD_eq_getD_getElem?, Array.getElem?_setIfInBounds]
      by_cases c : k = j
      · subst c; rw [if_pos rfl, if_pos (by omega), decide_eq_true (by omega)]; rfl
      · rw [if_neg c, ← Array.getD_eq_getD_getElem?, h1 j hj, decide_eq_decide]; omega
    · intro j hj
      rw [Array.getD_eq_getD_getElem?, Array.getElem?_setIfInBounds]
      by_cases c : k = j
      · subst c; rw [if_pos rfl, if_pos (by omega), decide_eq_true (by omega)]; rfl
      · rw [if_neg c, ← Array.getD_eq_getD_getElem?, h2 j hj, decide_eq_decide]; omega
theorem lexB_of_rows {ops : Array Oper} (hs : Region.noSelect ops = true) (R : List Row) (hR : ops.toList.map (rowOf ops) = R) (h : rowsOk 0 R = true) : Region.lexB .any ops = true := by
  unfold Region.lexB
  rw [hs, Bool.true_and]
  subst hR
  refine lex_of_rows h ops.size 0 _ (by omega) (by simp) (fun j hj => ?_) (fun j hj => ?_)
  · simp [Array.getD_eq_getD_getElem?, hj]
  · simp [Array.getD_eq_getD_getElem?, hj]
end Go.Proofs.Ytkjkmekkcnmjnaa
