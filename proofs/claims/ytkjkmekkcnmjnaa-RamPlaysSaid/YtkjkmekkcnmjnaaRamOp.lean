/- The law's script opened: operations that hold slices of bytes and bools. Conditions: none but the form's own reach. -/
import Derived.Test.YtkjkmekkcnmjnaaRamQ
import Derived.Test.YtkjkmekkcnmjnaaRow
import Derived.Deep.Slices
import Derived.ChangeArms
import Derived.SizedLaws
namespace Go.Proofs.Ytkjkmekkcnmjnaa
open Go.RowKit Go.ChangeShapes Go.WideShapes
set_option linter.unusedVariables false
set_option maxRecDepth 100000

/-- bytes that came in -/
def SlB (w : World) (a : Option Addr) (l c : Nat) : Prop := ∃ z : Nat → Int, (∀ i, 0 ≤ z i ∧ z i < 256) ∧ l ≤ c ∧ c ≤ maxLen ∧ (a = none → c = 0) ∧ (l = 0 ∨ ∃ b off, a = some ⟨b, off, none⟩ ∧ ∀ i, i < l → w.cell? ⟨b, off + i, none⟩ = some (.int .u8 (z i)))
/-- bools that came in -/
def SlD (w : World) (a : Option Addr) (l c : Nat) : Prop := ∃ z : Nat → Bool, l ≤ 140737488351232 ∧ l ≤ c ∧ c ≤ maxLen ∧ (a = none → c = 0) ∧ (l = 0 ∨ ∃ b off, a = some ⟨b, off, none⟩ ∧ ∀ i, i < l → w.cell? ⟨b, off + i, none⟩ = some (.bool (z i)))
theorem SlB.rb {w : World} {a : Option Addr} {l c k : Nat} (h : SlB w a l c) (hk : k ≤ l) : ∃ zs : List Int, zs.length = k ∧ Byte zs ∧ RB w (.slice a k c) zs := by
  obtain ⟨z, hz, h1, h2, h3, h4⟩ := h
  refine ⟨(List.range k).map z, by simp, fun i => ?_, ?_⟩
  · rw [List.getD_eq_getElem?_getD, List.getElem?_map]
    rcases Nat.lt_or_ge i k with hi | hi
    · rw [List.getElem?_range hi]; exact hz i
    · rw [List.getElem?_eq_none (by simpa using hi)]; exact ⟨Int.le_refl 0, by show (0 : Int) < 256; omega⟩
  · by_cases h0 : k = 0
    · subst h0; exact .inl ⟨_, _, rfl, rfl, h3⟩
    · rcases h4 with h4 | ⟨b, off, rfl, hc⟩
      · omega
      · refine .inr ⟨b, off, c, by simp, by simp; omega, by simp; omega, by unfold maxLen at h2; omega, fun i hi => ?_⟩
        have hi : i < k := by simpa using hi
        rw [hc i (by omega), List.getD_eq_getElem?_getD, List.getElem?_map, List.getElem?_range hi]; rfl
theorem SlD.rb {w : World} {a : Option Addr} {l c : Nat} (h : SlD w a l c) : ∃ zs : List Bool, zs.length = l ∧ l ≤ 140737488351232 ∧ Bl.RB w (.slice a l c) zs := by
  obtain ⟨z, h0, h1, h2, h3, h4⟩ := h
  refine ⟨(List.range l).map z, by simp, h0, ?_⟩
  by_cases h0 : l = 0
  · subst h0; exact .inl ⟨_, _, rfl, rfl, h3⟩
  · rcases h4 with h4 | ⟨b, off, rfl, hc⟩
    · omega
    · refine .inr ⟨b, off, c, by simp, by simp; omega, by simp; omega, by unfold maxLen at h2; omega, fun i hi => ?_⟩
      have hi : i < l := by simpa using hi
      rw [hc i hi, List.getD_eq_getElem?_getD, List.getElem?_map, List.getElem?_range hi]; rfl
section
variable {H : Type} {enc : TypeId × Value → H} {P : Program} {w : World} {base : Nat} {spare : Nat → Bool} {held : Bool}
theorem weightsAll_mem {e : TypeId} {d : DataW H} {n : Nat} (hn : n ∈ d.weights P e) : ∀ {ds : List (DataW H)}, d ∈ ds → n ∈ DataW.weightsAll P e ds
  | [], h => by cases h
  | x :: r, h => by
    unfold DataW.weightsAll
    rw [List.mem_append]
    rcases List.mem_cons.1 h with rfl | h
    · exact .inl hn
    · exact .inr (weightsAll_mem hn h)
theorem open_bytes {t e : TypeId} {fuel : Nat} {cs : List Value} {x : DataW H × List MemPlace} (ht : P.underlying t = some (.slice e)) (he : P.underlying e = some (.int .u8)) (hc : P.cellsOf e = 1) (h : DataW.trod enc P w base spare held fuel t cs = some x) :
    ∃ a l c, cs = [.slice a l c] ∧ SlB w a l c := by
  rcases Go.Deep.open_slice1 ht hc h with ⟨rfl, _⟩ | ⟨a, l, c, m, n, V, D, Pl, rfl, _, hle, hm, hmm, _, hx⟩
  · exact ⟨_, _, _, rfl, fun _ => 0, fun _ => ⟨Int.le_refl 0, by show (0 : Int) < 256; omega⟩, Nat.le_refl _, Nat.zero_le _, fun _ => rfl, .inl rfl⟩
  · have hlm : l ≤ m := by rw [hmm]; split <;> omega
    refine ⟨_, _, _, rfl, fun i => if i < l then intOf (V i) else 0, ?_, hle, hm, fun h => by (cases h), ?_⟩
    · intro i
      by_cases hi : i < l
      · obtain ⟨_, h2⟩ := hx i (by omega)
        obtain ⟨v, e1, _, hw⟩ := DataW.trod_int he h2
        simp at e1
        simp [Lit.wf, IntKind.bits, IntKind.signed, IntKind.min, IntKind.max] at hw
        simp only [hi, if_true, e1, intOf]; omega
      · simp only [hi, if_false]; omega
    · rcases Nat.eq_zero_or_pos l with h0 | h0
      · exact .inl h0
      · obtain ⟨b, off, spot⟩ := a
        obtain ⟨h1, _⟩ := hx 0 (by omega)
        have hspot : spot = none := by simpa [Addr.add] using World.cell?_spot h1
        subst hspot
        refine .inr ⟨b, off, rfl, fun i hi => ?_⟩
        obtain ⟨h1, h2⟩ := hx i (by omega)
        obtain ⟨v, e1, _, _⟩ := DataW.trod_int he h2
        simp at e1
        rw [Go.WideShapes.add_plain] at h1
        simp only [hi, if_true]
        rw [h1, e1]; rfl
theorem open_bools {t e : TypeId} {fuel : Nat} {cs : List Value} {x : DataW H × List MemPlace} (ht : P.underlying t = some (.slice e)) (he : P.underlying e = some .bool) (hc : P.cellsOf e = 1) (hb : P.bytesOf e = 1) (h : DataW.trod enc P w base spare held fuel t cs = some x) (hsz : ∀ k ∈ x.1.weights P t, k ≤ reachBytes) :
    ∃ a l c, cs = [.slice a l c] ∧ SlD w a l c := by
  rcases Go.Deep.open_slice1 ht hc h with ⟨rfl, _⟩ | ⟨a, l, c, m, n, V, D, Pl, rfl, _, hle, hm, hmm, rfl, hx⟩
  · exact ⟨_, _, _, rfl, fun _ => false, by omega, Nat.le_refl _, Nat.zero_le _, fun _ => rfl, .inl rfl⟩
  · have hlm : l ≤ m := by rw [hmm]; split <;> omega
    have hr : l ≤ 140737488351232 := by
      have := hsz ((l + (m - l)) * 1) (by simp [DataW.weights, ht, hb])
      unfold reachBytes at this
      omega
    refine ⟨_, _, _, rfl, fun i => match V i with | .bool b => b | _ => false, hr, hle, hm, fun h => by (cases h), ?_⟩
    rcases Nat.eq_zero_or_pos l with h0 | h0
    · exact .inl h0
    · obtain ⟨b, off, spot⟩ := a
      obtain ⟨h1, _⟩ := hx 0 (by omega)
      have hspot : spot = none := by simpa [Addr.add] using World.cell?_spot h1
      subst hspot
      refine .inr ⟨b, off, rfl, fun i hi => ?_⟩
      obtain ⟨h1, h2⟩ := hx i (by omega)
      obtain ⟨v, e1, _⟩ := DataW.trod_bool he h2
      simp at e1
      rw [Go.WideShapes.add_plain] at h1
      rw [h1, e1]
      simp only [e1]
end
/-- an operation's cells, from place o of block b on -/
def OpAt (w : World) (b o : Nat) : Prop := ∃ (kd nn ad : Int) (rw : Bool) (aB : Option Addr) (lB cB : Nat) (aS : Option Addr) (lS cS : Nat) (v : Int), (Lit.int .i64 kd).wf = true ∧ (Lit.int .i64 nn).wf = true ∧ (Lit.int .u64 ad).wf = true ∧ (Lit.int .u64 v).wf = true ∧ SlB w aB lB cB ∧ SlD w aS lS cS ∧
  ∀ i x, (#[.int .i64 kd, .int .i64 nn, .int .u64 ad, .bool rw, .slice aB lB cB, .slice aS lS cS, .int .u64 v] : Array Value)[i]? = some x → w.cell? ⟨b, o + i, none⟩ = some x
/-- operations that came in -/
def IsOps (w : World) (a : Option Addr) (l : Nat) : Prop := l ≤ maxLen ∧ (l = 0 ∨ ∃ b off, a = some ⟨b, off, none⟩ ∧ b < w.heap.size ∧ ∀ i, i < l → OpAt w b (off + i * 7))
section
variable {H : Type} {enc : TypeId × Value → H} {w : World} {base : Nat} {spare : Nat → Bool} {held : Bool}
theorem open_op {fuel : Nat} {cs : List Value} {x : DataW H × List MemPlace} (h : DataW.trod enc Try.prog w base spare held fuel 35 cs = some x) (hsz : ∀ k ∈ x.1.weights Try.prog 35, k ≤ reachBytes) :
    ∃ (kd nn ad : Int) (rw : Bool) (aB : Option Addr) (lB cB : Nat) (aS : Option Addr) (lS cS : Nat) (v : Int), (Lit.int .i64 kd).wf = true ∧ (Lit.int .i64 nn).wf = true ∧ (Lit.int .u64 ad).wf = true ∧ (Lit.int .u64 v).wf = true ∧ SlB w aB lB cB ∧ SlD w aS lS cS ∧
      cs = [.int .i64 kd, .int .i64 nn, .int .u64 ad, .bool rw, .slice aB lB cB, .slice aS lS cS, .int .u64 v] := by
  obtain ⟨xs, n, _, rfl, hlen, hxl, hf⟩ := DataW.trod_struct Try.underlying35 h
  have h7 : cs.length = 7 := hlen.trans (by kernel_rfl)
  obtain ⟨c0, c1, c2, c3, c4, c5, c6, rfl⟩ : ∃ c0 c1 c2 c3 c4 c5 c6, cs = [c0, c1, c2, c3, c4, c5, c6] := by
    match cs, h7 with
    | [c0, c1, c2, c3, c4, c5, c6], _ => exact ⟨_, _, _, _, _, _, _, rfl⟩
  have hg : ∀ i, i < 7 → ∃ y, xs[i]? = some y := fun i hi => ⟨_, List.getElem?_eq_getElem (by rw [hxl]; exact hi)⟩
  obtain ⟨y0, e0⟩ := hg 0 (by omega)
  obtain ⟨y1, e1⟩ := hg 1 (by omega)
  obtain ⟨y2, e2⟩ := hg 2 (by omega)
  obtain ⟨y3, e3⟩ := hg 3 (by omega)
  obtain ⟨y4, e4⟩ := hg 4 (by omega)
  obtain ⟨y5, e5⟩ := hg 5 (by omega)
  obtain ⟨y6, e6⟩ := hg 6 (by omega)
  have f0 := hf 0 _ rfl
  have f1 := hf 1 _ rfl
  have f2 := hf 2 _ rfl
  have f3 := hf 3 _ rfl
  have f4 := hf 4 _ rfl
  have f5 := hf 5 _ rfl
  have f6 := hf 6 _ rfl
  rw [e0] at f0; rw [e1] at f1; rw [e2] at f2; rw [e3] at f3; rw [e4] at f4; rw [e5] at f5; rw [e6] at f6
  obtain ⟨kd, g0, _, w0⟩ := DataW.trod_int Try.underlying3 f0
  obtain ⟨nn, g1, _, w1⟩ := DataW.trod_int Try.underlying3 f1
  obtain ⟨ad, g2, _, w2⟩ := DataW.trod_int Try.underlying31 f2
  obtain ⟨rw, g3, _⟩ := DataW.trod_bool Try.underlying4 f3
  obtain ⟨aB, lB, cB, g4, hB⟩ := open_bytes Try.underlying32 Try.underlying5 (by kernel_rfl) f4
  obtain ⟨aS, lS, cS, g5, hS⟩ := open_bools Try.underlying33 Try.underlying4 (by kernel_rfl) (by kernel_rfl) f5 (fun k hk => hsz k (by
    show k ∈ DataW.weights _ _ (.agg _)
    unfold DataW.weights
    rw [Try.underlying35]
    exact DataW.weights_mem_each (j := 5) (t := 33) (d := y5.1) rfl (by rw [List.getElem?_map, e5]; rfl) k hk))
  obtain ⟨v, g6, _, w6⟩ := DataW.trod_int Try.underlying31 f6
  refine ⟨kd, nn, ad, rw, aB, lB, cB, aS, lS, cS, v, w0, w1, w2, w6, hB, hS, ?_⟩
  have k0 : [c0] = [Value.int .i64 kd] := g0
  have k1 : [c1] = [Value.int .i64 nn] := g1
  have k2 : [c2] = [Value.int .u64 ad] := g2
  have k3 : [c3] = [Value.bool rw] := g3
  have k4 : [c4] = [Value.slice aB lB cB] := g4
  have k5 : [c5] = [Value.slice aS lS cS] := g5
  have k6 : [c6] = [Value.int .u64 v] := g6
  simp only [List.cons.injEq, and_true] at k0 k1 k2 k3 k4 k5 k6
  rw [k0, k1, k2, k3, k4, k5, k6]
theorem open_ops {r : Reach} {b0 : Nat} {t : TypeId} {v : Value} {d : DataW H} {p : List MemPlace} (ht : Try.prog.underlying t = some (.slice 35)) (hv : Value.okWide Try.prog w r b0 t v) (h : DataW.Trod enc Try.prog w base spare held t v d p) (hsz : ∀ k ∈ d.weights Try.prog t, k ≤ reachBytes) :
    ∃ a0 len cap, v = .slice a0 len cap ∧ IsOps w a0 len := by
  obtain ⟨a0, len, cap, rfl⟩ := okWide_slice ht hv
  obtain ⟨fuel, hf⟩ := h
  refine ⟨a0, len, cap, rfl, ?_⟩
  rcases Go.Deep.open_slice ht (by simpa [Value.cells] using hf) with ⟨hcs, _⟩ | ⟨a, len', cap', m, k, D, Pl, hcs, _, hle, hm, hmm, hd, hx⟩
  · simp at hcs; obtain ⟨_, rfl, _⟩ := hcs
    exact ⟨by unfold maxLen; omega, .inl rfl⟩
  · simp at hcs
    obtain ⟨rfl, rfl, rfl⟩ := hcs
    refine ⟨by omega, ?_⟩
    have hc7 : Try.prog.cellsOf 35 = 7 := by kernel_rfl
    rcases Nat.eq_zero_or_pos len with hz | hz
    · exact .inl hz
    · right
      have hlm : len ≤ m := by rw [hmm]; split <;> omega
      obtain ⟨b, off, spot⟩ := a
      have hspot : spot = none := by
        obtain ⟨cs', h1, _⟩ := hx 0 (by omega)
        obtain ⟨_, hlen, hcell⟩ := World.cells?_some h1
        have h0 := hcell 0 (by rw [hc7]; omega)
        obtain ⟨v, hv⟩ : ∃ v, cs'[0]? = some v := ⟨cs'[0]'(by omega), List.getElem?_eq_getElem (by omega)⟩
        rw [hv] at h0
        simpa [Addr.add] using World.cell?_spot h0
      subst hspot
      have key : ∀ i, i < len → OpAt w b (off + i * 7) := by
        intro i hi
        obtain ⟨cs', h1, h2⟩ := hx i (by omega)
        obtain ⟨_, hlen, hcell⟩ := World.cells?_some h1
        obtain ⟨kd, nn, ad, rw', aB, lB, cB, aS, lS, cS, v, q1, q2, q3, q4, q5, q6, rfl⟩ := open_op h2 (fun q hq => hsz q (by
          rw [show d = _ from congrArg Prod.fst hd]
          unfold DataW.weights
          rw [ht]
          refine List.mem_cons_of_mem _ (List.mem_append.2 (.inl (weightsAll_mem hq ?_)))
          exact List.mem_map.2 ⟨i, List.mem_range.2 hi, rfl⟩))
        refine ⟨kd, nn, ad, rw', aB, lB, cB, aS, lS, cS, v, q1, q2, q3, q4, q5, q6, fun j x hj => ?_⟩
        have hj7 : j < 7 := by
          rcases Nat.lt_or_ge j 7 with h | h
          · exact h
          · rw [Array.getElem?_eq_none (by simpa using h)] at hj; cases hj
        have := hcell j (by rw [hc7]; exact hj7)
        rw [hc7, Go.WideShapes.add_plain, Go.WideShapes.add_plain] at this
        rw [this, ← hj]; simp
      refine ⟨b, off, rfl, ?_, key⟩
      obtain ⟨kd, nn, ad, rw', aB, lB, cB, aS, lS, cS, v, _, _, _, _, _, _, hk⟩ := key 0 hz
      exact World.block_lt_of_cell? w _ (hk 0 _ rfl)
end
end Go.Proofs.Ytkjkmekkcnmjnaa
