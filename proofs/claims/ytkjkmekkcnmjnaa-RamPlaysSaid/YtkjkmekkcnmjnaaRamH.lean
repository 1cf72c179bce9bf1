/- What a written slice is read back as; the bytes of a word that was read. Conditions: named at each. -/
import Derived.Test.YtkjkmekkcnmjnaaRamG
namespace Go.Proofs.Ytkjkmekkcnmjnaa
open Go.RowKit
set_option linter.unusedVariables false
set_option maxRecDepth 100000

theorem conv_zero (a : Option Addr) (c : Nat) (w : World) : (convert 32 9 (.slice a 0 c)).run Try.prog w = .ok (.string (strOfNums [])) w := by
  rw [run_convert_bytes_string w _ _ _ a 0 c Try.underlying32 Try.underlying5 Try.underlying9]
  cases a with
  | none => simp [Conv.bytesToString]; rfl
  | some ad => simp [Conv.bytesToString, loadCells]; rfl
/-- bytes that came in, as a string -/
theorem conv_old {w0 w : World} {a : Option Addr} {l c : Nat} {z : Nat → Int} (h : l = 0 ∨ ∃ b off, a = some ⟨b, off, none⟩ ∧ b < w0.heap.size ∧ ∀ i, i < l → w0.cell? ⟨b, off + i, none⟩ = some (.int .u8 (z i)))
    (hw : On w0 w) {zs : List Int} (hl : zs.length = l) (hz : ∀ i, i < l → zs.getD i 0 = z i) : (convert 32 9 (.slice a l c)).run Try.prog w = .ok (.string (strOfNums zs)) w := by
  by_cases h0 : l = 0
  · subst h0
    obtain rfl : zs = [] := List.eq_nil_of_length_eq_zero hl
    exact conv_zero a c w
  · rcases h with h | ⟨b, off, rfl, hb, hx⟩
    · omega
    · exact run_convert_bytes_arg w _ _ Try.underlying32 Try.underlying5 b off _ c zs hl (fun i hi => (Below.cell hw (p := ⟨b, off + i, none⟩) hb).trans ((hx i hi).trans (by rw [hz i hi]))) _ Try.underlying9
theorem same_conv {w : World} {s t : Value} {zs : List Int} (h1 : (convert 32 9 s).run Try.prog w = .ok (.string (strOfNums zs)) w) (h2 : (convert 32 9 t).run Try.prog w = .ok (.string (strOfNums zs)) w) :
    Calls Try.prog 19 #[s, t] w fun e w' => e = .returned (.bool true) ∧ w = w' := by
  go_enter Try.func19, Try.ntmps19
  go_wp2_with fail
  go_ret
  exact ⟨rfl, rfl⟩
theorem readfn {n r N : Nat} {M : Nat → Int} {w : World} {o : Nat} {A : Int} (R : RamAt n r N M w) (hl : o + 1 ≤ N * 4096) (hA : A = 2147483648 + (o : Int)) :
    Calls Try.prog 20 #[.pointer (some ⟨r, 0, none⟩), .int .u64 A] w fun e w' => On w w' ∧ ∃ B, w.heap.size ≤ B ∧ e = .returned (.slice (some ⟨B, 0, none⟩) 1 1) ∧ w'.heap[B]? = some (.cells (rwA 1 fun i => M (o + i)) 5 (0, 0)) := by
  have H := Lib.hid (readO (k := 1) R hl hA (K := 1) rfl)
  clear R hl hA
  go_enter Try.func20, Try.ntmps20
  go_wp2_with fail
  refine H.out.mono ?_
  rintro e w1 ⟨hb, B, hB, rfl, hg⟩
  have HH := Lib.hid (And.intro hb (And.intro hB hg))
  clear hb hB hg
  go_wp2_with fail
  go_ret
  exact ⟨HH.out.1, B, HH.out.2.1, rfl, HH.out.2.2⟩
theorem byteAt_word {zs : List Int} (h : Byte zs) (h0 : 0 < zs.length) : byteAt (wordOf zs) 0 = zs.getD 0 0 := by
  rw [u_bv h 0]
  unfold byteAt
  congr 1
  apply BitVec.eq_of_getLsbD_eq
  intro j hj
  rw [byte_bit]
  by_cases h8 : j < 8
  · unfold wordOf
    rw [decide_eq_true h8, Bool.true_and, wordTo_bit h _ _ (by omega), decide_eq_true (by omega), Bool.true_and, show (8 * 0 + j) / 8 = 0 by omega, show (8 * 0 + j) % 8 = j by omega]
  · rw [decide_eq_false h8, Bool.false_and, bv_bit h 0 j (by omega)]
/-- a word of no such size -/
theorem word_size {n r N : Nat} {M : Nat → Int} {w : World} {A s : Int} (R : RamAt n r N M w) {o : Nat} (ho : o < 4294967296) (hA : A = 2147483648 + (o : Int)) (hs : s ≤ 9223372036854775807) (h : ¬ (s = 1 ∨ s = 2 ∨ s = 4 ∨ s = 8)) :
    Calls Try.prog 13 #[.pointer (some ⟨r, 0, none⟩), .int .u64 A, .int .i64 s] w fun e w' => e = .returned (.tuple #[.int .u64 0, .int .i64 1]) ∧ On w w' := by
  obtain ⟨a, ha⟩ := at_u ho
  have H := ramword_at R (A := A) (s := s) (by rw [ha]; exact hA) hs
  have e1 : wdE N a s = 1 := by
    have : refA a s = 1 := by unfold refA; rw [if_neg h]
    unfold wdE; rw [this]; rfl
  rw [e1, wdV_no (by rw [e1]; omega)] at H
  exact H
/-- a word at a place that is no multiple of its size -/
theorem word_mis {n r N : Nat} {M : Nat → Int} {w : World} {A : Int} (R : RamAt n r N M w) {o k : Nat} (ho : o < 4294967296) (hA : A = 2147483648 + (o : Int)) (hk : k = 1 ∨ k = 2 ∨ k = 4 ∨ k = 8) (hm : o % k ≠ 0) {K : Int} (hK : K = (k : Int)) :
    Calls Try.prog 13 #[.pointer (some ⟨r, 0, none⟩), .int .u64 A, .int .i64 K] w fun e w' => e = .returned (.tuple #[.int .u64 0, .int .i64 5]) ∧ On w w' := by
  obtain ⟨a, ha⟩ := at_u ho
  subst hK
  have H := ramword_at R (A := A) (s := k) (by rw [ha]; exact hA) (by omega)
  have e1 : wdE N a k = 5 := by
    have e0 : mult a k = false := by
      unfold mult
      rw [ha]
      rcases hk with rfl | rfl | rfl | rfl <;> simp <;> omega
    have : refA a k = 5 := by unfold refA; rw [if_pos (by omega), e0]; rfl
    unfold wdE; rw [this]; rfl
  rw [e1, wdV_no (by rw [e1]; omega)] at H
  exact H
end Go.Proofs.Ytkjkmekkcnmjnaa
