/- The reference's memory: Word, Put; what it holds beside a memory of the program. Conditions: named at each. -/
import Derived.Test.YtkjkmekkcnmjnaaRamU
namespace Go.Proofs.Ytkjkmekkcnmjnaa
open Go.RowKit
set_option linter.unusedVariables false
set_option maxRecDepth 100000

/-- both hold the same bytes -/
def RefM (N : Nat) (M : Nat → Int) (L : List (Int × Int)) : Prop := ∀ x, x < N * 4096 → M x = atL L (2147483648 + (x : Int))
theorem RefM.nil (N : Nat) : RefM N (fun _ => 0) [] := fun _ _ => rfl
theorem RefM.sm {N : Nat} {M : Nat → Int} {L : List (Int × Int)} (h : RefM N M L) (o k : Nat) (z : Nat → Int) (c : Nat → Bool) : RefM N (sm M o k z c) (smL L (2147483648 + (o : Int)) z c k) := fun x hx => by
  rw [smL_at]
  unfold Proofs.Ytkjkmekkcnmjnaa.sm
  by_cases h1 : o ≤ x ∧ x < o + k ∧ c (x - o) = true
  · rw [if_pos h1, if_pos h1]
  · rw [if_neg h1, if_neg h1]; exact h x hx
theorem ov_sm (M z : Nat → Int) (o k : Nat) : ov M o k z = sm M o k z (fun _ => true) := by
  funext x
  unfold ov sm
  by_cases h : o ≤ x ∧ x < o + k
  · rw [if_pos h, if_pos ⟨h.1, h.2, rfl⟩]
  · rw [if_neg h, if_neg (fun h2 => h ⟨h2.1, h2.2.1⟩)]
theorem RefM.ov {N : Nat} {M : Nat → Int} {L : List (Int × Int)} (h : RefM N M L) (o k : Nat) (z : Nat → Int) : RefM N (ov M o k z) (smL L (2147483648 + (o : Int)) z (fun _ => true) k) := by
  rw [ov_sm]; exact h.sm o k z _
theorem owns_row {w : World} {b k : Nat} {v : Value} {xs : List Value} (h : w.ownsRow b 5 1 v k xs) (hk : 0 < k) : ∃ g c cur, v = .slice (some ⟨g, 0, none⟩) k c ∧ b ≤ g ∧ k ≤ c ∧ c ≤ maxLen ∧ w.heap[g]? = some (.cells cur 5 (0, 0)) ∧ ∀ j x, xs[j]? = some x → w.cell? ⟨g, j, none⟩ = some x := by
  obtain ⟨hl, ⟨_, h0⟩ | ⟨g, cap, cur, he, hb, h3, h4, h5, h6, h7⟩⟩ := h
  · omega
  · refine ⟨g, cap, cur, he, hb, h4, h5, h3, fun j x hx => ?_⟩
    rw [← h7] at hx
    have hj : j < k * 1 := by
      rcases Nat.lt_or_ge j (k * 1) with h | h
      · exact h
      · rw [List.getElem?_eq_none (by rw [List.length_take]; omega)] at hx; cases hx
    rw [List.getElem?_take_of_lt hj, Array.getElem?_toList] at hx
    exact blk_cell h3 j hx
theorem rb_of_owns {w : World} {b k : Nat} {v : Value} {z : Nat → Int} {zs : List Int} (h : w.ownsRow b 5 1 v k (clN k z)) (hk : 0 < k) (hl : zs.length = k) (hz : ∀ j, j < k → z j = zs.getD j 0) : RB w v zs := by
  obtain ⟨g, c, cur, rfl, _, h1, h2, _, h3⟩ := owns_row h hk
  refine .inr ⟨g, 0, c, by rw [hl], by omega, by omega, by unfold maxLen at h2; omega, fun j hj => ?_⟩
  rw [Nat.zero_add, h3 j _ (clN_at (by omega)), hz j (by omega)]
section
variable {m p N : Nat} {L : List (Int × Int)} {M : Nat → Int} {w : World}
theorem wdE_zero {a : BitVec 64} {s : Int} (hN : 4 ≤ N ∧ N ≤ 256) (h : wdE N a s = 0) : ∃ k : Nat, s = (k : Int) ∧ (k = 1 ∨ k = 2 ∨ k = 4 ∨ k = 8) ∧ u a = 2147483648 + (offR a : Int) ∧ offR a + k ≤ N * 4096 := by
  rcases refA_cases a s with ⟨h0, h8⟩ | h0 | h0
  · obtain ⟨k, rfl⟩ : ∃ k : Nat, s = (k : Int) := ⟨s.toNat, by omega⟩
    unfold wdE at h
    rw [if_pos h0] at h
    cases hh : hasB N a k
    · rw [hh] at h; simp at h
    · exact ⟨k, rfl, by omega, offR_of hN (by omega) hh⟩
  · unfold wdE at h; rw [h0] at h; simp at h
  · unfold wdE at h; rw [h0] at h; simp at h
set_option maxHeartbeats 1000000 in
theorem rword_any (R : RefAt m p N L w) (hL : L.length ≤ 1000000) (hM : ∀ x, 0 ≤ M x ∧ M x < 256) (hRM : RefM N M L) (a : BitVec 64) (s : Int) (hs : s ≤ 9223372036854775807) :
    Calls Try.prog 36 #[.pointer (some ⟨p, 0, none⟩), .int .u64 (u a), .int .i64 s] w fun e w' => e = .returned (.tuple #[.int .u64 (wdV N M a s), .int .i64 (wdE N a s)]) ∧ On w w' := by
  have H1 := Lib.hid (rplace_any R a s hs)
  by_cases h0 : wdE N a s = 0
  · obtain ⟨k, rfl, h8, ho, hl⟩ := wdE_zero R.pages h0
    rw [h0] at H1
    have E := Lib.hid (And.intro h0 (wdV_yes (M := M) h0))
    have H2 := rread_ok R hL (o := offR a) (k := k) (by omega) hl
    rw [← ho] at H2
    have HZ : Hid (∀ j, j < k → atL L (u a + (j : Int)) = (rdL M (offR a) k).getD j 0) := Lib.hid fun j hj => by
      rw [rdL_get _ _ hj, hRM (offR a + j) (by omega), ho]; congr 1; omega
    have H2 := Lib.hid H2
    have HB := Lib.hid (rdL_byte hM (offR a) k)
    have HK := Lib.hid (show 0 < k by omega)
    clear h0 h8 ho hl R hL hM hRM hs
    go_enter Try.func36, Try.ntmps36
    go_wp2_with (first | (go_at_call 44; refine (H1.out).mono ?_; rintro e w' ⟨rfl, rfl⟩) | (go_at_call 35; refine H2.out.mono ?_; rintro e wn ⟨hb, v, rfl, hown⟩; have HG := Lib.hid (And.intro hb (rb_of_owns hown HK.out (rdL_len M (offR a) k) HZ.out)); clear hb hown) | (go_at_call 47; refine (ref_word_any _ _ _ HG.out.2 HB.out).mono ?_; rintro e w' ⟨rfl, rfl⟩))
    go_ret2
    refine ⟨?_, HG.out.1⟩
    rw [E.out.1, E.out.2]
    rfl
  · have E := Lib.hid (wdV_no (M := M) h0)
    have hb : (wdE N a s != 0) = true := by simpa using h0
    generalize wdE N a s = e0 at *
    clear R hRM
    go_enter Try.func36, Try.ntmps36
    go_wp2_with (first | (go_at_call 44; refine (H1.out).mono ?_; rintro e w' ⟨rfl, rfl⟩))
    go_ret2
    refine ⟨?_, On.refl _⟩
    rw [E.out]
    rfl
/-- the reference's list behind Put -/
def ptL (N : Nat) (L : List (Int × Int)) (a : BitVec 64) (s : Int) (v : BitVec 64) : List (Int × Int) := if wdE N a s = 0 then smL L (2147483648 + (offR a : Int)) (byteAt v) (fun _ => true) s.toNat else L
theorem ptL_no {a : BitVec 64} {s : Int} {v : BitVec 64} (h : wdE N a s ≠ 0) : ptL N L a s v = L := by unfold ptL; rw [if_neg h]
theorem ptL_yes {a : BitVec 64} {k : Nat} {v : BitVec 64} (h : wdE N a k = 0) : ptL N L a k v = smL L (2147483648 + (offR a : Int)) (byteAt v) (fun _ => true) k := by unfold ptL; rw [if_pos h, Int.toNat_natCast]
theorem RefM.pt (h : RefM N M L) (hN : 4 ≤ N ∧ N ≤ 256) (a : BitVec 64) (s : Int) (v : BitVec 64) : RefM N (ptM N M a s v) (ptL N L a s v) ∧ (ptL N L a s v).length ≤ L.length + 8 := by
  by_cases h0 : wdE N a s = 0
  · obtain ⟨k, rfl, h8, _, _⟩ := wdE_zero hN h0
    rw [ptM_yes h0, ptL_yes h0]
    exact ⟨h.ov _ _ _, by have := smL_len L (2147483648 + (offR a : Int)) (byteAt v) (fun _ => true) k; omega⟩
  · rw [ptM_no h0, ptL_no h0]
    exact ⟨h, by omega⟩
set_option maxHeartbeats 1000000 in
theorem rput_any (R : RefAt m p N L w) (hm : m ≤ w.heap.size) (hL : L.length ≤ 999000) (a : BitVec 64) (s : Int) (hs : s ≤ 9223372036854775807) (v : BitVec 64) :
    Calls Try.prog 34 #[.pointer (some ⟨p, 0, none⟩), .int .u64 (u a), .int .i64 s, .int .u64 (u v)] w fun e w' => e = .returned (.int .i64 (wdE N a s)) ∧ Kr m w w' ∧ RefAt m p N (ptL N L a s v) w' := by
  have H1 := Lib.hid (rplace_any R a s hs)
  by_cases h0 : wdE N a s = 0
  · obtain ⟨k, rfl, h8, ho, hl⟩ := wdE_zero R.pages h0
    rw [h0] at H1
    have E := Lib.hid h0
    have HB := ref_bytes_any v k
    rw [clamp_nat (by omega)] at HB
    have HB := Lib.hid HB
    have HP : Hid (ptL N L a k v = smL L (2147483648 + (offR a : Int)) (byteAt v) (fun _ => true) k) := Lib.hid (ptL_yes h0)
    have HS : Hid (∀ (w1 : World) (r : Value), w1.ownsRow w.heap.size 5 1 r k (byteCells v k) → Below w.heap.size w w1 →
        Calls Try.prog 30 #[.pointer (some ⟨p, 0, none⟩), .int .u64 (u a), r, .slice none 0 0, .bool true] w1 fun e w' => e = .returned (.int .i64 0) ∧ Kr m w w' ∧ RefAt m p N (smL L (2147483648 + (offR a : Int)) (byteAt v) (fun _ => true) k) w') := Lib.hid fun w1 r hown hb => by
      obtain ⟨g, c, cur, rfl, _, _, _, hg, hcl⟩ := owns_row hown (by omega)
      rw [ho]
      refine (rsome_all (R.on hb) (by have := hb.size; omega) (.slice none 0 0) (z := byteAt v) (by omega) hl (by omega) (SafeR.of_cells hg (by decide) (by decide)) (fun i hi => ?_)).mono ?_
      · rw [Nat.zero_add]
        exact hcl i _ (by simp [byteCells, hi])
      · rintro e w' ⟨rfl, h1, h2⟩
        exact ⟨rfl, (Kr.of_on hb).trans h1, h2⟩
    clear h0 h8 ho hl R hL hs hm
    go_enter Try.func34, Try.ntmps34
    go_wp2_with (first | (go_at_call 44; refine (H1.out).mono ?_; rintro e w' ⟨rfl, rfl⟩) | (go_at_call 45; refine (HB.out _).mono ?_; rintro e w1 ⟨r, rfl, hown, hb⟩; have HO := Lib.hid (And.intro hown hb); clear hown hb) | (go_at_call 30; refine (HS.out _ _ HO.out.1 HO.out.2).mono ?_; rintro e w2 ⟨rfl, h1, h2⟩; have HF := Lib.hid (And.intro h1 h2); clear h1 h2))
    go_ret
    exact ⟨by rw [E.out]; rfl, HF.out.1, by rw [HP.out]; exact HF.out.2⟩
  · have E := Lib.hid (ptL_no (L := L) (v := v) h0)
    have HR := Lib.hid R
    have hb : (wdE N a s != 0) = true := by simpa using h0
    generalize wdE N a s = e0 at *
    clear R
    go_enter Try.func34, Try.ntmps34
    go_wp2_with (first | (go_at_call 44; refine (H1.out).mono ?_; rintro e w' ⟨rfl, rfl⟩))
    go_ret
    exact ⟨rfl, .refl _ _, by rw [E.out]; exact HR.out⟩
end
end Go.Proofs.Ytkjkmekkcnmjnaa
