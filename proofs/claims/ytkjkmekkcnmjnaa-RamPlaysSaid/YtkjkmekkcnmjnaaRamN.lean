/- What the law's own calls come to: where an operation is done, and what is written in both memories. Conditions: named at each. -/
import Derived.Test.YtkjkmekkcnmjnaaRamV
import Derived.Test.YtkjkmekkcnmjnaaHelpC
import Derived.Test.YtkjkmekkcnmjnaaRamY
import Derived.Test.YtkjkmekkcnmjnaaRamZ
namespace Go.Proofs.Ytkjkmekkcnmjnaa
open Go.RowKit
set_option linter.unusedVariables false
set_option maxRecDepth 100000

/-! ### what is written -/
def seE (N : Nat) (a : BitVec 64) (len : Nat) : Int := if hasB N a len then 0 else 6
def seM (N : Nat) (M : Nat → Int) (a : BitVec 64) (len : Nat) (z : Nat → Int) (c : Nat → Bool) : Nat → Int := if hasB N a len then sm M (offR a) len z c else M
def seL (N : Nat) (L : List (Int × Int)) (a : BitVec 64) (len : Nat) (z : Nat → Int) (c : Nat → Bool) : List (Int × Int) := if hasB N a len then smL L (2147483648 + (offR a : Int)) z c len else L
theorem RefM.se {N : Nat} {M : Nat → Int} {L : List (Int × Int)} (h : RefM N M L) (a : BitVec 64) (len : Nat) (z : Nat → Int) (c : Nat → Bool) : RefM N (seM N M a len z c) (seL N L a len z c) ∧ (seL N L a len z c).length ≤ L.length + len := by
  unfold seM seL
  cases hasB N a len
  · exact ⟨h, by simp⟩
  · exact ⟨h.sm _ _ _ _, smL_len _ _ _ _ _⟩
theorem sm_min (M : Nat → Int) (o len l2 : Nat) (z : Nat → Int) (st : Nat → Bool) : sm M o (min len l2) z st = sm M o len z (fun i => decide (i < l2) && st i) := by
  funext x
  unfold sm
  by_cases h : o ≤ x ∧ x < o + min len l2 ∧ st (x - o) = true
  · rw [if_pos h, if_pos ⟨h.1, by omega, by show (decide (x - o < l2) && st (x - o)) = true; rw [h.2.2, decide_eq_true (by omega)]; rfl⟩]
  · rw [if_neg h, if_neg (fun h2 => h ⟨h2.1, by
      have h3 := h2.2.2
      rw [Bool.and_eq_true, decide_eq_true_eq] at h3
      omega, by have h3 := h2.2.2; rw [Bool.and_eq_true] at h3; exact h3.2⟩)]
section
variable {n r N m p len l2 : Nat} {M z : Nat → Int} {L : List (Int × Int)} {st : Nat → Bool} {w : World} {s t : Value}
theorem ramsome_c (R : RamAt n r N M w) (hz : ∀ i, 0 ≤ z i ∧ z i < 256) (a : BitVec 64) (hs : Src n w s len z) (ht : SrcB n w t l2 st) (hlen : len ≤ 1000000) :
    Calls Try.prog 21 #[.pointer (some ⟨r, 0, none⟩), .int .u64 (u a), s, t] w fun e w' => e = .returned (.int .i64 (seE N a len)) ∧ Kp 64 n w w' ∧ RamAt n r N (seM N M a len z (fun i => decide (i < l2) && st i)) w' := by
  unfold seE seM
  cases hh : hasB N a len
  · have hv : ∃ b c, s = .slice b len c := by
      rcases hs with ⟨b, c, rfl, rfl⟩ | ⟨sb, so, c, rfl, _⟩
      · exact ⟨_, _, rfl⟩
      · exact ⟨_, _, rfl⟩
    obtain ⟨b, c, rfl⟩ := hv
    refine (some_bus R a t (by omega) hh).mono ?_
    rintro e w' ⟨rfl, h⟩
    exact ⟨by simp, .of_on h, by simpa using R.on h⟩
  · refine (some_ok R hz a hs ht hh).mono ?_
    rintro e w' ⟨rfl, h1, h2⟩
    rw [sm_min] at h2
    exact ⟨by simp, h1, by simpa using h2⟩
theorem ramwrite_c (R : RamAt n r N M w) (hz : ∀ i, 0 ≤ z i ∧ z i < 256) (a : BitVec 64) (hs : Src n w s len z) (hlen : len ≤ 1000000) :
    Calls Try.prog 18 #[.pointer (some ⟨r, 0, none⟩), .int .u64 (u a), s] w fun e w' => e = .returned (.int .i64 (seE N a len)) ∧ Kp 64 n w w' ∧ RamAt n r N (seM N M a len z (fun _ => true)) w' := by
  unfold seE seM
  cases hh : hasB N a len
  · have hv : ∃ b c, s = .slice b len c := by
      rcases hs with ⟨b, c, rfl, rfl⟩ | ⟨sb, so, c, rfl, _⟩
      · exact ⟨_, _, rfl⟩
      · exact ⟨_, _, rfl⟩
    obtain ⟨b, c, rfl⟩ := hv
    refine (write_bus R a (by omega) hh).mono ?_
    rintro e w' ⟨rfl, h⟩
    exact ⟨by simp, .of_on h, by simpa using R.on h⟩
  · refine (write_ok R hz a hs hh).mono ?_
    rintro e w' ⟨rfl, h1, h2⟩
    rw [ov_sm] at h2
    exact ⟨by simp, h1, by simpa using h2⟩
theorem refsome_c (R : RefAt m p N L w) (hm : m ≤ w.heap.size) (hL : L.length + len ≤ 1000000) (a : BitVec 64) (hs : SrcR m w s len z) (ht : SrcRB m w t l2 st) :
    Calls Try.prog 30 #[.pointer (some ⟨p, 0, none⟩), .int .u64 (u a), s, t, .bool false] w fun e w' => e = .returned (.int .i64 (seE N a len)) ∧ Kr m w w' ∧ RefAt m p N (seL N L a len z (fun i => decide (i < l2) && st i)) w' := by
  have hN := R.pages
  unfold seE seL
  cases hh : hasB N a len
  · have hv : ∃ b c, s = .slice b len c := by
      rcases hs with ⟨b, c, rfl, rfl⟩ | ⟨sb, so, c, rfl, _⟩
      · exact ⟨_, _, rfl⟩
      · exact ⟨_, _, rfl⟩
    obtain ⟨b, c, rfl⟩ := hv
    refine (rsome_bus R a t false (by omega) hh).mono ?_
    rintro e w' ⟨rfl, rfl⟩
    exact ⟨by simp, .refl _ _, by simpa using R⟩
  · rcases hs with ⟨b, c, rfl, rfl⟩ | ⟨sb, so, c, rfl, h0, h1, h2⟩
    · refine (rsome_zero R a t false).mono ?_
      rintro e w' ⟨rfl, rfl⟩
      exact ⟨by simp, .refl _ _, by simpa [smL] using R⟩
    · obtain ⟨e1, e2⟩ := offR_of hN h0 hh
      rw [e1]
      refine (rsome_st R hm h0 e2 hL h1 h2 ht).mono ?_
      rintro e w' ⟨rfl, h3, h4⟩
      exact ⟨by simp, h3, by simpa using h4⟩
theorem refwrite_c (R : RefAt m p N L w) (hm : m ≤ w.heap.size) (hL : L.length + len ≤ 1000000) (a : BitVec 64) (hs : SrcR m w s len z) (t : Value) :
    Calls Try.prog 30 #[.pointer (some ⟨p, 0, none⟩), .int .u64 (u a), s, t, .bool true] w fun e w' => e = .returned (.int .i64 (seE N a len)) ∧ Kr m w w' ∧ RefAt m p N (seL N L a len z (fun _ => true)) w' := by
  have hN := R.pages
  unfold seE seL
  cases hh : hasB N a len
  · have hv : ∃ b c, s = .slice b len c := by
      rcases hs with ⟨b, c, rfl, rfl⟩ | ⟨sb, so, c, rfl, _⟩
      · exact ⟨_, _, rfl⟩
      · exact ⟨_, _, rfl⟩
    obtain ⟨b, c, rfl⟩ := hv
    refine (rsome_bus R a t true (by omega) hh).mono ?_
    rintro e w' ⟨rfl, rfl⟩
    exact ⟨by simp, .refl _ _, by simpa using R⟩
  · rcases hs with ⟨b, c, rfl, rfl⟩ | ⟨sb, so, c, rfl, h0, h1, h2⟩
    · refine (rsome_zero R a t true).mono ?_
      rintro e w' ⟨rfl, rfl⟩
      exact ⟨by simp, .refl _ _, by simpa [smL] using R⟩
    · obtain ⟨e1, e2⟩ := offR_of hN h0 hh
      rw [e1]
      refine (rsome_all R hm t h0 e2 hL h1 h2).mono ?_
      rintro e w' ⟨rfl, h3, h4⟩
      exact ⟨by simp, h3, by simpa using h4⟩
end
/-! ### an operation -/
/-- an operation's cells -/
def opC (kd nn ad : Int) (rw : Bool) (bs ss : Value) (v : Int) : Array Value := #[.int .i64 kd, .int .i64 nn, .int .u64 ad, .bool rw, bs, ss, .int .u64 v]
theorem plA_ex (rw : Bool) (x : BitVec 64) : ∃ a : BitVec 64, (rw = true → a = x) ∧ (rw = false → u a = 2147483648 + u x % 2097152) := by
  cases rw
  · have h0 := u_nonneg x
    obtain ⟨a, ha⟩ := at_u (o := (u x % 2097152).toNat) (by omega)
    exact ⟨a, fun h => (by cases h), fun _ => by rw [ha]; omega⟩
  · exact ⟨x, fun _ => rfl, fun h => (by cases h)⟩
theorem lplace_any (kd nn : Int) (x a : BitVec 64) (rw : Bool) (bs ss : Value) (v : Int) (h1 : rw = true → a = x) (h2 : rw = false → u a = 2147483648 + u x % 2097152) (hb : bs.oneCell' = true) (hs : ss.oneCell' = true) (w : World) :
    Calls Try.prog 27 #[.agg #[.int .i64 kd, .int .i64 nn, .int .u64 (u x), .bool rw, bs, ss, .int .u64 v]] w fun e w' => e = .returned (.int .u64 (u a)) ∧ On w w' := by
  have HB := Lib.hid ((On.refl w).alloc (.cells #[.int .i64 kd, .int .i64 nn, .int .u64 (u x), .bool rw, bs, ss, .int .u64 v] 35))
  cases rw
  · have E := Lib.hid (h2 rfl)
    have ux := u_nonneg x
    clear h1 h2
    go_enter Try.func27, Try.ntmps27
    go_wp2
    go_ret
    exact ⟨by rw [E.out]; rfl, HB.out⟩
  · have E := Lib.hid (h1 rfl)
    clear h1 h2
    go_enter Try.func27, Try.ntmps27
    go_wp2
    go_ret
    exact ⟨by rw [E.out]; rfl, HB.out⟩
end Go.Proofs.Ytkjkmekkcnmjnaa
