/- One call of the law on both memories: bytes read. Conditions: named at each. -/
import Derived.Test.YtkjkmekkcnmjnaaRamWr
import Derived.Test.YtkjkmekkcnmjnaaRamH
namespace Go.Proofs.Ytkjkmekkcnmjnaa
open Go.RowKit
set_option linter.unusedVariables false
set_option maxRecDepth 100000

def rdE (N : Nat) (a : BitVec 64) (K : Int) : Int := if K < 0 then 1 else if hasB N a K then 0 else 6
def rdZ (N : Nat) (M : Nat → Int) (a : BitVec 64) (K : Int) : List Int := if K < 0 then [] else if hasB N a K then rdL M (offR a) K.toNat else []
/-- a copy that may be spoiled -/
def RdV (B0 : Nat) (w : World) (v : Value) (zs : List Int) : Prop := RB w v zs ∧ ((∃ a c, v = .slice a 0 c) ∨ ∃ B k c cur, B0 ≤ B ∧ v = .slice (some ⟨B, 0, none⟩) k c ∧ (k : Int) ≤ 140737488355328 ∧ w.heap[B]? = some (.cells cur 5 (0, 0)) ∧ ∀ j, j < k → ∃ y : Int, 0 ≤ y ∧ y < 256 ∧ cur[j]? = some (.int .u8 y))
theorem RdV.on {B0 : Nat} {w w' : World} {v : Value} {zs : List Int} (h : RdV B0 w v zs) (k : On w w') : RdV B0 w' v zs := by
  refine ⟨RB.on0 h.1 k, ?_⟩
  rcases h.2 with h | ⟨B, l, c, cur, h1, h2, h3, h4, h5⟩
  · exact .inl h
  · exact .inr ⟨B, l, c, cur, h1, h2, h3, k.keep h4, h5⟩
theorem RB.conv {w : World} {v : Value} {zs : List Int} (h : RB w v zs) : (convert 32 9 v).run Try.prog w = .ok (.string (strOfNums zs)) w := by
  rcases h with ⟨a, c, rfl, rfl, _⟩ | ⟨b, off, c, h1, _, _, _, h2⟩
  · exact conv_zero a c w
  · exact conv_rs (.inr ⟨b, off, c, h1, h2⟩)
theorem RdV.spoil {B0 : Nat} {w : World} {v : Value} {zs : List Int} (h : RdV B0 w v zs) : Calls Try.prog 33 #[v] w fun e w' => e = .returned (.tuple #[]) ∧
    (∀ wa : World, wa.heap.size ≤ B0 → On wa w → On wa w') ∧ (∀ n r N M, RamAt n r N M w → RamAt n r N M w') ∧ ∀ m p N L, RefAt m p N L w → RefAt m p N L w' := by
  rcases h.2 with ⟨a, c, rfl⟩ | ⟨B, l, c, cur, h1, rfl, h3, h4, h5⟩
  · refine (spoil_zero a c w).mono ?_
    rintro e w' ⟨rfl, rfl⟩
    exact ⟨rfl, fun _ _ h => h, fun _ _ _ _ h => h, fun _ _ _ _ h => h⟩
  · refine (spoil_row h3 h4 h5).mono ?_
    rintro e w' ⟨rfl, k⟩
    exact ⟨rfl, fun _ hs h => h.but_new (Nat.le_trans hs h1) k, fun _ _ _ _ h => h.but h4 (by decide) (by decide) k, fun _ _ _ _ h => h.but h4 (by decide) (by decide) k⟩
section
variable {n r N m p : Nat} {M : Nat → Int} {L : List (Int × Int)} {w : World}
theorem read_c (R : RamAt n r N M w) (a : BitVec 64) (K : Int) (hK : K ≤ 200) :
    Calls Try.prog 17 #[.pointer (some ⟨r, 0, none⟩), .int .u64 (u a), .int .i64 K] w fun e w' => ∃ v, e = .returned (.tuple #[v, .int .i64 (rdE N a K)]) ∧ On w w' ∧ RdV w.heap.size w' v (rdZ N M a K) := by
  unfold rdE rdZ
  have hno : ∀ w' : World, RdV w.heap.size w' (.slice none 0 0) [] := fun _ => ⟨.inl ⟨_, _, rfl, rfl, fun _ => rfl⟩, .inl ⟨_, _, rfl⟩⟩
  by_cases h0 : K < 0
  · simp only [h0, if_true]
    refine (read_neg r (u a) K h0 w).mono ?_
    rintro e w' ⟨rfl, rfl⟩
    exact ⟨_, rfl, On.refl _, hno _⟩
  · simp only [h0, if_false]
    cases hh : hasB N a K
    · refine (read_bus R a K (by omega) (by omega) hh).mono ?_
      rintro e w' ⟨rfl, h⟩
      exact ⟨.slice none 0 0, by simp, h, by simpa using hno _⟩
    · obtain ⟨k, rfl⟩ : ∃ k : Nat, K = (k : Int) := ⟨K.toNat, by omega⟩
      have hb := R.byte
      refine (read_ok R a k hh).mono ?_
      rintro e w' ⟨h1, B, h2, rfl, h3⟩
      refine ⟨_, rfl, h1, ?_⟩
      simp only [if_true, Int.toNat_natCast]
      refine ⟨?_, .inr ⟨B, k, k, _, h2, rfl, by omega, h3, fun j hj => ⟨M (offR a + j), (hb _).1, (hb _).2, ?_⟩⟩⟩
      · rcases Nat.eq_zero_or_pos k with e0 | e0
        · subst e0; exact .inl ⟨_, _, rfl, rfl, fun h => by cases h⟩
        · refine .inr ⟨B, 0, k, by rw [rdL_len], by rw [rdL_len]; exact e0, by rw [rdL_len]; omega, by omega, fun i hi => ?_⟩
          rw [rdL_len] at hi
          rw [rdL_get M _ hi, Nat.zero_add, cell_of_row w' B i _ _ _ h3]; exact rw_get _ hi
      · exact rw_get _ hj
theorem rread_c (R : RefAt m p N L w) (hL : L.length ≤ 1000000) (hRM : RefM N M L) (a : BitVec 64) (K : Int) (hK : K ≤ 200) :
    Calls Try.prog 35 #[.pointer (some ⟨p, 0, none⟩), .int .u64 (u a), .int .i64 K] w fun e w' => ∃ v, e = .returned (.tuple #[v, .int .i64 (rdE N a K)]) ∧ On w w' ∧ RB w' v (rdZ N M a K) := by
  unfold rdE rdZ
  have hN := R.pages
  have hno : ∀ w' : World, RB w' (.slice none 0 0) [] := fun _ => .inl ⟨_, _, rfl, rfl, fun _ => rfl⟩
  by_cases h0 : K < 0
  · simp only [h0, if_true]
    refine (rread_neg p (u a) K h0 w).mono ?_
    rintro e w' ⟨rfl, rfl⟩
    exact ⟨_, rfl, On.refl _, hno _⟩
  · simp only [h0, if_false]
    cases hh : hasB N a K
    · refine (rread_bus R a K (by omega) (by omega) hh).mono ?_
      rintro e w' ⟨rfl, rfl⟩
      exact ⟨.slice none 0 0, by simp, On.refl _, by simpa using hno _⟩
    · obtain ⟨k, rfl⟩ : ∃ k : Nat, K = (k : Int) := ⟨K.toNat, by omega⟩
      simp only [if_true, Int.toNat_natCast]
      rcases Nat.eq_zero_or_pos k with e0 | e0
      · subst e0
        refine (rread_zero R a).mono ?_
        rintro e w' ⟨rfl, rfl⟩
        exact ⟨_, rfl, On.refl _, hno _⟩
      · obtain ⟨e1, e2⟩ := offR_of hN e0 hh
        rw [e1]
        refine (rread_ok R hL e0 e2).mono ?_
        rintro e w' ⟨h1, v, rfl, h2⟩
        refine ⟨_, rfl, h1, rb_of_owns h2 e0 (rdL_len _ _ _) fun j hj => ?_⟩
        rw [rdL_get M _ hj, hRM _ (by omega), Int.natCast_add, Int.add_assoc]
end
section
variable {w0 w : World} {n r N m p : Nat} {M : Nat → Int} {L : List (Int × Int)}
set_option maxHeartbeats 4000000 in
theorem step_read (HO : On w0 w) (R : RamAt n r N M w) (Q : RefAt m p N L w) (hRM : RefM N M L) (hL : L.length ≤ 900000) (nn : Int) (x : BitVec 64) (v : Int) (rw : Bool) (aB : Option Addr) (lB cB : Nat) (aS : Option Addr) (lS cS : Nat) :
    Calls Try.prog 15 #[.pointer (some ⟨r, 0, none⟩), .pointer (some ⟨p, 0, none⟩), .agg #[.int .i64 3, .int .i64 nn, .int .u64 (u x), .bool rw, .slice aB lB cB, .slice aS lS cS, .int .u64 v]] w fun e w' =>
      e = .returned (.bool true) ∧ StepR w0 n r N m p L w' := by
  obtain ⟨aa, h1, h2⟩ := plA_ex rw x
  have K0 := Lib.hid (lplace_any 3 nn x aa rw (.slice aB lB cB) (.slice aS lS cS) v h1 h2 rfl rfl)
  have c0 : ∀ wr, On (w.alloc (.cells #[.int .i64 3, .int .i64 nn, .int .u64 (u x), .bool rw, .slice aB lB cB, .slice aS lS cS, .int .u64 v] 35)) wr → wr.cell? ⟨w.heap.size, 0, none⟩ = some (.int .i64 3) := fun _ h => on_new h 0 rfl
  have c1 : ∀ wr, On (w.alloc (.cells #[.int .i64 3, .int .i64 nn, .int .u64 (u x), .bool rw, .slice aB lB cB, .slice aS lS cS, .int .u64 v] 35)) wr → wr.cell? ⟨w.heap.size, 1, none⟩ = some (.int .i64 nn) := fun _ h => on_new h 1 rfl
  have c2 : ∀ wr, On (w.alloc (.cells #[.int .i64 3, .int .i64 nn, .int .u64 (u x), .bool rw, .slice aB lB cB, .slice aS lS cS, .int .u64 v] 35)) wr → wr.cell? ⟨w.heap.size, 2, none⟩ = some (.int .u64 (u x)) := fun _ h => on_new h 2 rfl
  have c3 : ∀ wr, On (w.alloc (.cells #[.int .i64 3, .int .i64 nn, .int .u64 (u x), .bool rw, .slice aB lB cB, .slice aS lS cS, .int .u64 v] 35)) wr → wr.cell? ⟨w.heap.size, 3, none⟩ = some (.bool rw) := fun _ h => on_new h 3 rfl
  have c4 : ∀ wr, On (w.alloc (.cells #[.int .i64 3, .int .i64 nn, .int .u64 (u x), .bool rw, .slice aB lB cB, .slice aS lS cS, .int .u64 v] 35)) wr → wr.cell? ⟨w.heap.size, 4, none⟩ = some (.slice aB lB cB) := fun _ h => on_new h 4 rfl
  have c5 : ∀ wr, On (w.alloc (.cells #[.int .i64 3, .int .i64 nn, .int .u64 (u x), .bool rw, .slice aB lB cB, .slice aS lS cS, .int .u64 v] 35)) wr → wr.cell? ⟨w.heap.size, 5, none⟩ = some (.slice aS lS cS) := fun _ h => on_new h 5 rfl
  have c6 : ∀ wr, On (w.alloc (.cells #[.int .i64 3, .int .i64 nn, .int .u64 (u x), .bool rw, .slice aB lB cB, .slice aS lS cS, .int .u64 v] 35)) wr → wr.cell? ⟨w.heap.size, 6, none⟩ = some (.int .u64 v) := fun _ h => on_new h 6 rfl
  have hb := On.refl (w.alloc (.cells #[.int .i64 3, .int .i64 nn, .int .u64 (u x), .bool rw, .slice aB lB cB, .slice aS lS cS, .int .u64 v] 35))
  have hw1 := (On.refl w).alloc (.cells #[.int .i64 3, .int .i64 nn, .int .u64 (u x), .bool rw, .slice aB lB cB, .slice aS lS cS, .int .u64 v] 35)
  have HW := Lib.hid (HO.trans hw1)
  have hL2 : L.length ≤ 1000000 := by omega
  have K1 := Lib.hid (fun (K : Int) (hK : K ≤ 200) wx (hq : (On (w.alloc (.cells #[.int .i64 3, .int .i64 nn, .int .u64 (u x), .bool rw, .slice aB lB cB, .slice aS lS cS, .int .u64 v] 35)) wx)) => read_c (R.on (hw1.trans hq)) aa K hK)
  have K2 := Lib.hid (fun (K : Int) (hK : K ≤ 200) wx (hq : (On (w.alloc (.cells #[.int .i64 3, .int .i64 nn, .int .u64 (u x), .bool rw, .slice aB lB cB, .slice aS lS cS, .int .u64 v] 35)) wx)) => rread_c (Q.on (hw1.trans hq)) hL2 hRM aa K hK)
  have HF := Lib.hid (And.intro hw1 (And.intro R (And.intro Q (And.intro hRM hL))))
  clear h1 h2 HO R Q hRM hL hw1 hL2
  go_enter Try.func15, Try.ntmps15
  go_wp2_with (first | (go_at_call 27; refine (K0.out _).mono ?_; rintro e wn ⟨rfl, hb'⟩; have hb := hb.trans hb'; clear hb'))
  all_goals
    refine (K1.out _ (by omega) _ hb).mono ?_
    rintro e wn ⟨va, rfl, hb', hva⟩
    have hs := Lib.hid (HW.out.trans hb).size
    have hb := hb.trans hb'
    clear hb'
    have hva := Lib.hid hva
    go_wp2_with (first | (go_at_call 35; refine (K2.out _ (by omega) _ hb).mono ?_; rintro e wn ⟨vb, rfl, hb', hvb⟩; have hva := Lib.hid (hva.out.on hb'); have hb := hb.trans hb'; clear hb'; have hvb := Lib.hid hvb) | (go_at_call 19; refine (same_conv (RB.conv hva.out.1) (RB.conv hvb.out)).mono ?_; rintro e w' ⟨rfl, rfl⟩) | (go_at_call 33; refine (RdV.spoil hva.out).mono ?_; rintro e w' ⟨rfl, hsp⟩))
    go_ret
    have ho := HF.out.1.trans hb
    exact ⟨by simp, hsp.1 _ hs.out (HW.out.trans hb), _, _, hsp.2.1 _ _ _ _ (HF.out.2.1.on ho), hsp.2.2 _ _ _ _ (HF.out.2.2.1.on ho), HF.out.2.2.2.1, by omega⟩
end
end Go.Proofs.Ytkjkmekkcnmjnaa
