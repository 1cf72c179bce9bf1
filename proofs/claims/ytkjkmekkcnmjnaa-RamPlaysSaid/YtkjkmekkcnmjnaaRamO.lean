/- One call of the law on both memories: words and bytes read. Conditions: named at each. -/
import Derived.Test.YtkjkmekkcnmjnaaRamN
import Derived.Test.YtkjkmekkcnmjnaaSlot
namespace Go.Proofs.Ytkjkmekkcnmjnaa
open Go.RowKit
set_option linter.unusedVariables false
set_option maxRecDepth 100000

/-- what a call of the law leaves -/
def StepR (w0 : World) (n r N m p : Nat) (L : List (Int × Int)) (w' : World) : Prop := On w0 w' ∧ ∃ M' L', RamAt n r N M' w' ∧ RefAt m p N L' w' ∧ RefM N M' L' ∧ L'.length ≤ L.length + 200
theorem Kp.below0 {w0 a b : World} {n : Nat} (h : On w0 a) (hn : w0.heap.size ≤ n) (k : Kp 64 n a b) : On w0 b := Kp.below h hn h.size k
theorem Kr.below0 {w0 a b : World} {m : Nat} (h : On w0 a) (hm : w0.heap.size ≤ m) (k : Kr m a b) : On w0 b := Kr.below h hm h.size k
section
variable {w0 w : World} {n r N m p : Nat} {M : Nat → Int} {L : List (Int × Int)}
set_option maxHeartbeats 2000000 in
theorem step_word (HO : On w0 w) (R : RamAt n r N M w) (Q : RefAt m p N L w) (hRM : RefM N M L) (hL : L.length ≤ 900000) (nn v : Int) (x : BitVec 64) (rw : Bool) (aB : Option Addr) (lB cB : Nat) (aS : Option Addr) (lS cS : Nat) (hnn : nn ≤ 9223372036854775807) :
    Calls Try.prog 15 #[.pointer (some ⟨r, 0, none⟩), .pointer (some ⟨p, 0, none⟩), .agg #[.int .i64 4, .int .i64 nn, .int .u64 (u x), .bool rw, .slice aB lB cB, .slice aS lS cS, .int .u64 v]] w fun e w' =>
      e = .returned (.bool true) ∧ StepR w0 n r N m p L w' := by
  obtain ⟨a, h1, h2⟩ := plA_ex rw x
  have K0 := Lib.hid (lplace_any 4 nn x a rw (.slice aB lB cB) (.slice aS lS cS) v h1 h2 rfl rfl)
  have c0 : ∀ wr, On (w.alloc (.cells #[.int .i64 4, .int .i64 nn, .int .u64 (u x), .bool rw, .slice aB lB cB, .slice aS lS cS, .int .u64 v] 35)) wr → wr.cell? ⟨w.heap.size, 0, none⟩ = some (.int .i64 4) := fun _ h => on_new h 0 rfl
  have c1 : ∀ wr, On (w.alloc (.cells #[.int .i64 4, .int .i64 nn, .int .u64 (u x), .bool rw, .slice aB lB cB, .slice aS lS cS, .int .u64 v] 35)) wr → wr.cell? ⟨w.heap.size, 1, none⟩ = some (.int .i64 nn) := fun _ h => on_new h 1 rfl
  have c2 : ∀ wr, On (w.alloc (.cells #[.int .i64 4, .int .i64 nn, .int .u64 (u x), .bool rw, .slice aB lB cB, .slice aS lS cS, .int .u64 v] 35)) wr → wr.cell? ⟨w.heap.size, 2, none⟩ = some (.int .u64 (u x)) := fun _ h => on_new h 2 rfl
  have c3 : ∀ wr, On (w.alloc (.cells #[.int .i64 4, .int .i64 nn, .int .u64 (u x), .bool rw, .slice aB lB cB, .slice aS lS cS, .int .u64 v] 35)) wr → wr.cell? ⟨w.heap.size, 3, none⟩ = some (.bool rw) := fun _ h => on_new h 3 rfl
  have c4 : ∀ wr, On (w.alloc (.cells #[.int .i64 4, .int .i64 nn, .int .u64 (u x), .bool rw, .slice aB lB cB, .slice aS lS cS, .int .u64 v] 35)) wr → wr.cell? ⟨w.heap.size, 4, none⟩ = some (.slice aB lB cB) := fun _ h => on_new h 4 rfl
  have c5 : ∀ wr, On (w.alloc (.cells #[.int .i64 4, .int .i64 nn, .int .u64 (u x), .bool rw, .slice aB lB cB, .slice aS lS cS, .int .u64 v] 35)) wr → wr.cell? ⟨w.heap.size, 5, none⟩ = some (.slice aS lS cS) := fun _ h => on_new h 5 rfl
  have c6 : ∀ wr, On (w.alloc (.cells #[.int .i64 4, .int .i64 nn, .int .u64 (u x), .bool rw, .slice aB lB cB, .slice aS lS cS, .int .u64 v] 35)) wr → wr.cell? ⟨w.heap.size, 6, none⟩ = some (.int .u64 v) := fun _ h => on_new h 6 rfl
  have hb := On.refl (w.alloc (.cells #[.int .i64 4, .int .i64 nn, .int .u64 (u x), .bool rw, .slice aB lB cB, .slice aS lS cS, .int .u64 v] 35))
  have hw1 := (On.refl w).alloc (.cells #[.int .i64 4, .int .i64 nn, .int .u64 (u x), .bool rw, .slice aB lB cB, .slice aS lS cS, .int .u64 v] 35)
  have K1 := Lib.hid (fun wx (hq : On (w.alloc (.cells #[.int .i64 4, .int .i64 nn, .int .u64 (u x), .bool rw, .slice aB lB cB, .slice aS lS cS, .int .u64 v] 35)) wx) => ramword_any (R.on (hw1.trans hq)) a nn hnn)
  have K2 := Lib.hid (fun wx (hq : On (w.alloc (.cells #[.int .i64 4, .int .i64 nn, .int .u64 (u x), .bool rw, .slice aB lB cB, .slice aS lS cS, .int .u64 v] 35)) wx) => rword_any (Q.on (hw1.trans hq)) (by omega) R.byte hRM a nn hnn)
  have HF := Lib.hid (And.intro HO (And.intro hw1 (And.intro R (And.intro Q (And.intro hRM hL)))))
  clear h1 h2 HO R Q hRM hL hw1
  generalize wdV N M a nn = vv at *
  generalize wdE N a nn = ee at *
  go_enter Try.func15, Try.ntmps15
  go_wp2_with (first | (go_at_call 27; refine (K0.out _).mono ?_; rintro e wn ⟨rfl, hb'⟩; have hb := hb.trans hb'; clear hb') | (go_at_call 13; refine (K1.out _ hb).mono ?_; rintro e wn ⟨rfl, hb'⟩; have hb := hb.trans hb'; clear hb') | (go_at_call 36; refine (K2.out _ hb).mono ?_; rintro e wn ⟨rfl, hb'⟩; have hb := hb.trans hb'; clear hb'))
  go_ret
  have ho := HF.out.2.1.trans hb
  exact ⟨by simp, HF.out.1.trans ho, _, _, HF.out.2.2.1.on ho, HF.out.2.2.2.1.on ho, HF.out.2.2.2.2.1, by omega⟩
end
end Go.Proofs.Ytkjkmekkcnmjnaa
