/- The calls of package ram that ask where bytes are: has, place, refused, Pages. Conditions: named at each. -/
import Derived.Test.YtkjkmekkcnmjnaaPmaC
import Derived.Test.YtkjkmekkcnmjnaaRamW
import Derived.Test.YtkjkmekkcnmjnaaCalls
import Derived.WalkKit
import Derived.ProofKit
import Derived.Lib.Hide
import Derived.IntWalk
import Derived.KernelRfl
namespace Go.Proofs.Ytkjkmekkcnmjnaa
open Go.RowKit
set_option linter.unusedVariables false
set_option maxRecDepth 100000

/-- a memory in its blocks: its struct, its map, its pages, all from n on -/
structure RamIn (n r N mb : Nat) (tab : Nat → Option Nat) (M : Nat → Int) (w : World) : Prop where
  pages : 4 ≤ N ∧ N ≤ 256
  low : n ≤ r ∧ n ≤ mb ∧ ∀ k b, tab k = some b → n ≤ b
  cell : w.heap[r]? = some (.cells #[.int .i64 N, .map (some mb)] 61 (0, 0))
  map : ∃ es clock, w.heap[mb]? = some (.map es clock) ∧ Tab es clock tab
  page : ∀ k b, tab k = some b → w.heap[b]? = some (.cells (rwA 4096 fun i => M (k * 4096 + i)) 64 (0, 0))
  zero : ∀ k, tab k = none → ∀ i, i < 4096 → M (k * 4096 + i) = 0
  inj : ∀ k k' b, tab k = some b → tab k' = some b → k = k'
  byte : ∀ x, 0 ≤ M x ∧ M x < 256
/-- a memory of N pages, whatever its blocks -/
def RamAt (n r N : Nat) (M : Nat → Int) (w : World) : Prop := ∃ mb tab, RamIn n r N mb tab M w
section
variable {n r N mb : Nat} {tab : Nat → Option Nat} {M : Nat → Int} {w w' : World}
theorem RamIn.lt (R : RamIn n r N mb tab M w) : r < w.heap.size ∧ mb < w.heap.size ∧ ∀ k b, tab k = some b → b < w.heap.size := by
  obtain ⟨es, cl, h, _⟩ := R.map
  exact ⟨lt_of_block R.cell, lt_of_block h, fun k b hb => lt_of_block (R.page k b hb)⟩
/-- its blocks stay -/
theorem RamIn.stay (R : RamIn n r N mb tab M w) (h : ∀ k, (k = r ∨ k = mb ∨ ∃ j, tab j = some k) → w'.heap[k]? = w.heap[k]?) : RamIn n r N mb tab M w' := by
  obtain ⟨es, cl, h1, h2⟩ := R.map
  exact ⟨R.pages, R.low, (h r (.inl rfl)).trans R.cell, ⟨es, cl, (h mb (.inr (.inl rfl))).trans h1, h2⟩, fun k b hb => (h b (.inr (.inr ⟨k, hb⟩))).trans (R.page k b hb), R.zero, R.inj, R.byte⟩
theorem RamIn.on (R : RamIn n r N mb tab M w) (h : On w w') : RamIn n r N mb tab M w' := by
  obtain ⟨h1, h2, h3⟩ := R.lt
  refine R.stay fun k hk => h.block k ?_
  rcases hk with rfl | rfl | ⟨j, hj⟩
  · exact h1
  · exact h2
  · exact h3 j k hj
/-- where what is below m stays, and its blocks are below m -/
theorem RamIn.kp {m : Nat} {a : World} (R : RamIn n r N mb tab M a) (h1 : On a w) (hm : a.heap.size ≤ m) (h : Kp 64 m w w') : RamIn n r N mb tab M w' := by
  obtain ⟨l1, l2, l3⟩ := R.lt
  have hs := h1.size
  refine (R.on h1).stay fun k hk => ?_
  have hk2 : k < a.heap.size := by
    rcases hk with rfl | rfl | ⟨j, hj⟩
    · exact l1
    · exact l2
    · exact l3 j k hj
  exact h.block k ⟨by omega, .inl (by omega)⟩
/-- where another block is written -/
theorem RamIn.but {B : Nat} {cs : Array Value} {t : TypeId} {fr : Nat × Nat} (R : RamIn n r N mb tab M w) (hB : w.heap[B]? = some (.cells cs t fr)) (h1 : t ≠ 64) (h2 : t ≠ 61) (h : But B w w') : RamIn n r N mb tab M w' := by
  obtain ⟨l1, l2, l3⟩ := R.lt
  obtain ⟨es, cl, hm, _⟩ := R.map
  refine R.stay fun k hk => ?_
  rcases hk with rfl | rfl | ⟨j, hj⟩
  · exact h.block _ l1 (fun e => by subst e; have := R.cell; rw [hB] at this; injection this with this; injection this with _ e2; exact h2 e2)
  · exact h.block _ l2 (fun e => by rw [e, hB] at hm; cases hm)
  · exact h.block _ (l3 j k hj) (fun e => by have := R.page j k hj; rw [e, hB] at this; injection this with this; injection this with _ e2; exact h1 e2)
end
theorem RamAt.on {n r N : Nat} {M : Nat → Int} {w w' : World} (R : RamAt n r N M w) (h : On w w') : RamAt n r N M w' := by
  obtain ⟨mb, tab, R⟩ := R
  exact ⟨mb, tab, R.on h⟩
theorem RamAt.but {n r N B : Nat} {M : Nat → Int} {w w' : World} {cs : Array Value} {t : TypeId} {fr : Nat × Nat} (R : RamAt n r N M w) (hB : w.heap[B]? = some (.cells cs t fr)) (h1 : t ≠ 64) (h2 : t ≠ 61) (h : But B w w') : RamAt n r N M w' := by
  obtain ⟨mb, tab, R⟩ := R
  exact ⟨mb, tab, R.but hB h1 h2 h⟩

/-- a page from place f on -/
theorem page_cut (b : Nat) {f : Nat} (hf : f < 4096) (w : World) : (Instr.sliceAt 64 (.pointer (some ⟨b, 0, none⟩)) (some (.int .i64 f)) none none).run Try.prog w = .ok (.slice (some ⟨b, f, none⟩) (4096 - f) (4096 - f)) w := by
  have hq : (f : Int) ≤ 4096 := by omega
  have hn : ¬ 4096 = f := by omega
  have ha : (⟨b, 0, none⟩ : Addr).add f = ⟨b, f, none⟩ := by unfold Addr.add; split <;> simp_all
  simp [Instr.sliceAt, Instr.sliceBounds, Instr.sureAddr, run_underlying Try.underlying64, run_sliceBound_if, hq, hn, ha, Result.andThen]
theorem u8_one : (Try.prog.info? 5).map (·.size) = some 1 := by kernel_rfl
theorem pgs_wf {N : Nat} (h : N ≤ 256) : (Lit.int .i64 (N : Nat)).wf = true := by
  simp [Lit.wf, IntKind.bits, IntKind.signed, IntKind.min, IntKind.max]; omega
/-- are k bytes from a on in RAM -/
def hasB (N : Nat) (a : BitVec 64) (k : Int) : Bool := k == 0 || (regA N a == 5 && decide (offA N a + k ≤ N * 4096))
theorem hasB_zero (N : Nat) (a : BitVec 64) : hasB N a 0 = true := by simp [hasB]
theorem ram_reg {N : Nat} (hN : 4 ≤ N ∧ N ≤ 256) (a : BitVec 64) : regA N a = 5 ↔ (2147483648 ≤ u a ∧ u a < 2147483648 + N * 4096) := by
  have hp : pgN N = N := by unfold pgN; omega
  constructor
  · intro h
    have := regA_in (p := N) (a := a) (by omega)
    rw [h] at this
    simp only [rgB, rgS, hp] at this
    exact this
  · intro h
    exact regA_uniq (by omega) (by simp only [rgB, rgS, hp]; exact h)
theorem ram_off {N : Nat} (a : BitVec 64) (h : regA N a = 5) : offA N a = u a - 2147483648 := by
  unfold offA; rw [h, if_neg (by omega)]; rfl
theorem hasB_iff {N : Nat} (hN : 4 ≤ N ∧ N ≤ 256) (a : BitVec 64) {k : Int} (hk : 0 < k) : hasB N a k = decide (2147483648 ≤ u a ∧ u a - 2147483648 + k ≤ N * 4096) := by
  unfold hasB
  rw [show (k == 0) = false by simp; omega, Bool.false_or]
  by_cases h : regA N a = 5
  · have h2 := (ram_reg hN a).1 h
    rw [h, ram_off a h, show ((5 : Nat) == 5) = true from rfl, Bool.true_and, decide_eq_decide]
    omega
  · rw [show (regA N a == 5) = false by simpa using h, Bool.false_and]
    symm
    rw [decide_eq_false_iff_not]
    intro h2
    exact h ((ram_reg hN a).2 (by omega))
set_option maxHeartbeats 1000000 in
theorem has_any {n r N mb : Nat} {tab : Nat → Option Nat} {M : Nat → Int} {w : World} (R : RamIn n r N mb tab M w) (a : BitVec 64) (k : Int) (hk0 : 0 ≤ k) (hk1 : k ≤ 9223372036854775807) :
    Calls Try.prog 37 #[.pointer (some ⟨r, 0, none⟩), .int .u64 (u a), .int .i64 k] w fun e w' => e = .returned (.bool (hasB N a k)) ∧ On w w' := by
  have hb := On.refl w
  by_cases hk : k = 0
  · subst hk
    have HB := Lib.hid hb
    clear hb
    go_enter Try.func37, Try.ntmps37
    go_wp2
    go_ret
    exact ⟨by rw [hasB_zero]; rfl, HB.out⟩
  · have c0 : ∀ wr, On w wr → wr.cell? ⟨r, 0, none⟩ = some (.int .i64 (N : Nat)) := fun wr h => blk_cell (h.keep R.cell) 0 rfl
    have hN := R.pages
    have hwf := Lib.hid (pgs_wf hN.2)
    have HH : Hid (hasB N a k = (regA N a == 5 && decide (offA N a + k ≤ N * 4096))) := Lib.hid (by unfold hasB; rw [show (k == 0) = false by simpa using hk, Bool.false_or])
    have ho := offA_in N a
    have hoo : 0 ≤ offA N a ∧ offA N a ≤ 4194304 := ⟨ho.1, by
      by_cases h0 : regA N a = 0
      · have := ho.2.2 h0; omega
      · have h1 := ho.2.1 h0
        have h2 := regA_in h0
        have h3 := rg_in N (regA N a)
        have h4 := regA_le N a
        have hp : pgN N = N := by unfold pgN; omega
        have h5 : regA N a = 1 ∨ regA N a = 2 ∨ regA N a = 3 ∨ regA N a = 4 ∨ regA N a = 5 := by omega
        rcases h5 with e | e | e | e | e <;> rw [e] at h1 <;> simp only [rgS, hp] at h1 <;> omega⟩
    have H1 := offset_any N hwf.out a
    have H2 := cached_any N hwf.out a
    have ko : IntKind.u64.wrap k = k := wrap_in k hk0 (by omega)
    generalize offA N a = oo at *
    obtain ⟨rb, hrb⟩ : ∃ rb, (regA N a == 5) = rb := ⟨_, rfl⟩
    rw [hrb] at HH H2
    have H1 := Lib.hid H1
    have H2 := Lib.hid H2
    have HB := Lib.hid hb
    clear ho hrb R hb
    have hb := On.refl w
    have k0 : (k == 0) = false := by simpa using hk
    cases rb <;> (
      go_enter Try.func37, Try.ntmps37
      go_wp2_with (first | (go_at_call 48; refine (H1.out _).mono ?_; rintro e wn ⟨rfl, hb'⟩; have hb := hb.trans hb'; clear hb') | (go_at_call 49; refine (H2.out _).mono ?_; rintro e wn ⟨rfl, hb'⟩; have hb := hb.trans hb'; clear hb'))
      go_ret
      exact ⟨by rw [HH.out]; simp; done, hb⟩)
end Go.Proofs.Ytkjkmekkcnmjnaa
