/- The law's rounds: one call of any kind; a copy held against its origin. Conditions: named at each. -/
import Derived.Test.YtkjkmekkcnmjnaaRamSo
import Derived.Test.YtkjkmekkcnmjnaaRamRd
import Derived.Test.YtkjkmekkcnmjnaaRamOp
import Derived.Test.YtkjkmekkcnmjnaaRamM
import Derived.Test.YtkjkmekkcnmjnaaRamY
namespace Go.Proofs.Ytkjkmekkcnmjnaa
open Go.RowKit
set_option linter.unusedVariables false
set_option maxRecDepth 100000

theorem opT : RowTy Try.prog 35 7 := ⟨by kernel_rfl, by kernel_rfl⟩
section
variable {w0 w : World} {n r N m p : Nat} {M : Nat → Int} {L : List (Int × Int)}
theorem RefAt.room (Q : RefAt m p N L w) : m ≤ w.heap.size := by
  obtain ⟨v, Q⟩ := Q
  have := lt_of_block Q.cell
  have := Q.low
  omega
theorem step_any (HO : On w0 w) (hn : w0.heap.size ≤ n) (hm0 : w0.heap.size ≤ m) (R : RamAt n r N M w) (Q : RefAt m p N L w) (hRM : RefM N M L) (hL : L.length ≤ 900000) (kd nn ad v : Int) (wkd : (Lit.int .i64 kd).wf = true) (wnn : (Lit.int .i64 nn).wf = true) (wad : (Lit.int .u64 ad).wf = true) (wv : (Lit.int .u64 v).wf = true)
    (rw : Bool) (aB : Option Addr) (lB k cB : Nat) (aS : Option Addr) (lS cS : Nat) (hB : SlB w0 aB lB cB) (hk : k ≤ lB) (hk2 : k ≤ 200) (hS : SlD w0 aS lS cS) :
    Calls Try.prog 15 #[.pointer (some ⟨r, 0, none⟩), .pointer (some ⟨p, 0, none⟩), .agg #[.int .i64 kd, .int .i64 nn, .int .u64 ad, .bool rw, .slice aB k cB, .slice aS lS cS, .int .u64 v]] w fun e w' =>
      e = .returned (.bool true) ∧ StepR w0 n r N m p L w' := by
  obtain ⟨x, rfl⟩ := u_of wad
  obtain ⟨y, rfl⟩ := u_of wv
  have hnn : nn ≤ 9223372036854775807 := by
    simp [Lit.wf, IntKind.bits, IntKind.signed, IntKind.min, IntKind.max] at wnn; omega
  have hm := Q.room
  obtain ⟨zs, rfl, hz, hrb⟩ := hB.rb hk
  by_cases q1 : kd = 1
  · subst q1
    obtain ⟨bs, rfl, hls, hbs⟩ := hS.rb
    exact step_some HO hn hm0 hm R Q hRM hL nn x (u y) rw aB cB aS cS hrb hz hk2 hbs hls
  by_cases q2 : kd = 2
  · subst q2; exact step_put HO hn hm0 hm R Q hRM hL nn x y rw aB zs.length cB aS lS cS hnn
  by_cases q3 : kd = 3
  · subst q3; exact step_read HO R Q hRM hL nn x (u y) rw aB zs.length cB aS lS cS
  by_cases q4 : kd = 4
  · subst q4; exact step_word HO R Q hRM hL nn (u y) x rw aB zs.length cB aS lS cS hnn
  exact step_write HO hn hm0 hm R Q hRM hL kd nn ⟨q1, q2, q3, q4⟩ x (u y) rw aB cB aS lS cS hrb hz hk2
end
/-! ### a copy and its origin -/
section
variable {w wx : World} {n r N mb g : Nat} {tab : Nat → Option Nat} {M M2 : Nat → Int} {rb : Bool}
theorem same_gr (R : RamIn n r N mb tab M w) (h : On w wx) (G : RamAt w.heap.size g N M2 wx) (hr : rb = true ↔ ∀ x, x < N * 4096 → M2 x = M x) :
    Calls Try.prog 12 #[.pointer (some ⟨g, 0, none⟩), .pointer (some ⟨r, 0, none⟩)] wx fun e w' => e = .returned (.bool rb) ∧ On wx w' := by
  obtain ⟨mb', tab', G⟩ := G
  refine same_any G (R.on h) (fun k j b c h1 h2 => ?_) hr
  have h3 := G.low.2.2 k b h1
  have h4 := R.lt.2.2 j c h2
  omega
theorem same_rg (R : RamIn n r N mb tab M w) (h : On w wx) (G : RamAt w.heap.size g N M2 wx) (hr : rb = true ↔ ∀ x, x < N * 4096 → M x = M2 x) :
    Calls Try.prog 12 #[.pointer (some ⟨r, 0, none⟩), .pointer (some ⟨g, 0, none⟩)] wx fun e w' => e = .returned (.bool rb) ∧ On wx w' := by
  obtain ⟨mb', tab', G⟩ := G
  refine same_any (R.on h) G (fun k j b c h1 h2 => ?_) hr
  have h3 := G.low.2.2 j c h2
  have h4 := R.lt.2.2 k b h1
  omega
end
theorem byte_low (v : BitVec 64) : byteAt v 0 = u v % 256 := by
  unfold byteAt u
  rw [BitVec.toNat_and, Nat.mul_zero, BitVec.ushiftRight_zero]
  show ((v.toNat &&& (2 ^ 8 - 1) : Nat) : Int) = _
  rw [Nat.and_two_pow_sub_one_eq_mod]
  omega
/-- the first byte as a word, and one more -/
theorem first_word (M : Nat → Int) (h : ∀ x, 0 ≤ M x ∧ M x < 256) : byteAt (wordOf (rdL M 0 1)) 0 = M 0 ∧ byteAt (wordOf (rdL M 0 1) + 1) 0 ≠ M 0 := by
  have h1 : wordOf (rdL M 0 1) = wordOf [M 0] := by simp [rdL]
  have h2 := wordOf_one (h 0)
  obtain ⟨a, b⟩ := h 0
  rw [h1]
  generalize wordOf [M 0] = W at *
  rw [byte_low, byte_low, h2]
  refine ⟨by omega, ?_⟩
  have h3 : (u (W + 1) : Int) = u W + 1 := by
    have h4 : (W + 1).toNat = W.toNat + 1 := by
      have : W.toNat < 256 := by unfold u at h2; omega
      rw [BitVec.toNat_add]
      show (W.toNat + 1 % 2 ^ 64) % 2 ^ 64 = _
      omega
    unfold u
    omega
  rw [h3, h2]
  omega
/-- what stands between two rounds -/
def PlInv (w : World) (m p N k r : Nat) (wr : World) : Prop := ∃ (n : Nat) (M : Nat → Int) (L : List (Int × Int)), w.heap.size ≤ n ∧ w.heap.size ≤ m ∧ On w wr ∧ RamAt n r N M wr ∧ RefAt m p N L wr ∧ RefM N M L ∧ L.length ≤ 200 * k
/-! ### operations -/
section
variable {P : Program} {Q : Exit → Act → World → Prop}
theorem wp_un_at {o : Oper} {a : Act} {w : World} {K : Act → World → Prop} {op : UnOp} {t : TypeId} {x : Operand} {vx v : Value} (ho : o.op = .unOp op t x) (hx : a.eval x = vx) (h : (Op.unary op vx).run P w = .ok v w) (hk : K (a.put o.dst v) w) : o.wp P a w K Q :=
  wp_val (by unfold execOp; simp only [ho, hx, Sem.run_bind, h, Result.andThen_ok, Sem.run_pure]) hk
theorem wp_ptr_at {o : Oper} {a : Act} {w : World} {K : Act → World → Prop} {x : Operand} {d : Addr} (ho : o.op = .nilCheck x) (hx : a.eval x = .pointer (some d)) (hk : K (a.put o.dst (.pointer (some d))) w) : o.wp P a w K Q :=
  wp_val (by unfold execOp; simp only [ho, hx]; go_simp) hk
theorem wp_pick_no {o : Oper} {a : Act} {w : World} {K : Act → World → Prop} {x y z : Operand} {v : Value} (ho : o.op = .pick x y z) (hx : a.eval x = .bool false) (hy : a.eval z = v) (hk : K (a.put o.dst v) w) : o.wp P a w K Q :=
  wp_val (by unfold execOp; simp only [ho, hx, hy]; go_simp) hk
end
/-! ### the region that calls step and holds the pages against one another -/
structure PlayAt (w0 : World) (bx : Nat) (C : Array Value) (n r N m p : Nat) (L : List (Int × Int)) (l : Array Bool) (wr : World) : Prop where
  on : On w0 wr
  box : l.getD 3 false = false → wr.heap[bx]? = some (.cells C 35 (0, 0)) ∧ ∃ M, RamAt n r N M wr ∧ RefAt m p N L wr ∧ RefM N M L
  st : ∃ M' L', RamAt n r N M' wr ∧ RefAt m p N L' wr ∧ RefM N M' L' ∧ L'.length ≤ L.length + 200
  o : l.getD 3 false = true → l.getD 2 false = true
section
variable {w0 wr wx : World} {bx : Nat} {C : Array Value} {n r N m p : Nat} {M : Nat → Int} {L : List (Int × Int)} {l : Array Bool}
theorem PlayAt.start (k : Nat) (ho : On w0 wr) (hb : wr.heap[bx]? = some (.cells C 35 (0, 0))) (R : RamAt n r N M wr) (Q : RefAt m p N L wr) (hM : RefM N M L) : PlayAt w0 bx C n r N m p L (Array.replicate k false) { wr with drawn := wr.drawn + 1 } := by
  have h1 := R.on ((On.refl wr).drewN 1)
  have h2 := Q.on ((On.refl wr).drewN 1)
  exact ⟨ho.drewN 1, fun _ => ⟨hb, _, h1, h2, hM⟩, ⟨_, _, h1, h2, hM, by omega⟩, fun h => by (rw [getD_nope] at h; cases h)⟩
theorem PlayAt.step (h : PlayAt w0 bx C n r N m p L l wr) (i : Nat) (h3 : i ≠ 3) (k : On wr wx) : PlayAt w0 bx C n r N m p L (l.setIfInBounds i true) wx := by
  obtain ⟨M', L', e1, e2, e3, e4⟩ := h.st
  refine ⟨h.on.trans k, fun e => ?_, ⟨_, _, e1.on k, e2.on k, e3, e4⟩, fun e => ?_⟩
  · rw [g_eq h3] at e
    obtain ⟨q1, M, q2, q3, q4⟩ := h.box e
    exact ⟨k.keep q1, M, q2.on k, q3.on k, q4⟩
  · rw [g_eq h3] at e; exact g_mono (h.o e)
theorem PlayAt.did (h : PlayAt w0 bx C n r N m p L l wr) (hs : 3 < l.size) (h2 : l.getD 2 false = true) (k : StepR w0 n r N m p L wx) : PlayAt w0 bx C n r N m p L (l.setIfInBounds 3 true) wx := by
  obtain ⟨k1, M', L', k2, k3, k4, k5⟩ := k
  exact ⟨k1, fun e => by (rw [g_self hs] at e; cases e), ⟨_, _, k2, k3, k4, k5⟩, fun _ => g_mono h2⟩
theorem PlayAt.box2 (h : PlayAt w0 bx C n r N m p L l wr) (hl : l.getD 2 true = false) : wr.heap[bx]? = some (.cells C 35 (0, 0)) := (h.box (g_ahead h.o hl)).1
theorem PlayAt.pages (h : PlayAt w0 bx C n r N m p L l wr) : ∃ v, wr.heap[p]? = some (.cells #[.int .i64 N, v] 45 (0, 0)) := by
  obtain ⟨M', L', _, ⟨v, e2⟩, _⟩ := h.st
  exact ⟨v, e2.cell⟩
theorem PlayAt.pgs (h : PlayAt w0 bx C n r N m p L l wr) : Calls Try.prog 16 #[.pointer (some ⟨r, 0, none⟩)] wr fun e w' => e = .returned (.int .i64 N) ∧ wr = w' := by
  obtain ⟨M', L', e1, _⟩ := h.st
  exact pages_any e1
end
end Go.Proofs.Ytkjkmekkcnmjnaa
