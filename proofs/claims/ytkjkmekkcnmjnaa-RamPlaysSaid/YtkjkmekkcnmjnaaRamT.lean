/- The reference's memory: what is written. Conditions: named at each. -/
import Derived.Test.YtkjkmekkcnmjnaaRamR
import Derived.BigQuiet
import Derived.Deep.RegionWith
import Derived.Deep.RegionLaw
namespace Go.Proofs.Ytkjkmekkcnmjnaa
open Go.RowKit
set_option linter.unusedVariables false
set_option maxRecDepth 100000

/-- the bytes of which c says so, laid behind L -/
def smL (L : List (Int × Int)) (A : Int) (z : Nat → Int) (c : Nat → Bool) : Nat → List (Int × Int)
  | 0 => L
  | k + 1 => if c k then smL L A z c k ++ [(A + (k : Int), z k)] else smL L A z c k
theorem smL_len (L : List (Int × Int)) (A : Int) (z : Nat → Int) (c : Nat → Bool) : ∀ k, (smL L A z c k).length ≤ L.length + k
  | 0 => Nat.le_refl _
  | k + 1 => by
    have := smL_len L A z c k
    unfold smL
    split
    · simp; omega
    · omega
theorem smL_at (L : List (Int × Int)) (z : Nat → Int) (c : Nat → Bool) (o x : Nat) : ∀ k, atL (smL L (2147483648 + (o : Int)) z c k) (2147483648 + (x : Int)) = if o ≤ x ∧ x < o + k ∧ c (x - o) = true then z (x - o) else atL L (2147483648 + (x : Int))
  | 0 => by unfold smL; rw [if_neg (by omega)]
  | k + 1 => by
    have ih := smL_at L z c o x k
    unfold smL
    by_cases hc : c k = true
    · rw [if_pos hc, atL_snoc]
      by_cases hx : x = o + k
      · subst hx
        rw [if_pos (by simp; omega), if_pos ⟨by omega, by omega, by rw [show o + k - o = k by omega]; exact hc⟩, show o + k - o = k by omega]
      · rw [if_neg (by simp; omega), ih]
        by_cases h : o ≤ x ∧ x < o + k ∧ c (x - o) = true
        · rw [if_pos h, if_pos ⟨h.1, by omega, h.2.2⟩]
        · rw [if_neg h, if_neg (fun h2 => h ⟨h2.1, by omega, h2.2.2⟩)]
    · rw [if_neg hc, ih]
      by_cases h : o ≤ x ∧ x < o + k ∧ c (x - o) = true
      · rw [if_pos h, if_pos ⟨h.1, by omega, h.2.2⟩]
      · rw [if_neg h, if_neg (fun h2 => h ⟨h2.1, by
          by_cases e : x = o + k
          · subst e; rw [show o + k - o = k by omega] at h2; exact absurd h2.2.2 hc
          · omega, h2.2.2⟩)]
/-- a slice of bytes that the reference's calls leave -/
def SrcR (m : Nat) (w : World) (s : Value) (len : Nat) (z : Nat → Int) : Prop :=
  (∃ a c, s = .slice a 0 c ∧ len = 0) ∨ ∃ sb so c, s = .slice (some ⟨sb, so, none⟩) len c ∧ 0 < len ∧ SafeR m w sb ∧ ∀ i, i < len → w.cell? ⟨sb, so + i, none⟩ = some (.int .u8 (z i))
def SrcRB (m : Nat) (w : World) (s : Value) (len : Nat) (z : Nat → Bool) : Prop :=
  (∃ a c, s = .slice a 0 c ∧ len = 0) ∨ ∃ sb so c, s = .slice (some ⟨sb, so, none⟩) len c ∧ 0 < len ∧ SafeR m w sb ∧ ∀ i, i < len → w.cell? ⟨sb, so + i, none⟩ = some (.bool (z i))
theorem cell_info : (Try.prog.info? 79).map (fun i => (i.zero, i.size, i.bytes)) = some (some (.agg #[.int .u64 0, .int .u8 0]), 2, 16) := by kernel_rfl
theorem info_parts2 {P : Program} {e : TypeId} {z : Value} {s b : Nat} (h : (P.info? e).map (fun i => (i.zero, i.size, i.bytes)) = some (some z, s, b)) : ∃ i, P.info? e = some i ∧ i.zero = some z ∧ i.size = s ∧ i.bytes = b := by
  cases hq : P.info? e with
  | none => simp [hq] at h
  | some i => simp [hq] at h; exact ⟨i, rfl, h.1, h.2.1, h.2.2⟩
/-- one byte more, behind the list -/
theorem ref_push {m p N : Nat} {L : List (Int × Int)} {v : Value} {w : World} (R : RefIn m p N L v w) (hm : m ≤ w.heap.size) (hL : L.length + 1 ≤ 1000000) (x y : Int) :
    ∃ g' n' c' w', (Builtin.append_ #[43, 43] 43 #[v, .slice (some ⟨w.heap.size, 0, none⟩) 1 1]).run Try.prog (w.alloc (.cells #[.int .u64 x, .int .u8 y] 79)) = .ok (.slice (some ⟨g', 0, none⟩) n' c') w' ∧
      w'.cell? ⟨p, 1, none⟩ = some v ∧ w'.frozen? ⟨p, 1, none⟩ = false ∧ Hid (Kr m w (w'.setCell ⟨p, 1, none⟩ (.slice (some ⟨g', 0, none⟩) n' c')) ∧ RefAt m p N (L ++ [(x, y)]) (w'.setCell ⟨p, 1, none⟩ (.slice (some ⟨g', 0, none⟩) n' c'))) := by
  obtain ⟨i, hi, hz, hs, hb⟩ := info_parts2 cell_info
  have R2 := R.on ((On.refl w).alloc (.cells #[.int .u64 x, .int .u8 y] 79))
  have hlen : (flL L).length = L.length * 2 := flL_len L
  obtain ⟨v', w', h1, h2, h3, _⟩ := run_append_own (P := Try.prog) (w.alloc (.cells #[.int .u64 x, .int .u8 y] 79)) m 43 43 79 i _ 2 16 Try.underlying43 hi hz hs hb rfl (by decide) v L.length (flL L) R2.own
    ⟨w.heap.size, 0, none⟩ 1 1 [.int .u64 x, .int .u8 y] rfl (fun j u hu => by
      match j, hu with
      | 0, hu => simp at hu; subst hu; exact World.cell?_alloc_at _ _ _ 0 rfl
      | 1, hu => simp at hu; subst hu; exact World.cell?_alloc_at _ _ _ 1 rfl
      | j + 2, hu => simp at hu) (by intro u hu; simp at hu; rcases hu with rfl | rfl <;> rfl) (by unfold maxLen; omega) (by omega) (by rw [alloc_size]; omega)
  obtain ⟨g', c', hv'⟩ : ∃ g' c', v' = .slice (some ⟨g', 0, none⟩) (L.length + 1) c' := by
    rcases h2.2 with ⟨_, e⟩ | ⟨g, cap, cur, e, _⟩
    · omega
    · exact ⟨g, cap, e⟩
  subst hv'
  have hpb : ∀ g, v.ownBlock = some g → p ≠ g ∧ m ≤ g ∧ ∃ cs, w.heap[g]? = some (.cells cs 79 (0, 0)) := fun g hg => by
    rcases R.own.2 with ⟨e, _⟩ | ⟨g', cap, cur, e, hb', h3', _⟩
    · rw [e] at hg; cases hg
    · rw [e] at hg
      injection hg with hg
      subst hg
      refine ⟨fun e2 => ?_, hb', _, h3'⟩
      have := R.cell
      rw [e2, h3'] at this
      injection this with this; injection this with _ e3; cases e3
  have hplt := lt_of_block R.cell
  have hp : w'.heap[p]? = some (.cells #[.int .i64 N, v] 45 (0, 0)) :=
    (h3.block p (by rw [alloc_size]; omega) (fun e => (hpb p e.symm).1 rfl)).trans R2.cell
  refine ⟨g', _, c', w', h1, blk_cell hp 1 rfl, blk_free hp 1, Lib.hid ⟨⟨?_, ?_, ?_, ?_, ?_⟩, .slice (some ⟨g', 0, none⟩) (L.length + 1) c', R.pages, R.low, ?_, ?_⟩⟩
  · exact h3.os
  · exact h3.tape
  · exact h3.output
  · have := h3.size; rw [alloc_size] at this; simp [World.setCell]; omega
  · intro k hk
    have hkp : k ≠ p := fun e => by
      subst e
      rcases hk.2 with h | h
      · have := R.low; omega
      · exact (h _ _ _ R.cell).1 rfl
    rw [heap_setCell_other _ _ _ _ hkp]
    refine (h3.block k (by rw [alloc_size]; have := hk.1; omega) (fun e => ?_)).trans (((On.refl w).alloc _).block k hk.1)
    obtain ⟨_, h5, cs, h6⟩ := hpb k e.symm
    rcases hk.2 with h | h
    · omega
    · exact (h _ _ _ h6).2 rfl
  · rw [blk_put hp 1 (.slice (some ⟨g', 0, none⟩) (L.length + 1) c')]; rfl
  · have h2 : w'.ownsRow m 79 2 (.slice (some ⟨g', 0, none⟩) (L.length + 1) c') (L ++ [(x, y)]).length (flL (L ++ [(x, y)])) := by rw [flL_snoc]; simpa using h2
    obtain ⟨e1, e2 | ⟨g, cap, cur, e2, e3, e4, e5⟩⟩ := h2
    · exact ⟨e1, .inl e2⟩
    · refine ⟨e1, .inr ⟨g, cap, cur, e2, e3, ?_, e5⟩⟩
      rw [heap_setCell_other _ _ _ _ (fun e => by rw [e, hp] at e4; injection e4 with e4; injection e4 with _ e6; cases e6)]
      exact e4
theorem step_push {P : Program} {ops : Array Oper} {o : Oper} {a : Act} {w : World} {K : Act → World → Prop} {Q : Exit → Act → World → Prop} {E : Prop} (hgd : o.guard = none) {s x : Operand} {t : TypeId}
    (ho : o.op = .call { callee := .builtin .append, args := #[s, x], argTypes := #[t, t] }) {vs vx v' : Value} {w' : World} (hs : a.eval s = vs) (hx : a.eval x = vx)
    (hr : (Builtin.append_ #[t, t] o.type #[vs, vx]).run P w = .ok v' w') (h : K (a.put o.dst v') w') : if Region.wanted o (yielded ops a.tmps) = true then Oper.wp P o a w K Q else E := by
  have hw : Region.wanted o (yielded ops a.tmps) = true := by simp [Region.wanted, hgd]
  rw [if_pos hw]
  unfold Oper.wp
  simp [execOp, ho, resolve, invoke, builtin, hs, hx, hr, Result.andThen]
  exact h
theorem rsome_bus {m p N : Nat} {L : List (Int × Int)} {w : World} (R : RefAt m p N L w) (a : BitVec 64) {b : Option Addr} {len c : Nat} (t : Value) (all : Bool) (hl : (len : Int) ≤ 9223372036854775807) (hh : hasB N a len = false) :
    Calls Try.prog 30 #[.pointer (some ⟨p, 0, none⟩), .int .u64 (u a), .slice b len c, t, .bool all] w fun e w' => e = .returned (.int .i64 6) ∧ w = w' := by
  have H := rin_any R a len (by omega) hl
  rw [hh] at H
  have H := Lib.hid H
  clear R hh
  go_enter Try.func30, Try.ntmps30
  go_wp2_with (first | (go_at_call 41; refine (H.out).mono ?_; rintro e w' ⟨rfl, rfl⟩))
  go_ret
  exact ⟨rfl, rfl⟩
theorem rsome_zero {m p N : Nat} {L : List (Int × Int)} {w : World} (R : RefAt m p N L w) (a : BitVec 64) {b : Option Addr} {c : Nat} (t : Value) (all : Bool) :
    Calls Try.prog 30 #[.pointer (some ⟨p, 0, none⟩), .int .u64 (u a), .slice b 0 c, t, .bool all] w fun e w' => e = .returned (.int .i64 0) ∧ w = w' := by
  have H := rin_any R a 0 (by omega) (by omega)
  rw [hasB_zero] at H
  have H := Lib.hid H
  clear R
  go_enter Try.func30, Try.ntmps30
  go_wp2_with (first | (go_at_call 41; refine (H.out).mono ?_; rintro e w' ⟨rfl, rfl⟩))
  go_loopw [11] (fun x wr => x = .int .i64 0 ∧ w = wr) (fun _ _ => 0)
  case atStart => exact ⟨rfl, rfl⟩
  case round =>
    obtain ⟨rfl, rfl⟩ := hrel
    go_wp2_with fail
    go_ret
    exact ⟨rfl, rfl⟩
/-- what the loop of Some carries -/
structure RsAt (m p N : Nat) (L : List (Int × Int)) (A : Int) (z : Nat → Int) (c : Nat → Bool) (w wr : World) (i : Nat) : Prop where
  kr : Kr m w wr
  ref : RefAt m p N (smL L A z c i) wr
set_option maxHeartbeats 2000000 in
theorem rsome_all {m p N : Nat} {L : List (Int × Int)} {w : World} (R : RefAt m p N L w) (hm : m ≤ w.heap.size) {o len sb so cp : Nat} {z : Nat → Int} (t : Value) (h0 : 0 < len) (hl : o + len ≤ N * 4096) (hL : L.length + len ≤ 1000000)
    (hS : SafeR m w sb) (hc : ∀ i, i < len → w.cell? ⟨sb, so + i, none⟩ = some (.int .u8 (z i))) :
    Calls Try.prog 30 #[.pointer (some ⟨p, 0, none⟩), .int .u64 (2147483648 + (o : Int)), .slice (some ⟨sb, so, none⟩) len cp, t, .bool true] w fun e w' => e = .returned (.int .i64 0) ∧ Kr m w w' ∧ RefAt m p N (smL L (2147483648 + (o : Int)) z (fun _ => true) len) w' := by
  have hN : 4 ≤ N ∧ N ≤ 256 := by obtain ⟨_, R⟩ := R; exact R.pages
  obtain ⟨a, ha⟩ := at_u (o := o) (by omega)
  have H := rin_any R a len (by omega) (by omega)
  rw [hasB_in hN (by omega) (by omega) (by omega), ha] at H
  have H := Lib.hid H
  have HR := Lib.hid R
  have HS := Lib.hid (And.intro hS (And.intro hc (And.intro hm hL)))
  have hl1 : (len : Int) ≤ 1048576 := by omega
  obtain ⟨Y, hY⟩ : ∃ Y : Int, (o : Int) = Y := ⟨_, rfl⟩
  have hY0 : 0 ≤ Y := by omega
  have hY1 : Y < 1048576 := by omega
  rw [hY] at H ⊢
  have HY := Lib.hid hY
  clear R hS hc hm hL ha h0 hN hl hY
  go_enter Try.func30, Try.ntmps30
  go_wp2_with (first | (go_at_call 41; refine (H.out).mono ?_; rintro e w' ⟨rfl, rfl⟩))
  go_loopw [11] (fun x wr => ∃ i : Nat, i ≤ len ∧ x = .int .i64 i ∧ Hid (RsAt m p N L (2147483648 + Y) z (fun _ => true) w wr i)) (fun x _ => (len - intOf x).toNat)
  case atStart => exact ⟨0, by omega, rfl, Lib.hid ⟨.refl _ _, HR.out⟩⟩
  case round =>
    obtain ⟨i, hi, rfl, hr⟩ := hrel
    by_cases hlt : (i : Int) < (len : Int)
    · have E : Hid (smL L (2147483648 + Y) z (fun _ => true) (i + 1) = smL L (2147483648 + Y) z (fun _ => true) i ++ [(2147483648 + Y + (i : Int), z i)]) := Lib.hid (by conv => lhs; unfold smL; rw [if_pos rfl])
      obtain ⟨v, RR⟩ := hr.out.ref
      have hlen : (smL L (2147483648 + Y) z (fun _ => true) i).length + 1 ≤ 1000000 := by have := smL_len L (2147483648 + Y) z (fun _ => true) i; have := HS.out.2.2.2; omega
      have k1 := blk_cell RR.cell 1 rfl
      have kb := HS.out.1.cell hr.out.kr (HS.out.2.1 i (by omega))
      have hb1 := lt_of_block RR.cell
      have hb2 := block_of_cell kb
      have RD := RR.on (On.refl wr).drew
      obtain ⟨g', n', c', w2, hap, k3, k4, HF⟩ := ref_push RD (by have := HS.out.2.2.1; have := hr.out.kr.size; show m ≤ wr.heap.size; omega) hlen (2147483648 + Y + (i : Int)) (z i)
      have hw : IntKind.u64.wrap (2147483648 + Y + IntKind.u64.wrap (i : Int)) = 2147483648 + Y + (i : Int) := by rw [wrap_in (i : Int) (by omega) (by omega), wrap_in _ (by omega) (by omega)]
      have HRR := Lib.hid (And.intro hr.out.kr RR)
      clear hr RR RD hlen
      go_wp2_with fail
      go_region_law? (refine step_push (vs := v) (vx := .slice (some ⟨wr.heap.size, 0, none⟩) 1 1) (v' := .slice (some ⟨g', 0, none⟩) n' c') (w' := w2) rfl rfl rfl rfl hap ?_)
      all_goals (go_wp2_with fail; exact ⟨⟨i + 1, by omega, by go_num, Lib.hid ⟨HRR.out.1.trans ((Kr.of_on (On.refl wr).drew).trans HF.out.1), by rw [E.out]; exact HF.out.2⟩⟩, by simp [intOf]; omega⟩)
    · obtain rfl : i = len := by omega
      go_wp2_with fail
      go_ret
      exact ⟨rfl, hr.out.kr, hr.out.ref⟩
set_option maxHeartbeats 2000000 in
theorem rsome_st {m p N : Nat} {L : List (Int × Int)} {w : World} (R : RefAt m p N L w) (hm : m ≤ w.heap.size) {o len sb so cp l2 : Nat} {z : Nat → Int} {st : Nat → Bool} {t : Value} (h0 : 0 < len) (hl : o + len ≤ N * 4096) (hL : L.length + len ≤ 1000000)
    (hS : SafeR m w sb) (hc : ∀ i, i < len → w.cell? ⟨sb, so + i, none⟩ = some (.int .u8 (z i))) (ht : SrcRB m w t l2 st) :
    Calls Try.prog 30 #[.pointer (some ⟨p, 0, none⟩), .int .u64 (2147483648 + (o : Int)), .slice (some ⟨sb, so, none⟩) len cp, t, .bool false] w fun e w' => e = .returned (.int .i64 0) ∧ Kr m w w' ∧ RefAt m p N (smL L (2147483648 + (o : Int)) z (fun i => decide (i < l2) && st i) len) w' := by
  have hN : 4 ≤ N ∧ N ≤ 256 := by obtain ⟨_, R⟩ := R; exact R.pages
  obtain ⟨a, ha⟩ := at_u (o := o) (by omega)
  have H := rin_any R a len (by omega) (by omega)
  rw [hasB_in hN (by omega) (by omega) (by omega), ha] at H
  have H := Lib.hid H
  have HR := Lib.hid R
  have HS := Lib.hid (And.intro hS (And.intro hc (And.intro hm hL)))
  have hl1 : (len : Int) ≤ 1048576 := by omega
  obtain ⟨Y, hY⟩ : ∃ Y : Int, (o : Int) = Y := ⟨_, rfl⟩
  have hY0 : 0 ≤ Y := by omega
  have hY1 : Y < 1048576 := by omega
  rw [hY] at H ⊢
  have HY := Lib.hid hY
  clear R hS hc hm hL ha h0 hN hl hY
  have htv : ∃ ta tc, t = .slice ta l2 tc ∧ (0 < l2 → ∃ tb to, ta = some ⟨tb, to, none⟩ ∧ SafeR m w tb ∧ ∀ i, i < l2 → w.cell? ⟨tb, to + i, none⟩ = some (.bool (st i))) := by
    rcases ht with ⟨ta, tc, rfl, rfl⟩ | ⟨tb, to, tc, rfl, h1, h2, h3⟩
    · exact ⟨_, _, rfl, fun h => by omega⟩
    · exact ⟨_, _, rfl, fun _ => ⟨tb, to, rfl, h2, h3⟩⟩
  obtain ⟨ta, tc, rfl, HT⟩ := htv
  have HT := Lib.hid HT
  clear ht
  go_enter Try.func30, Try.ntmps30
  go_wp2_with (first | (go_at_call 41; refine (H.out).mono ?_; rintro e w' ⟨rfl, rfl⟩))
  go_loopw [11] (fun x wr => ∃ i : Nat, i ≤ len ∧ x = .int .i64 i ∧ Hid (RsAt m p N L (2147483648 + Y) z (fun i => decide (i < l2) && st i) w wr i)) (fun x _ => (len - intOf x).toNat)
  case atStart => exact ⟨0, by omega, rfl, Lib.hid ⟨.refl _ _, HR.out⟩⟩
  case round =>
    obtain ⟨i, hi, rfl, hr⟩ := hrel
    by_cases hlt : (i : Int) < (len : Int)
    · by_cases ht : (i : Int) < (l2 : Int)
      · obtain ⟨tb, to, rfl, ht1, ht2⟩ := HT.out (by omega)
        have kt := ht1.cell hr.out.kr (ht2 i (by omega))
        cases hst : st i <;> rw [hst] at kt
        · have E : Hid (smL L (2147483648 + Y) z (fun i => decide (i < l2) && st i) (i + 1) = smL L (2147483648 + Y) z (fun i => decide (i < l2) && st i) i) := Lib.hid (by conv => lhs; unfold smL; rw [if_neg (by rw [hst]; simp)])
          clear ht1 ht2 hst
          go_wp2_with fail
          exact ⟨⟨i + 1, by omega, by go_num, Lib.hid ⟨hr.out.kr, by rw [E.out]; exact hr.out.ref⟩⟩, by simp [intOf]; omega⟩
        · have E : Hid (smL L (2147483648 + Y) z (fun i => decide (i < l2) && st i) (i + 1) = smL L (2147483648 + Y) z (fun i => decide (i < l2) && st i) i ++ [(2147483648 + Y + (i : Int), z i)]) := Lib.hid (by conv => lhs; unfold smL; rw [if_pos (by rw [hst, decide_eq_true (by omega)]; rfl)])
          clear ht1 ht2 hst
          obtain ⟨v, RR⟩ := hr.out.ref
          have hlen : (smL L (2147483648 + Y) z (fun i => decide (i < l2) && st i) i).length + 1 ≤ 1000000 := by have := smL_len L (2147483648 + Y) z (fun i => decide (i < l2) && st i) i; have := HS.out.2.2.2; omega
          have k1 := blk_cell RR.cell 1 rfl
          have kb := HS.out.1.cell hr.out.kr (HS.out.2.1 i (by omega))
          have hb1 := lt_of_block RR.cell
          have hb2 := block_of_cell kb
          have RD := RR.on (On.refl wr).drew
          obtain ⟨g', n', c', w2, hap, k3, k4, HF⟩ := ref_push RD (by have := HS.out.2.2.1; have := hr.out.kr.size; show m ≤ wr.heap.size; omega) hlen (2147483648 + Y + (i : Int)) (z i)
          have hw : IntKind.u64.wrap (2147483648 + Y + IntKind.u64.wrap (i : Int)) = 2147483648 + Y + (i : Int) := by rw [wrap_in (i : Int) (by omega) (by omega), wrap_in _ (by omega) (by omega)]
          have HRR := Lib.hid (And.intro hr.out.kr RR)
          clear hr RR RD hlen
          go_wp2_with fail
          go_region_law? (refine step_push (vs := v) (vx := .slice (some ⟨wr.heap.size, 0, none⟩) 1 1) (v' := .slice (some ⟨g', 0, none⟩) n' c') (w' := w2) rfl rfl rfl rfl hap ?_)
          all_goals (go_wp2_with fail; exact ⟨⟨i + 1, by omega, by go_num, Lib.hid ⟨HRR.out.1.trans ((Kr.of_on (On.refl wr).drew).trans HF.out.1), by rw [E.out]; exact HF.out.2⟩⟩, by simp [intOf]; omega⟩)
      · have E : Hid (smL L (2147483648 + Y) z (fun i => decide (i < l2) && st i) (i + 1) = smL L (2147483648 + Y) z (fun i => decide (i < l2) && st i) i) := Lib.hid (by conv => lhs; unfold smL; rw [if_neg (by rw [decide_eq_false (by omega)]; simp)])
        go_wp2_with fail
        exact ⟨⟨i + 1, by omega, by go_num, Lib.hid ⟨hr.out.kr, by rw [E.out]; exact hr.out.ref⟩⟩, by simp [intOf]; omega⟩
    · obtain rfl : i = len := by omega
      go_wp2_with fail
      go_ret
      exact ⟨rfl, hr.out.kr, hr.out.ref⟩
end Go.Proofs.Ytkjkmekkcnmjnaa
