/- The call of package ram that writes: store. Conditions: named at each. -/
import Derived.Test.YtkjkmekkcnmjnaaRamL
import Derived.Deep.WholeRow
namespace Go.Proofs.Ytkjkmekkcnmjnaa
open Go.RowKit
open Go.ChangeMaps (setBlock)
set_option linter.unusedVariables false
set_option maxRecDepth 100000

theorem page_zero : (Try.prog.info? 64).map (fun i => (i.zero, i.size)) = some (some (.agg (Array.replicate 4096 (.int .u8 0))), 4096) := by kernel_rfl
theorem page_new (w : World) : (Instr.alloc 64 true (.tuple #[])).run Try.prog w = .ok (.pointer (some ⟨w.heap.size, 0, none⟩)) (w.alloc (.cells (rwA 4096 fun _ => 0) 64)) := by
  have h := (zero_of_info (P := Try.prog) page_zero).1 w
  rw [show Array.replicate 4096 (Value.int .u8 0) = rwA 4096 (fun _ => 0) from rw_of (by simp) fun i hi => by simp [hi]] at h
  simp [Instr.alloc, h, Result.andThen, newVar, newRow, Value.cells]
theorem wp_page {w : World} {ops : Array Oper} {rest : List Oper} {o : Oper} {a : Act} {Q : Exit → Act → World → Prop} (hgd : o.guard = none) (ho : o.op = .alloc 64)
    (h : wpList Try.prog ops Q rest (a.put o.dst (.pointer (some ⟨w.heap.size, 0, none⟩))) (w.alloc (.cells (rwA 4096 fun _ => 0) 64))) : wpList Try.prog ops Q (o :: rest) a w := by
  refine wpList_plain hgd fun K hK => ?_
  unfold Oper.wp
  simp [execOp, ho, page_new, Result.andThen]
  exact hK _ _ h
theorem wp_mapPut {P : Program} {w : World} {ops : Array Oper} {rest : List Oper} {o : Oper} {a : Act} {Q : Exit → Act → World → Prop} (hgd : o.guard = none) {t kt et : TypeId} {m x v : Operand} (ho : o.op = .mapUpdate t m x v)
    (ht : P.underlying t = some (.map kt et)) (hu : P.underlying kt = some (.int .u64)) {mb k b : Nat} {es : Array MapEntry} {cl : Nat} {tab : Nat → Option Nat} (hm : a.eval m = .map (some mb)) (hx : a.eval x = .int .u64 k) (hv : a.eval v = .pointer (some ⟨b, 0, none⟩))
    (hb : w.heap[mb]? = some (.map es cl)) (T : Tab es cl tab) (hk : k < 18446744073709551616) (hn : tab k = none)
    (h : ∀ w', But mb w w' → (∃ es' cl', w'.heap[mb]? = some (.map es' cl') ∧ Tab es' cl' (tabP tab k b)) → wpList P ops Q rest (a.put o.dst undef) w') : wpList P ops Q (o :: rest) a w := by
  refine wpList_plain hgd fun K hK => ?_
  obtain ⟨h1, h2⟩ := tab_store ht hu hb T hk hn b
  unfold Oper.wp
  simp [execOp, ho, hm, hx, hv, h1, Result.andThen]
  refine hK _ _ (h _ (But.of_block w mb _) ⟨_, _, ?_, h2⟩)
  have hlt := lt_of_block hb
  simp [setBlock, hlt]
theorem Kp.of_but {T : TypeId} {n B : Nat} {a b : World} (h : But B a b) (hB : ¬ SafeB T n a B) : Kp T n a b :=
  ⟨h.os, h.tape, h.output, h.size, fun k hk => h.block k hk.1 (fun e => hB (e ▸ hk))⟩
section
variable {n r N mb : Nat} {tab : Nat → Option Nat} {M : Nat → Int} {w w' : World}
theorem RamIn.map_loose (R : RamIn n r N mb tab M w) : ¬ SafeB 64 n w mb := by
  rintro ⟨_, h | ⟨cs, t, fr, h, _⟩⟩
  · have := R.low.2.1; omega
  · obtain ⟨es, cl, h1, _⟩ := R.map
    rw [h1] at h; cases h
theorem RamIn.page_loose (R : RamIn n r N mb tab M w) {k b : Nat} (hk : tab k = some b) : ¬ SafeB 64 n w b := by
  rintro ⟨_, h | ⟨cs, t, fr, h, h2⟩⟩
  · have := R.low.2.2 k b hk; omega
  · rw [R.page k b hk] at h
    injection h with h; injection h with _ h; exact h2 h.symm
/-- a page more, of zeros -/
theorem RamIn.grow (R : RamIn n r N mb tab M w) {k : Nat} (hn : tab k = none) (hb : But mb (w.alloc (.cells (rwA 4096 fun _ => 0) 64)) w')
    (hm : ∃ es cl, w'.heap[mb]? = some (.map es cl) ∧ Tab es cl (tabP tab k w.heap.size)) : RamIn n r N mb (tabP tab k w.heap.size) M w' ∧ Kp 64 n w w' := by
  obtain ⟨l1, l2, l3⟩ := R.lt
  have Ra := R.on ((On.refl w).alloc (.cells (rwA 4096 fun _ => 0) 64))
  obtain ⟨es, cl, hm0, _⟩ := R.map
  have hrm : r ≠ mb := fun e => by have := R.cell; rw [e, hm0] at this; cases this
  have hbm : ∀ j b, tab j = some b → b ≠ mb := fun j b hj e => by have := R.page j b hj; rw [e, hm0] at this; cases this
  refine ⟨⟨R.pages, ⟨R.low.1, R.low.2.1, fun j b hj => ?_⟩, hb.keep hrm Ra.cell, hm, fun j b hj => ?_, fun j hj i hi => ?_, fun j j' b hj hj' => ?_, R.byte⟩, (Kp.of_on ((On.refl w).alloc _)).trans (Kp.of_but hb Ra.map_loose)⟩
  · unfold tabP at hj
    split at hj
    · injection hj with hj; have := R.low.2.1; omega
    · exact R.low.2.2 j b hj
  · unfold tabP at hj
    split at hj
    · next e =>
      injection hj with hj
      subst e hj
      refine hb.keep (by omega) ((blk_new w _).trans ?_)
      rw [rw_congr fun i hi => (R.zero j hn i hi).symm]
    · exact hb.keep (hbm j b hj) (Ra.page j b hj)
  · unfold tabP at hj
    split at hj
    · cases hj
    · exact R.zero j hj i hi
  · unfold tabP at hj hj'
    split at hj <;> split at hj'
    · omega
    · injection hj with hj; have := l3 _ _ hj'; omega
    · injection hj' with hj'; have := l3 _ _ hj; omega
    · exact R.inj j j' b hj hj'
/-- bytes laid over in one page -/
theorem RamIn.put (R : RamIn n r N mb tab M w) {k b f m : Nat} (hk : tab k = some b) (hf : f + m ≤ 4096) {z : Nat → Int} (hz : ∀ i, 0 ≤ z i ∧ z i < 256) (hb : But b w w')
    (hc : w'.heap[b]? = some (.cells (rwA 4096 (ov (fun i => M (k * 4096 + i)) f m z)) 64 (0, 0))) : RamIn n r N mb tab (ov M (k * 4096 + f) m z) w' ∧ Kp 64 n w w' := by
  obtain ⟨es, cl, hm0, hT⟩ := R.map
  have hrb : r ≠ b := fun e => by have := R.page k b hk; rw [← e, R.cell] at this; injection this with this; injection this with _ e2; cases e2
  have hmb : mb ≠ b := fun e => by have := R.page k b hk; rw [← e, hm0] at this; cases this
  refine ⟨⟨R.pages, R.low, hb.keep hrb R.cell, ⟨es, cl, hb.keep hmb hm0, hT⟩, fun j c hj => ?_, fun j hj i hi => ?_, R.inj, fun x => ?_⟩, Kp.of_but hb (R.page_loose hk)⟩
  · by_cases e : j = k
    · subst e
      rw [hk] at hj
      injection hj with hj
      subst hj
      rw [hc]
      congr 2
      refine rw_congr fun i hi => ?_
      unfold ov
      by_cases h1 : f ≤ i ∧ i < f + m
      · rw [if_pos h1, if_pos (by omega), show j * 4096 + i - (j * 4096 + f) = i - f by omega]
      · rw [if_neg h1, if_neg (by omega)]
    · rw [hb.keep (fun e2 => e (R.inj j k c hj (by rw [e2]; exact hk))) (R.page j c hj)]
      congr 2
      refine rw_congr fun i hi => ?_
      unfold ov
      rw [if_neg (by omega)]
  · have hjk : j ≠ k := by rintro rfl; rw [hk] at hj; cases hj
    unfold ov
    rw [if_neg (by omega)]
    exact R.zero j hj i hi
  · unfold ov
    split
    · exact hz _
    · exact R.byte x
end
theorem ov_ov (M z : Nat → Int) (o j m : Nat) : ov (ov M o j z) (o + j) m (fun i => z (j + i)) = ov M o (j + m) z := by
  funext x
  unfold ov
  by_cases h1 : o + j ≤ x ∧ x < o + j + m
  · rw [if_pos h1, if_pos (by omega)]; show z (j + (x - (o + j))) = z (x - o); rw [show j + (x - (o + j)) = x - o by omega]
  · rw [if_neg h1]
    by_cases h2 : o ≤ x ∧ x < o + j
    · rw [if_pos h2, if_pos (by omega)]
    · rw [if_neg h2, if_neg (by omega)]
theorem ov_none (M z : Nat → Int) (o : Nat) : ov M o 0 z = M := by
  funext x; unfold ov; rw [if_neg (by omega)]

/-- what the loop of store carries -/
structure StAt (n r N o len sb so sc : Nat) (M z : Nat → Int) (w : World) (x y : Value) (wr : World) (j l : Nat) : Prop where
  sum : j + l = len
  addr : x = .int .u64 (2147483648 + ((o + j : Nat) : Int))
  row : ∃ a c, y = .slice a l c ∧ (0 < l → a = some ⟨sb, so + j, none⟩ ∧ c = sc - j)
  kp : Kp 64 n w wr
  ram : RamAt n r N (ov M o j z) wr
theorem StAt.next {n r N o len sb so sc : Nat} {M z : Nat → Int} {w wr wq : World} {x y : Value} {j l : Nat} (h : StAt n r N o len sb so sc M z w x y wr j l) (m : Nat) (hm : m ≤ l) (hk : Kp 64 n wr wq)
    (hr : RamAt n r N (ov M o (j + m) z) wq) {A : Int} {a : Option Addr} {l' c : Nat} (hA : A = 2147483648 + ((o + (j + m) : Nat) : Int)) (hl : l' = l - m) (ha : 0 < l' → a = some ⟨sb, so + (j + m), none⟩ ∧ c = sc - (j + m)) :
    StAt n r N o len sb so sc M z w (.int .u64 A) (.slice a l' c) wq (j + m) l' :=
  ⟨by have := h.sum; omega, by rw [hA], ⟨a, c, rfl, ha⟩, h.kp.trans hk, hr⟩
set_option maxHeartbeats 4000000 in
theorem store_some {n r N : Nat} {M z : Nat → Int} {w : World} (R : RamAt n r N M w) (hz : ∀ i, 0 ≤ z i ∧ z i < 256) {o len sb so sc : Nat} (hl : o + len ≤ N * 4096) (hsc : len ≤ sc) (hmx : (sc : Int) ≤ 9223372036854775807)
    (hS : SafeB 64 n w sb) (hc : ∀ i, i < len → w.cell? ⟨sb, so + i, none⟩ = some (.int .u8 (z i))) :
    Calls Try.prog 39 #[.pointer (some ⟨r, 0, none⟩), .int .u64 (2147483648 + (o : Int)), .slice (some ⟨sb, so, none⟩) len sc] w fun e w' =>
      e = .returned (.tuple #[]) ∧ Kp 64 n w w' ∧ RamAt n r N (ov M o len z) w' := by
  have hN : 4 ≤ N ∧ N ≤ 256 := by obtain ⟨_, _, R⟩ := R; exact R.pages
  have H0 : Hid (StAt n r N o len sb so sc M z w (.int .u64 (2147483648 + (o : Int))) (.slice (some ⟨sb, so, none⟩) len sc) w 0 len) :=
    Lib.hid ⟨by omega, by simp, ⟨_, _, rfl, fun _ => ⟨rfl, rfl⟩⟩, Kp.refl _ _ _, by rw [ov_none]; exact R⟩
  have HZ := Lib.hid hz
  have HC := Lib.hid (And.intro hS hc)
  clear R hz hS hc
  go_enter Try.func39, Try.ntmps39
  go_wp2_with fail
  go_loopw [1, 2] (fun x y wr => ∃ j l, StAt n r N o len sb so sc M z w x y wr j l) (fun _ y _ => (lenNat y))
  case atStart => exact ⟨0, len, H0.out⟩
  case round =>
    obtain ⟨j, l, hr⟩ := hrel
    obtain ⟨a, c, rfl, hal⟩ := hr.row
    obtain rfl := hr.addr
    by_cases h0 : l = 0
    · subst h0
      have Hr := Lib.hid hr
      clear hr hal
      go_wp2_with fail
      go_end0
      exact ⟨rfl, Hr.out.kp, by have := Hr.out.ram; have hs := Hr.out.sum; rw [show j = len by omega] at this; exact this⟩
    · obtain ⟨rfl, rfl⟩ := hal (by omega)
      have hs := hr.sum
      obtain ⟨mb, tab, R'⟩ := hr.ram
      obtain ⟨y, hy⟩ : ∃ y, o + j = y := ⟨_, rfl⟩
      obtain ⟨q, hq⟩ : ∃ q, so + j = q := ⟨_, rfl⟩
      obtain ⟨c, hcc⟩ : ∃ c, sc - j = c := ⟨_, rfl⟩
      have Hr := Lib.hid hr
      rw [hy, hq, hcc] at ⊢
      obtain ⟨k, hk⟩ : ∃ k, y / 4096 = k := ⟨_, rfl⟩
      obtain ⟨f, hf⟩ : ∃ f, y % 4096 = f := ⟨_, rfl⟩
      have hx : y = k * 4096 + f := by omega
      have hf4 : f < 4096 := by omega
      have hyl : y < N * 4096 := by omega
      have hk64 : k < 18446744073709551616 := by omega
      have HK := Lib.hid hk64
      have HP := Lib.hid (place_at R' hx hf4 hyl)
      have HR' := Lib.hid R'
      have HX := Lib.hid (And.intro hx (And.intro hy (And.intro hs hq)))
      have hlc : (l : Int) ≤ (c : Int) := by omega
      have hcm : (c : Int) ≤ 9223372036854775807 := by omega
      have HQ := Lib.hid hcc
      have SRC : ∀ wq, Kp 64 n wr wq → ∀ i, i < l → wq.cell? ⟨sb, q + i, none⟩ = some (.int .u8 (z (j + i))) := fun wq h i hi => by
        have := HC.out.1.cell (hr.kp.trans h) (HC.out.2 (j + i) (by omega))
        rw [← hq, Nat.add_assoc]
        exact this
      have SRC := Lib.hid SRC
      have c1 : ∀ wn, On wr wn → wn.cell? ⟨r, 1, none⟩ = some (.map (some mb)) := fun wn h => blk_cell (h.keep R'.cell) 1 rfl
      have hb := On.refl wr
      have lk : ∀ wn, On wr wn → (Instr.lookup 59 (.map (some mb)) (.int .u64 k) false).run Try.prog wn = .ok (pgV (tab k)) wn := fun wn h => by
        obtain ⟨es, cl, h1, h2⟩ := R'.map
        exact tab_lookup Try.underlying59 Try.underlying31 (by kernel_rfl) (h.keep h1) h2 hk64 false
      have hl0 : (0 : Int) < (l : Int) := by omega
      obtain ⟨Y, hY⟩ : ∃ Y : Int, (y : Int) = Y := ⟨_, rfl⟩
      have hY0 : 0 ≤ Y := by omega
      have hY1 : Y < 1048576 := by omega
      rw [hY] at HP ⊢
      have HY := Lib.hid hY
      have Hlm := Lib.hid (And.intro hl (And.intro hsc hmx))
      clear hY h0 hr R' hx hk hf hy hs hyl hal hcc hq hk64 hmx hl hsc
      cases ht : tab k with
      | none =>
        rw [ht] at lk
        have HT := Lib.hid ht
        clear ht
        simp only [pgV] at lk
        by_cases hm : (l : Int) ≤ 4096 - (f : Int)
        · have HM := Lib.hid (show f + l ≤ 4096 ∧ l ≤ l ∧ 0 < l ∧ l = Nat.min l (4096 - f) by rw [show Nat.min l (4096 - f) = min l (4096 - f) from rfl]; omega)
          go_wp2_with (first | (go_at_call 50; refine (HP.out).mono ?_; rintro e wn ⟨rfl, hb'⟩; have hb := hb.trans hb'; clear hb') | (apply wp_page; (case hgd => exact rfl); (case ho => exact rfl)) | (at_mapUpdate; obtain ⟨es, cl, hm0, hT0⟩ := (HR'.out.on hb).map; refine wp_mapPut rfl rfl Try.underlying59 Try.underlying31 rfl rfl rfl (((On.refl _).alloc _).keep hm0) hT0 HK.out HT.out ?_; clear hT0 hm0; intro w5 hb5 hf5; obtain ⟨R5, K5⟩ := (HR'.out.on hb).grow HT.out hb5 hf5; clear hb5 hf5; have K5 := (Kp.of_on hb).trans K5; obtain ⟨b, hbb⟩ : ∃ b, wn.heap.size = b := ⟨_, rfl⟩; rw [hbb] at R5 ⊢; clear hbb; have H5 : tabP tab k b k = some b := (by unfold tabP; rw [if_pos rfl]); have cut := page_cut b hf4; have c5 : w5.cell? ⟨r, 1, none⟩ = some (.map (some mb)) := blk_cell R5.cell 1 rfl; have l5 : (Instr.lookup 59 (.map (some mb)) (.int .u64 k) false).run Try.prog w5 = .ok (.pointer (some ⟨b, 0, none⟩)) w5 := (by obtain ⟨es, cl, h1, h2⟩ := R5.map; have := tab_lookup Try.underlying59 Try.underlying31 (by kernel_rfl) h1 h2 HK.out false; rw [H5] at this; exact this); obtain ⟨w6, hcp, hb6, hg6⟩ := copy_rw (P := Try.prog) (w := w5) (dT := 32) (sT := 32) (ty := 3) (elem := 5) (g := b) (o := f) (dLen := 4096 - f) (dCap := 4096 - f) (b := sb) (off := q) (sLen := l) (sCap := c) (n := 4096) (m := l) (z := fun i => z (j + i)) (t := 64) Try.underlying32 u8_one (R5.page k b H5) HM.out.2.2.2 (fun i hi => SRC.out _ K5 i (by have := HM.out; omega)) HM.out.1; have HB6 := Lib.hid hb6; have HG6 := Lib.hid hg6; clear hb6 hg6; have R6 := Lib.hid (And.intro R5 K5); have H6 := Lib.hid H5; clear R5 K5 H5))
          go_wp2_with fail
          go_quiet (fail)
          go_wp2
          have P6 := (R6.out.1).put H6.out HM.out.1 (fun i => HZ.out _) HB6.out HG6.out
          exact ⟨⟨j + l, l - l, by rw [Nat.sub_self]; exact (Hr.out.next l (by have := HM.out; omega) ((R6.out.2.trans P6.2).on (on_drawn _ _)) (by rw [← ov_ov, show o + j = k * 4096 + f by have := HX.out; omega]; exact ⟨_, _, P6.1.on (on_drawn _ _)⟩) (by have := HX.out; have := HY.out; omega) (by omega) (fun h => by have := HX.out; have := HQ.out; have := HM.out; first | omega | exact ⟨by rw [← HX.out.2.2.2, Nat.add_assoc], by omega⟩))⟩, by have := HM.out; simp [lenNat]; omega⟩
        · obtain ⟨m, hmf⟩ : ∃ m, 4096 - f = m := ⟨_, rfl⟩
          have hm2 : (m : Int) < (l : Int) := by omega
          have hm3 : (m : Int) ≤ 4096 := by omega
          have HM := Lib.hid (show f + m ≤ 4096 ∧ m ≤ l ∧ 0 < m ∧ m = Nat.min l (4096 - f) by rw [show Nat.min l (4096 - f) = min l (4096 - f) from rfl]; omega)
          clear hmf hm
          go_wp2_with (first | (go_at_call 50; refine (HP.out).mono ?_; rintro e wn ⟨rfl, hb'⟩; have hb := hb.trans hb'; clear hb') | (apply wp_page; (case hgd => exact rfl); (case ho => exact rfl)) | (at_mapUpdate; obtain ⟨es, cl, hm0, hT0⟩ := (HR'.out.on hb).map; refine wp_mapPut rfl rfl Try.underlying59 Try.underlying31 rfl rfl rfl (((On.refl _).alloc _).keep hm0) hT0 HK.out HT.out ?_; clear hT0 hm0; intro w5 hb5 hf5; obtain ⟨R5, K5⟩ := (HR'.out.on hb).grow HT.out hb5 hf5; clear hb5 hf5; have K5 := (Kp.of_on hb).trans K5; obtain ⟨b, hbb⟩ : ∃ b, wn.heap.size = b := ⟨_, rfl⟩; rw [hbb] at R5 ⊢; clear hbb; have H5 : tabP tab k b k = some b := (by unfold tabP; rw [if_pos rfl]); have cut := page_cut b hf4; have c5 : w5.cell? ⟨r, 1, none⟩ = some (.map (some mb)) := blk_cell R5.cell 1 rfl; have l5 : (Instr.lookup 59 (.map (some mb)) (.int .u64 k) false).run Try.prog w5 = .ok (.pointer (some ⟨b, 0, none⟩)) w5 := (by obtain ⟨es, cl, h1, h2⟩ := R5.map; have := tab_lookup Try.underlying59 Try.underlying31 (by kernel_rfl) h1 h2 HK.out false; rw [H5] at this; exact this); obtain ⟨w6, hcp, hb6, hg6⟩ := copy_rw (P := Try.prog) (w := w5) (dT := 32) (sT := 32) (ty := 3) (elem := 5) (g := b) (o := f) (dLen := 4096 - f) (dCap := 4096 - f) (b := sb) (off := q) (sLen := l) (sCap := c) (n := 4096) (m := m) (z := fun i => z (j + i)) (t := 64) Try.underlying32 u8_one (R5.page k b H5) HM.out.2.2.2 (fun i hi => SRC.out _ K5 i (by have := HM.out; omega)) HM.out.1; have HB6 := Lib.hid hb6; have HG6 := Lib.hid hg6; clear hb6 hg6; have R6 := Lib.hid (And.intro R5 K5); have H6 := Lib.hid H5; clear R5 K5 H5))
          go_wp2_with fail
          go_quiet (fail)
          go_wp2
          have P6 := (R6.out.1).put H6.out HM.out.1 (fun i => HZ.out _) HB6.out HG6.out
          exact ⟨⟨j + m, l - m, (Hr.out.next m (by have := HM.out; omega) ((R6.out.2.trans P6.2).on (on_drawn _ _)) (by rw [← ov_ov, show o + j = k * 4096 + f by have := HX.out; omega]; exact ⟨_, _, P6.1.on (on_drawn _ _)⟩) (by have := HX.out; have := HY.out; omega) (by omega) (fun h => by have := HX.out; have := HQ.out; have := HM.out; first | omega | exact ⟨by rw [← HX.out.2.2.2, Nat.add_assoc], by omega⟩))⟩, by have := HM.out; simp [lenNat]; omega⟩
      | some b =>
        rw [ht] at lk
        have HT := Lib.hid ht
        clear ht
        simp only [pgV] at lk
        have cut := page_cut b hf4
        by_cases hm : (l : Int) ≤ 4096 - (f : Int)
        · have HM := Lib.hid (show f + l ≤ 4096 ∧ l ≤ l ∧ 0 < l ∧ l = Nat.min l (4096 - f) by rw [show Nat.min l (4096 - f) = min l (4096 - f) from rfl]; omega)
          go_wp2_with (first | (go_at_call 50; refine HP.out.mono ?_; rintro e wn ⟨rfl, hb'⟩; have hb := hb.trans hb'; clear hb'; have R5 := HR'.out.on hb; have K5 : Kp 64 n wr wn := Kp.of_on hb; have H5 := HT.out; obtain ⟨w6, hcp, hb6, hg6⟩ := copy_rw (P := Try.prog) (w := wn) (dT := 32) (sT := 32) (ty := 3) (elem := 5) (g := b) (o := f) (dLen := 4096 - f) (dCap := 4096 - f) (b := sb) (off := q) (sLen := l) (sCap := c) (n := 4096) (m := l) (z := fun i => z (j + i)) (t := 64) Try.underlying32 u8_one (R5.page k b H5) HM.out.2.2.2 (fun i hi => SRC.out _ K5 i (by have := HM.out; omega)) HM.out.1; have HB6 := Lib.hid hb6; have HG6 := Lib.hid hg6; clear hb6 hg6; have R6 := Lib.hid (And.intro R5 K5); have H6 := Lib.hid H5; clear R5 K5 H5))
          go_wp2_with fail
          go_quiet (fail)
          go_wp2
          have P6 := (R6.out.1).put H6.out HM.out.1 (fun i => HZ.out _) HB6.out HG6.out
          exact ⟨⟨j + l, l - l, by rw [Nat.sub_self]; exact (Hr.out.next l (by have := HM.out; omega) ((R6.out.2.trans P6.2).on (on_drawn _ _)) (by rw [← ov_ov, show o + j = k * 4096 + f by have := HX.out; omega]; exact ⟨_, _, P6.1.on (on_drawn _ _)⟩) (by have := HX.out; have := HY.out; omega) (by omega) (fun h => by have := HX.out; have := HQ.out; have := HM.out; first | omega | exact ⟨by rw [← HX.out.2.2.2, Nat.add_assoc], by omega⟩))⟩, by have := HM.out; simp [lenNat]; omega⟩
        · obtain ⟨m, hmf⟩ : ∃ m, 4096 - f = m := ⟨_, rfl⟩
          have hm2 : (m : Int) < (l : Int) := by omega
          have hm3 : (m : Int) ≤ 4096 := by omega
          have HM := Lib.hid (show f + m ≤ 4096 ∧ m ≤ l ∧ 0 < m ∧ m = Nat.min l (4096 - f) by rw [show Nat.min l (4096 - f) = min l (4096 - f) from rfl]; omega)
          clear hmf hm
          go_wp2_with (first | (go_at_call 50; refine HP.out.mono ?_; rintro e wn ⟨rfl, hb'⟩; have hb := hb.trans hb'; clear hb'; have R5 := HR'.out.on hb; have K5 : Kp 64 n wr wn := Kp.of_on hb; have H5 := HT.out; obtain ⟨w6, hcp, hb6, hg6⟩ := copy_rw (P := Try.prog) (w := wn) (dT := 32) (sT := 32) (ty := 3) (elem := 5) (g := b) (o := f) (dLen := 4096 - f) (dCap := 4096 - f) (b := sb) (off := q) (sLen := l) (sCap := c) (n := 4096) (m := m) (z := fun i => z (j + i)) (t := 64) Try.underlying32 u8_one (R5.page k b H5) HM.out.2.2.2 (fun i hi => SRC.out _ K5 i (by have := HM.out; omega)) HM.out.1; have HB6 := Lib.hid hb6; have HG6 := Lib.hid hg6; clear hb6 hg6; have R6 := Lib.hid (And.intro R5 K5); have H6 := Lib.hid H5; clear R5 K5 H5))
          go_wp2_with fail
          go_quiet (fail)
          go_wp2
          have P6 := (R6.out.1).put H6.out HM.out.1 (fun i => HZ.out _) HB6.out HG6.out
          exact ⟨⟨j + m, l - m, (Hr.out.next m (by have := HM.out; omega) ((R6.out.2.trans P6.2).on (on_drawn _ _)) (by rw [← ov_ov, show o + j = k * 4096 + f by have := HX.out; omega]; exact ⟨_, _, P6.1.on (on_drawn _ _)⟩) (by have := HX.out; have := HY.out; omega) (by omega) (fun h => by have := HX.out; have := HQ.out; have := HM.out; first | omega | exact ⟨by rw [← HX.out.2.2.2, Nat.add_assoc], by omega⟩))⟩, by have := HM.out; simp [lenNat]; omega⟩
end Go.Proofs.Ytkjkmekkcnmjnaa
