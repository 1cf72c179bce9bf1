/- The calls of package ram that read: place, load. Conditions: named at each. -/
import Derived.Test.YtkjkmekkcnmjnaaRamP
import Derived.BigQuiet
import Derived.Deep.RegionWith
import Derived.Deep.RegionLaw
import Derived.Maps.OwnOps
import Derived.OwnWalk
namespace Go.Proofs.Ytkjkmekkcnmjnaa
open Go.RowKit
set_option linter.unusedVariables false
set_option maxRecDepth 100000

/-- the address of the byte so far from the first -/
theorem at_u {o : Nat} (h : o < 4294967296) : ∃ a : BitVec 64, u a = 2147483648 + (o : Int) := by
  refine ⟨BitVec.ofNat 64 (2147483648 + o), ?_⟩
  unfold u
  rw [BitVec.toNat_ofNat, Nat.mod_eq_of_lt (by omega)]; omega
set_option maxHeartbeats 1000000 in
theorem place_at {n r N mb : Nat} {tab : Nat → Option Nat} {M : Nat → Int} {w : World} (R : RamIn n r N mb tab M w) {x k f : Nat} (hx : x = k * 4096 + f) (hf : f < 4096) (hl : x < N * 4096) :
    Calls Try.prog 50 #[.pointer (some ⟨r, 0, none⟩), .int .u64 (2147483648 + (x : Int))] w fun e w' => e = .returned (.tuple #[.int .u64 k, .int .i64 f]) ∧ On w w' := by
  have hb := On.refl w
  have hN := R.pages
  obtain ⟨a, ha⟩ := at_u (o := x) (by omega)
  have hr : regA N a = 5 := (ram_reg hN a).2 (by omega)
  have ho := ram_off a hr
  have hwf := Lib.hid (pgs_wf hN.2)
  have H1 := offset_any N hwf.out a
  rw [ho, ha, show (2147483648 : Int) + (x : Int) - 2147483648 = (x : Int) by omega] at H1
  have H1 := Lib.hid H1
  have c0 : ∀ wr, On w wr → wr.cell? ⟨r, 0, none⟩ = some (.int .i64 (N : Nat)) := fun wr h => blk_cell (h.keep R.cell) 0 rfl
  have hxx : (x : Int) < 1048576 := by omega
  have HX := Lib.hid hx
  clear hx hr ho ha R
  go_enter Try.func50, Try.ntmps50
  go_wp2_with (first | (go_at_call 48; refine (H1.out _).mono ?_; rintro e wn ⟨rfl, hb'⟩; have hb := hb.trans hb'; clear hb'))
  go_ret2
  have := HX.out
  refine ⟨?_, hb⟩
  simp
  omega

def lenNat : Value → Nat
  | .slice _ l _ => l
  | _ => 0
/-- what the loop of load carries -/
structure LdAt (B o len : Nat) (M : Nat → Int) (w : World) (x y : Value) (wr : World) (j l : Nat) : Prop where
  sum : j + l = len
  addr : x = .int .u64 (2147483648 + ((o + j : Nat) : Int))
  row : ∃ a, y = .slice a l l ∧ (0 < l → a = some ⟨B, j, none⟩)
  but : But B w wr
  cells : wr.heap[B]? = some (.cells (rwA len (ov (fun _ => 0) 0 j fun i => M (o + i))) 5 (0, 0))
theorem LdAt.next {B o len : Nat} {M : Nat → Int} {w wr wq : World} {x y : Value} {j l : Nat} (h : LdAt B o len M w x y wr j l) (m : Nat) (hm : m ≤ l) (hb : But B wr wq)
    (hc : wq.heap[B]? = some (.cells (rwA len (ov (fun _ => 0) 0 (j + m) fun i => M (o + i))) 5 (0, 0))) {A : Int} {a : Option Addr} {l' : Nat} (hA : A = 2147483648 + ((o + (j + m) : Nat) : Int)) (hl : l' = l - m) (ha : 0 < l' → a = some ⟨B, j + m, none⟩) :
    LdAt B o len M w (.int .u64 A) (.slice a l' l') wq (j + m) l' :=
  ⟨by have := h.sum; omega, by rw [hA], ⟨a, rfl, ha⟩, h.but.trans hb, hc⟩
theorem ld_gap {o len j m : Nat} {M : Nat → Int} (h : ∀ i, j ≤ i → i < j + m → M (o + i) = 0) : rwA len (ov (fun _ => 0) 0 j fun i => M (o + i)) = rwA len (ov (fun _ => 0) 0 (j + m) fun i => M (o + i)) :=
  rw_congr fun i _ => by
    unfold ov
    by_cases h1 : i < j
    · rw [if_pos (by omega), if_pos (by omega)]
    · by_cases h2 : i < j + m
      · rw [if_neg (by omega), if_pos (by omega), Nat.sub_zero]; exact (h i (by omega) h2).symm
      · rw [if_neg (by omega), if_neg (by omega)]
theorem ld_copy {o len j m p : Nat} {M : Nat → Int} (h : o + j = p) : rwA len (ov (ov (fun _ => 0) 0 j fun i => M (o + i)) j m fun i => M (p + i)) = rwA len (ov (fun _ => 0) 0 (j + m) fun i => M (o + i)) :=
  rw_congr fun i _ => by
    unfold ov
    by_cases h1 : i < j
    · rw [if_neg (by omega), if_pos (by omega), if_pos (by omega)]
    · by_cases h2 : i < j + m
      · rw [if_pos (by omega), if_pos (by omega), Nat.sub_zero]; show M (p + (i - j)) = M (o + i); rw [show p + (i - j) = o + i by omega]
      · rw [if_neg (by omega), if_neg (by omega), if_neg (by omega)]
set_option maxHeartbeats 4000000 in
theorem load_any {n r N mb : Nat} {tab : Nat → Option Nat} {M : Nat → Int} {w : World} (R : RamIn n r N mb tab M w) {o len B : Nat} (hl : o + len ≤ N * 4096) (hB : w.heap[B]? = some (.cells (rwA len fun _ => 0) 5 (0, 0))) :
    Calls Try.prog 38 #[.pointer (some ⟨r, 0, none⟩), .int .u64 (2147483648 + (o : Int)), .slice (some ⟨B, 0, none⟩) len len] w fun e w' =>
      e = .returned (.tuple #[]) ∧ But B w w' ∧ w'.heap[B]? = some (.cells (rwA len fun i => M (o + i)) 5 (0, 0)) := by
  have hN := R.pages
  have HR := Lib.hid R
  have HB := Lib.hid hB
  have H0 : Hid (LdAt B o len M w (.int .u64 (2147483648 + (o : Int))) (.slice (some ⟨B, 0, none⟩) len len) w 0 len) :=
    Lib.hid ⟨by omega, by simp, ⟨_, rfl, fun _ => rfl⟩, But.refl _ _, by rw [hB, rw_congr (f := fun _ => 0) (g := ov (fun _ => 0) 0 0 fun i => M (o + i)) fun i _ => by unfold ov; rw [if_neg (by omega)]]⟩
  clear R hB
  go_enter Try.func38, Try.ntmps38
  go_wp2_with fail
  go_loopw [1, 2] (fun x y wr => ∃ j l, LdAt B o len M w x y wr j l) (fun _ y _ => (lenNat y))
  case atStart => exact ⟨0, len, H0.out⟩
  case round =>
    obtain ⟨j, l, hr⟩ := hrel
    obtain ⟨a, rfl, hal⟩ := hr.row
    obtain rfl := hr.addr
    by_cases h0 : l = 0
    · subst h0
      have Hr := Lib.hid hr
      clear hr hal
      go_wp2_with fail
      go_end0
      exact ⟨rfl, Hr.out.but, Hr.out.cells.trans (by rw [rw_congr (g := fun i => M (o + i)) fun i hi => by have := Hr.out.sum; unfold ov; rw [if_pos (by omega), Nat.sub_zero]])⟩
    · obtain rfl := hal (by omega)
      have hs := hr.sum
      obtain ⟨y, hy⟩ : ∃ y, o + j = y := ⟨_, rfl⟩
      rw [hy] at hr ⊢
      obtain ⟨k, hk⟩ : ∃ k, y / 4096 = k := ⟨_, rfl⟩
      obtain ⟨f, hf⟩ : ∃ f, y % 4096 = f := ⟨_, rfl⟩
      have hx : y = k * 4096 + f := by omega
      have hf4 : f < 4096 := by omega
      have hyl : y < N * 4096 := by omega
      have R' := HR.out.but HB.out (by decide) (by decide) hr.but
      have HP := Lib.hid (place_at R' hx hf4 hyl)
      have HR' := Lib.hid R'
      have Hr := Lib.hid hr
      have HX := Lib.hid (And.intro hx (And.intro hy hs))
      have c1 : ∀ wn, On wr wn → wn.cell? ⟨r, 1, none⟩ = some (.map (some mb)) := fun wn h => blk_cell (h.keep R'.cell) 1 rfl
      have hb := On.refl wr
      have lk : ∀ wn, On wr wn → (Instr.lookup 59 (.map (some mb)) (.int .u64 k) true).run Try.prog wn = .ok (.tuple #[pgV (tab k), .bool (tab k).isSome]) wn := fun wn h => by
        obtain ⟨es, cl, h1, h2⟩ := R'.map
        exact tab_lookup Try.underlying59 Try.underlying31 (by kernel_rfl) (h.keep h1) h2 (by omega) true
      have hl0 : (0 : Int) < (l : Int) := by omega
      obtain ⟨Y, hY⟩ : ∃ Y : Int, (y : Int) = Y := ⟨_, rfl⟩
      have hY0 : 0 ≤ Y := by omega
      have hY1 : Y < 1048576 := by omega
      rw [hY] at HP ⊢
      have HY := Lib.hid hY
      clear hY h0 hr R' hx hk hf hy hs hyl hal
      cases ht : tab k with
      | none =>
        rw [ht] at lk
        have HT := Lib.hid ht
        clear ht
        simp only [pgV, Option.isSome_none] at lk
        have GAP : ∀ m, f + m ≤ 4096 → ∀ i, j ≤ i → i < j + m → M (o + i) = 0 := fun m hm i h1 h2 => by
          have := HX.out
          have := HR'.out.zero k HT.out (o + i - k * 4096) (by omega)
          rw [show k * 4096 + (o + i - k * 4096) = o + i by omega] at this
          exact this
        have GAP := Lib.hid GAP
        by_cases hm : (l : Int) ≤ 4096 - (f : Int)
        · go_wp2_with (first | (go_at_call 50; refine (HP.out).mono ?_; rintro e wn ⟨rfl, hb'⟩; have hb := hb.trans hb'; clear hb'))
          go_quiet (fail)
          go_wp2
          exact ⟨⟨j + l, l - l, by rw [Nat.sub_self]; exact Hr.out.next l (Nat.le_refl _) (.of_on (hb.trans (on_drawn _ _))) (by rw [← ld_gap (GAP.out l (by omega))]; exact ((hb.trans (on_drawn _ _)).keep Hr.out.cells)) (by have := HX.out; have := HY.out; omega) (by omega) (fun h => by omega)⟩, by simp [lenNat]; omega⟩
        · obtain ⟨m, hmf⟩ : ∃ m, 4096 - f = m := ⟨_, rfl⟩
          have hm1 : (4096 - (f : Int)) = (m : Int) := by omega
          have hm2 : (m : Int) < (l : Int) := by omega
          have hm3 : (m : Int) ≤ 4096 := by omega
          have HM := Lib.hid (show f + m = 4096 ∧ m < l by omega)
          clear hmf
          go_wp2_with (first | (go_at_call 50; refine (HP.out).mono ?_; rintro e wn ⟨rfl, hb'⟩; have hb := hb.trans hb'; clear hb'))
          clear hm1 hm
          go_quiet (fail)
          go_wp2
          exact ⟨⟨j + m, l - m, Hr.out.next m (by have := HM.out; omega) (.of_on (hb.trans (on_drawn _ _))) (by rw [← ld_gap (GAP.out m (by have := HM.out; omega))]; exact ((hb.trans (on_drawn _ _)).keep Hr.out.cells)) (by have := HX.out; have := HY.out; omega) (by omega) (fun h => rfl)⟩, by have := HM.out; simp [lenNat]; omega⟩
      | some b =>
        rw [ht] at lk
        have HT := Lib.hid ht
        clear ht
        simp only [pgV, Option.isSome_some] at lk
        have hbB : b ≠ B := fun e => by
          have h1 := HR'.out.page k b HT.out
          rw [e, Hr.out.cells] at h1
          injection h1 with h1; injection h1 with _ h2; cases h2
        have SRC : ∀ m wn, f + m ≤ 4096 → On wr wn → ∀ i, i < m → wn.cell? ⟨b, f + i, none⟩ = some (.int .u8 (M (k * 4096 + f + i))) := fun m wn hm h i hi => by
          rw [blk_cell (h.keep (HR'.out.page k b HT.out)) (f + i) (rw_get _ (by omega)), Nat.add_assoc]
        have SRC := Lib.hid SRC
        have cut := page_cut b hf4
        by_cases hm : (l : Int) ≤ 4096 - (f : Int)
        · have e1 : Hid (l = Nat.min (4096 - f) l) := Lib.hid (by rw [show Nat.min (4096 - f) l = min (4096 - f) l from rfl]; omega)
          have e2 : Hid (j + l ≤ len) := Lib.hid (by have := HX.out; omega)
          have e3 : Hid (f + l ≤ 4096) := Lib.hid (by omega)
          go_wp2_with (first | (go_at_call 50; refine (HP.out).mono ?_; rintro e wn ⟨rfl, hb'⟩; have hb := hb.trans hb'; clear hb'))
          obtain ⟨w4, hcp, hb4, hg4⟩ := copy_rw (P := Try.prog) (w := wn.drew) (dT := 32) (sT := 32) (ty := 3) (elem := 5) (g := B) (o := j) (dLen := l) (dCap := l) (b := b) (off := f) (sLen := 4096 - f) (sCap := 4096 - f) (n := len) (t := 5) Try.underlying32 u8_one (hb.drew.keep Hr.out.cells) e1.out (SRC.out l _ e3.out hb.drew) e2.out
          have HB4 := Lib.hid hb4
          have HG4 := Lib.hid hg4
          clear hb4 hg4
          go_region
          go_wp2_with fail
          go_quiet (fail)
          go_wp2
          exact ⟨⟨j + l, l - l, by rw [Nat.sub_self]; exact Hr.out.next l (Nat.le_refl _) ((But.of_on hb.drew).trans (HB4.out.drewN _)) (by rw [← ld_copy (len := len) (m := l) (show o + j = k * 4096 + f by have := HX.out; omega)]; exact HG4.out) (by have := HX.out; have := HY.out; omega) (by omega) (fun h => by omega)⟩, by simp [lenNat]; omega⟩
        · obtain ⟨m, hmf⟩ : ∃ m, 4096 - f = m := ⟨_, rfl⟩
          have hm1 : (4096 - (f : Int)) = (m : Int) := by omega
          have hm2 : (m : Int) < (l : Int) := by omega
          have hm3 : (m : Int) ≤ 4096 := by omega
          have HM := Lib.hid (show f + m = 4096 ∧ m < l ∧ 0 < m by omega)
          have e1 : Hid (m = Nat.min (4096 - f) m) := Lib.hid (by rw [show Nat.min (4096 - f) m = min (4096 - f) m from rfl]; omega)
          have e2 : Hid (j + m ≤ len) := Lib.hid (by have := HX.out; omega)
          have e3 : Hid (f + m ≤ 4096) := Lib.hid (by omega)
          clear hmf
          go_wp2_with (first | (go_at_call 50; refine (HP.out).mono ?_; rintro e wn ⟨rfl, hb'⟩; have hb := hb.trans hb'; clear hb'))
          clear hm1 hm
          obtain ⟨w4, hcp, hb4, hg4⟩ := copy_rw (P := Try.prog) (w := wn.drew) (dT := 32) (sT := 32) (ty := 3) (elem := 5) (g := B) (o := j) (dLen := m) (dCap := l) (b := b) (off := f) (sLen := 4096 - f) (sCap := 4096 - f) (n := len) (t := 5) Try.underlying32 u8_one (hb.drew.keep Hr.out.cells) e1.out (SRC.out m _ e3.out hb.drew) e2.out
          have HB4 := Lib.hid hb4
          have HG4 := Lib.hid hg4
          clear hb4 hg4
          go_region
          go_wp2_with fail
          go_quiet (fail)
          go_wp2
          exact ⟨⟨j + m, l - m, Hr.out.next m (by have := HM.out; omega) ((But.of_on hb.drew).trans (HB4.out.drewN _)) (by rw [← ld_copy (len := len) (m := m) (show o + j = k * 4096 + f by have := HX.out; omega)]; exact HG4.out) (by have := HX.out; have := HY.out; omega) (by omega) (fun h => rfl)⟩, by have := HM.out; simp [lenNat]; omega⟩
end Go.Proofs.Ytkjkmekkcnmjnaa
