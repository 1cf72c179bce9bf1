/- What the calls of package pma come to. Conditions: none. -/
import Derived.Test.YtiimoaoiekpjoaaPmaW
import Derived.Test.YtiimoaoiekpjoaaRowT
import Derived.Test.YtiimoaoiekpjoaaRows
import Derived.WalkKit
import Derived.ProofKit
import Derived.Lib.Hide
import Derived.IntWalk
import Derived.KernelRfl
namespace Go.Proofs.Ytiimoaoiekpjoaa
open Go.RowKit
set_option linter.unusedVariables false

theorem rgT : RowTy Try.prog 30 3 := ⟨by kernel_rfl, by kernel_rfl⟩
/-- the map as it lies in memory -/
def rgC (p : Int) : Array Value := #[.int .i64 1, .int .u64 4096, .int .u64 4096, .int .i64 2, .int .u64 33554432, .int .u64 65536, .int .i64 3, .int .u64 201326592, .int .u64 4194304, .int .i64 4, .int .u64 268435456, .int .u64 4096, .int .i64 5, .int .u64 2147483648, .int .u64 (pgN p * 4096)]
theorem rgC_at (p : Int) {k : Nat} (h : k < 5) : (rgC p)[k * 3]? = some (.int .i64 (k + 1 : Nat)) ∧ (rgC p)[k * 3 + 1]? = some (.int .u64 (rgB (k + 1))) ∧ (rgC p)[k * 3 + 2]? = some (.int .u64 (rgS p (k + 1))) := by
  have h6 : k = 0 ∨ k = 1 ∨ k = 2 ∨ k = 3 ∨ k = 4 := by omega
  rcases h6 with rfl | rfl | rfl | rfl | rfl <;> exact ⟨rfl, rfl, rfl⟩
set_option maxHeartbeats 1000000 in
theorem regions_any (p : Int) (hp : (Lit.int .i64 p).wf = true) (w : World) : Calls Try.prog 20 #[.int .i64 p] w fun e w' => e = .returned (.slice (some ⟨w.heap.size, 0, none⟩) 5 5) ∧ w' = w.alloc (.cells (rgC p) 30) := by
  by_cases h1 : p < 4
  · have H : Hid (rgC p = rgC 4) := Lib.hid (by unfold rgC; rw [show pgN p = pgN 4 by unfold pgN; omega])
    go_enter Try.func20, Try.ntmps20
    go_wp2
    go_ret
    exact ⟨rfl, by rw [H.out]; rfl⟩
  by_cases h2 : p ≤ 256
  · have H : Hid (pgN p = p) := Lib.hid (by unfold pgN; omega)
    go_enter Try.func20, Try.ntmps20
    go_wp2
    go_ret
    exact ⟨rfl, by unfold rgC; rw [H.out]⟩
  · have H : Hid (rgC p = rgC 256) := Lib.hid (by unfold rgC; rw [show pgN p = pgN 256 by unfold pgN; omega])
    go_enter Try.func20, Try.ntmps20
    go_wp2
    go_ret
    exact ⟨rfl, by rw [H.out]; rfl⟩
/-- a region as a value -/
def rgV (p : Int) (k : Nat) : Array Value := #[.int .i64 k, .int .u64 (rgB k), .int .u64 (rgS p k)]
theorem rgV_one (p : Int) (k : Nat) : (rgV p k).all (·.oneCell') = true := by unfold rgV; simp [Value.oneCell']
set_option maxRecDepth 100000 in
set_option maxHeartbeats 1000000 in
theorem find_any (p : Int) (hp : (Lit.int .i64 p).wf = true) (a : BitVec 64) (w : World) : Calls Try.prog 16 #[.int .i64 p, .int .u64 (u a)] w fun e w' => e = .returned (.tuple #[.agg (rgV p (regA p a)), .int .u64 (offA p a)]) ∧ On w w' := by
  have B0 := (On.refl w).alloc (.cells #[.int .i64 0, .int .u64 0, .int .u64 0] 30)
  have B1 := B0.alloc (.cells (rgC p) 30)
  have G0 := (((On.refl (w.alloc (.cells #[.int .i64 0, .int .u64 0, .int .u64 0] 30))).alloc (.cells (rgC p) 30)).keep (blk_new w _))
  have G1 := blk_new (w.alloc (.cells #[.int .i64 0, .int .u64 0, .int .u64 0] 30)) (.cells (rgC p) 30)
  rw [alloc_size] at G1
  have H := Lib.hid (And.intro B1 (And.intro G0 G1))
  clear B0 B1 G0 G1
  go_enter Try.func16, Try.ntmps16
  go_wp2_with (go_at_call 20; refine (regions_any p hp _).mono ?_; rintro e w' ⟨rfl, rfl⟩)
  generalize ((w.alloc (.cells #[.int .i64 0, .int .u64 0, .int .u64 0] 30)).alloc (.cells (rgC p) 30)) = w2 at *
  go_loopw [12] (fun i wr => ∃ k : Nat, k ≤ 5 ∧ i = .int .i64 k ∧ Hid (noneTo p a k ∧ On w2 wr)) (fun i _ => (5 - intOf i).toNat)
  case atStart => exact ⟨0, by omega, rfl, Lib.hid ⟨noneTo_zero p a, On.refl _⟩⟩
  case round =>
    obtain ⟨k, hk, rfl, hr⟩ := hrel
    by_cases hk5 : k < 5
    · obtain ⟨c0, c1, c2⟩ := rgC_at p hk5
      have g1 := hr.out.2.keep H.out.2.2
      obtain ⟨nn, hn⟩ : ∃ nn : Int, ((k + 1 : Nat) : Int) = nn := ⟨_, rfl⟩
      rw [hn] at c0
      replace hn := Lib.hid hn
      have C0 := blk_cell g1 _ c0
      have C1 := blk_cell g1 _ c1
      have C2 := blk_cell g1 _ c2
      clear g1 c0 c1 c2
      have ua := u_nonneg a
      have K := Lib.hid (in_test p a (k + 1))
      cases hi : inR p a (k + 1)
      · have t : ¬ IntKind.u64.wrap (u a - rgB (k + 1)) < rgS p (k + 1) := fun h => by have := K.out.1 h; rw [hi] at this; cases this
        have HI := Lib.hid hi
        clear hi
        generalize rgB (k + 1) = bb at *
        generalize rgS p (k + 1) = ss at *
        go_wp2
        exact ⟨⟨k + 1, by omega, by go_num, Lib.hid ⟨noneTo_next hr.out.1 HI.out, hr.out.2.alloc _⟩⟩, by simp [intOf]; omega⟩
      · have t : IntKind.u64.wrap (u a - rgB (k + 1)) < rgS p (k + 1) := K.out.2 hi
        have HR := Lib.hid (And.intro (regA_of hk5 hr.out.1 hi) (show u a - rgB (k + 1) = IntKind.u64.wrap (u a - rgB (k + 1)) by have := inR_true hi; have := rg_in p (k + 1); have := u_lt a; rw [wrap_in _ (by omega) (by omega)]))
        clear hi
        have G := fun o : Obj => ((hr.out.2.alloc o).keep H.out.2.1)
        have GL := lt_of_block H.out.2.1
        have HG := Lib.hid (And.intro (hr.out.2) GL)
        go_wp2_with (apply row_st rgT; (case ho => exact rfl); (case hgd => exact rfl); (case hx => exact rfl); (case hy => exact rfl); (case hg => exact G _); (case hold => rfl); (case hs => rfl); (case h1 => simp [Value.oneCell']))
        refine row_back2 rgT rfl rfl rfl (setRow_heap _ _ _ _ _ _ (((HG.out.1).alloc _).keep H.out.2.1)) rfl rfl ⟨?_, (H.out.1.trans (HG.out.1.alloc _)).row _ _ (Nat.le_refl _)⟩
        have V : rgV p (regA p a) = #[.int .i64 nn, .int .u64 (rgB (k + 1)), .int .u64 (rgS p (k + 1))] := by unfold rgV; rw [HR.out.1, hn.out]
        have E : offA p a = IntKind.u64.wrap (u a - rgB (k + 1)) := by unfold offA; rw [HR.out.1, if_neg (by omega)]; exact HR.out.2
        rw [V, E]; rfl
    · obtain rfl : k = 5 := by omega
      have HR := Lib.hid (regA_none hr.out.1)
      have G := hr.out.2.keep H.out.2.1
      go_wp2_with (apply row_st rgT; (case ho => exact rfl); (case hgd => exact rfl); (case hx => exact rfl); (case hy => exact rfl); (case hg => exact G); (case hold => rfl); (case hs => rfl); (case h1 => simp [Value.oneCell']))
      refine row_back2 rgT rfl rfl rfl (setRow_heap _ _ _ _ _ _ (hr.out.2.keep H.out.2.1)) rfl rfl ⟨?_, (H.out.1.trans hr.out.2).row _ _ (Nat.le_refl _)⟩
      unfold offA
      rw [HR.out]; rfl

theorem find_lit (p : Int) (hp : (Lit.int .i64 p).wf = true) (a : BitVec 64) (w : World) : Calls Try.prog 16 #[.int .i64 p, .int .u64 (u a)] w fun e w' => e = .returned (.tuple #[.agg #[.int .i64 (regA p a : Nat), .int .u64 (rgB (regA p a)), .int .u64 (rgS p (regA p a))], .int .u64 (offA p a)]) ∧ On w w' := find_any p hp a w
theorem region_any (p : Int) (hp : (Lit.int .i64 p).wf = true) (a : BitVec 64) (w : World) : Calls Try.prog 7 #[.int .i64 p, .int .u64 (u a)] w fun e w' => e = .returned (.int .i64 (regA p a : Nat)) ∧ On w w' := by
  have HB := Lib.hid (On.refl w)
  go_enter Try.func7, Try.ntmps7
  go_wp2_with (first | (go_at_call 16; refine (find_lit p hp a _).mono ?_; rintro e wn ⟨rfl, hb⟩; have HB := Lib.hid (HB.out.trans hb); clear hb))
  go_ret
  exact ⟨rfl, HB.out.alloc _⟩
theorem offset_any (p : Int) (hp : (Lit.int .i64 p).wf = true) (a : BitVec 64) (w : World) : Calls Try.prog 12 #[.int .i64 p, .int .u64 (u a)] w fun e w' => e = .returned (.int .u64 (offA p a)) ∧ On w w' := by
  have HB := Lib.hid (On.refl w)
  go_enter Try.func12, Try.ntmps12
  go_wp2_with (first | (go_at_call 16; refine (find_lit p hp a _).mono ?_; rintro e wn ⟨rfl, hb⟩; have HB := Lib.hid (HB.out.trans hb); clear hb))
  go_ret
  exact ⟨rfl, HB.out.alloc _⟩
theorem five_test (r : Nat) : ((r : Int) == 5) = (r == 5) := by
  rw [Bool.eq_iff_iff]; simp; omega
theorem cached_any (p : Int) (hp : (Lit.int .i64 p).wf = true) (a : BitVec 64) (w : World) : Calls Try.prog 9 #[.int .i64 p, .int .u64 (u a)] w fun e w' => e = .returned (.bool (regA p a == 5)) ∧ On w w' := by
  have HB := Lib.hid (On.refl w)
  obtain ⟨r, hr⟩ : ∃ r, regA p a = r := ⟨_, rfl⟩
  go_enter Try.func9, Try.ntmps9
  go_wp2_with (first | (go_at_call 7; refine (region_any p hp a _).mono ?_; rintro e wn ⟨rfl, hb⟩; have HB := Lib.hid (HB.out.trans hb); clear hb))
  go_ret
  exact ⟨by rw [← five_test]; first | rfl | (rw [hr]; simp; done), HB.out⟩
def devA (r : Nat) : Bool := r == 2 || r == 3 || r == 4
theorem device_any (p : Int) (hp : (Lit.int .i64 p).wf = true) (a : BitVec 64) (w : World) : Calls Try.prog 10 #[.int .i64 p, .int .u64 (u a)] w fun e w' => e = .returned (.bool (devA (regA p a))) ∧ On w w' := by
  have HB := Lib.hid (On.refl w)
  have K := region_any p hp a
  have hl := regA_le p a
  generalize regA p a = r at *
  have K := Lib.hid K
  have h6 : r = 0 ∨ r = 1 ∨ r = 2 ∨ r = 3 ∨ r = 4 ∨ r = 5 := by omega
  clear hl
  rcases h6 with rfl | rfl | rfl | rfl | rfl | rfl <;> (
    go_enter Try.func10, Try.ntmps10
    go_wp2_with (first | (go_at_call 7; refine (K.out _).mono ?_; rintro e wn ⟨rfl, hb⟩; have HB := Lib.hid (HB.out.trans hb); clear hb))
    go_ret
    exact ⟨rfl, HB.out⟩)
theorem holds_any (p : Int) (a : BitVec 64) (s : Int) (hs : (Lit.int .i64 s).wf = true) (w : World) : Calls Try.prog 18 #[.agg (rgV p (regA p a)), .int .u64 (offA p a), .int .i64 s] w fun e w' => e = .returned (.bool (holdsA p a s)) ∧ On w w' := by
  have HB := Lib.hid (On.refl w)
  have ho := offA_in p a
  have hr := rg_in p (regA p a)
  have hz : regA p a = 0 → rgS p (regA p a) = 0 := fun h => by rw [h]; rfl
  unfold rgV holdsA
  generalize offA p a = o at *
  generalize rgB (regA p a) = bb at *
  generalize rgS p (regA p a) = ss at *
  generalize regA p a = r at *
  obtain ⟨rn, hrn⟩ : ∃ rn : Int, (r : Int) = rn := ⟨_, rfl⟩
  rw [hrn]
  have oo : 0 ≤ o ∧ o ≤ ss ∧ ss ≤ 2148532224 := ⟨ho.1, by by_cases h : r = 0 <;> (first | (have := ho.2.2 h; have := hz h; omega) | (have := ho.2.1 h; omega)), by omega⟩
  clear ho hr hz hrn
  by_cases h1 : s = 1
  · subst h1
    have H : Hid (decide (1 ≤ ss - o) = (sizeOk 1 && decide (o + 1 ≤ ss))) := Lib.hid (by unfold sizeOk; simp; omega)
    go_enter Try.func18, Try.ntmps18
    go_wp2
    go_ret
    exact ⟨by rw [← H.out]; rfl, HB.out.alloc _⟩
  by_cases h2 : s = 2
  · subst h2
    have H : Hid (decide (2 ≤ ss - o) = (sizeOk 2 && decide (o + 2 ≤ ss))) := Lib.hid (by unfold sizeOk; simp; omega)
    go_enter Try.func18, Try.ntmps18
    go_wp2
    go_ret
    exact ⟨by rw [← H.out]; rfl, HB.out.alloc _⟩
  by_cases h4 : s = 4
  · subst h4
    have H : Hid (decide (4 ≤ ss - o) = (sizeOk 4 && decide (o + 4 ≤ ss))) := Lib.hid (by unfold sizeOk; simp; omega)
    go_enter Try.func18, Try.ntmps18
    go_wp2
    go_ret
    exact ⟨by rw [← H.out]; rfl, HB.out.alloc _⟩
  by_cases h8 : s = 8
  · subst h8
    have H : Hid (decide (8 ≤ ss - o) = (sizeOk 8 && decide (o + 8 ≤ ss))) := Lib.hid (by unfold sizeOk; simp; omega)
    go_enter Try.func18, Try.ntmps18
    go_wp2
    go_ret
    exact ⟨by rw [← H.out]; rfl, HB.out.alloc _⟩
  · have H : Hid (false = (sizeOk s && decide (o + s ≤ ss))) := Lib.hid (by unfold sizeOk; simp [h1, h2, h4, h8])
    have b1 : (s == 1) = false := by simpa using h1
    have b2 : (s == 2) = false := by simpa using h2
    have b4 : (s == 4) = false := by simpa using h4
    have b8 : (s == 8) = false := by simpa using h8
    go_enter Try.func18, Try.ntmps18
    go_wp2
    go_ret
    exact ⟨by rw [← H.out]; rfl, HB.out.alloc _⟩
theorem permits_any (p : Int) (r : Nat) (hr : r ≤ 5) (k : Int) (w : World) : Calls Try.prog 19 #[.agg (rgV p r), .int .i64 k] w fun e w' => e = .returned (.bool (kindOk r k)) ∧ On w w' := by
  have HB := Lib.hid (On.refl w)
  unfold rgV
  generalize rgB r = bb at *
  generalize rgS p r = ss at *
  have h6 : r = 0 ∨ r = 1 ∨ r = 2 ∨ r = 3 ∨ r = 4 ∨ r = 5 := by omega
  by_cases k0 : k = 0
  · subst k0
    rcases h6 with rfl | rfl | rfl | rfl | rfl | rfl <;> (
      go_enter Try.func19, Try.ntmps19
      go_wp2
      go_ret
      exact ⟨rfl, HB.out.alloc _⟩)
  by_cases k1 : k = 1
  · subst k1
    rcases h6 with rfl | rfl | rfl | rfl | rfl | rfl <;> (
      go_enter Try.func19, Try.ntmps19
      go_wp2
      go_ret
      exact ⟨rfl, HB.out.alloc _⟩)
  by_cases k2 : k = 2
  · subst k2
    rcases h6 with rfl | rfl | rfl | rfl | rfl | rfl <;> (
      go_enter Try.func19, Try.ntmps19
      go_wp2
      go_ret
      exact ⟨rfl, HB.out.alloc _⟩)
  · have H : Hid (false = kindOk r k) := Lib.hid (by unfold kindOk; rw [if_neg k0, if_neg k1, if_neg k2])
    have b0 : (k == 0) = false := by simpa using k0
    have b1 : (k == 1) = false := by simpa using k1
    have b2 : (k == 2) = false := by simpa using k2
    go_enter Try.func19, Try.ntmps19
    go_wp2
    go_ret
    exact ⟨by rw [← H.out]; rfl, HB.out.alloc _⟩
theorem stop_load {P : Program} {ops : Array Oper} {rest : List Oper} {o : Oper} {a : Act} {w : World} {Q : Exit → Act → World → Prop} {t : TypeId} {x : Operand} (ho : o.op = .load t x) (h : Stop (wpList P ops Q (o :: rest) a w)) : wpList P ops Q (o :: rest) a w := (fun _ => h.out) ho
theorem may_any (p : Int) (hp : (Lit.int .i64 p).wf = true) (a : BitVec 64) (s : Int) (hs : (Lit.int .i64 s).wf = true) (k : Int) (t : Bool) (w : World) : Calls Try.prog 14 #[.int .i64 p, .int .u64 (u a), .int .i64 s, .int .i64 k, .bool t] w fun e w' => e = .returned (.bool (mayA p a s k t)) ∧ On w w' := by
  have HB := Lib.hid (On.refl w)
  have K1 := fun w => (find_any p hp a w)
  have K2 := fun w => holds_any p a s hs w
  have K3 := fun w => permits_any p (regA p a) (regA_le p a) k w
  unfold mayA
  unfold rgV at K1 K2 K3
  generalize holdsA p a s = b1 at *
  generalize kindOk (regA p a) k = b2 at *
  generalize rgB (regA p a) = bb at *
  generalize rgS p (regA p a) = ss at *
  generalize offA p a = o at *
  generalize regA p a = r at *
  have K1 := Lib.hid K1
  have K2 := Lib.hid K2
  have K3 := Lib.hid K3
  cases b1 <;> cases b2 <;> cases t <;> (
    by_cases h5 : r = 5
    · subst h5
      go_enter Try.func14, Try.ntmps14
      go_wp2_with (first | (go_at_call 16; refine (K1.out _).mono ?_; rintro e wn ⟨rfl, hb⟩; have HB := Lib.hid (HB.out.trans hb); clear hb) | (apply stop_load; (case ho => exact rfl)))
      refine ⟨?_⟩
      have c0 : ∀ wr, On (wn.alloc (.cells #[.int .i64 (5 : Nat), .int .u64 bb, .int .u64 ss] 30)) wr → wr.cell? ⟨wn.heap.size, 0, none⟩ = some (.int .i64 (5 : Nat)) := fun _ h => on_new h 0 rfl
      have c1 : ∀ wr, On (wn.alloc (.cells #[.int .i64 (5 : Nat), .int .u64 bb, .int .u64 ss] 30)) wr → wr.cell? ⟨wn.heap.size, 1, none⟩ = some (.int .u64 bb) := fun _ h => on_new h 1 rfl
      have c2 : ∀ wr, On (wn.alloc (.cells #[.int .i64 (5 : Nat), .int .u64 bb, .int .u64 ss] 30)) wr → wr.cell? ⟨wn.heap.size, 2, none⟩ = some (.int .u64 ss) := fun _ h => on_new h 2 rfl
      have hb := On.refl (wn.alloc (.cells #[.int .i64 (5 : Nat), .int .u64 bb, .int .u64 ss] 30))
      replace HB := Lib.hid (HB.out.alloc (.cells #[.int .i64 (5 : Nat), .int .u64 bb, .int .u64 ss] 30))
      generalize wn.alloc (.cells #[.int .i64 (5 : Nat), .int .u64 bb, .int .u64 ss] 30) = w3 at *
      generalize wn.heap.size = g at *
      go_wp2_with (first | (go_at_call 18; refine (K2.out _).mono ?_; rintro e wn ⟨rfl, hb'⟩; have hb := hb.trans hb'; clear hb') | (go_at_call 19; refine (K3.out _).mono ?_; rintro e wn ⟨rfl, hb'⟩; have hb := hb.trans hb'; clear hb'))
      go_ret
      exact ⟨rfl, HB.out.trans hb⟩
    · have f5 : ((r : Int) == 5) = false := by rw [five_test]; simpa using h5
      have g5 : (r == 5) = false := by simpa using h5
      have HG := Lib.hid g5
      clear g5 h5
      go_enter Try.func14, Try.ntmps14
      go_wp2_with (first | (go_at_call 16; refine (K1.out _).mono ?_; rintro e wn ⟨rfl, hb⟩; have HB := Lib.hid (HB.out.trans hb); clear hb) | (apply stop_load; (case ho => exact rfl)))
      refine ⟨?_⟩
      have c0 : ∀ wr, On (wn.alloc (.cells #[.int .i64 (r : Nat), .int .u64 bb, .int .u64 ss] 30)) wr → wr.cell? ⟨wn.heap.size, 0, none⟩ = some (.int .i64 (r : Nat)) := fun _ h => on_new h 0 rfl
      have c1 : ∀ wr, On (wn.alloc (.cells #[.int .i64 (r : Nat), .int .u64 bb, .int .u64 ss] 30)) wr → wr.cell? ⟨wn.heap.size, 1, none⟩ = some (.int .u64 bb) := fun _ h => on_new h 1 rfl
      have c2 : ∀ wr, On (wn.alloc (.cells #[.int .i64 (r : Nat), .int .u64 bb, .int .u64 ss] 30)) wr → wr.cell? ⟨wn.heap.size, 2, none⟩ = some (.int .u64 ss) := fun _ h => on_new h 2 rfl
      have hb := On.refl (wn.alloc (.cells #[.int .i64 (r : Nat), .int .u64 bb, .int .u64 ss] 30))
      replace HB := Lib.hid (HB.out.alloc (.cells #[.int .i64 (r : Nat), .int .u64 bb, .int .u64 ss] 30))
      generalize wn.alloc (.cells #[.int .i64 (r : Nat), .int .u64 bb, .int .u64 ss] 30) = w3 at *
      generalize wn.heap.size = g at *
      go_wp2_with (first | (go_at_call 18; refine (K2.out _).mono ?_; rintro e wn ⟨rfl, hb'⟩; have hb := hb.trans hb'; clear hb') | (go_at_call 19; refine (K3.out _).mono ?_; rintro e wn ⟨rfl, hb'⟩; have hb := hb.trans hb'; clear hb'))
      go_ret
      exact ⟨by rw [HG.out]; rfl, HB.out.trans hb⟩)
end Go.Proofs.Ytiimoaoiekpjoaa
