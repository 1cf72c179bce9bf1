/- Two pages, two memories held against each other; bytes spoilt. Conditions: named at each. -/
import Derived.Test.YtkjkmekkcnmjnaaRamS
import Derived.Test.YtkjkmekkcnmjnaaRowT
import Derived.LaidEqlPtr
import Derived.DeepKeys2
import Derived.BigQuiet
import Derived.Lib.QuietBelow
namespace Go.Proofs.Ytkjkmekkcnmjnaa
open Go.RowKit
set_option linter.unusedVariables false
set_option maxRecDepth 100000

theorem pgT : RowTy Try.prog 64 4096 := ⟨by kernel_rfl, by kernel_rfl⟩
theorem pg_leaves : leaves Try.prog 3 64 = some (List.replicate 4096 (.int .u8)) := by kernel_rfl
theorem pg_key : Try.prog.keyTypeAt 3 64 = true := by kernel_rfl
theorem pg_tiled : Try.prog.tiled 3 64 = true := by kernel_rfl
theorem pg_cells : Try.prog.cellsOf 64 = (List.replicate 4096 (Leaf.int .u8)).length := by kernel_rfl
theorem rep_fits {f : Nat → Int} (hf : ∀ x, 0 ≤ f x ∧ f x < 256) : ∀ (n : Nat) (cs : List Value), cs.length = n → (∀ i, i < n → ∃ x, cs[i]? = some (.int .u8 (f x))) → Fits (List.replicate n (.int .u8)) cs
  | 0, cs, hl, _ => by
    obtain rfl : cs = [] := List.eq_nil_of_length_eq_zero hl
    rfl
  | n + 1, cs, hl, h => by
    cases cs with
    | nil => simp at hl
    | cons c cs =>
      obtain ⟨x, hx⟩ := h 0 (by omega)
      simp at hx
      subst hx
      refine ⟨f x, cs, rfl, ?_, rep_fits hf n cs (by simpa using hl) fun i hi => by simpa using h (i + 1) (by omega)⟩
      have := hf x
      simp [Lit.wf, IntKind.bits, IntKind.signed, IntKind.min, IntKind.max]; omega
theorem pg_fits {f : Nat → Int} (hf : ∀ x, 0 ≤ f x ∧ f x < 256) : Fits (List.replicate 4096 (.int .u8)) (rwA 4096 f).toList :=
  rep_fits hf 4096 _ (by rw [Array.length_toList, rw_size]) fun i hi => ⟨i, by rw [Array.getElem?_toList, rw_get f hi]⟩
theorem rw_inj {n : Nat} {f g : Nat → Int} (h : rwA n f = rwA n g) : ∀ i, i < n → f i = g i := fun i hi => by
  have h1 := rw_get f hi
  rw [h, rw_get g hi] at h1
  injection h1 with h1; injection h1 with _ h1; exact h1.symm
/-- two pages are the same just where their bytes are -/
theorem page_eql {f g : Nat → Int} (hf : ∀ x, 0 ≤ f x ∧ f x < 256) (hg : ∀ x, 0 ≤ g x ∧ g x < 256) {r : Bool} (hr : r = true ↔ ∀ i, i < 4096 → f i = g i) (w : World) :
    (Op.equalIn 10000 64 (.agg (rwA 4096 f)) (.agg (rwA 4096 g))).run Try.prog w = .ok r w := by
  obtain ⟨lx, hx⟩ := lits_fit 3 _ _ pg_leaves pg_key pg_cells _ (pg_fits hf)
  obtain ⟨ly, hy⟩ := lits_fit 3 _ _ pg_leaves pg_key pg_cells _ (pg_fits hg)
  have form : ∀ h : Nat → Int, (Value.agg (rwA 4096 h)).formed Try.prog 64 = true := fun h => by
    unfold Value.formed
    rw [Try.underlying64]
    simp only []
    rw [show Try.prog.cellsOf 64 = 4096 from by kernel_rfl]
    simp [rw_size]
  obtain ⟨s, h1, h2⟩ := run_equalIn_deep (P := Try.prog) (10000 - 3) 3 64 pg_key w 3 3 (.agg (rwA 4096 f)) (.agg (rwA 4096 g)) lx ly (form f) (form g) (by simpa [Value.cells] using hx) (by simpa [Value.cells] using hy)
  rw [show 10000 - 3 + 3 = 10000 from rfl] at h1
  have hs : s = r := by
    rw [Bool.eq_iff_iff, h2, hr]
    constructor
    · intro e
      subst e
      have a1 := cells_of_lits 3 _ pg_tiled _ _ _ hx
      have a2 := cells_of_lits 3 _ pg_tiled _ _ _ hy
      have : rwA 4096 f = rwA 4096 g := by
        apply Array.toList_inj.1
        rw [a1, a2]
      exact rw_inj this
    · intro e
      have : rwA 4096 f = rwA 4096 g := rw_congr e
      rw [this] at hx
      rw [hx] at hy
      exact Option.some.inj hy
  rw [h1, hs]
/-- a page as a pointer leads to it; none: a page of zeros -/
def PgAt (w : World) (p : Option Nat) (f : Nat → Int) : Prop := match p with
  | some b => w.heap[b]? = some (.cells (rwA 4096 f) 64 (0, 0))
  | none => ∀ i, i < 4096 → f i = 0
theorem page_lit : Try.prog.built 64 [] = some (Array.replicate 4096 (.int .u8 0)) := by kernel_rfl
theorem page_build (w : World) : (Instr.build 64 #[]).run Try.prog w = .ok (.agg (rwA 4096 fun _ => 0)) w := by
  rw [run_build w _ #[] _ page_lit, show Array.replicate 4096 (Value.int .u8 0) = rwA 4096 (fun _ => 0) from rw_of (by simp) fun i hi => by simp [hi]]
theorem wp_zero {w : World} {ops : Array Oper} {rest : List Oper} {o : Oper} {a : Act} {Q : Exit → Act → World → Prop} (hgd : o.guard = none) (ho : o.op = .build 64 #[])
    (h : wpList Try.prog ops Q rest (a.put o.dst (.agg (rwA 4096 fun _ => 0))) w) : wpList Try.prog ops Q (o :: rest) a w := by
  refine wpList_plain hgd fun K hK => ?_
  unfold Oper.wp
  simp [execOp, ho, page_build, Result.andThen]
  exact hK _ _ h
theorem pg_none {b c : Nat} {w : World} {f g : Nat → Int} (hp : w.heap[b]? = some (.cells (rwA 4096 f) 64 (0, 0))) (hq : w.heap[c]? = some (.cells (rwA 4096 g) 64 (0, 0))) (hbc : b ≠ c) :
    (Go.binOp .eql 62 (.pointer (some ⟨b, 0, none⟩)) (.pointer (some ⟨c, 0, none⟩))).run Try.prog w = .ok (.bool false) w := by
  have h := page_zero
  cases hi : Try.prog.info? 64 with
  | none => rw [hi] at h; cases h
  | some i =>
    rw [hi] at h
    simp at h
    exact run_eql_ptr_other w Try.underlying62 hi (by rw [h.2]; omega) (by intro e; injection e with e; exact hbc e) hp hq
theorem equal_any {w : World} {p q : Option Nat} {f g : Nat → Int} (hp : PgAt w p f) (hq : PgAt w q g) (hf : ∀ x, 0 ≤ f x ∧ f x < 256) (hg : ∀ x, 0 ≤ g x ∧ g x < 256) (hne : ∀ b c, p = some b → q = some c → b ≠ c) {r : Bool} (hr : r = true ↔ ∀ i, i < 4096 → f i = g i) :
    Calls Try.prog 23 #[pgV p, pgV q] w fun e w' => e = .returned (.bool r) ∧ On w w' := by
  cases p with
  | none =>
    cases q with
    | none =>
      obtain rfl : r = true := hr.2 fun i hi => by
        have h1 : f i = 0 := hp i hi
        have h2 : g i = 0 := hq i hi
        rw [h1, h2]
      clear hp hq hr hne hf hg
      simp only [pgV]
      go_enter Try.func23, Try.ntmps23
      go_wp2
      go_ret
      exact ⟨rfl, On.refl _⟩
    | some c =>
      have hr' : r = true ↔ ∀ i, i < 4096 → g i = 0 := hr.trans ⟨fun h i hi => by have h1 : f i = 0 := hp i hi; rw [← h i hi, h1], fun h i hi => by have h1 : f i = 0 := hp i hi; rw [h i hi, h1]⟩
      have e1 := page_eql (f := g) (g := fun _ => 0) hg (fun _ => ⟨Int.le_refl 0, by show (0 : Int) < 256; omega⟩) hr' w
      have HQ := Lib.hid hq
      have hq0 : ∀ w : World, (Go.binOp .eql 62 (.pointer none) (.pointer (some ⟨c, 0, none⟩))).run Try.prog w = .ok (.bool false) w := fun w => by kernel_rfl
      clear hp hq hr hr' hne hf hg
      simp only [pgV]
      go_enter Try.func23, Try.ntmps23
      go_wp2_with (first | (apply row_ld pgT; (case hgd => exact rfl); (case ho => exact rfl); (case hx => exact rfl); (case hg => exact HQ.out); (case hs => exact rw_size _ _)) | (apply wp_zero; (case hgd => exact rfl); (case ho => exact rfl)))
      go_ret
      exact ⟨rfl, On.refl _⟩
  | some b =>
    cases q with
    | none =>
      have hr' : r = true ↔ ∀ i, i < 4096 → f i = 0 := hr.trans ⟨fun h i hi => by have h1 : g i = 0 := hq i hi; rw [h i hi, h1], fun h i hi => by have h1 : g i = 0 := hq i hi; rw [h i hi, h1]⟩
      have e1 := page_eql (f := f) (g := fun _ => 0) hf (fun _ => ⟨Int.le_refl 0, by show (0 : Int) < 256; omega⟩) hr' w
      have HQ := Lib.hid hp
      clear hp hq hr hr' hne hf hg
      simp only [pgV]
      go_enter Try.func23, Try.ntmps23
      go_wp2_with (first | (apply row_ld pgT; (case hgd => exact rfl); (case ho => exact rfl); (case hx => exact rfl); (case hg => exact HQ.out); (case hs => exact rw_size _ _)) | (apply wp_zero; (case hgd => exact rfl); (case ho => exact rfl)))
      go_ret
      exact ⟨rfl, On.refl _⟩
    | some c =>
      have e1 := page_eql (f := f) (g := g) hf hg hr
      have L0 := row_lds (t := 64) pgT hp (rw_size _ _)
      have L1 := row_lds (t := 64) pgT hq (rw_size _ _)
      have hq0 := pg_none hp hq (hne b c rfl rfl)
      have HL := Lib.hid (And.intro L0 L1)
      clear hp hq hr hne hf hg L0 L1
      simp only [pgV]
      go_enter Try.func23, Try.ntmps23
      go_wp2_with fail
      have L0 := HL.out.1
      have L1 := HL.out.2
      refine wp_region_quiet_below (by kernel_rfl) (by kernel_rfl) ?_
      repeat (first | (go_big_quiet_want; (first | refine row_quiet L0 rfl rfl ?_ | refine row_quiet L1 rfl rfl ?_); go_simp; go_big_quiet_on) | go_big_quiet_step (fail))
      refine wpQuiet_nil ?_
      intro _ hw'
      obtain ⟨⟨dq, osq⟩, hw''⟩ := hw'
      subst hw''
      go_wp2
      go_ret
      exact ⟨rfl, (On.refl _).grow _ _⟩
end Go.Proofs.Ytkjkmekkcnmjnaa
