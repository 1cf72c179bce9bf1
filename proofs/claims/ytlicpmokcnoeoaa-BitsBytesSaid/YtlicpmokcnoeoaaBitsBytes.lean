/- Proves that for every word, every number and every slice of bytes Bytes and Word of package bits answer as the document's own reference does, that what is handed in stays as it was, and that the first test of the law holds. Conditions: none but the form's own reach. -/
import Derived.Test.YtlicpmokcnoeoaaRows
import Derived.Test.YtlicpmokcnoeoaaAwake
import Derived.Test.YtlicpmokcnoeoaaHelp
import Derived.WalkKit
import Derived.ProofKit
import Derived.OpenShut
import Derived.SizedLaws
import Derived.ShutString
import Derived.ChangeOld
import Derived.Below
namespace Go.Proofs.Ytlicpmokcnoeoaa.bitsBytes
open Go.ChangeShapes Go.WideShapes Go.ChangeAt Go.RowKit
open Go.ChangeMaps (open_string shut_string)
set_option linter.unusedVariables false

theorem own : ownKnob Try.prog.godebug = none := by kernel_rfl
theorem laidOut : laidOutB Try.prog = true := by kernel_rfl

def IsRow (k : IntKind) (w : World) (a : Option Addr) (len cap : Nat) (zs : List Int) : Prop :=
  (a = none ∧ len = 0 ∧ cap = 0 ∧ zs = []) ∨
  ∃ x, a = some x ∧ len ≤ cap ∧ zs.length = cap ∧ cap * (k.bits / 8) ≤ 140737488351232 ∧ (∀ i, i < zs.length → w.cell? (x.add i) = some (.int k (zs.getD i 0))) ∧ ∀ n ∈ zs, (Lit.int k n).wf = true

theorem walk (a0 : Int) (a1 : Int) (a2 : Option Addr) (len2 cap2 : Nat) (z2 : List Int) (w : World) (w0 : (Lit.int .u64 a0).wf = true) (w1 : (Lit.int .i64 a1).wf = true) (w2 : IsRow .u8 w a2 len2 cap2 z2) :
    Calls Try.prog 5 #[.int .u64 a0, .int .i64 a1, .slice a2 len2 cap2] w fun e w' => e = .returned (.bool true) ∧ Below w.heap.size w w' := by
  obtain ⟨v, rfl⟩ := u_of w0
  obtain ⟨zs, hrb, hbz, hlen⟩ : ∃ zs, RB w (.slice a2 len2 cap2) zs ∧ Byte zs ∧ zs.length ≤ 140737488351232 := by
    rcases w2 with ⟨rfl, rfl, rfl, rfl⟩ | ⟨x, rfl, hl, hz, hr, hcell, hwz⟩
    · exact ⟨[], .inl ⟨_, _, rfl, rfl, fun _ => rfl⟩, byte_nil, by simp⟩
    · exact rb_of_cells hl hz hr hcell hwz
  have hm := clamp_le a1
  have HB := Lib.hid hrb
  have HZ := Lib.hid hbz
  clear w0 w1 w2 hrb hbz
  have HC : Hid (max 0 (min a1 8) = (clamp a1 : Int)) := Lib.hid (by unfold clamp; omega)
  go_enter Try.func5, Try.ntmps5
  go_wp2_with fail
  refine (own_any _ zs 71 w HB.out hlen).mono ?_
  rintro e w1 ⟨rfl, ho⟩
  have HO := Lib.hid ho
  clear ho
  go_wp2_with fail
  refine (bytes_any v a1 w1).mono ?_
  rintro e w2 ⟨rfl, hw2⟩
  have HW := Lib.hid hw2
  clear hw2
  go_wp2_with fail
  refine (awake_yes _).mono ?_
  rintro e w3 ⟨rfl, n1, hw3⟩
  have HW3 := Lib.hid hw3
  clear hw3
  go_wp2_with fail
  refine (ref_bytes_any v a1 _).mono ?_
  rintro e w4 ⟨r, rfl, hown, hb⟩
  have HR := Lib.hid hown
  have hlt1 : w1.heap.size < w2.heap.size := by rw [HW.out]; simp
  have hlt3 : w3.heap.size = w2.heap.size := by rw [HW3.out]; rfl
  have HA : Hid (Below w2.heap.size w2 w4) := Lib.hid (by rw [HW3.out] at hb; exact (below_drawn _ _ n1).trans hb)
  have HA1 : Hid (Below w1.heap.size w1 w4) := Lib.hid ((by rw [HW.out]; exact (Below.refl _ _).alloc (Nat.le_refl _) _ : Below w1.heap.size w1 w2).trans (HA.out.mono (by omega)))
  have HA0 : Hid (Below w.heap.size w w4) := Lib.hid (HO.out.1.trans (HA1.out.mono HO.out.1.size))
  have HX : Hid (Below w2.heap.size (w1.alloc (.cells (rowTo v (clamp a1) (clamp a1)) 5)) w4) := Lib.hid (by rw [← HW.out]; exact HA.out)
  clear hown hb
  go_wp2_with fail
  refine (same_bytes_yes (zs := byteNums v (clamp a1)) (made_rs HX.out hlt1) (owned_rs HR.out)).mono ?_
  rintro e w' ⟨rfl, rfl⟩
  go_wp2_with fail
  refine (word_any _ zs _ ((HO.out.below HA1.out).rb hlen) HZ.out).mono ?_
  rintro e w' ⟨rfl, rfl⟩
  go_wp2_with fail
  refine (ref_word_any _ zs _ (HB.out.below HA0.out) HZ.out).mono ?_
  rintro e w' ⟨rfl, rfl⟩
  go_wp2_with fail
  refine (kept_yes ((HO.out.below HA1.out).rb hlen) (HB.out.below HA0.out) hlen (HO.out.below HA1.out).spare).mono ?_
  rintro e w5 ⟨rfl, n2, hw5⟩
  have HW5 := Lib.hid hw5
  have HA5 : Hid (Below w2.heap.size (w1.alloc (.cells (rowTo v (clamp a1) (clamp a1)) 5)) w5) := Lib.hid (by rw [HW5.out]; exact HX.out.trans (below_drawn _ _ n2))
  clear hw5
  go_wp2_with fail
  refine (word_any _ (byteNums v (clamp a1)) _ (made_rb hm HA5.out hlt1) (byteNums_byte _ _)).mono ?_
  rintro e w' ⟨rfl, rfl⟩
  have HF : Hid (∀ N : Int, N = 8 * (clamp a1 : Int) → (u (wordOf (byteNums v (clamp a1))) == u (zxt v N)) = true) := Lib.hid (by
    rintro N rfl
    rw [byteNums_word v _ hm]; simp)
  by_cases h1 : a1 ≤ 0
  · go_wp2_with (go_at_call 18; refine (zext_any _ _ _).mono ?_; rintro e w' ⟨rfl, rfl⟩)
    go_ret
    exact ⟨congrArg (fun b => Ending.returned (Value.bool b)) (HF.out _ (by unfold clamp; omega)), HA0.out.trans (by rw [HW5.out]; exact below_drawn _ _ n2)⟩
  · by_cases h2 : 8 < a1
    · go_wp2_with (go_at_call 18; refine (zext_any _ _ _).mono ?_; rintro e w' ⟨rfl, rfl⟩)
      go_ret
      exact ⟨congrArg (fun b => Ending.returned (Value.bool b)) (HF.out _ (by unfold clamp; omega)), HA0.out.trans (by rw [HW5.out]; exact below_drawn _ _ n2)⟩
    · go_wp2_with (go_at_call 18; refine (zext_any _ _ _).mono ?_; rintro e w' ⟨rfl, rfl⟩)
      go_ret
      exact ⟨congrArg (fun b => Ending.returned (Value.bool b)) (HF.out _ (by unfold clamp; omega)), HA0.out.trans (by rw [HW5.out]; exact below_drawn _ _ n2)⟩

set_option maxRecDepth 100000 in
theorem lifted (os : Os) (started : os.Started) (H : Type) (enc : TypeId × Value → H) :
    ReturnsInHanded {} Try.checked os 5 .any (Rows.bitsBytesSpec.pre6 enc Try.prog Try.f5 Rows.bitsBytesRow.domain false) (Rows.bitsBytesSpec.post enc Try.prog Try.f5 false true false false) := by
  refine returnsInHanded_of_change_sized (C := Try.checked) own started (by kernel_rfl) Try.func5
    (ChangeSpec.witness6 (enc := enc) (C := Try.checked) false ⟨#[], #[.int .u64 0, .int .i64 0, .slice none 0 0], []⟩ 8 (by kernel_rfl) (by kernel_rfl) (by kernel_rfl) (by kernel_rfl)) ?_
  intro W base args ds gs before hval0 hW hcnd hsz0 _
  have hsz : (DataW.weightsEach Try.prog (Try.f5.params.toList ++ Rows.bitsBytesSpec.plain.varTypes Try.prog) (ds ++ gs)).all (· ≤ reachBytes) = true := hsz0
  clear hsz0
  have hval : ∀ (j : Nat) t v, Try.f5.params[j]? = some t → args[j]? = some v → Value.okWide Try.prog W .any base t v := hval0
  have hW' := hW
  obtain ⟨p, q, hA0, hV, rfl, hfz, hnd⟩ := hW
  have hA : DataW.TrodAll enc Try.prog W 0 (fun _ => true) true Try.f5.params.toList args.toList ds p := hA0
  rw [Try.params5] at hA hval hsz
  obtain ⟨v0, vs0, d0, ds0, p0, q0, hargs, rfl, rfl, h0, r0⟩ := trodAll_cons hA
  obtain ⟨v1, vs1, d1, ds1, p1, q1, rfl, rfl, rfl, h1, r1⟩ := trodAll_cons r0
  obtain ⟨v2, vs2, d2, ds2, p2, q2, rfl, rfl, rfl, h2, r2⟩ := trodAll_cons r1
  obtain ⟨rfl, rfl, rfl⟩ := trodAll_nil r2
  obtain rfl : args = #[v0, v1, v2] := by cases args; simp_all
  obtain ⟨rfl, rfl⟩ := trodVars_none hV
  obtain ⟨a0, rfl, rfl, rfl, w0⟩ := open_int Try.underlying22 (hval 0 22 v0 rfl rfl) h0
  obtain ⟨a1, rfl, rfl, rfl, w1⟩ := open_int Try.underlying3 (hval 1 3 v1 rfl rfl) h1
  obtain ⟨a2, len2, cap2, rfl⟩ := okWide_slice Try.underlying29 (hval 2 29 v2 rfl rfl)
  have k2 := h2
  have lt2 : ∀ x ∈ p2, x.block < W.heap.size := by obtain ⟨m, hm⟩ := k2; exact DataW.trod_lt m _ _ _ hm
  obtain ⟨z2, w2⟩ : ∃ zs, IsRow .u8 W a2 len2 cap2 zs := by
    obtain ⟨fuel, hf⟩ := h2
    rcases open_ints Try.underlying29 Try.underlying5 (by kernel_rfl) hf with ⟨hcs, _⟩ | ⟨x, l, c, zs, hcs, _, hl, hm, hz, hxx, hcell, hwz⟩
    · simp [Value.cells] at hcs
      obtain ⟨rfl, rfl, rfl⟩ := hcs
      exact ⟨[], .inl ⟨rfl, rfl, rfl, rfl⟩⟩
    · simp [Value.cells] at hcs
      obtain ⟨rfl, rfl, rfl⟩ := hcs
      simp only [Prod.mk.injEq] at hxx
      obtain ⟨rfl, rfl⟩ := hxx
      have hs := sized_slice hsz (j := 2) (t := 29) (e := 5) rfl rfl Try.underlying29
      rw [show Try.prog.bytesOf 5 = IntKind.bits .u8 / 8 from by kernel_rfl] at hs
      have hz' : zs.length = cap2 := by simpa using hz
      simp only [lits, List.length_map, List.length_take, List.length_drop, reachBytes] at hs
      rw [hz', show min len2 cap2 + (cap2 - len2) = cap2 by omega] at hs
      exact ⟨zs, .inr ⟨_, rfl, hl, hz', by simpa using hs, hcell, hwz⟩⟩
  clear hA0 hval0
  refine (walk a0 a1 a2 len2 cap2 z2 W w0 w1 w2).mono fun e W' ⟨he, bel⟩ => ?_
  subst he
  exact ⟨_, rfl, _, _, _, [], _, [], hW', trodAll_mk1 (shut_bool Try.underlying4 _), (trodAll_cons_mk (shut_int Try.underlying22 w0) (trodAll_cons_mk (shut_int Try.underlying3 w1) (trodAll_cons_mk (Below.trod laidOut (by kernel_rfl) (of_decide_eq_true (by kernel_rfl)) k2 bel lt2) trodAll_mk0))), rfl, bel.frame _, fun h => by cases h⟩

theorem over : Rows.bitsBytesRow.holds Try.pinned (OpenSpec.ofChange Rows.bitsBytesSpec) :=
  OpenClaim.holds_of_wide 5 Try.f5 rfl rfl rfl rfl rfl rfl rfl ⟨rfl, rfl, rfl, rfl, rfl⟩ rfl rfl rfl rfl rfl (by kernel_rfl) Try.func5 (by kernel_rfl)
    (of_decide_eq_true (by kernel_rfl)) (by unfold Func.isWrapper; first | (rw [if_pos (by decide +kernel)]; kernel_rfl) | (rw [if_neg (by decide +kernel)]; exact ⟨rfl, rfl⟩))
    (fun os started H enc _ => lifted os started H enc)

theorem proved : Rows.BitsBytesSaid := over
#print axioms proved
end Go.Proofs.Ytlicpmokcnoeoaa.bitsBytes
