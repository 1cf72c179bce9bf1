/- Proves that Encode gives, for every instruction, the word that the table gives, and an error where there is none, and that the first test of the law holds. Conditions: the library's table of trailing zeros lies in memory as the program's text lays it. -/
import Derived.Test.YthcdgjpdnlickaaDoorRows
import Derived.Test.YthcdgjpdnlickaaDoorCards
import Derived.Test.YthcdgjpdnlickaaDoorTie
import Derived.Test.YthcdgjpdnlickaaDoorDecA
import Derived.Test.YthcdgjpdnlickaaDoorEnc5
import Derived.Test.YthcdgjpdnlickaaDoorEncR
import Derived.Test.YthcdgjpdnlickaaDoorFlat
import Derived.WalkKit
import Derived.ProofKit
import Derived.OpenShut
import Derived.Below
import Derived.Carry
import Derived.ShutString
import Derived.LaidMore
import Derived.Lib.LaidTab
import Derived.SevenTiedAt
import Derived.Stop.Joined
namespace Go.Proofs.YthcdgjpdnlickaaDoor.decodeEncodesCard
open Go.ChangeShapes Go.WideShapes Go.ChangeAt Go.RowKit
set_option linter.unusedVariables false

theorem own : ownKnob Tryd.prog.godebug = none := by kernel_rfl

theorem gTab : Tryd.prog.globalNamed "math/bits.deBruijn64tab" = some 0 := by kernel_rfl
theorem tTab : (Tryd.prog.globals[0]?).map (·.type) = some 79 := by kernel_rfl
/-- the door's own heap meets the condition -/
theorem door_met (os : Os) (args : Array Value) : laidMetH Tryd.prog Rows.decodeEncodesRow.laid ((World.doorLaid Tryd.prog 14 os).forCall (fun _ _ => 0) ⟨#[], args, []⟩).memory :=
  laidMetH_of_parts3 (fuel := 8) (laidMet_of_run' 8 (by kernel_rfl) (by kernel_rfl)) (by kernel_rfl) (by kernel_rfl)
/-- what the condition gives the walk -/
theorem tab_of {W : World} (h : laidMetH Tryd.prog Rows.decodeEncodesRow.laid W) : Tab W := by
  rw [MakeChecks.laidMetH_plain _ _ _ (by kernel_rfl)] at h
  have hT : Lib.TabIs Tryd.prog W "math/bits.deBruijn64tab" .u8 tz64 := Lib.tabIs_of_head (rest := []) gTab tTab Tryd.underlying79 Tryd.underlying5 (by kernel_rfl) (by kernel_rfl) h
  have hc : ∀ i, i < 64 → W.cell? ⟨0, i, none⟩ = some (.int .u8 (tz64.getD i 0)) := fun i hi => hT.cell gTab i (by show i < 64; exact hi)
  exact ⟨block_in (hc 0 (by omega)), hc⟩

set_option maxRecDepth 100000 in
set_option maxHeartbeats 8000000 in
theorem walk (a0_0 : Int) (w0_0 : (Lit.int .i64 a0_0).wf = true) (a0_1 : Int) (w0_1 : (Lit.int .i64 a0_1).wf = true) (a0_2 : Int) (w0_2 : (Lit.int .i64 a0_2).wf = true) (a0_3 : Int) (w0_3 : (Lit.int .i64 a0_3).wf = true) (a0_4 : Int) (w0_4 : (Lit.int .i64 a0_4).wf = true) (a0_5 : Int) (w0_5 : (Lit.int .u64 a0_5).wf = true) (a0_6 : Int) (w0_6 : (Lit.int .i64 a0_6).wf = true) (a0_7 : Bool) (a0_8 : Bool) (a0_9 : Bool) (a0_10 : Int) (w0_10 : (Lit.int .i64 a0_10).wf = true) (w : World) (ht : Tab w) :
    Calls Tryd.prog 3 #[.agg #[.int .i64 a0_0, .int .i64 a0_1, .int .i64 a0_2, .int .i64 a0_3, .int .i64 a0_4, .int .u64 a0_5, .int .i64 a0_6, .bool a0_7, .bool a0_8, .bool a0_9, .int .i64 a0_10]] w fun e w' => e = .returned (.bool true) ∧ Below w.heap.size w w' := by
  obtain ⟨m, rfl⟩ := u_of w0_5
  have HI : Hid (I64 a0_0 ∧ I64 a0_1 ∧ I64 a0_2 ∧ I64 a0_3 ∧ I64 a0_4 ∧ I64 a0_6 ∧ I64 a0_10) := Lib.hid ⟨bounds_i64 w0_0, bounds_i64 w0_1, bounds_i64 w0_2, bounds_i64 w0_3, bounds_i64 w0_4, bounds_i64 w0_6, bounds_i64 w0_10⟩
  have HT := Lib.hid ht
  have HB : Hid (On w (w.alloc (.cells #[.int .i64 a0_0, .int .i64 a0_1, .int .i64 a0_2, .int .i64 a0_3, .int .i64 a0_4, .int .u64 (u m), .int .i64 a0_6, .bool a0_7, .bool a0_8, .bool a0_9, .int .i64 a0_10] 24))) := Lib.hid ((On.refl w).alloc _)
  clear w0_0 w0_1 w0_2 w0_3 w0_4 w0_5 w0_6 w0_10 ht
  by_cases hx : ∃ x, decOf x = ⟨a0_0, a0_1, a0_2, a0_3, a0_4, m, a0_6, a0_7, a0_8, a0_9, a0_10⟩ ∧ a0_0 ≠ 0
  · obtain ⟨x, hx, h0⟩ := hx
    have hE : ∀ w, Tab w → Calls Tryd.prog 7 #[.agg #[.int .i64 a0_0, .int .i64 a0_1, .int .i64 a0_2, .int .i64 a0_3, .int .i64 a0_4, .int .u64 (u m), .int .i64 a0_6, .bool a0_7, .bool a0_8, .bool a0_9, .int .i64 a0_10]] w fun e w' => e = .returned (.tuple #[.int .u32 (q (clr x)), .int .i64 0]) ∧ On w w' := fun w ht => enc_yes a0_0 a0_1 a0_2 a0_3 a0_4 a0_6 a0_10 m a0_7 a0_8 a0_9 w ht HI x hx h0
    have hR : ∀ w, Calls Tryd.prog 8 #[.agg #[.int .i64 a0_0, .int .i64 a0_1, .int .i64 a0_2, .int .i64 a0_3, .int .i64 a0_4, .int .u64 (u m), .int .i64 a0_6, .bool a0_7, .bool a0_8, .bool a0_9, .int .i64 a0_10]] w fun e w' => e = .returned (.tuple #[.int .u32 (q (clr x)), .int .i64 0]) ∧ On w w' := fun w => renc_yes a0_0 a0_1 a0_2 a0_3 a0_4 a0_6 a0_10 m a0_7 a0_8 a0_9 w HI x hx h0
    obtain ⟨y, hy⟩ : ∃ y, clr x = y := ⟨_, rfl⟩
    rw [hy] at hE hR
    clear hy hx h0
    have HE := Lib.hid hE
    have HR := Lib.hid hR
    clear hE hR
    go_enter Tryd.func3, Tryd.ntmps3
    go_wp2_with (first | (go_at_call 7; refine (HE.out _ (HT.out.keep ((On.refl w).alloc _))).mono ?_; rintro e wn ⟨rfl, h⟩; obtain ⟨k0, k1, k2, k3, k4, k5, k6, k7, k8, k9, k10, kf, hlt⟩ := own11 h; replace HB := tr HB h; clear h) | (go_at_call 8; refine (HR.out _).mono ?_; rintro e wx ⟨rfl, h⟩; replace HB := tr HB h; clear h) | (go_at_call 9; refine (awake3_yes _).mono ?_; rintro e wy ⟨rfl, h⟩; replace HB := tr HB h; clear h))
    go_ret
    exact ⟨by first | rfl | simp, HB.out⟩
  · have hn : ∀ x, decOf x = ⟨a0_0, a0_1, a0_2, a0_3, a0_4, m, a0_6, a0_7, a0_8, a0_9, a0_10⟩ → a0_0 = 0 := fun x h => Decidable.byContradiction fun h0 => hx ⟨x, h, h0⟩
    have hE : ∀ w, Tab w → Calls Tryd.prog 7 #[.agg #[.int .i64 a0_0, .int .i64 a0_1, .int .i64 a0_2, .int .i64 a0_3, .int .i64 a0_4, .int .u64 (u m), .int .i64 a0_6, .bool a0_7, .bool a0_8, .bool a0_9, .int .i64 a0_10]] w fun e w' => e = .returned (.tuple #[.int .u32 0, .int .i64 7]) ∧ On w w' := fun w ht => enc_no a0_0 a0_1 a0_2 a0_3 a0_4 a0_6 a0_10 m a0_7 a0_8 a0_9 w ht HI hn
    have hR : ∀ w, Calls Tryd.prog 8 #[.agg #[.int .i64 a0_0, .int .i64 a0_1, .int .i64 a0_2, .int .i64 a0_3, .int .i64 a0_4, .int .u64 (u m), .int .i64 a0_6, .bool a0_7, .bool a0_8, .bool a0_9, .int .i64 a0_10]] w fun e w' => e = .returned (.tuple #[.int .u32 0, .int .i64 7]) ∧ On w w' := fun w => renc_no a0_0 a0_1 a0_2 a0_3 a0_4 a0_6 a0_10 m a0_7 a0_8 a0_9 w HI hn
    clear hx hn
    have HE := Lib.hid hE
    have HR := Lib.hid hR
    clear hE hR
    go_enter Tryd.func3, Tryd.ntmps3
    go_wp2_with (first | (go_at_call 7; refine (HE.out _ (HT.out.keep ((On.refl w).alloc _))).mono ?_; rintro e wn ⟨rfl, h⟩; obtain ⟨k0, k1, k2, k3, k4, k5, k6, k7, k8, k9, k10, kf, hlt⟩ := own11 h; replace HB := tr HB h; clear h) | (go_at_call 8; refine (HR.out _).mono ?_; rintro e wx ⟨rfl, h⟩; replace HB := tr HB h; clear h) | (go_at_call 9; refine (awake3_yes _).mono ?_; rintro e wy ⟨rfl, h⟩; replace HB := tr HB h; clear h))
    go_ret
    exact ⟨by first | rfl | simp, HB.out⟩

set_option maxRecDepth 100000 in
theorem lifted (os : Os) (started : os.Started) (H : Type) (enc : TypeId × Value → H) :
    ReturnsInHanded {} Tryd.checked os 3 .any (fun w args => (Rows.decodeEncodesSpec.pre enc Tryd.prog Tryd.f3 [] false w args ∧ laidMetH Tryd.prog Rows.decodeEncodesRow.laid w) ∧ sizedMet enc Tryd.prog Tryd.f3 (OpenSpec.ofChange Rows.decodeEncodesSpec) false w args)
      (Rows.decodeEncodesSpec.post enc Tryd.prog Tryd.f3 false true false false) := by
  refine returnsInHanded_of_change_and (C := Tryd.checked) (X := fun w _ => laidMetH Tryd.prog Rows.decodeEncodesRow.laid w) (fun _ _ _ hh h => h.of_heap hh) own started (by kernel_rfl) Tryd.func3
    (ChangeSpec.witness_shaped (enc := enc) (C := Tryd.checked) (os := os) (X := fun w _ => laidMetH Tryd.prog Rows.decodeEncodesRow.laid w) false (World.doorLaid Tryd.prog 14 os) #[.agg #[.int .i64 0, .int .i64 0, .int .i64 0, .int .i64 0, .int .i64 0, .int .u64 0, .int .i64 0, .bool false, .bool false, .bool false, .int .i64 0]] 12 rfl (World.shaped_of_RefB (by kernel_rfl) (by kernel_rfl)) (by kernel_rfl) (by kernel_rfl) (by kernel_rfl) (door_met os _)) ?_
  intro W base args ds gs before hval0 hW _ _ hL _
  have hval : ∀ (j : Nat) t v, Tryd.f3.params[j]? = some t → args[j]? = some v → Value.okWide Tryd.prog W .any base t v := hval0
  have hW' := hW
  obtain ⟨p, q, hA0, hV, rfl, hfz, hnd⟩ := hW
  have hA : DataW.TrodAll enc Tryd.prog W 0 (fun _ => true) true Tryd.f3.params.toList args.toList ds p := hA0
  rw [Tryd.params3] at hA hval
  obtain ⟨v0, vs0, d0, ds0, p0, q0, hargs, rfl, rfl, h0, r0⟩ := trodAll_cons hA
  obtain ⟨rfl, rfl, rfl⟩ := trodAll_nil r0
  obtain rfl : args = #[v0] := by cases args; simp_all
  obtain ⟨rfl, rfl⟩ := trodVars_none hV
  have k0 := h0
  have l0 : ∀ x ∈ p0, x.block < W.heap.size := fun x hx => by have := hW'.lt x (by simp [hx]); simpa using this
  obtain ⟨c0, rfl, f0⟩ := open_flat 12 [.int .i64, .int .i64, .int .i64, .int .i64, .int .i64, .int .u64, .int .i64, .bool, .bool, .bool, .int .i64] (by kernel_rfl) (by kernel_rfl) (.inl ⟨_, Tryd.underlying24⟩) (hval 0 24 v0 rfl rfl) h0
  clear h0
  obtain ⟨a0_0, c0, rfl, w0_0, f0⟩ := f0
  obtain ⟨a0_1, c0, rfl, w0_1, f0⟩ := f0
  obtain ⟨a0_2, c0, rfl, w0_2, f0⟩ := f0
  obtain ⟨a0_3, c0, rfl, w0_3, f0⟩ := f0
  obtain ⟨a0_4, c0, rfl, w0_4, f0⟩ := f0
  obtain ⟨a0_5, c0, rfl, w0_5, f0⟩ := f0
  obtain ⟨a0_6, c0, rfl, w0_6, f0⟩ := f0
  obtain ⟨a0_7, c0, rfl, f0⟩ := f0
  obtain ⟨a0_8, c0, rfl, f0⟩ := f0
  obtain ⟨a0_9, c0, rfl, f0⟩ := f0
  obtain ⟨a0_10, c0, rfl, w0_10, f0⟩ := f0
  obtain rfl : c0 = [] := f0
  clear hA0 hval0
  refine (walk a0_0 w0_0 a0_1 w0_1 a0_2 w0_2 a0_3 w0_3 a0_4 w0_4 a0_5 w0_5 a0_6 w0_6 a0_7 a0_8 a0_9 a0_10 w0_10 W (tab_of hL)).mono fun e W' ⟨he, bel⟩ => ?_
  subst he
  exact ⟨_, rfl, _, _, _, [], _, [], hW', trodAll_mk1 (shut_bool Tryd.underlying4 _), (trodAll_cons_mk (Below.trod (by kernel_rfl) (by kernel_rfl) (of_decide_eq_true (by kernel_rfl)) k0 bel l0) trodAll_mk0), rfl, bel.frame _, fun h => by cases h⟩

theorem over : Rows.DecodeEncodesSaid :=
  OpenClaim.holds_of_wide 3 Tryd.f3 rfl rfl rfl rfl rfl rfl rfl ⟨rfl, rfl, rfl, rfl, rfl⟩ rfl rfl rfl rfl rfl (by kernel_rfl) Tryd.func3 (by kernel_rfl)
    (of_decide_eq_true (by kernel_rfl)) (by unfold Func.isWrapper; first | (rw [if_pos (by decide +kernel)]; kernel_rfl) | (rw [if_neg (by decide +kernel)]; exact ⟨rfl, rfl⟩))
    (fun os started H enc _ => lifted os started H enc)

theorem proved : Rows.DecodeEncodesCardSaid :=
  Claim7.holds_tied_plain_at .later [] [.data] true (true, "42324d93b1edad54e5c2d0c3d2ec0ca6fa229b9b75c52b00fa807d623b7f1f62") false
    over (fun _ h => by cases h) (by kernel_rfl) (fun _ h => by cases h) decodeEncodes_row_tie rfl ⟨rfl, rfl⟩ (by kernel_rfl) rfl
    (fun f fn hf hfn => by
      obtain rfl : f = 3 := Option.some.inj ((show Tryd.prog.funcNamed "tappet/tappetlaw03.DecodeEncodes" = some 3 by kernel_rfl).symm.trans hf) |>.symm
      obtain rfl : fn = Tryd.f3 := (Option.some.inj (Tryd.func3.symm.trans hfn)).symm
      exact ⟨by kernel_rfl, fun j t ht => by
        rw [Tryd.params3] at ht
        have hm : t ∈ [24] := by simpa using Array.mem_of_getElem? ht
        have hall : ([24].all fun u => !Tryd.prog.wantsStandIn u) = true := by kernel_rfl
        exact (show Tryd.prog.wantsStandIn t = false by simpa using List.all_eq_true.1 hall t hm)⟩)
    (by kernel_rfl)
#print axioms proved
end Go.Proofs.YthcdgjpdnlickaaDoor.decodeEncodesCard
