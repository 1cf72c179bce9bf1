/- Proves that for every instruction the registers that it reads and writes, and of which kind it is, are those of the document's reference, and that the first test of the law holds. Conditions: the library's table of trailing zeros lies in memory as the program's text lays it. -/
import Derived.Test.YtjnalgilkdoalaaDoorRows
import Derived.Test.YtjnalgilkdoalaaDoorCards
import Derived.Test.YtjnalgilkdoalaaDoorTie
import Derived.Test.YtjnalgilkdoalaaDoorReadsS
import Derived.Test.YtjnalgilkdoalaaDoorEnc5
import Derived.Test.YtjnalgilkdoalaaDoorFlat
import Derived.WalkKit
import Derived.ProofKit
import Derived.OpenShut
import Derived.Below
import Derived.Carry
import Derived.ShutString
import Derived.LaidMore
import Derived.Lib.LaidTab
import Derived.SevenTiedAt
import Derived.Stop.Joined
import Derived.Lib.QuietBelow
namespace Go.Proofs.YtjnalgilkdoalaaDoor.decodeReadsCard
open Go.ChangeShapes Go.WideShapes Go.ChangeAt Go.RowKit
set_option linter.unusedVariables false

theorem own : ownKnob Tryd.prog.godebug = none := by kernel_rfl

theorem gTab : Tryd.prog.globalNamed "math/bits.deBruijn64tab" = some 0 := by kernel_rfl
theorem tTab : (Tryd.prog.globals[0]?).map (·.type) = some 81 := by kernel_rfl
/-- the door's own heap meets the condition -/
theorem door_met (os : Os) (args : Array Value) : laidMetH Tryd.prog Rows.decodeReadsRow.laid ((World.doorLaid Tryd.prog 14 os).forCall (fun _ _ => 0) ⟨#[], args, []⟩).memory :=
  laidMetH_of_parts3 (fuel := 8) (laidMet_of_run' 8 (by kernel_rfl) (by kernel_rfl)) (by kernel_rfl) (by kernel_rfl)
/-- what the condition gives the walk -/
theorem tab_of {W : World} (h : laidMetH Tryd.prog Rows.decodeReadsRow.laid W) : Tab W := by
  rw [MakeChecks.laidMetH_plain _ _ _ (by kernel_rfl)] at h
  have hT : Lib.TabIs Tryd.prog W "math/bits.deBruijn64tab" .u8 tz64 := Lib.tabIs_of_head (rest := []) gTab tTab Tryd.underlying81 Tryd.underlying5 (by kernel_rfl) (by kernel_rfl) h
  have hc : ∀ i, i < 64 → W.cell? ⟨0, i, none⟩ = some (.int .u8 (tz64.getD i 0)) := fun i hi => hT.cell gTab i (by show i < 64; exact hi)
  exact ⟨block_in (hc 0 (by omega)), hc⟩

set_option maxRecDepth 100000 in
set_option maxHeartbeats 8000000 in
theorem walk (a0_0 : Int) (w0_0 : (Lit.int .i64 a0_0).wf = true) (a0_1 : Int) (w0_1 : (Lit.int .i64 a0_1).wf = true) (a0_2 : Int) (w0_2 : (Lit.int .i64 a0_2).wf = true) (a0_3 : Int) (w0_3 : (Lit.int .i64 a0_3).wf = true) (a0_4 : Int) (w0_4 : (Lit.int .i64 a0_4).wf = true) (a0_5 : Int) (w0_5 : (Lit.int .u64 a0_5).wf = true) (a0_6 : Int) (w0_6 : (Lit.int .i64 a0_6).wf = true) (a0_7 : Bool) (a0_8 : Bool) (a0_9 : Bool) (a0_10 : Int) (w0_10 : (Lit.int .i64 a0_10).wf = true) (w : World) (ht : Tab w) :
    Calls Tryd.prog 3 #[.agg #[.int .i64 a0_0, .int .i64 a0_1, .int .i64 a0_2, .int .i64 a0_3, .int .i64 a0_4, .int .u64 a0_5, .int .i64 a0_6, .bool a0_7, .bool a0_8, .bool a0_9, .int .i64 a0_10]] w fun e w' => e = .returned (.bool true) ∧ Below w.heap.size w w' := by
  obtain ⟨m, rfl⟩ := u_of w0_5
  have HI : Hid (I64 a0_0 ∧ I64 a0_1 ∧ I64 a0_2 ∧ I64 a0_3 ∧ I64 a0_4 ∧ I64 a0_6 ∧ I64 a0_10) := Lib.hid ⟨bounds_i64 w0_0, bounds_i64 w0_1, bounds_i64 w0_2, bounds_i64 w0_3, bounds_i64 w0_4, bounds_i64 w0_6, bounds_i64 w0_10⟩
  have HT := Lib.hid ht
  clear w0_0 w0_1 w0_2 w0_3 w0_4 w0_5 w0_6 w0_10 ht
  have key : ∀ v0 v1 v2 v3 : Int, Hid (∀ w, Tab w → Calls Tryd.prog 6 #[.agg #[.int .i64 (a0_0), .int .i64 (a0_1), .int .i64 (a0_2), .int .i64 (a0_3), .int .i64 (a0_4), .int .u64 (u m), .int .i64 (a0_6), .bool a0_7, .bool a0_8, .bool a0_9, .int .i64 (a0_10)]] w fun e w' => e = .returned (.agg #[.int .i64 v0, .int .i64 v1, .int .i64 v2, .int .i64 v3]) ∧ On w w') → Hid (∀ w, Calls Tryd.prog 7 #[.agg #[.int .i64 (a0_0), .int .i64 (a0_1), .int .i64 (a0_2), .int .i64 (a0_3), .int .i64 (a0_4), .int .u64 (u m), .int .i64 (a0_6), .bool a0_7, .bool a0_8, .bool a0_9, .int .i64 (a0_10)]] w fun e w' => e = .returned (.agg #[.int .i64 v0, .int .i64 v1, .int .i64 v2, .int .i64 v3]) ∧ On w w') → Calls Tryd.prog 3 #[.agg #[.int .i64 (a0_0), .int .i64 (a0_1), .int .i64 (a0_2), .int .i64 (a0_3), .int .i64 (a0_4), .int .u64 (u m), .int .i64 (a0_6), .bool a0_7, .bool a0_8, .bool a0_9, .int .i64 (a0_10)]] w fun e w' => e = .returned (.bool true) ∧ Below w.heap.size w w' := by
    intro v0 v1 v2 v3 HP HR
    have c0 : ∀ d' os', (Sort.grow (redrawn (w.alloc (.cells #[.int .i64 (a0_0), .int .i64 (a0_1), .int .i64 (a0_2), .int .i64 (a0_3), .int .i64 (a0_4), .int .u64 (u m), .int .i64 (a0_6), .bool a0_7, .bool a0_8, .bool a0_9, .int .i64 (a0_10)] 24)) d') os').cell? ⟨w.heap.size, 0, none⟩ = some (.int .i64 (a0_0)) := fun d' os' => new_cell _ _ _ _ rfl d' os'
    have c1 : ∀ d' os', (Sort.grow (redrawn (w.alloc (.cells #[.int .i64 (a0_0), .int .i64 (a0_1), .int .i64 (a0_2), .int .i64 (a0_3), .int .i64 (a0_4), .int .u64 (u m), .int .i64 (a0_6), .bool a0_7, .bool a0_8, .bool a0_9, .int .i64 (a0_10)] 24)) d') os').cell? ⟨w.heap.size, 1, none⟩ = some (.int .i64 (a0_1)) := fun d' os' => new_cell _ _ _ _ rfl d' os'
    have c2 : ∀ d' os', (Sort.grow (redrawn (w.alloc (.cells #[.int .i64 (a0_0), .int .i64 (a0_1), .int .i64 (a0_2), .int .i64 (a0_3), .int .i64 (a0_4), .int .u64 (u m), .int .i64 (a0_6), .bool a0_7, .bool a0_8, .bool a0_9, .int .i64 (a0_10)] 24)) d') os').cell? ⟨w.heap.size, 2, none⟩ = some (.int .i64 (a0_2)) := fun d' os' => new_cell _ _ _ _ rfl d' os'
    have c3 : ∀ d' os', (Sort.grow (redrawn (w.alloc (.cells #[.int .i64 (a0_0), .int .i64 (a0_1), .int .i64 (a0_2), .int .i64 (a0_3), .int .i64 (a0_4), .int .u64 (u m), .int .i64 (a0_6), .bool a0_7, .bool a0_8, .bool a0_9, .int .i64 (a0_10)] 24)) d') os').cell? ⟨w.heap.size, 3, none⟩ = some (.int .i64 (a0_3)) := fun d' os' => new_cell _ _ _ _ rfl d' os'
    have c4 : ∀ d' os', (Sort.grow (redrawn (w.alloc (.cells #[.int .i64 (a0_0), .int .i64 (a0_1), .int .i64 (a0_2), .int .i64 (a0_3), .int .i64 (a0_4), .int .u64 (u m), .int .i64 (a0_6), .bool a0_7, .bool a0_8, .bool a0_9, .int .i64 (a0_10)] 24)) d') os').cell? ⟨w.heap.size, 4, none⟩ = some (.int .i64 (a0_4)) := fun d' os' => new_cell _ _ _ _ rfl d' os'
    have c5 : ∀ d' os', (Sort.grow (redrawn (w.alloc (.cells #[.int .i64 (a0_0), .int .i64 (a0_1), .int .i64 (a0_2), .int .i64 (a0_3), .int .i64 (a0_4), .int .u64 (u m), .int .i64 (a0_6), .bool a0_7, .bool a0_8, .bool a0_9, .int .i64 (a0_10)] 24)) d') os').cell? ⟨w.heap.size, 5, none⟩ = some (.int .u64 (u m)) := fun d' os' => new_cell _ _ _ _ rfl d' os'
    have c6 : ∀ d' os', (Sort.grow (redrawn (w.alloc (.cells #[.int .i64 (a0_0), .int .i64 (a0_1), .int .i64 (a0_2), .int .i64 (a0_3), .int .i64 (a0_4), .int .u64 (u m), .int .i64 (a0_6), .bool a0_7, .bool a0_8, .bool a0_9, .int .i64 (a0_10)] 24)) d') os').cell? ⟨w.heap.size, 6, none⟩ = some (.int .i64 (a0_6)) := fun d' os' => new_cell _ _ _ _ rfl d' os'
    have c7 : ∀ d' os', (Sort.grow (redrawn (w.alloc (.cells #[.int .i64 (a0_0), .int .i64 (a0_1), .int .i64 (a0_2), .int .i64 (a0_3), .int .i64 (a0_4), .int .u64 (u m), .int .i64 (a0_6), .bool a0_7, .bool a0_8, .bool a0_9, .int .i64 (a0_10)] 24)) d') os').cell? ⟨w.heap.size, 7, none⟩ = some (.bool a0_7) := fun d' os' => new_cell _ _ _ _ rfl d' os'
    have c8 : ∀ d' os', (Sort.grow (redrawn (w.alloc (.cells #[.int .i64 (a0_0), .int .i64 (a0_1), .int .i64 (a0_2), .int .i64 (a0_3), .int .i64 (a0_4), .int .u64 (u m), .int .i64 (a0_6), .bool a0_7, .bool a0_8, .bool a0_9, .int .i64 (a0_10)] 24)) d') os').cell? ⟨w.heap.size, 8, none⟩ = some (.bool a0_8) := fun d' os' => new_cell _ _ _ _ rfl d' os'
    have c9 : ∀ d' os', (Sort.grow (redrawn (w.alloc (.cells #[.int .i64 (a0_0), .int .i64 (a0_1), .int .i64 (a0_2), .int .i64 (a0_3), .int .i64 (a0_4), .int .u64 (u m), .int .i64 (a0_6), .bool a0_7, .bool a0_8, .bool a0_9, .int .i64 (a0_10)] 24)) d') os').cell? ⟨w.heap.size, 9, none⟩ = some (.bool a0_9) := fun d' os' => new_cell _ _ _ _ rfl d' os'
    have c10 : ∀ d' os', (Sort.grow (redrawn (w.alloc (.cells #[.int .i64 (a0_0), .int .i64 (a0_1), .int .i64 (a0_2), .int .i64 (a0_3), .int .i64 (a0_4), .int .u64 (u m), .int .i64 (a0_6), .bool a0_7, .bool a0_8, .bool a0_9, .int .i64 (a0_10)] 24)) d') os').cell? ⟨w.heap.size, 10, none⟩ = some (.int .i64 (a0_10)) := fun d' os' => new_cell _ _ _ _ rfl d' os'
    go_enter Tryd.func3, Tryd.ntmps3
    go_wp2_with fail
    refine wp_region_quiet_below (by kernel_rfl) (by kernel_rfl) ?_
    repeat (go_big_quiet_step (first | (go_at_call 5; exact Calls.on_of (awake3_yes _)) | (go_at_call 6; exact Calls.on_of (HP.out _ (HT.out.keep (((On.refl w).alloc _).grow _ _)))) | (go_at_call 7; exact Calls.on_of (HR.out _)) | (go_at_call 8; exact Calls.on_of (ser_any _ _ _ _ _ _ _ _ _ _ _ _)) | (go_at_call 9; exact Calls.on_of (rser_any _ _ _ _ _ _ _ _ _ _ _ _)) | (go_at_call 10; exact Calls.on_of (mem_any _ _ _ _ _ _ _ _ _ _ _ _)) | (go_at_call 11; exact Calls.on_of (rmem_any _ _ _ _ _ _ _ _ _ _ _ _))))
    refine wpQuiet_nil ?_
    intro _ hw'
    obtain ⟨⟨dq, osq⟩, hw''⟩ := hw'
    subst hw''
    go_wp2
    go_ret
    exact ⟨by first | rfl | simp, ((On.refl w).alloc _).grow _ _⟩
  by_cases hx : ∃ x, decOf x = ⟨a0_0, a0_1, a0_2, a0_3, a0_4, m, a0_6, a0_7, a0_8, a0_9, a0_10⟩ ∧ a0_0 ≠ 0
  · obtain ⟨x, hx, h0⟩ := hx
    have hr := dec_roles x
    rw [hx] at hr
    exact key _ _ _ _ (Lib.hid (fun w ht => reads_yes a0_0 a0_1 a0_2 a0_3 a0_4 a0_6 a0_10 m a0_7 a0_8 a0_9 (clr x) w ht (Lib.hid (fun w ht => enc_yes a0_0 a0_1 a0_2 a0_3 a0_4 a0_6 a0_10 m a0_7 a0_8 a0_9 w ht HI x hx h0)))) (Lib.hid (fun w => rreads_yes a0_0 a0_1 a0_2 a0_3 a0_4 a0_6 a0_10 m a0_7 a0_8 a0_9 (clr x) w hr (Lib.hid (fun w => renc_yes a0_0 a0_1 a0_2 a0_3 a0_4 a0_6 a0_10 m a0_7 a0_8 a0_9 w HI x hx h0))))
  · have hn : ∀ x, decOf x = ⟨a0_0, a0_1, a0_2, a0_3, a0_4, m, a0_6, a0_7, a0_8, a0_9, a0_10⟩ → a0_0 = 0 := fun x h => Decidable.byContradiction fun h0 => hx ⟨x, h, h0⟩
    exact key 0 0 0 0 (Lib.hid (fun w ht => reads_no a0_0 a0_1 a0_2 a0_3 a0_4 a0_6 a0_10 m a0_7 a0_8 a0_9 w ht (Lib.hid (fun w ht => enc_no a0_0 a0_1 a0_2 a0_3 a0_4 a0_6 a0_10 m a0_7 a0_8 a0_9 w ht HI hn)))) (Lib.hid (fun w => rreads_no a0_0 a0_1 a0_2 a0_3 a0_4 a0_6 a0_10 m a0_7 a0_8 a0_9 w (Lib.hid (fun w => renc_no a0_0 a0_1 a0_2 a0_3 a0_4 a0_6 a0_10 m a0_7 a0_8 a0_9 w HI hn))))

set_option maxRecDepth 100000 in
theorem lifted (os : Os) (started : os.Started) (H : Type) (enc : TypeId × Value → H) :
    ReturnsInHanded {} Tryd.checked os 3 .any (fun w args => (Rows.decodeReadsSpec.pre enc Tryd.prog Tryd.f3 [] false w args ∧ laidMetH Tryd.prog Rows.decodeReadsRow.laid w) ∧ sizedMet enc Tryd.prog Tryd.f3 (OpenSpec.ofChange Rows.decodeReadsSpec) false w args)
      (Rows.decodeReadsSpec.post enc Tryd.prog Tryd.f3 false true false false) := by
  refine returnsInHanded_of_change_and (C := Tryd.checked) (X := fun w _ => laidMetH Tryd.prog Rows.decodeReadsRow.laid w) (fun _ _ _ hh h => h.of_heap hh) own started (by kernel_rfl) Tryd.func3
    (ChangeSpec.witness_shaped (enc := enc) (C := Tryd.checked) (os := os) (X := fun w _ => laidMetH Tryd.prog Rows.decodeReadsRow.laid w) false (World.doorLaid Tryd.prog 14 os) #[.agg #[.int .i64 0, .int .i64 0, .int .i64 0, .int .i64 0, .int .i64 0, .int .u64 0, .int .i64 0, .bool false, .bool false, .bool false, .int .i64 0]] 12 rfl (World.shaped_of_RefB (by kernel_rfl) (by kernel_rfl)) (by kernel_rfl) (by kernel_rfl) (by kernel_rfl) (door_met os _)) ?_
  intro W base args ds gs before hval0 hW _ _ hL _
  have hval : ∀ (j : Nat) t v, Tryd.f3.params[j]? = some t → args[j]? = some v → Value.okWide Tryd.prog W .any base t v := hval0
  have hW' := hW
  obtain ⟨p, q, hA0, hV, rfl, hfz, hnd⟩ := hW
  have hA : DataW.TrodAll enc Tryd.prog W 0 (fun _ => true) true Tryd.f3.params.toList args.toList ds p := hA0
  rw [Tryd.params3] at hA hval
  obtain ⟨v0, vs0, d0, ds0, p0, q0, hargs, rfl, rfl, h0, r0⟩ := trodAll_cons hA
  obtain ⟨rfl, rfl, rfl⟩ := trodAll_nil r0
  obtain rfl : args = #[v0] := by cases args; simp_all
  obtain ⟨rfl, rfl⟩ := trodVars_none hV
  have k0 := h0
  have l0 : ∀ x ∈ p0, x.block < W.heap.size := fun x hx => by have := hW'.lt x (by simp [hx]); simpa using this
  obtain ⟨c0, rfl, f0⟩ := open_flat 12 [.int .i64, .int .i64, .int .i64, .int .i64, .int .i64, .int .u64, .int .i64, .bool, .bool, .bool, .int .i64] (by kernel_rfl) (by kernel_rfl) (.inl ⟨_, Tryd.underlying24⟩) (hval 0 24 v0 rfl rfl) h0
  clear h0
  obtain ⟨a0_0, c0, rfl, w0_0, f0⟩ := f0
  obtain ⟨a0_1, c0, rfl, w0_1, f0⟩ := f0
  obtain ⟨a0_2, c0, rfl, w0_2, f0⟩ := f0
  obtain ⟨a0_3, c0, rfl, w0_3, f0⟩ := f0
  obtain ⟨a0_4, c0, rfl, w0_4, f0⟩ := f0
  obtain ⟨a0_5, c0, rfl, w0_5, f0⟩ := f0
  obtain ⟨a0_6, c0, rfl, w0_6, f0⟩ := f0
  obtain ⟨a0_7, c0, rfl, f0⟩ := f0
  obtain ⟨a0_8, c0, rfl, f0⟩ := f0
  obtain ⟨a0_9, c0, rfl, f0⟩ := f0
  obtain ⟨a0_10, c0, rfl, w0_10, f0⟩ := f0
  obtain rfl : c0 = [] := f0
  clear hA0 hval0
  refine (walk a0_0 w0_0 a0_1 w0_1 a0_2 w0_2 a0_3 w0_3 a0_4 w0_4 a0_5 w0_5 a0_6 w0_6 a0_7 a0_8 a0_9 a0_10 w0_10 W (tab_of hL)).mono fun e W' ⟨he, bel⟩ => ?_
  subst he
  exact ⟨_, rfl, _, _, _, [], _, [], hW', trodAll_mk1 (shut_bool Tryd.underlying4 _), (trodAll_cons_mk (Below.trod (by kernel_rfl) (by kernel_rfl) (of_decide_eq_true (by kernel_rfl)) k0 bel l0) trodAll_mk0), rfl, bel.frame _, fun h => by cases h⟩

theorem over : Rows.DecodeReadsSaid :=
  OpenClaim.holds_of_wide 3 Tryd.f3 rfl rfl rfl rfl rfl rfl rfl ⟨rfl, rfl, rfl, rfl, rfl⟩ rfl rfl rfl rfl rfl (by kernel_rfl) Tryd.func3 (by kernel_rfl)
    (of_decide_eq_true (by kernel_rfl)) (by unfold Func.isWrapper; first | (rw [if_pos (by decide +kernel)]; kernel_rfl) | (rw [if_neg (by decide +kernel)]; exact ⟨rfl, rfl⟩))
    (fun os started H enc _ => lifted os started H enc)

theorem proved : Rows.DecodeReadsCardSaid :=
  Claim7.holds_tied_plain_at .later [] [.data] true (true, "b054c3d90bbcdc800711bfae0f950d815861c7ed872ba19bd8cd8d3c4dbb0852") false
    over (fun _ h => by cases h) (by kernel_rfl) (fun _ h => by cases h) decodeReads_row_tie rfl ⟨rfl, rfl⟩ (by kernel_rfl) rfl
    (fun f fn hf hfn => by
      obtain rfl : f = 3 := Option.some.inj ((show Tryd.prog.funcNamed "tappet/tappetlaw03.DecodeReads" = some 3 by kernel_rfl).symm.trans hf) |>.symm
      obtain rfl : fn = Tryd.f3 := (Option.some.inj (Tryd.func3.symm.trans hfn)).symm
      exact ⟨by kernel_rfl, fun j t ht => by
        rw [Tryd.params3] at ht
        have hm : t ∈ [24] := by simpa using Array.mem_of_getElem? ht
        have hall : ([24].all fun u => !Tryd.prog.wantsStandIn u) = true := by kernel_rfl
        exact (show Tryd.prog.wantsStandIn t = false by simpa using List.all_eq_true.1 hall t hm)⟩)
    (by kernel_rfl)
#print axioms proved
end Go.Proofs.YtjnalgilkdoalaaDoor.decodeReadsCard
