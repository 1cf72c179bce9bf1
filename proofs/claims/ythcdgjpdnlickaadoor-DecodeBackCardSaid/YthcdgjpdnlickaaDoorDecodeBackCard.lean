/- Proves that the instruction that a word is has a word, of which Decode tells that instruction, and no greater one of the same bits, and that the first test of the law holds. Conditions: the library's table of trailing zeros lies in memory as the program's text lays it. -/
import Derived.Test.YthcdgjpdnlickaaDoorRows
import Derived.Test.YthcdgjpdnlickaaDoorCards
import Derived.Test.YthcdgjpdnlickaaDoorTie
import Derived.Test.YthcdgjpdnlickaaDoorDecA
import Derived.Test.YthcdgjpdnlickaaDoorEnc4
import Derived.Test.YthcdgjpdnlickaaDoorEncR
import Derived.WalkKit
import Derived.ProofKit
import Derived.OpenShut
import Derived.Below
import Derived.Carry
import Derived.ShutString
import Derived.LaidMore
import Derived.Lib.LaidTab
import Derived.SevenTiedAt
import Derived.Stop.Joined
import Derived.Lib.QuietBelow
namespace Go.Proofs.YthcdgjpdnlickaaDoor.decodeBackCard
open Go.ChangeShapes Go.WideShapes Go.ChangeAt Go.RowKit
set_option linter.unusedVariables false

theorem own : ownKnob Tryd.prog.godebug = none := by kernel_rfl

theorem gTab : Tryd.prog.globalNamed "math/bits.deBruijn64tab" = some 0 := by kernel_rfl
theorem tTab : (Tryd.prog.globals[0]?).map (·.type) = some 79 := by kernel_rfl
/-- the door's own heap meets the condition -/
theorem door_met (os : Os) (args : Array Value) : laidMetH Tryd.prog Rows.decodeBackRow.laid ((World.doorLaid Tryd.prog 14 os).forCall (fun _ _ => 0) ⟨#[], args, []⟩).memory :=
  laidMetH_of_parts3 (fuel := 8) (laidMet_of_run' 8 (by kernel_rfl) (by kernel_rfl)) (by kernel_rfl) (by kernel_rfl)
/-- what the condition gives the walk -/
theorem tab_of {W : World} (h : laidMetH Tryd.prog Rows.decodeBackRow.laid W) : Tab W := by
  rw [MakeChecks.laidMetH_plain _ _ _ (by kernel_rfl)] at h
  have hT : Lib.TabIs Tryd.prog W "math/bits.deBruijn64tab" .u8 tz64 := Lib.tabIs_of_head (rest := []) gTab tTab Tryd.underlying79 Tryd.underlying5 (by kernel_rfl) (by kernel_rfl) h
  have hc : ∀ i, i < 64 → W.cell? ⟨0, i, none⟩ = some (.int .u8 (tz64.getD i 0)) := fun i hi => hT.cell gTab i (by show i < 64; exact hi)
  exact ⟨block_in (hc 0 (by omega)), hc⟩

set_option maxRecDepth 100000 in
set_option maxHeartbeats 8000000 in
theorem walk (a0 : Int) (w0 : (Lit.int .u32 a0).wf = true) (w : World) (ht : Tab w) :
    Calls Tryd.prog 5 #[.int .u32 a0] w fun e w' => e = .returned (.bool true) ∧ Below w.heap.size w w' := by
  obtain ⟨x, rfl⟩ := q_of w0
  have HT := Lib.hid ht
  have HB := Lib.hid (On.refl w)
  clear w0 ht
  have hd := decode_any x
  rcases dec_good x with hz | ⟨⟨g1, -⟩, -⟩
  · rw [hz] at hd
    have hd' : ∀ w, Calls Tryd.prog 16 #[.int .u32 (q x)] w fun e w' => e = .returned (.agg #[.int .i64 0, .int .i64 0, .int .i64 0, .int .i64 0, .int .i64 0, .int .u64 0, .int .i64 0, .bool false, .bool false, .bool false, .int .i64 0]) ∧ On w w' := hd
    have HD := Lib.hid hd'
    have he : ∀ w, Tab w → Calls Tryd.prog 7 #[.agg #[.int .i64 0, .int .i64 0, .int .i64 0, .int .i64 0, .int .i64 0, .int .u64 0, .int .i64 0, .bool false, .bool false, .bool false, .int .i64 0]] w fun e w' => e = .returned (.tuple #[.int .u32 0, .int .i64 7]) ∧ On w w' := fun w ht => enc_no 0 0 0 0 0 0 0 0#64 false false false w ht (Lib.hid (by unfold I64; omega)) (fun _ _ => rfl)
    have HE := Lib.hid he
    clear hd hd' hz he
    go_enter Tryd.func5, Tryd.ntmps5
    go_wp2_with (first | (go_at_call 16; refine (HD.out _).mono ?_; rintro e wn ⟨rfl, h⟩; replace HB := tr HB h; clear h) | (go_at_call 7; refine (HE.out _ (HT.out.keep (HB.out.alloc _))).mono ?_; rintro e wm ⟨rfl, h⟩; obtain ⟨k0, k1, k2, k3, k4, k5, k6, k7, k8, k9, k10, kf, hlt⟩ := own11 h; replace HB := tr1 HB h; clear h) | (go_at_call 9; refine (awake3_yes _).mono ?_; rintro e wx ⟨rfl, h⟩; have h11 := keep11 h hlt k0 k1 k2 k3 k4 k5 k6 k7 k8 k9 k10 kf; replace HB := tr HB h; clear h hlt k0 k1 k2 k3 k4 k5 k6 k7 k8 k9 k10 kf; obtain ⟨k0, k1, k2, k3, k4, k5, k6, k7, k8, k9, k10, kf, hlt⟩ := h11))
    have c0 := fun d' os' => cell_regrown k0 d' os'
    have c1 := fun d' os' => cell_regrown k1 d' os'
    have c2 := fun d' os' => cell_regrown k2 d' os'
    have c3 := fun d' os' => cell_regrown k3 d' os'
    have c4 := fun d' os' => cell_regrown k4 d' os'
    have c5 := fun d' os' => cell_regrown k5 d' os'
    have c6 := fun d' os' => cell_regrown k6 d' os'
    have c7 := fun d' os' => cell_regrown k7 d' os'
    have c8 := fun d' os' => cell_regrown k8 d' os'
    have c9 := fun d' os' => cell_regrown k9 d' os'
    have c10 := fun d' os' => cell_regrown k10 d' os'
    refine wp_region_quiet_below (by kernel_rfl) (by kernel_rfl) ?_
    repeat (go_big_quiet_step (first | (go_at_call 16; exact Calls.on_of (HD.out _))))
    refine wpQuiet_nil ?_
    intro _ hw'
    obtain ⟨⟨dq, osq⟩, hw''⟩ := hw'
    subst hw''
    go_wp2
    go_ret
    exact ⟨rfl, HB.out.grow _ _⟩
  · have hc := clr_in x (by omega)
    have hb := dec_clr x (by omega)
    have hd2 := decode_any (clr x)
    rw [hb] at hd2
    have h64 := dec_i64 x
    obtain ⟨i, hi⟩ : ∃ i, decOf x = i := ⟨_, rfl⟩
    rw [hi] at hd hd2 g1 h64
    have hx := hi
    clear hi hb
    obtain ⟨o, f, d, s, t, m, z, a, b, c, k⟩ := i
    have hd' : ∀ w, Calls Tryd.prog 16 #[.int .u32 (q x)] w fun e w' => e = .returned (.agg #[.int .i64 o, .int .i64 f, .int .i64 d, .int .i64 s, .int .i64 t, .int .u64 (u m), .int .i64 z, .bool a, .bool b, .bool c, .int .i64 k]) ∧ On w w' := hd
    have HD := Lib.hid hd'
    have he : ∀ w, Tab w → Calls Tryd.prog 7 #[.agg #[.int .i64 o, .int .i64 f, .int .i64 d, .int .i64 s, .int .i64 t, .int .u64 (u m), .int .i64 z, .bool a, .bool b, .bool c, .int .i64 k]] w fun e w' => e = .returned (.tuple #[.int .u32 (q (clr x)), .int .i64 0]) ∧ On w w' := fun w ht => enc_yes o f d s t z k m a b c w ht (Lib.hid h64) x hx (by dsimp only at g1; omega)
    have e3 : bits .andNot .u32 (q (clr x)) (q x) = 0 := by rw [q_andNot, hc]; rfl
    have bo : (o != 0) = true := by dsimp only at g1; simp; omega
    have bo2 : (o == 0) = false := by dsimp only at g1; simp; omega
    obtain ⟨y, hy⟩ : ∃ y, clr x = y := ⟨_, rfl⟩
    rw [hy] at e3 he hd2
    have hd3 : ∀ w, Calls Tryd.prog 16 #[.int .u32 (q y)] w fun e w' => e = .returned (.agg #[.int .i64 o, .int .i64 f, .int .i64 d, .int .i64 s, .int .i64 t, .int .u64 (u m), .int .i64 z, .bool a, .bool b, .bool c, .int .i64 k]) ∧ On w w' := hd2
    have HE := Lib.hid he
    have HF := Lib.hid hd3
    clear hd hd' he hd2 hd3 hy hc hx g1 h64
    go_enter Tryd.func5, Tryd.ntmps5
    go_wp2_with (first | (go_at_call 16; refine (HD.out _).mono ?_; rintro e wn ⟨rfl, h⟩; replace HB := tr HB h; clear h) | (go_at_call 7; refine (HE.out _ (HT.out.keep (HB.out.alloc _))).mono ?_; rintro e wm ⟨rfl, h⟩; obtain ⟨k0, k1, k2, k3, k4, k5, k6, k7, k8, k9, k10, kf, hlt⟩ := own11 h; replace HB := tr1 HB h; clear h) | (go_at_call 9; refine (awake3_yes _).mono ?_; rintro e wx ⟨rfl, h⟩; have h11 := keep11 h hlt k0 k1 k2 k3 k4 k5 k6 k7 k8 k9 k10 kf; replace HB := tr HB h; clear h hlt k0 k1 k2 k3 k4 k5 k6 k7 k8 k9 k10 kf; obtain ⟨k0, k1, k2, k3, k4, k5, k6, k7, k8, k9, k10, kf, hlt⟩ := h11))
    have c0 := fun d' os' => cell_regrown k0 d' os'
    have c1 := fun d' os' => cell_regrown k1 d' os'
    have c2 := fun d' os' => cell_regrown k2 d' os'
    have c3 := fun d' os' => cell_regrown k3 d' os'
    have c4 := fun d' os' => cell_regrown k4 d' os'
    have c5 := fun d' os' => cell_regrown k5 d' os'
    have c6 := fun d' os' => cell_regrown k6 d' os'
    have c7 := fun d' os' => cell_regrown k7 d' os'
    have c8 := fun d' os' => cell_regrown k8 d' os'
    have c9 := fun d' os' => cell_regrown k9 d' os'
    have c10 := fun d' os' => cell_regrown k10 d' os'
    refine wp_region_quiet_below (by kernel_rfl) (by kernel_rfl) ?_
    repeat (go_big_quiet_step (first | (go_at_call 16; exact Calls.on_of (HF.out _))))
    refine wpQuiet_nil ?_
    intro _ hw'
    obtain ⟨⟨dq, osq⟩, hw''⟩ := hw'
    subst hw''
    go_wp2
    go_ret
    exact ⟨rfl, HB.out.grow _ _⟩

set_option maxRecDepth 100000 in
theorem lifted (os : Os) (started : os.Started) (H : Type) (enc : TypeId × Value → H) :
    ReturnsInHanded {} Tryd.checked os 5 .any (fun w args => (Rows.decodeBackSpec.pre enc Tryd.prog Tryd.f5 [] false w args ∧ laidMetH Tryd.prog Rows.decodeBackRow.laid w) ∧ sizedMet enc Tryd.prog Tryd.f5 (OpenSpec.ofChange Rows.decodeBackSpec) false w args)
      (Rows.decodeBackSpec.post enc Tryd.prog Tryd.f5 false true false false) := by
  refine returnsInHanded_of_change_and (C := Tryd.checked) (X := fun w _ => laidMetH Tryd.prog Rows.decodeBackRow.laid w) (fun _ _ _ hh h => h.of_heap hh) own started (by kernel_rfl) Tryd.func5
    (ChangeSpec.witness_shaped (enc := enc) (C := Tryd.checked) (os := os) (X := fun w _ => laidMetH Tryd.prog Rows.decodeBackRow.laid w) false (World.doorLaid Tryd.prog 14 os) #[.int .u32 0] 12 rfl (World.shaped_of_RefB (by kernel_rfl) (by kernel_rfl)) (by kernel_rfl) (by kernel_rfl) (by kernel_rfl) (door_met os _)) ?_
  intro W base args ds gs before hval0 hW _ _ hL _
  have hval : ∀ (j : Nat) t v, Tryd.f5.params[j]? = some t → args[j]? = some v → Value.okWide Tryd.prog W .any base t v := hval0
  have hW' := hW
  obtain ⟨p, q, hA0, hV, rfl, hfz, hnd⟩ := hW
  have hA : DataW.TrodAll enc Tryd.prog W 0 (fun _ => true) true Tryd.f5.params.toList args.toList ds p := hA0
  rw [Tryd.params5] at hA hval
  obtain ⟨v0, vs0, d0, ds0, p0, q0, hargs, rfl, rfl, h0, r0⟩ := trodAll_cons hA
  obtain ⟨rfl, rfl, rfl⟩ := trodAll_nil r0
  obtain rfl : args = #[v0] := by cases args; simp_all
  obtain ⟨rfl, rfl⟩ := trodVars_none hV
  obtain ⟨a0, rfl, rfl, rfl, w0⟩ := open_int Tryd.underlying25 (hval 0 25 v0 rfl rfl) h0
  clear hA0 hval0
  refine (walk a0 w0 W (tab_of hL)).mono fun e W' ⟨he, bel⟩ => ?_
  subst he
  exact ⟨_, rfl, _, _, _, [], _, [], hW', trodAll_mk1 (shut_bool Tryd.underlying4 _), (trodAll_cons_mk (shut_int Tryd.underlying25 w0) trodAll_mk0), rfl, bel.frame _, fun h => by cases h⟩

theorem over : Rows.DecodeBackSaid :=
  OpenClaim.holds_of_wide 5 Tryd.f5 rfl rfl rfl rfl rfl rfl rfl ⟨rfl, rfl, rfl, rfl, rfl⟩ rfl rfl rfl rfl rfl (by kernel_rfl) Tryd.func5 (by kernel_rfl)
    (of_decide_eq_true (by kernel_rfl)) (by unfold Func.isWrapper; first | (rw [if_pos (by decide +kernel)]; kernel_rfl) | (rw [if_neg (by decide +kernel)]; exact ⟨rfl, rfl⟩))
    (fun os started H enc _ => lifted os started H enc)

theorem proved : Rows.DecodeBackCardSaid :=
  Claim7.holds_tied_plain_at .later [] [.data] true (true, "42324d93b1edad54e5c2d0c3d2ec0ca6fa229b9b75c52b00fa807d623b7f1f62") false
    over (fun _ h => by cases h) (by kernel_rfl) (fun _ h => by cases h) decodeBack_row_tie rfl ⟨rfl, rfl⟩ (by kernel_rfl) rfl
    (fun f fn hf hfn => by
      obtain rfl : f = 5 := Option.some.inj ((show Tryd.prog.funcNamed "tappet/tappetlaw03.DecodeBack" = some 5 by kernel_rfl).symm.trans hf) |>.symm
      obtain rfl : fn = Tryd.f5 := (Option.some.inj (Tryd.func5.symm.trans hfn)).symm
      exact ⟨by kernel_rfl, fun j t ht => by
        rw [Tryd.params5] at ht
        have hm : t ∈ [25] := by simpa using Array.mem_of_getElem? ht
        have hall : ([25].all fun u => !Tryd.prog.wantsStandIn u) = true := by kernel_rfl
        exact (show Tryd.prog.wantsStandIn t = false by simpa using List.all_eq_true.1 hall t hm)⟩)
    (by kernel_rfl)
#print axioms proved
end Go.Proofs.YthcdgjpdnlickaaDoor.decodeBackCard
