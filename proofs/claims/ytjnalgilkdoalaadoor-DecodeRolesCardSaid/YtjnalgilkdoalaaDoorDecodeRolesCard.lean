/- Proves that the registers that the instruction of any word reads and writes are fields of the word, that what is written is there a stage on, or two, and that a store, a branch and what is serial (but a CSR's) write none, and that the first test of the law holds. Conditions: the library's table of trailing zeros lies in memory as the program's text lays it. -/
import Derived.Test.YtjnalgilkdoalaaDoorRows
import Derived.Test.YtjnalgilkdoalaaDoorCards
import Derived.Test.YtjnalgilkdoalaaDoorTie
import Derived.Test.YtjnalgilkdoalaaDoorReadsS
import Derived.Test.YtjnalgilkdoalaaDoorEnc5
import Derived.WalkKit
import Derived.ProofKit
import Derived.OpenShut
import Derived.Below
import Derived.Carry
import Derived.ShutString
import Derived.LaidMore
import Derived.Lib.LaidTab
import Derived.SevenTiedAt
import Derived.Stop.Joined
namespace Go.Proofs.YtjnalgilkdoalaaDoor.decodeRolesCard
open Go.ChangeShapes Go.WideShapes Go.ChangeAt Go.RowKit
set_option linter.unusedVariables false

theorem own : ownKnob Tryd.prog.godebug = none := by kernel_rfl

theorem gTab : Tryd.prog.globalNamed "math/bits.deBruijn64tab" = some 0 := by kernel_rfl
theorem tTab : (Tryd.prog.globals[0]?).map (·.type) = some 81 := by kernel_rfl
/-- the door's own heap meets the condition -/
theorem door_met (os : Os) (args : Array Value) : laidMetH Tryd.prog Rows.decodeRolesRow.laid ((World.doorLaid Tryd.prog 14 os).forCall (fun _ _ => 0) ⟨#[], args, []⟩).memory :=
  laidMetH_of_parts3 (fuel := 8) (laidMet_of_run' 8 (by kernel_rfl) (by kernel_rfl)) (by kernel_rfl) (by kernel_rfl)
/-- what the condition gives the walk -/
theorem tab_of {W : World} (h : laidMetH Tryd.prog Rows.decodeRolesRow.laid W) : Tab W := by
  rw [MakeChecks.laidMetH_plain _ _ _ (by kernel_rfl)] at h
  have hT : Lib.TabIs Tryd.prog W "math/bits.deBruijn64tab" .u8 tz64 := Lib.tabIs_of_head (rest := []) gTab tTab Tryd.underlying81 Tryd.underlying5 (by kernel_rfl) (by kernel_rfl) h
  have hc : ∀ i, i < 64 → W.cell? ⟨0, i, none⟩ = some (.int .u8 (tz64.getD i 0)) := fun i hi => hT.cell gTab i (by show i < 64; exact hi)
  exact ⟨block_in (hc 0 (by omega)), hc⟩

set_option maxRecDepth 100000 in
set_option maxHeartbeats 16000000 in
theorem walk (a0 : Int) (w0 : (Lit.int .u32 a0).wf = true) (w : World) (ht : Tab w) :
    Calls Tryd.prog 4 #[.int .u32 a0] w fun e w' => e = .returned (.bool true) ∧ Below w.heap.size w w' := by
  obtain ⟨x, rfl⟩ := q_of w0
  have HT := Lib.hid ht
  clear w0 ht
  have fb : ∀ (hi lo : Nat) (p : Int), lo ≤ hi → hi < 32 → hi - lo = 4 → p = 2 ^ lo → bits .and .u32 (q x / p) 31 = fi x hi lo := by
    intro hi lo p h1 h2 h3 h4
    rw [h4, fi_nat x hi lo h1 h2, h3, q_shr, show (31 : Int) = q 31#32 from rfl, q_and]
    unfold q
    rw [show x >>> lo &&& 31#32 = x >>> lo &&& (BitVec.ofNat 32 (2 ^ 5 - 1)) from rfl]
    rw [BitVec.toNat_and, BitVec.toNat_ushiftRight, Nat.shiftRight_eq_div_pow, BitVec.toNat_ofNat, show (2 ^ 5 - 1) % 2 ^ 32 = 2 ^ 5 - 1 from rfl, Nat.and_two_pow_sub_one_eq_mod]
  have key : ∀ (o f d s t z k : Int) (m : BitVec 64) (a b c : Bool) (v0 v1 v2 v3 : Int), Hid (∀ w, Calls Tryd.prog 12 #[.int .u32 (q x)] w fun e w' => e = .returned (.agg #[.int .i64 o, .int .i64 f, .int .i64 d, .int .i64 s, .int .i64 t, .int .u64 (u m), .int .i64 z, .bool a, .bool b, .bool c, .int .i64 k]) ∧ On w w') → Hid (∀ w, Tab w → Calls Tryd.prog 6 #[.agg #[.int .i64 o, .int .i64 f, .int .i64 d, .int .i64 s, .int .i64 t, .int .u64 (u m), .int .i64 z, .bool a, .bool b, .bool c, .int .i64 k]] w fun e w' => e = .returned (.agg #[.int .i64 v0, .int .i64 v1, .int .i64 v2, .int .i64 v3]) ∧ On w w') →
      (v0 = 0 ∨ v0 = fi x 19 15) → (v1 = 0 ∨ v1 = fi x 24 20) → (v2 = 0 ∨ v2 = fi x 11 7) → ((v2 = 0 ∧ v3 = 0) ∨ (0 < v2 ∧ 1 ≤ v3 ∧ v3 ≤ 2)) → (v2 = 0 ∨ (o ≠ 5 ∧ o ≠ 7 ∧ (o = 19 ∨ serOf o = false))) →
      Calls Tryd.prog 4 #[.int .u32 (q x)] w fun e w' => e = .returned (.bool true) ∧ Below w.heap.size w w' := by
    intro o f d s t z k m a b c v0 v1 v2 v3 HD HP h0 h1 h2 h3 h4
    have x0 : wrap64 (bits .and .u32 (q x / 32768) 31) = fi x 19 15 := by have h : bits .and .u32 (q x / 32768) 31 = fi x 19 15 := fb 19 15 32768 (by omega) (by omega) (by omega) rfl; rw [h]; exact fi_wrap _ _ _
    have x1 : wrap64 (bits .and .u32 (q x / 1048576) 31) = fi x 24 20 := by have h : bits .and .u32 (q x / 1048576) 31 = fi x 24 20 := fb 24 20 1048576 (by omega) (by omega) (by omega) rfl; rw [h]; exact fi_wrap _ _ _
    have x2 : wrap64 (bits .and .u32 (q x / 128) 31) = fi x 11 7 := by have h : bits .and .u32 (q x / 128) 31 = fi x 11 7 := fb 11 7 128 (by omega) (by omega) (by omega) rfl; rw [h]; exact fi_wrap _ _ _
    rw [← x0] at h0
    rw [← x1] at h1
    rw [← x2] at h2
    clear x0 x1 x2 fb
    have HB := Lib.hid (On.refl w)
    have t0 : (v0 != 0) = false ∨ ((v0 != 0) = true ∧ (v0 != wrap64 (bits .and .u32 (q x / 32768) 31)) = false) := by
      rcases Decidable.em (v0 = 0) with e | e
      · left; simp [e]
      · right; exact ⟨by simp [e], by simp; omega⟩
    have t1 : (v1 != 0) = false ∨ ((v1 != 0) = true ∧ (v1 != wrap64 (bits .and .u32 (q x / 1048576) 31)) = false) := by
      rcases Decidable.em (v1 = 0) with e | e
      · left; simp [e]
      · right; exact ⟨by simp [e], by simp; omega⟩
    have e3 : decide (v3 < 0) = false := by simp; omega
    have e4 : decide (2 < v3) = false := by simp; omega
    rcases h3 with ⟨rfl, rfl⟩ | ⟨p2, p3, -⟩
    · have o7 : (o == 7) = true ∨ ((o == 7) = false ∧ ((o == 5) = true ∨ ((o == 5) = false ∧ (serOf o = false ∨ (serOf o = true ∧ ((o != 19) = false ∨ (o != 19) = true)))))) := by
        cases (o == 7) <;> cases (o == 5) <;> cases serOf o <;> cases (o != 19) <;> simp
      clear h0 h1 h2 h4
      rcases t0 with t0 | ⟨t0, t0'⟩ <;> rcases t1 with t1 | ⟨t1, t1'⟩ <;> rcases o7 with o7 | ⟨o7, o5 | ⟨o5, os | ⟨os, o9 | o9⟩⟩⟩
      all_goals
        go_enter Tryd.func4, Tryd.ntmps4
        go_wp2_with (first | (go_at_call 12; refine (HD.out _).mono ?_; rintro e wn ⟨rfl, h⟩; replace HB := tr HB h; clear h) | (go_at_call 6; refine (HP.out _ (HT.out.keep (HB.out.alloc _))).mono ?_; rintro e wm ⟨rfl, h⟩; obtain ⟨k0, k1, k2, k3, k4, k5, k6, k7, k8, k9, k10, kf, hlt⟩ := own11 h; replace HB := tr1 HB h; clear h) | (go_at_call 5; refine (awake3_yes _).mono ?_; rintro e wx ⟨rfl, h⟩; have h11 := keep11 (((On.refl _).alloc _).trans h) hlt k0 k1 k2 k3 k4 k5 k6 k7 k8 k9 k10 kf; obtain ⟨r0, r1, r2, r3, rf, rl⟩ := new4 h rfl; replace HB := tr1 HB h; clear h hlt k0 k1 k2 k3 k4 k5 k6 k7 k8 k9 k10 kf rf; obtain ⟨k0, k1, k2, k3, k4, k5, k6, k7, k8, k9, k10, kf, hlt⟩ := h11) | (go_at_call 8; refine (ser_any _ _ _ _ _ _ _ _ _ _ _ _).mono ?_; rintro e wy ⟨rfl, h⟩; have r2' := cell_keep h rl r2; have k0' := cell_keep h hlt k0; replace HB := tr HB h; clear h))
        go_ret
        exact ⟨by first | rfl | simp, HB.out⟩
    · have e2 : (v2 != 0) = true := by simp; omega
      have e2' : (v2 != wrap64 (bits .and .u32 (q x / 128) 31)) = false := by have h := h2.resolve_left (by omega); rw [← h]; simp
      have e5 : decide (0 < v2) = true := decide_eq_true p2
      have e6 : decide (0 < v3) = true := by simp; omega
      obtain ⟨n5, n7, n9⟩ : o ≠ 5 ∧ o ≠ 7 ∧ (o = 19 ∨ serOf o = false) := h4.resolve_left (by omega)
      have o7 : (o == 7) = false := by simpa using n7
      have o5 : (o == 5) = false := by simpa using n5
      have os : serOf o = false ∨ (serOf o = true ∧ (o != 19) = false) := by
        rcases n9 with rfl | n9
        · right; exact ⟨rfl, rfl⟩
        · exact .inl n9
      clear h0 h1 h2 h4 p2 p3 n5 n7 n9
      rcases t0 with t0 | ⟨t0, t0'⟩ <;> rcases t1 with t1 | ⟨t1, t1'⟩ <;> rcases os with os | ⟨os, o9⟩
      all_goals
        go_enter Tryd.func4, Tryd.ntmps4
        go_wp2_with (first | (go_at_call 12; refine (HD.out _).mono ?_; rintro e wn ⟨rfl, h⟩; replace HB := tr HB h; clear h) | (go_at_call 6; refine (HP.out _ (HT.out.keep (HB.out.alloc _))).mono ?_; rintro e wm ⟨rfl, h⟩; obtain ⟨k0, k1, k2, k3, k4, k5, k6, k7, k8, k9, k10, kf, hlt⟩ := own11 h; replace HB := tr1 HB h; clear h) | (go_at_call 5; refine (awake3_yes _).mono ?_; rintro e wx ⟨rfl, h⟩; have h11 := keep11 (((On.refl _).alloc _).trans h) hlt k0 k1 k2 k3 k4 k5 k6 k7 k8 k9 k10 kf; obtain ⟨r0, r1, r2, r3, rf, rl⟩ := new4 h rfl; replace HB := tr1 HB h; clear h hlt k0 k1 k2 k3 k4 k5 k6 k7 k8 k9 k10 kf rf; obtain ⟨k0, k1, k2, k3, k4, k5, k6, k7, k8, k9, k10, kf, hlt⟩ := h11) | (go_at_call 8; refine (ser_any _ _ _ _ _ _ _ _ _ _ _ _).mono ?_; rintro e wy ⟨rfl, h⟩; have r2' := cell_keep h rl r2; have k0' := cell_keep h hlt k0; replace HB := tr HB h; clear h))
        go_ret
        exact ⟨by first | rfl | simp, HB.out⟩
  have hd := decode_any x
  have hp := dec_places x
  have hr := dec_roles x
  have h64 := dec_i64 x
  rcases dec_good x with hz | ⟨⟨g1, g2, g3, ⟨g4, g5⟩, -⟩, -⟩
  · rw [hz] at hd
    have hn : ∀ y, decOf y = ⟨0, 0, 0, 0, 0, 0#64, 0, false, false, false, 0⟩ → (0 : Int) = 0 := fun _ _ => rfl
    exact key 0 0 0 0 0 0 0 0#64 false false false 0 0 0 0 (Lib.hid (fun w => hd w)) (Lib.hid (fun w ht => reads_no 0 0 0 0 0 0 0 0#64 false false false w ht (Lib.hid (fun w ht => enc_no 0 0 0 0 0 0 0 0#64 false false false w ht (Lib.hid (by unfold I64; omega)) hn)))) (.inl rfl) (.inl rfl) (.inl rfl) (.inl ⟨rfl, rfl⟩) (.inl rfl)
  · obtain ⟨i, hi⟩ : ∃ i, decOf x = i := ⟨_, rfl⟩
    rw [hi] at hd hp hr h64 g1 g4
    obtain ⟨o, f, d, s, t, m, z, a, b, c, k⟩ := i
    obtain ⟨p1, p2, p3⟩ := hp
    obtain ⟨-, -, -, -, -, r5⟩ := hr
    dsimp only at g1 g4 p1 p2 p3 r5
    refine key o f d s t z k m a b c (if c = true then 0 else s) t d (whenOf o d) (Lib.hid (fun w => hd w)) (Lib.hid (fun w ht => reads_yes o f d s t z k m a b c (clr x) w ht (Lib.hid (fun w ht => enc_yes o f d s t z k m a b c w ht (Lib.hid h64) x hi (by omega))))) ?_ p2 p3 ?_ r5
    · cases c
      · exact p1
      · exact .inl rfl
    · unfold whenOf
      by_cases hd0 : d = 0
      · left; exact ⟨hd0, if_pos hd0⟩
      · right; rw [if_neg hd0]
        refine ⟨by omega, ?_⟩
        split <;> omega

set_option maxRecDepth 100000 in
theorem lifted (os : Os) (started : os.Started) (H : Type) (enc : TypeId × Value → H) :
    ReturnsInHanded {} Tryd.checked os 4 .any (fun w args => (Rows.decodeRolesSpec.pre enc Tryd.prog Tryd.f4 [] false w args ∧ laidMetH Tryd.prog Rows.decodeRolesRow.laid w) ∧ sizedMet enc Tryd.prog Tryd.f4 (OpenSpec.ofChange Rows.decodeRolesSpec) false w args)
      (Rows.decodeRolesSpec.post enc Tryd.prog Tryd.f4 false true false false) := by
  refine returnsInHanded_of_change_and (C := Tryd.checked) (X := fun w _ => laidMetH Tryd.prog Rows.decodeRolesRow.laid w) (fun _ _ _ hh h => h.of_heap hh) own started (by kernel_rfl) Tryd.func4
    (ChangeSpec.witness_shaped (enc := enc) (C := Tryd.checked) (os := os) (X := fun w _ => laidMetH Tryd.prog Rows.decodeRolesRow.laid w) false (World.doorLaid Tryd.prog 14 os) #[.int .u32 0] 12 rfl (World.shaped_of_RefB (by kernel_rfl) (by kernel_rfl)) (by kernel_rfl) (by kernel_rfl) (by kernel_rfl) (door_met os _)) ?_
  intro W base args ds gs before hval0 hW _ _ hL _
  have hval : ∀ (j : Nat) t v, Tryd.f4.params[j]? = some t → args[j]? = some v → Value.okWide Tryd.prog W .any base t v := hval0
  have hW' := hW
  obtain ⟨p, q, hA0, hV, rfl, hfz, hnd⟩ := hW
  have hA : DataW.TrodAll enc Tryd.prog W 0 (fun _ => true) true Tryd.f4.params.toList args.toList ds p := hA0
  rw [Tryd.params4] at hA hval
  obtain ⟨v0, vs0, d0, ds0, p0, q0, hargs, rfl, rfl, h0, r0⟩ := trodAll_cons hA
  obtain ⟨rfl, rfl, rfl⟩ := trodAll_nil r0
  obtain rfl : args = #[v0] := by cases args; simp_all
  obtain ⟨rfl, rfl⟩ := trodVars_none hV
  obtain ⟨a0, rfl, rfl, rfl, w0⟩ := open_int Tryd.underlying30 (hval 0 30 v0 rfl rfl) h0
  clear hA0 hval0
  refine (walk a0 w0 W (tab_of hL)).mono fun e W' ⟨he, bel⟩ => ?_
  subst he
  exact ⟨_, rfl, _, _, _, [], _, [], hW', trodAll_mk1 (shut_bool Tryd.underlying4 _), (trodAll_cons_mk (shut_int Tryd.underlying30 w0) trodAll_mk0), rfl, bel.frame _, fun h => by cases h⟩

theorem over : Rows.DecodeRolesSaid :=
  OpenClaim.holds_of_wide 4 Tryd.f4 rfl rfl rfl rfl rfl rfl rfl ⟨rfl, rfl, rfl, rfl, rfl⟩ rfl rfl rfl rfl rfl (by kernel_rfl) Tryd.func4 (by kernel_rfl)
    (of_decide_eq_true (by kernel_rfl)) (by unfold Func.isWrapper; first | (rw [if_pos (by decide +kernel)]; kernel_rfl) | (rw [if_neg (by decide +kernel)]; exact ⟨rfl, rfl⟩))
    (fun os started H enc _ => lifted os started H enc)

theorem proved : Rows.DecodeRolesCardSaid :=
  Claim7.holds_tied_plain_at .later [] [.data] true (true, "b054c3d90bbcdc800711bfae0f950d815861c7ed872ba19bd8cd8d3c4dbb0852") false
    over (fun _ h => by cases h) (by kernel_rfl) (fun _ h => by cases h) decodeRoles_row_tie rfl ⟨rfl, rfl⟩ (by kernel_rfl) rfl
    (fun f fn hf hfn => by
      obtain rfl : f = 4 := Option.some.inj ((show Tryd.prog.funcNamed "tappet/tappetlaw03.DecodeRoles" = some 4 by kernel_rfl).symm.trans hf) |>.symm
      obtain rfl : fn = Tryd.f4 := (Option.some.inj (Tryd.func4.symm.trans hfn)).symm
      exact ⟨by kernel_rfl, fun j t ht => by
        rw [Tryd.params4] at ht
        have hm : t ∈ [30] := by simpa using Array.mem_of_getElem? ht
        have hall : ([30].all fun u => !Tryd.prog.wantsStandIn u) = true := by kernel_rfl
        exact (show Tryd.prog.wantsStandIn t = false by simpa using List.all_eq_true.1 hall t hm)⟩)
    (by kernel_rfl)
#print axioms proved
end Go.Proofs.YtjnalgilkdoalaaDoor.decodeRolesCard
