/- Proves that whatever is read, written and ticked, in whatever order, up to 300 calls, a clint answers each call as the document says, and so do its lines, its time and its state behind each; and that the first test of the law holds. Conditions: none. -/
import Derived.Test.YtmclkllmpamblaaRows
import Derived.Test.YtmclkllmpamblaaClkS
import Derived.Test.YtmclkllmpamblaaRow
import Derived.WalkKit
import Derived.ProofKit
import Derived.OpenShut
import Derived.Below
import Derived.Carry
import Derived.ShutString
namespace Go.Proofs.Ytmclkllmpamblaa.clintPlays
open Go.ChangeShapes Go.WideShapes Go.ChangeAt Go.RowKit
set_option linter.unusedVariables false

theorem own : ownKnob Try.prog.godebug = none := by kernel_rfl

set_option maxRecDepth 100000 in
set_option maxHeartbeats 4000000 in
theorem walk (w : World) (a0 : Option Addr) (l0 c0 : Nat) (w0 : IsRow [.int .i64, .int .u64, .int .u64, .int .i64] w a0 l0) :
    Calls Try.prog 3 #[.slice a0 l0 c0] w fun e w' => e = .returned (.bool true) ∧ Below w.heap.size w w' := by
  obtain ⟨hlen, hrow⟩ := w0
  unfold maxLen at hlen
  go_enter Try.func3, Try.ntmps3
  go_wp2_with fail
  refine (new_clk _).mono ?_
  rintro e w1 ⟨rfl, k1, h1⟩
  have K := Lib.hid k1
  have HB : Hid (On w w1) := Lib.hid h1
  clear k1 h1
  go_wp2_with fail
  refine (rnew_clk _).mono ?_
  rintro e w2 ⟨rfl, h2⟩
  have K := Lib.hid (K.out.on h2)
  have HB : Hid (On w w2) := Lib.hid (HB.out.trans h2)
  clear h2
  have HI : Hid (ClkInv w (w2.alloc (.cells #[.bool false, .int .u64 (u 0), .int .u64 (u (BitVec.allOnes 64))] 27)) w.heap.size w2.heap.size false (BitVec.allOnes 64) 0) := Lib.hid
    ⟨K.out.on ((On.refl _).alloc _), blk_new _ _, by have := lt_of_block K.out; omega, ⟨Nat.le_refl _, HB.out.size⟩, On.trans HB.out ((On.refl _).alloc _)⟩
  clear K HB
  go_wp2_with fail
  refine (awake_clk _).mono ?_
  rintro e w3 ⟨rfl, h3⟩
  have HI := Lib.hid (HI.out.on h3)
  clear h3
  generalize w2.heap.size = C at *
  have HROW := Lib.hid hrow
  clear hrow
  go_wp2_with fail
  go_loopw [5] (fun i wr => ∃ k : Nat, k ≤ l0 ∧ i = .int .i64 k ∧ Hid (∃ b c t, ClkInv w wr w.heap.size C b c t)) (fun i _ => l0 - (intOf i).toNat)
  case atStart => exact ⟨0, by omega, rfl, Lib.hid ⟨_, _, _, HI.out⟩⟩
  case round =>
    clear HI
    obtain ⟨k, hk, rfl, HI⟩ := hrel
    obtain ⟨b, c, t, HI⟩ := HI.out
    have HI := Lib.hid HI
    by_cases hkl : k < l0
    · by_cases h300 : k < 300
      · rcases HROW.out with h0 | ⟨bl, off, rfl, hbl, hcs⟩
        · omega
        · obtain ⟨cs, hfit, hcell⟩ := hcs k hkl
          obtain ⟨kd, cs, rfl, wkd, hfit⟩ := hfit
          obtain ⟨oi, cs, rfl, wo, hfit⟩ := hfit
          obtain ⟨vi, cs, rfl, wv, hfit⟩ := hfit
          obtain ⟨s, cs, rfl, ws, hfit⟩ := hfit
          obtain rfl : cs = [] := hfit
          obtain ⟨o, rfl⟩ := u_of wo
          obtain ⟨v, rfl⟩ := u_of wv
          have hBel := HI.out.below
          have e0 : wr.cell? ⟨bl, off + k * 4, none⟩ = some (.int .i64 kd) := (hBel.cell (p := ⟨bl, _, none⟩) hbl).trans (hcell 0 (by decide))
          have e1 : wr.cell? ⟨bl, off + k * 4 + 1, none⟩ = some (.int .u64 (u o)) := (hBel.cell (p := ⟨bl, _, none⟩) hbl).trans (hcell 1 (by decide))
          have e2 : wr.cell? ⟨bl, off + k * 4 + 2, none⟩ = some (.int .u64 (u v)) := (hBel.cell (p := ⟨bl, _, none⟩) hbl).trans (hcell 2 (by decide))
          have e3 : wr.cell? ⟨bl, off + k * 4 + 3, none⟩ = some (.int .i64 s) := (hBel.cell (p := ⟨bl, _, none⟩) hbl).trans (hcell 3 (by decide))
          clear hcell hcs wkd ws wo wv hBel
          obtain ⟨r, hr⟩ := reg_any (u o) s
          have HR := Lib.hid hr
          have HC := Lib.hid (And.intro (lt_of_block HI.out.ref) (lt_of_block HI.out.dev))
          clear hr
          by_cases q1 : kd = 1
          · subst q1
            have GI : Hid (ClkInv w (wr.alloc (.cells #[.int .i64 1, .int .u64 (u o), .int .u64 (u v), .int .i64 s] 31)) w.heap.size C b c t) := Lib.hid (HI.out.on ((On.refl wr).alloc _))
            have GO : Hid (OpC wr.heap.size 1 o v s (wr.alloc (.cells #[.int .i64 1, .int .u64 (u o), .int .u64 (u v), .int .i64 s] 31))) := Lib.hid (blk_new wr _)
            clear HI
            go_wp2_with fail
            refine (read_clk GI.out.dev HR.out).mono ?_
            rintro e w6 ⟨rfl, rfl⟩
            clear e0 e1 e2 e3
            generalize (wr.alloc (.cells #[.int .i64 1, .int .u64 (u o), .int .u64 (u v), .int .i64 s] 31)) = w5 at *
            have o1 := GO.out.c1
            have o2 := GO.out.c2
            have o3 := GO.out.c3
            have r0 := GI.out.ref.c0
            have r1 := GI.out.ref.c1
            have r2 := GI.out.ref.c2
            go_wp2_with fail
            refine (rread_clk _ _ _ HR.out _).mono ?_
            rintro e w6 ⟨rfl, h6⟩
            have GI := Lib.hid (GI.out.on h6)
            clear o1 o2 o3 r0 r1 r2 h6 GO
            generalize rgV b c t r = X
            generalize rgE r = Y
            go_wp2_with fail
            refine (state_any GI.out.dev).mono ?_
            rintro e w8 ⟨rfl, h8⟩
            have GI := Lib.hid (GI.out.on h8)
            clear h8
            have q0 := fun d' os' => cell_regrown GI.out.ref.c0 d' os'
            have q1 := fun d' os' => cell_regrown GI.out.ref.c1 d' os'
            have q2 := fun d' os' => cell_regrown GI.out.ref.c2 d' os'
            go_wp2_with fail
            refine wp_region_quiet_below (by kernel_rfl) (by kernel_rfl) ?_
            repeat (go_big_quiet_step (first | (go_at_call 16; exact Calls.on_of (lines_any (GI.out.dev.on ((On.refl _).grow _ _)))) | (go_at_call 17; exact Calls.on_of (rlines_any _ _ _ _)) | (go_at_call 18; exact Calls.on_same (time_any (GI.out.dev.on ((On.refl _).grow _ _))))))
            refine wpQuiet_nil ?_
            intro _ hw'
            obtain ⟨⟨dq, osq⟩, hw''⟩ := hw'
            subst hw''
            go_wp2
            go_roundw
            case rel => exact ⟨k + 1, by omega, by go_num, Lib.hid ⟨_, _, _, GI.out.on ((On.refl _).grow _ _)⟩⟩
            case measure => simp [intOf]; omega
          · by_cases q2 : kd = 2
            · subst q2
              clear q1
              have GI : Hid (ClkInv w (wr.alloc (.cells #[.int .i64 2, .int .u64 (u o), .int .u64 (u v), .int .i64 s] 31)) w.heap.size C b c t) := Lib.hid (HI.out.on ((On.refl wr).alloc _))
              have GO : Hid (OpC wr.heap.size 2 o v s (wr.alloc (.cells #[.int .i64 2, .int .u64 (u o), .int .u64 (u v), .int .i64 s] 31))) := Lib.hid (blk_new wr _)
              clear HI
              have g0 := GI.out.ref.c0
              have g1 := GI.out.ref.c1
              have g2 := GI.out.ref.c2
              go_wp2_with fail
              refine (rwrite_clk _ _ _ HR.out _ _).mono ?_
              rintro e w6 ⟨rfl, h6⟩
              clear g0 g1 g2
              clear e0 e1 e2 e3
              generalize (wr.alloc (.cells #[.int .i64 2, .int .u64 (u o), .int .u64 (u v), .int .i64 s] 31)) = w5 at *
              have GL := GO
              have GX : Hid (RcAt w6.heap.size (wB b r v) (wC c r v) (wT t r v) (w6.alloc (.cells #[.bool (wB b r v), .int .u64 (u (wT t r v)), .int .u64 (u (wC c r v))] 27))) := Lib.hid (blk_new _ _)
              have GI : Hid (ClkInv w (w6.alloc (.cells #[.bool (wB b r v), .int .u64 (u (wT t r v)), .int .u64 (u (wC c r v))] 27)) w.heap.size C b c t) := Lib.hid ((GI.out.on h6).on ((On.refl _).alloc _))
              have GO := Lib.hid ((GO.out.on h6).on ((On.refl w6).alloc (.cells #[.bool (wB b r v), .int .u64 (u (wT t r v)), .int .u64 (u (wC c r v))] 27)))
              have HX : Hid (C < w6.heap.size ∧ w.heap.size < w6.heap.size) := Lib.hid ⟨Nat.lt_of_lt_of_le HC.out.1 (Nat.le_trans (Nat.le_of_lt (lt_of_block GL.out)) h6.size), Nat.lt_of_lt_of_le HC.out.2 (Nat.le_trans (Nat.le_of_lt (lt_of_block GL.out)) h6.size)⟩
              clear h6
              have o1 := GO.out.c1
              have o2 := GO.out.c2
              have o3 := GO.out.c3
              go_wp2_with fail
              refine (write_clk GI.out.dev HR.out v).mono ?_
              rintro e w7 ⟨rfl, k7, h7⟩
              clear o1 o2 o3 GO
              have GX := Lib.hid (GX.out.but h7 (by have := HX.out; omega))
              have GR := Lib.hid (GI.out.ref.but h7 (Ne.symm GI.out.ne))
              have GD := Lib.hid k7
              have GB : Hid (Below w.heap.size w w7) := Lib.hid (But.below GI.out.below (Nat.le_refl _) GI.out.below.size h7)
              have GN := Lib.hid (And.intro GI.out.ne GI.out.lo)
              clear k7 h7 GI
              generalize w6.heap.size = D at *
              generalize rgE r = Y
              generalize wB b r v = b' at *
              generalize wC c r v = c' at *
              generalize wT t r v = t' at *
              have x0 := GX.out.c0
              have x1 := GX.out.c1
              have x2 := GX.out.c2
              have y0 := GR.out.c0
              have y1 := GR.out.c1
              have y2 := GR.out.c2
              have yf := GR.out.free
              have GI : Hid (ClkInv w (((w7.setCell ⟨C, 0, none⟩ (.bool b')).setCell ⟨C, 1, none⟩ (.int .u64 (u t'))).setCell ⟨C, 2, none⟩ (.int .u64 (u c'))) w.heap.size C b' c' t') := Lib.hid
                ⟨((Below.heap_setCell _ _ _ _ GN.out.1).trans ((Below.heap_setCell _ _ _ _ GN.out.1).trans (Below.heap_setCell _ _ _ _ GN.out.1))).trans GD.out, blk_put (blk_put (blk_put GR.out 0 _) 1 _) 2 _, GN.out.1, GN.out.2,
                 But.below (B := C) GB.out GN.out.2.2 GB.out.size ((((But.refl C w7).setCell 0 _).setCell 1 _).setCell 2 _)⟩
              clear GX GR GD GB GN
              go_wp2_with fail
              clear x0 x1 x2 y0 y1 y2 yf
              generalize (((w7.setCell ⟨C, 0, none⟩ (.bool b')).setCell ⟨C, 1, none⟩ (.int .u64 (u t'))).setCell ⟨C, 2, none⟩ (.int .u64 (u c'))) = w9 at *
              refine (state_any GI.out.dev).mono ?_
              rintro e w8 ⟨rfl, h8⟩
              have GI := Lib.hid (GI.out.on h8)
              clear h8
              have q0 := fun d' os' => cell_regrown GI.out.ref.c0 d' os'
              have q1 := fun d' os' => cell_regrown GI.out.ref.c1 d' os'
              have q2 := fun d' os' => cell_regrown GI.out.ref.c2 d' os'
              go_wp2_with fail
              refine wp_region_quiet_below (by kernel_rfl) (by kernel_rfl) ?_
              repeat (go_big_quiet_step (first | (go_at_call 16; exact Calls.on_of (lines_any (GI.out.dev.on ((On.refl _).grow _ _)))) | (go_at_call 17; exact Calls.on_of (rlines_any _ _ _ _)) | (go_at_call 18; exact Calls.on_same (time_any (GI.out.dev.on ((On.refl _).grow _ _))))))
              refine wpQuiet_nil ?_
              intro _ hw'
              obtain ⟨⟨dq, osq⟩, hw''⟩ := hw'
              subst hw''
              go_wp2
              go_roundw
              case rel => exact ⟨k + 1, by omega, by go_num, Lib.hid ⟨_, _, _, GI.out.on ((On.refl _).grow _ _)⟩⟩
              case measure => simp [intOf]; omega
            · have d1 : (kd == 1) = false := by simpa using q1
              have d2 : (kd == 2) = false := by simpa using q2
              clear q1 q2
              have GI : Hid (ClkInv w (wr.alloc (.cells #[.int .i64 kd, .int .u64 (u o), .int .u64 (u v), .int .i64 s] 31)) w.heap.size C b c t) := Lib.hid (HI.out.on ((On.refl wr).alloc _))
              have GO : Hid (OpC wr.heap.size kd o v s (wr.alloc (.cells #[.int .i64 kd, .int .u64 (u o), .int .u64 (u v), .int .i64 s] 31))) := Lib.hid (blk_new wr _)
              clear HI
              go_wp2_with fail
              refine (tick_any GI.out.dev).mono ?_
              rintro e w7 ⟨rfl, k7, h7⟩
              clear e0 e1 e2 e3
              generalize (wr.alloc (.cells #[.int .i64 kd, .int .u64 (u o), .int .u64 (u v), .int .i64 s] 31)) = w5 at *
              have GR := Lib.hid (GI.out.ref.but h7 (Ne.symm GI.out.ne))
              have GD := Lib.hid k7
              have GB : Hid (Below w.heap.size w w7) := Lib.hid (But.below GI.out.below (Nat.le_refl _) GI.out.below.size h7)
              have GN := Lib.hid (And.intro GI.out.ne GI.out.lo)
              clear k7 h7 GI GO
              have y0 := GR.out.c0
              have y1 := GR.out.c1
              have y2 := GR.out.c2
              have yf := GR.out.free
              have ha : IntKind.u64.wrap (u t + 1) = u (t + 1) := u_add t 1
              have GI : Hid (ClkInv w (w7.setCell ⟨C, 1, none⟩ (.int .u64 (u (t + 1)))) w.heap.size C b c (t + 1)) := Lib.hid
                ⟨(Below.heap_setCell _ _ _ _ GN.out.1).trans GD.out, blk_put GR.out 1 _, GN.out.1, GN.out.2, But.below (B := C) GB.out GN.out.2.2 GB.out.size ((But.refl C w7).setCell 1 _)⟩
              clear GR GD GB GN
              go_wp2_with fail
              clear y0 y1 y2 yf ha
              generalize (w7.setCell ⟨C, 1, none⟩ (.int .u64 (u (t + 1)))) = w9 at *
              refine (state_any GI.out.dev).mono ?_
              rintro e w8 ⟨rfl, h8⟩
              have GI := Lib.hid (GI.out.on h8)
              clear h8
              have q0 := fun d' os' => cell_regrown GI.out.ref.c0 d' os'
              have q1 := fun d' os' => cell_regrown GI.out.ref.c1 d' os'
              have q2 := fun d' os' => cell_regrown GI.out.ref.c2 d' os'
              go_wp2_with fail
              refine wp_region_quiet_below (by kernel_rfl) (by kernel_rfl) ?_
              repeat (go_big_quiet_step (first | (go_at_call 16; exact Calls.on_of (lines_any (GI.out.dev.on ((On.refl _).grow _ _)))) | (go_at_call 17; exact Calls.on_of (rlines_any _ _ _ _)) | (go_at_call 18; exact Calls.on_same (time_any (GI.out.dev.on ((On.refl _).grow _ _))))))
              refine wpQuiet_nil ?_
              intro _ hw'
              obtain ⟨⟨dq, osq⟩, hw''⟩ := hw'
              subst hw''
              go_wp2
              go_roundw
              case rel => exact ⟨k + 1, by omega, by go_num, Lib.hid ⟨_, _, _, GI.out.on ((On.refl _).grow _ _)⟩⟩
              case measure => simp [intOf]; omega
      · go_wp2_with fail
        go_ret
        exact ⟨rfl, HI.out.below⟩
    · go_wp2_with fail
      go_ret
      exact ⟨rfl, HI.out.below⟩

set_option maxRecDepth 100000 in
theorem lifted (os : Os) (started : os.Started) (H : Type) (enc : TypeId × Value → H) :
    ReturnsInHanded {} Try.checked os 3 .any (Rows.clintPlaysSpec.pre6 enc Try.prog Try.f3 Rows.clintPlaysRow.domain false) (Rows.clintPlaysSpec.post enc Try.prog Try.f3 false true false false) := by
  refine returnsInHanded_of_change (C := Try.checked) own started (by kernel_rfl) Try.func3
    (ChangeSpec.witness6 (enc := enc) (C := Try.checked) false ⟨#[], #[.slice none 0 0], []⟩ 12 (by kernel_rfl) (by kernel_rfl) (by kernel_rfl) (by kernel_rfl)) ?_
  intro W base args ds gs before hval0 hW hcnd _
  have hval : ∀ (j : Nat) t v, Try.f3.params[j]? = some t → args[j]? = some v → Value.okWide Try.prog W .any base t v := hval0
  have hW' := hW
  obtain ⟨p, q, hA0, hV, rfl, hfz, hnd⟩ := hW
  have hA : DataW.TrodAll enc Try.prog W 0 (fun _ => true) true Try.f3.params.toList args.toList ds p := hA0
  rw [Try.params3] at hA hval
  obtain ⟨v0, vs0, d0, ds0, p0, q0, hargs, rfl, rfl, h0, r0⟩ := trodAll_cons hA
  obtain ⟨rfl, rfl, rfl⟩ := trodAll_nil r0
  obtain rfl : args = #[v0] := by cases args; simp_all
  obtain ⟨rfl, rfl⟩ := trodVars_none hV
  have k0 := h0
  have lt0 : ∀ x ∈ p0, x.block < W.heap.size := fun x hx => by have := hW'.lt x (by simp [hx]); simpa using this
  obtain ⟨a0, l0, c0, rfl, w0⟩ := open_row 12 [.int .i64, .int .u64, .int .u64, .int .i64] (by kernel_rfl) (by kernel_rfl) (by decide) Try.underlying22 (hval 0 22 v0 rfl rfl) h0
  clear h0
  clear hA0 hval0
  refine (walk W a0 l0 c0 w0).mono fun e W' ⟨he, bel⟩ => ?_
  subst he
  exact ⟨_, rfl, _, _, _, [], _, [], hW', trodAll_mk1 (shut_bool Try.underlying4 _), (trodAll_cons_mk (Below.trod (by kernel_rfl) (by kernel_rfl) (of_decide_eq_true (by kernel_rfl)) k0 bel lt0) trodAll_mk0), rfl, bel.frame _, fun h => by cases h⟩

theorem over : Rows.clintPlaysRow.holds Try.pinned (OpenSpec.ofChange Rows.clintPlaysSpec) :=
  OpenClaim.holds_of_wide 3 Try.f3 rfl rfl rfl rfl rfl rfl rfl ⟨rfl, rfl, rfl, rfl, rfl⟩ rfl rfl rfl rfl rfl (by kernel_rfl) Try.func3 (by kernel_rfl)
    (of_decide_eq_true (by kernel_rfl)) (by unfold Func.isWrapper; first | (rw [if_pos (by decide +kernel)]; kernel_rfl) | (rw [if_neg (by decide +kernel)]; exact ⟨rfl, rfl⟩))
    (fun os started H enc _ => lifted os started H enc)

theorem proved : Rows.ClintPlaysSaid :=
  over
#print axioms proved
end Go.Proofs.Ytmclkllmpamblaa.clintPlays
