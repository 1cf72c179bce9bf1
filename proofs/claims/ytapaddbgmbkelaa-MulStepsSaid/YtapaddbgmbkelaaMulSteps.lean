/- Proves that whatever is started, stepped, taken and dropped, in whatever order, up to 400 calls, a unit of package muldiv wants as many steps as the document says, and that what comes of them is the document's result, and that the first test of the law holds. Conditions: none. -/
import Derived.Test.YtapaddbgmbkelaaRows
import Derived.Test.YtapaddbgmbkelaaMulZ
import Derived.Test.YtapaddbgmbkelaaRow
import Derived.WalkKit
import Derived.ProofKit
import Derived.OpenShut
import Derived.Below
import Derived.Carry
import Derived.ShutString
namespace Go.Proofs.Ytapaddbgmbkelaa.mulSteps
open Go.ChangeShapes Go.WideShapes Go.ChangeAt Go.RowKit
set_option linter.unusedVariables false

theorem own : ownKnob Try.prog.godebug = none := by kernel_rfl

set_option maxRecDepth 100000 in
set_option maxHeartbeats 8000000 in
theorem walk (w : World) (a0 : Option Addr) (l0 c0 : Nat) (w0 : IsRow [.int .i64, .int .i64, .bool, .int .u64, .int .u64] w a0 l0) :
    Calls Try.prog 4 #[.slice a0 l0 c0] w fun e w' => e = .returned (.bool true) ∧ Below w.heap.size w w' := by
  obtain ⟨hlen, hrow⟩ := w0
  unfold maxLen at hlen
  go_enter Try.func4, Try.ntmps4
  go_wp2_with fail
  refine (new_unit _).mono ?_
  rintro e w1 ⟨rfl, k1, h1⟩
  go_wp2_with fail
  refine (awake5_yes _).mono ?_
  rintro e w2 ⟨rfl, h2⟩
  have hU := Lib.hid (k1.on h2)
  have HB : Hid (Below w.heap.size w w2) := Lib.hid (h1.trans h2)
  clear k1 h1 h2
  go_wp2_with fail
  have hI : Hid (Inv w (w2.alloc (.cells #[.int .i64 0, .int .i64 0, .bool false, .int .u64 0, .int .u64 0] 30)) w.heap.size w2.heap.size 0 false) := Lib.hid (.idle 0 0 false 0 0 (hU.out.on ((On.refl _).alloc _)) (blk_new _ _) (On.trans HB.out ((On.refl _).alloc _)))
  have hlt : w.heap.size < w2.heap.size := hU.out.lt
  have HROW := Lib.hid hrow
  clear hU HB hrow
  generalize w2.heap.size = C at *
  go_loopw [5, 6, 7] (fun l d i wr => ∃ (k : Nat) (lf : Int) (dn : Bool), k ≤ l0 ∧ i = .int .i64 k ∧ l = .int .i64 lf ∧ d = .bool dn ∧ Hid (Inv w wr w.heap.size C lf dn)) (fun _ _ i _ => l0 - (intOf i).toNat)
  case atStart => exact ⟨0, 0, false, by omega, rfl, rfl, rfl, hI⟩
  case round =>
    clear hI
    obtain ⟨k, lf, dn, hk, rfl, rfl, rfl, hI⟩ := hrel
    by_cases hkl : k < l0
    · by_cases h400 : k < 400
      · rcases HROW.out with h0 | ⟨bl, off, rfl, hbl, hcs⟩
        · omega
        · obtain ⟨cs, hfit, hcell⟩ := hcs k hkl
          obtain ⟨kd, cs, rfl, wkd, hfit⟩ := hfit
          obtain ⟨fn, cs, rfl, wfn, hfit⟩ := hfit
          obtain ⟨wd, cs, rfl, hfit⟩ := hfit
          obtain ⟨av, cs, rfl, wa, hfit⟩ := hfit
          obtain ⟨bv, cs, rfl, wb, hfit⟩ := hfit
          obtain rfl : cs = [] := hfit
          obtain ⟨a, rfl⟩ := u_of wa
          obtain ⟨b, rfl⟩ := u_of wb
          have hBel := hI.out.below
          have e0 : wr.cell? ⟨bl, off + k * 5, none⟩ = some (.int .i64 kd) := (hBel.cell (p := ⟨bl, _, none⟩) hbl).trans (hcell 0 (by decide))
          have e1 : wr.cell? ⟨bl, off + k * 5 + 1, none⟩ = some (.int .i64 fn) := (hBel.cell (p := ⟨bl, _, none⟩) hbl).trans (hcell 1 (by decide))
          have e2 : wr.cell? ⟨bl, off + k * 5 + 2, none⟩ = some (.bool wd) := (hBel.cell (p := ⟨bl, _, none⟩) hbl).trans (hcell 2 (by decide))
          have e3 : wr.cell? ⟨bl, off + k * 5 + 3, none⟩ = some (.int .u64 (u a)) := (hBel.cell (p := ⟨bl, _, none⟩) hbl).trans (hcell 3 (by decide))
          have e4 : wr.cell? ⟨bl, off + k * 5 + 4, none⟩ = some (.int .u64 (u b)) := (hBel.cell (p := ⟨bl, _, none⟩) hbl).trans (hcell 4 (by decide))
          clear hcell hcs wkd wfn wa wb hBel
          by_cases q1 : kd = 1
          · subst q1
            rcases hI.out with ⟨k', f', wd', a', b', hu, ha, hbel⟩ | ⟨k', f', wd', a', b', n, hu, ha, hbel, hn1, hn2⟩ | ⟨k', f', wd', a', b', hu, ha, hbel⟩
            all_goals clear hI
            · cases hd : dfd fn wd
              · have GU : Hid (UAt w.heap.size .idle (wr.alloc (.cells #[.int .i64 1, .int .i64 fn, .bool wd, .int .u64 (u a), .int .u64 (u b)] 30))) := Lib.hid (hu.on ((On.refl wr).alloc _))
                have GA : Hid (AtOp C k' f' wd' a' b' (wr.alloc (.cells #[.int .i64 1, .int .i64 fn, .bool wd, .int .u64 (u a), .int .u64 (u b)] 30))) := Lib.hid (ha.on ((On.refl wr).alloc _))
                have GO : Hid (AtOp wr.heap.size 1 fn wd a b (wr.alloc (.cells #[.int .i64 1, .int .i64 fn, .bool wd, .int .u64 (u a), .int .u64 (u b)] 30))) := Lib.hid (blk_new wr _)
                have GB : Hid (Below w.heap.size w (wr.alloc (.cells #[.int .i64 1, .int .i64 fn, .bool wd, .int .u64 (u a), .int .u64 (u b)] 30))) := Lib.hid (hbel.alloc (by have := hu.lt; omega) _)
                have hne1 : wr.heap.size ≠ C := by have h := lt_of_block ha; omega
                have hne2 : wr.heap.size ≠ w.heap.size := by have := hu.lt; omega
                have H12 := Lib.hid (And.intro hne1 hne2)
                have HLT := Lib.hid hlt
                clear hu ha hbel hne1 hne2 hlt
                have t1 : (rst fn wd a b == 0) = true := by rw [rst_no hd]; rfl
                have HD := Lib.hid hd
                clear hd
                go_wp2_with fail
                refine (rsteps_any _ _ _ _ _).mono ?_
                rintro e w6 ⟨rfl, rfl⟩
                clear e0 e1 e2 e3 e4
                generalize (wr.alloc (.cells #[.int .i64 1, .int .i64 fn, .bool wd, .int .u64 (u a), .int .u64 (u b)] 30)) = w5 at *
                have o1 := GO.out.c1
                have o2 := GO.out.c2
                have o3 := GO.out.c3
                have o4 := GO.out.c4
                go_wp2_with fail
                refine (start_arg _ _ _ HD.out _ _ _ GU.out).mono ?_
                rintro e w6 ⟨rfl, h6⟩
                clear o1 o2 o3 o4
                have GU := Lib.hid (GU.out.on h6)
                have GA := Lib.hid (GA.out.on h6)
                have GB : Hid (Below w.heap.size w w6) := Lib.hid (Below.trans GB.out (Below.mono h6 GB.out.size))
                clear h6
                go_wp2_with fail
                refine (left_at _ _ _ GU.out).mono ?_
                rintro e w7 ⟨rfl, rfl⟩
                rw [show (Un.left .idle) = 0 from rfl]
                go_wp2
                go_roundw
                case rel => exact ⟨k + 1, 0, false, by omega, by go_num, rfl, rfl, Lib.hid (.idle _ _ _ _ _ GU.out GA.out GB.out)⟩
                case measure => simp [intOf]; omega
              · have GU : Hid (UAt w.heap.size .idle (wr.alloc (.cells #[.int .i64 1, .int .i64 fn, .bool wd, .int .u64 (u a), .int .u64 (u b)] 30))) := Lib.hid (hu.on ((On.refl wr).alloc _))
                have GA : Hid (AtOp C k' f' wd' a' b' (wr.alloc (.cells #[.int .i64 1, .int .i64 fn, .bool wd, .int .u64 (u a), .int .u64 (u b)] 30))) := Lib.hid (ha.on ((On.refl wr).alloc _))
                have GO : Hid (AtOp wr.heap.size 1 fn wd a b (wr.alloc (.cells #[.int .i64 1, .int .i64 fn, .bool wd, .int .u64 (u a), .int .u64 (u b)] 30))) := Lib.hid (blk_new wr _)
                have GB : Hid (Below w.heap.size w (wr.alloc (.cells #[.int .i64 1, .int .i64 fn, .bool wd, .int .u64 (u a), .int .u64 (u b)] 30))) := Lib.hid (hbel.alloc (by have := hu.lt; omega) _)
                have hne1 : wr.heap.size ≠ C := by have h := lt_of_block ha; omega
                have hne2 : wr.heap.size ≠ w.heap.size := by have := hu.lt; omega
                have H12 := Lib.hid (And.intro hne1 hne2)
                have HLT := Lib.hid hlt
                clear hu ha hbel hne1 hne2 hlt
                have hst := stp_range fn wd (prp fn wd a) (prp fn wd b)
                have hrs := rst_yes hd a b
                obtain ⟨m, hm⟩ : ∃ m, stp fn wd (prp fn wd a) (prp fn wd b) = m := ⟨_, rfl⟩
                rw [hm] at hst hrs
                obtain ⟨hm1, hm2⟩ := hst
                have t1 : (m == 0) = false := by rw [beq_eq_false_iff_ne]; omega
                have HM := Lib.hid hm
                have HRS := Lib.hid hrs
                have HD := Lib.hid hd
                clear hd hm hrs
                go_wp2_with fail
                refine (rsteps_any _ _ _ _ _).mono ?_
                rw [HRS.out]
                rintro e w6 ⟨rfl, rfl⟩
                clear e0 e1 e2 e3 e4
                generalize (wr.alloc (.cells #[.int .i64 1, .int .i64 fn, .bool wd, .int .u64 (u a), .int .u64 (u b)] 30)) = w5 at *
                have o1 := GO.out.c1
                have o2 := GO.out.c2
                have o3 := GO.out.c3
                have o4 := GO.out.c4
                have o0 := GO.out.c0
                have p0 := GA.out.c0
                have p1 := GA.out.c1
                have p2 := GA.out.c2
                have p3 := GA.out.c3
                have p4 := GA.out.c4
                have pf := GA.out.free
                have GP : Hid (AtOp C 1 fn wd a b (put5 w5 C 1 fn wd a b)) := Lib.hid (GA.out.put 1 fn wd a b)
                have GQ : Hid (UAt w.heap.size .idle (put5 w5 C 1 fn wd a b)) := Lib.hid ((put5_far (by have := HLT.out; omega) _ _ _ _ _).trans GU.out)
                have GR : AtOp wr.heap.size 1 fn wd a b (put5 w5 C 1 fn wd a b) := (put5_far H12.out.1 _ _ _ _ _).trans GO.out
                have GS : Hid (Below w.heap.size w (put5 w5 C 1 fn wd a b)) := Lib.hid (But.below (B := C) GB.out (by have := HLT.out; omega) GB.out.size (put5_but _ _ _ _ _ _ _))
                have r1 := GR.c1
                have r2 := GR.c2
                have r3 := GR.c3
                have r4 := GR.c4
                clear GR
                unfold put5 at r1 r2 r3 r4
                go_wp2_with fail
                refine (start_ok _ _ _ HD.out _ _ _ GQ.out).mono ?_
                rw [HM.out]
                rintro e w6 ⟨rfl, k6, h6⟩
                clear o0 o1 o2 o3 o4 p0 p1 p2 p3 p4 pf r1 r2 r3 r4
                have GU := Lib.hid k6
                have GA := Lib.hid (GP.out.but h6 (by have := HLT.out; omega))
                have GB : Hid (Below w.heap.size w w6) := Lib.hid (But.below GS.out (Nat.le_refl _) GS.out.size h6)
                clear k6 h6 GP GQ GS GO
                go_wp2_with fail
                refine (left_at _ _ _ GU.out).mono ?_
                rintro e w7 ⟨rfl, rfl⟩
                rw [show (Un.left (.busy fn wd (prp fn wd a) (prp fn wd b) m)) = m from rfl]
                go_wp2
                go_roundw
                case rel => exact ⟨k + 1, m, false, by omega, by go_num, rfl, rfl, Lib.hid (.busy _ _ _ _ _ _ GU.out GA.out GB.out (by omega) (by omega))⟩
                case measure => simp [intOf]; omega
            · have GU : Hid (UAt w.heap.size (.busy f' wd' (prp f' wd' a') (prp f' wd' b') lf) (wr.alloc (.cells #[.int .i64 1, .int .i64 fn, .bool wd, .int .u64 (u a), .int .u64 (u b)] 30))) := Lib.hid (hu.on ((On.refl wr).alloc _))
              have GA : Hid (AtOp C k' f' wd' a' b' (wr.alloc (.cells #[.int .i64 1, .int .i64 fn, .bool wd, .int .u64 (u a), .int .u64 (u b)] 30))) := Lib.hid (ha.on ((On.refl wr).alloc _))
              have GO : Hid (AtOp wr.heap.size 1 fn wd a b (wr.alloc (.cells #[.int .i64 1, .int .i64 fn, .bool wd, .int .u64 (u a), .int .u64 (u b)] 30))) := Lib.hid (blk_new wr _)
              have GB : Hid (Below w.heap.size w (wr.alloc (.cells #[.int .i64 1, .int .i64 fn, .bool wd, .int .u64 (u a), .int .u64 (u b)] 30))) := Lib.hid (hbel.alloc (by have := hu.lt; omega) _)
              have hne1 : wr.heap.size ≠ C := by have h := lt_of_block ha; omega
              have hne2 : wr.heap.size ≠ w.heap.size := by have := hu.lt; omega
              have H12 := Lib.hid (And.intro hne1 hne2)
              have HLT := Lib.hid hlt
              clear hu ha hbel hne1 hne2 hlt
              have t0 : decide (0 < lf) = true := by simp; omega
              go_wp2_with fail
              refine (rsteps_any _ _ _ _ _).mono ?_
              rintro e w6 ⟨rfl, rfl⟩
              clear e0 e1 e2 e3 e4
              generalize (wr.alloc (.cells #[.int .i64 1, .int .i64 fn, .bool wd, .int .u64 (u a), .int .u64 (u b)] 30)) = w5 at *
              have o1 := GO.out.c1
              have o2 := GO.out.c2
              have o3 := GO.out.c3
              have o4 := GO.out.c4
              go_wp2_with fail
              refine (start_twice _ _ (by simp) _ _ _ _ _ GU.out).mono ?_
              rintro e w6 ⟨rfl, h6⟩
              clear o1 o2 o3 o4
              have GU := Lib.hid (GU.out.on h6)
              have GA := Lib.hid (GA.out.on h6)
              have GB : Hid (Below w.heap.size w w6) := Lib.hid (Below.trans GB.out (Below.mono h6 GB.out.size))
              clear h6
              go_wp2_with fail
              refine (left_at _ _ _ GU.out).mono ?_
              rintro e w7 ⟨rfl, rfl⟩
              rw [show (Un.left (.busy f' wd' (prp f' wd' a') (prp f' wd' b') lf)) = lf from rfl]
              go_wp2
              go_roundw
              case rel => exact ⟨k + 1, lf, false, by omega, by go_num, rfl, rfl, Lib.hid (.busy _ _ _ _ _ _ GU.out GA.out GB.out (by omega) (by omega))⟩
              case measure => simp [intOf]; omega
            · have GU : Hid (UAt w.heap.size (.fin (mres f' wd' a' b')) (wr.alloc (.cells #[.int .i64 1, .int .i64 fn, .bool wd, .int .u64 (u a), .int .u64 (u b)] 30))) := Lib.hid (hu.on ((On.refl wr).alloc _))
              have GA : Hid (AtOp C k' f' wd' a' b' (wr.alloc (.cells #[.int .i64 1, .int .i64 fn, .bool wd, .int .u64 (u a), .int .u64 (u b)] 30))) := Lib.hid (ha.on ((On.refl wr).alloc _))
              have GO : Hid (AtOp wr.heap.size 1 fn wd a b (wr.alloc (.cells #[.int .i64 1, .int .i64 fn, .bool wd, .int .u64 (u a), .int .u64 (u b)] 30))) := Lib.hid (blk_new wr _)
              have GB : Hid (Below w.heap.size w (wr.alloc (.cells #[.int .i64 1, .int .i64 fn, .bool wd, .int .u64 (u a), .int .u64 (u b)] 30))) := Lib.hid (hbel.alloc (by have := hu.lt; omega) _)
              have hne1 : wr.heap.size ≠ C := by have h := lt_of_block ha; omega
              have hne2 : wr.heap.size ≠ w.heap.size := by have := hu.lt; omega
              have H12 := Lib.hid (And.intro hne1 hne2)
              have HLT := Lib.hid hlt
              clear hu ha hbel hne1 hne2 hlt
              go_wp2_with fail
              refine (rsteps_any _ _ _ _ _).mono ?_
              rintro e w6 ⟨rfl, rfl⟩
              clear e0 e1 e2 e3 e4
              generalize (wr.alloc (.cells #[.int .i64 1, .int .i64 fn, .bool wd, .int .u64 (u a), .int .u64 (u b)] 30)) = w5 at *
              have o1 := GO.out.c1
              have o2 := GO.out.c2
              have o3 := GO.out.c3
              have o4 := GO.out.c4
              go_wp2_with fail
              refine (start_twice _ _ (by simp) _ _ _ _ _ GU.out).mono ?_
              rintro e w6 ⟨rfl, h6⟩
              clear o1 o2 o3 o4
              have GU := Lib.hid (GU.out.on h6)
              have GA := Lib.hid (GA.out.on h6)
              have GB : Hid (Below w.heap.size w w6) := Lib.hid (Below.trans GB.out (Below.mono h6 GB.out.size))
              clear h6
              go_wp2_with fail
              refine (left_at _ _ _ GU.out).mono ?_
              rintro e w7 ⟨rfl, rfl⟩
              rw [show (Un.left (.fin (mres f' wd' a' b'))) = 0 from rfl]
              go_wp2
              go_roundw
              case rel => exact ⟨k + 1, 0, true, by omega, by go_num, rfl, rfl, Lib.hid (.fin _ _ _ _ _ GU.out GA.out GB.out)⟩
              case measure => simp [intOf]; omega
          · by_cases q2 : kd = 2
            · subst q2
              clear q1
              rcases hI.out with ⟨k', f', wd', a', b', hu, ha, hbel⟩ | ⟨k', f', wd', a', b', n, hu, ha, hbel, hn1, hn2⟩ | ⟨k', f', wd', a', b', hu, ha, hbel⟩
              all_goals clear hI
              · have GU : Hid (UAt w.heap.size .idle (wr.alloc (.cells #[.int .i64 2, .int .i64 fn, .bool wd, .int .u64 (u a), .int .u64 (u b)] 30))) := Lib.hid (hu.on ((On.refl wr).alloc _))
                have GA : Hid (AtOp C k' f' wd' a' b' (wr.alloc (.cells #[.int .i64 2, .int .i64 fn, .bool wd, .int .u64 (u a), .int .u64 (u b)] 30))) := Lib.hid (ha.on ((On.refl wr).alloc _))
                have GO : Hid (AtOp wr.heap.size 2 fn wd a b (wr.alloc (.cells #[.int .i64 2, .int .i64 fn, .bool wd, .int .u64 (u a), .int .u64 (u b)] 30))) := Lib.hid (blk_new wr _)
                have GB : Hid (Below w.heap.size w (wr.alloc (.cells #[.int .i64 2, .int .i64 fn, .bool wd, .int .u64 (u a), .int .u64 (u b)] 30))) := Lib.hid (hbel.alloc (by have := hu.lt; omega) _)
                have hne1 : wr.heap.size ≠ C := by have h := lt_of_block ha; omega
                have hne2 : wr.heap.size ≠ w.heap.size := by have := hu.lt; omega
                have H12 := Lib.hid (And.intro hne1 hne2)
                have HLT := Lib.hid hlt
                clear hu ha hbel hne1 hne2 hlt
                go_wp2_with fail
                refine (take_no _ _ GU.out.idle2).mono ?_
                rintro e w6 ⟨rfl, rfl⟩
                clear e0 e1 e2 e3 e4
                generalize (wr.alloc (.cells #[.int .i64 2, .int .i64 fn, .bool wd, .int .u64 (u a), .int .u64 (u b)] 30)) = w5 at *
                go_wp2_with fail
                refine (left_at _ _ _ GU.out).mono ?_
                rintro e w7 ⟨rfl, rfl⟩
                rw [show (Un.left .idle) = 0 from rfl]
                go_wp2
                go_roundw
                case rel => exact ⟨k + 1, 0, false, by omega, by go_num, rfl, rfl, Lib.hid (.idle _ _ _ _ _ GU.out GA.out GB.out)⟩
                case measure => simp [intOf]; omega
              · have GU : Hid (UAt w.heap.size (.busy f' wd' (prp f' wd' a') (prp f' wd' b') lf) (wr.alloc (.cells #[.int .i64 2, .int .i64 fn, .bool wd, .int .u64 (u a), .int .u64 (u b)] 30))) := Lib.hid (hu.on ((On.refl wr).alloc _))
                have GA : Hid (AtOp C k' f' wd' a' b' (wr.alloc (.cells #[.int .i64 2, .int .i64 fn, .bool wd, .int .u64 (u a), .int .u64 (u b)] 30))) := Lib.hid (ha.on ((On.refl wr).alloc _))
                have GO : Hid (AtOp wr.heap.size 2 fn wd a b (wr.alloc (.cells #[.int .i64 2, .int .i64 fn, .bool wd, .int .u64 (u a), .int .u64 (u b)] 30))) := Lib.hid (blk_new wr _)
                have GB : Hid (Below w.heap.size w (wr.alloc (.cells #[.int .i64 2, .int .i64 fn, .bool wd, .int .u64 (u a), .int .u64 (u b)] 30))) := Lib.hid (hbel.alloc (by have := hu.lt; omega) _)
                have hne1 : wr.heap.size ≠ C := by have h := lt_of_block ha; omega
                have hne2 : wr.heap.size ≠ w.heap.size := by have := hu.lt; omega
                have H12 := Lib.hid (And.intro hne1 hne2)
                have HLT := Lib.hid hlt
                clear hu ha hbel hne1 hne2 hlt
                go_wp2_with fail
                refine (take_no _ _ GU.out.busy2).mono ?_
                rintro e w6 ⟨rfl, rfl⟩
                clear e0 e1 e2 e3 e4
                generalize (wr.alloc (.cells #[.int .i64 2, .int .i64 fn, .bool wd, .int .u64 (u a), .int .u64 (u b)] 30)) = w5 at *
                go_wp2_with fail
                refine (left_at _ _ _ GU.out).mono ?_
                rintro e w7 ⟨rfl, rfl⟩
                rw [show (Un.left (.busy f' wd' (prp f' wd' a') (prp f' wd' b') lf)) = lf from rfl]
                go_wp2
                go_roundw
                case rel => exact ⟨k + 1, lf, false, by omega, by go_num, rfl, rfl, Lib.hid (.busy _ _ _ _ _ _ GU.out GA.out GB.out (by omega) (by omega))⟩
                case measure => simp [intOf]; omega
              · have GU : Hid (UAt w.heap.size (.fin (mres f' wd' a' b')) (wr.alloc (.cells #[.int .i64 2, .int .i64 fn, .bool wd, .int .u64 (u a), .int .u64 (u b)] 30))) := Lib.hid (hu.on ((On.refl wr).alloc _))
                have GA : Hid (AtOp C k' f' wd' a' b' (wr.alloc (.cells #[.int .i64 2, .int .i64 fn, .bool wd, .int .u64 (u a), .int .u64 (u b)] 30))) := Lib.hid (ha.on ((On.refl wr).alloc _))
                have GO : Hid (AtOp wr.heap.size 2 fn wd a b (wr.alloc (.cells #[.int .i64 2, .int .i64 fn, .bool wd, .int .u64 (u a), .int .u64 (u b)] 30))) := Lib.hid (blk_new wr _)
                have GB : Hid (Below w.heap.size w (wr.alloc (.cells #[.int .i64 2, .int .i64 fn, .bool wd, .int .u64 (u a), .int .u64 (u b)] 30))) := Lib.hid (hbel.alloc (by have := hu.lt; omega) _)
                have hne1 : wr.heap.size ≠ C := by have h := lt_of_block ha; omega
                have hne2 : wr.heap.size ≠ w.heap.size := by have := hu.lt; omega
                have H12 := Lib.hid (And.intro hne1 hne2)
                have HLT := Lib.hid hlt
                clear hu ha hbel hne1 hne2 hlt
                go_wp2_with fail
                refine (take_fin _ _ _ GU.out).mono ?_
                rintro e w6 ⟨rfl, k6, h6⟩
                clear e0 e1 e2 e3 e4
                generalize (wr.alloc (.cells #[.int .i64 2, .int .i64 fn, .bool wd, .int .u64 (u a), .int .u64 (u b)] 30)) = w5 at *
                have GU := Lib.hid k6
                have GA := Lib.hid (GA.out.but h6 (by have := HLT.out; omega))
                have GB : Hid (Below w.heap.size w w6) := Lib.hid (But.below GB.out (Nat.le_refl _) GB.out.size h6)
                clear k6 h6
                have p1 := GA.out.c1
                have p2 := GA.out.c2
                have p3 := GA.out.c3
                have p4 := GA.out.c4
                go_wp2_with fail
                refine (rresult_any _ _ _ _ _).mono ?_
                rintro e w7 ⟨rfl, h6⟩
                clear p1 p2 p3 p4
                have GU := Lib.hid (GU.out.on h6)
                have GA := Lib.hid (GA.out.on h6)
                have GB : Hid (Below w.heap.size w w7) := Lib.hid (Below.trans GB.out (Below.mono h6 GB.out.size))
                clear h6
                have t3 : (u (mres f' wd' a' b') != u (mres f' wd' a' b')) = false := by simp
                go_wp2_with fail
                refine (left_at _ _ _ GU.out).mono ?_
                rintro e w8 ⟨rfl, rfl⟩
                rw [show (Un.left .idle) = 0 from rfl]
                go_wp2
                go_roundw
                case rel => exact ⟨k + 1, 0, false, by omega, by go_num, rfl, rfl, Lib.hid (.idle _ _ _ _ _ GU.out GA.out GB.out)⟩
                case measure => simp [intOf]; omega
            · by_cases q3 : kd = 3
              · subst q3
                clear q1 q2
                rcases hI.out with ⟨k', f', wd', a', b', hu, ha, hbel⟩ | ⟨k', f', wd', a', b', n, hu, ha, hbel, hn1, hn2⟩ | ⟨k', f', wd', a', b', hu, ha, hbel⟩
                all_goals clear hI
                · have GU : Hid (UAt w.heap.size .idle (wr.alloc (.cells #[.int .i64 3, .int .i64 fn, .bool wd, .int .u64 (u a), .int .u64 (u b)] 30))) := Lib.hid (hu.on ((On.refl wr).alloc _))
                  have GA : Hid (AtOp C k' f' wd' a' b' (wr.alloc (.cells #[.int .i64 3, .int .i64 fn, .bool wd, .int .u64 (u a), .int .u64 (u b)] 30))) := Lib.hid (ha.on ((On.refl wr).alloc _))
                  have GO : Hid (AtOp wr.heap.size 3 fn wd a b (wr.alloc (.cells #[.int .i64 3, .int .i64 fn, .bool wd, .int .u64 (u a), .int .u64 (u b)] 30))) := Lib.hid (blk_new wr _)
                  have GB : Hid (Below w.heap.size w (wr.alloc (.cells #[.int .i64 3, .int .i64 fn, .bool wd, .int .u64 (u a), .int .u64 (u b)] 30))) := Lib.hid (hbel.alloc (by have := hu.lt; omega) _)
                  have hne1 : wr.heap.size ≠ C := by have h := lt_of_block ha; omega
                  have hne2 : wr.heap.size ≠ w.heap.size := by have := hu.lt; omega
                  have H12 := Lib.hid (And.intro hne1 hne2)
                  have HLT := Lib.hid hlt
                  clear hu ha hbel hne1 hne2 hlt
                  go_wp2_with fail
                  refine (drop_idle _ _ GU.out).mono ?_
                  rintro e w6 ⟨rfl, rfl⟩
                  clear e0 e1 e2 e3 e4
                  generalize (wr.alloc (.cells #[.int .i64 3, .int .i64 fn, .bool wd, .int .u64 (u a), .int .u64 (u b)] 30)) = w5 at *
                  go_wp2_with fail
                  refine (left_at _ _ _ GU.out).mono ?_
                  rintro e w7 ⟨rfl, rfl⟩
                  rw [show (Un.left .idle) = 0 from rfl]
                  go_wp2
                  go_roundw
                  case rel => exact ⟨k + 1, 0, false, by omega, by go_num, rfl, rfl, Lib.hid (.idle _ _ _ _ _ GU.out GA.out GB.out)⟩
                  case measure => simp [intOf]; omega
                · have GU : Hid (UAt w.heap.size (.busy f' wd' (prp f' wd' a') (prp f' wd' b') lf) (wr.alloc (.cells #[.int .i64 3, .int .i64 fn, .bool wd, .int .u64 (u a), .int .u64 (u b)] 30))) := Lib.hid (hu.on ((On.refl wr).alloc _))
                  have GA : Hid (AtOp C k' f' wd' a' b' (wr.alloc (.cells #[.int .i64 3, .int .i64 fn, .bool wd, .int .u64 (u a), .int .u64 (u b)] 30))) := Lib.hid (ha.on ((On.refl wr).alloc _))
                  have GO : Hid (AtOp wr.heap.size 3 fn wd a b (wr.alloc (.cells #[.int .i64 3, .int .i64 fn, .bool wd, .int .u64 (u a), .int .u64 (u b)] 30))) := Lib.hid (blk_new wr _)
                  have GB : Hid (Below w.heap.size w (wr.alloc (.cells #[.int .i64 3, .int .i64 fn, .bool wd, .int .u64 (u a), .int .u64 (u b)] 30))) := Lib.hid (hbel.alloc (by have := hu.lt; omega) _)
                  have hne1 : wr.heap.size ≠ C := by have h := lt_of_block ha; omega
                  have hne2 : wr.heap.size ≠ w.heap.size := by have := hu.lt; omega
                  have H12 := Lib.hid (And.intro hne1 hne2)
                  have HLT := Lib.hid hlt
                  clear hu ha hbel hne1 hne2 hlt
                  have t0 : decide (0 < lf) = true := by simp; omega
                  go_wp2_with fail
                  refine (drop_busy _ _ _ _ _ _ _ GU.out).mono ?_
                  rintro e w6 ⟨rfl, k6, h6⟩
                  clear e0 e1 e2 e3 e4
                  generalize (wr.alloc (.cells #[.int .i64 3, .int .i64 fn, .bool wd, .int .u64 (u a), .int .u64 (u b)] 30)) = w5 at *
                  have GU := Lib.hid k6
                  have GA := Lib.hid (GA.out.but h6 (by have := HLT.out; omega))
                  have GB : Hid (Below w.heap.size w w6) := Lib.hid (But.below GB.out (Nat.le_refl _) GB.out.size h6)
                  clear k6 h6
                  go_wp2_with fail
                  refine (left_at _ _ _ GU.out).mono ?_
                  rintro e w7 ⟨rfl, rfl⟩
                  rw [show (Un.left .idle) = 0 from rfl]
                  go_wp2
                  go_roundw
                  case rel => exact ⟨k + 1, 0, false, by omega, by go_num, rfl, rfl, Lib.hid (.idle _ _ _ _ _ GU.out GA.out GB.out)⟩
                  case measure => simp [intOf]; omega
                · have GU : Hid (UAt w.heap.size (.fin (mres f' wd' a' b')) (wr.alloc (.cells #[.int .i64 3, .int .i64 fn, .bool wd, .int .u64 (u a), .int .u64 (u b)] 30))) := Lib.hid (hu.on ((On.refl wr).alloc _))
                  have GA : Hid (AtOp C k' f' wd' a' b' (wr.alloc (.cells #[.int .i64 3, .int .i64 fn, .bool wd, .int .u64 (u a), .int .u64 (u b)] 30))) := Lib.hid (ha.on ((On.refl wr).alloc _))
                  have GO : Hid (AtOp wr.heap.size 3 fn wd a b (wr.alloc (.cells #[.int .i64 3, .int .i64 fn, .bool wd, .int .u64 (u a), .int .u64 (u b)] 30))) := Lib.hid (blk_new wr _)
                  have GB : Hid (Below w.heap.size w (wr.alloc (.cells #[.int .i64 3, .int .i64 fn, .bool wd, .int .u64 (u a), .int .u64 (u b)] 30))) := Lib.hid (hbel.alloc (by have := hu.lt; omega) _)
                  have hne1 : wr.heap.size ≠ C := by have h := lt_of_block ha; omega
                  have hne2 : wr.heap.size ≠ w.heap.size := by have := hu.lt; omega
                  have H12 := Lib.hid (And.intro hne1 hne2)
                  have HLT := Lib.hid hlt
                  clear hu ha hbel hne1 hne2 hlt
                  go_wp2_with fail
                  refine (drop_fin _ _ _ GU.out).mono ?_
                  rintro e w6 ⟨rfl, k6, h6⟩
                  clear e0 e1 e2 e3 e4
                  generalize (wr.alloc (.cells #[.int .i64 3, .int .i64 fn, .bool wd, .int .u64 (u a), .int .u64 (u b)] 30)) = w5 at *
                  have GU := Lib.hid k6
                  have GA := Lib.hid (GA.out.but h6 (by have := HLT.out; omega))
                  have GB : Hid (Below w.heap.size w w6) := Lib.hid (But.below GB.out (Nat.le_refl _) GB.out.size h6)
                  clear k6 h6
                  go_wp2_with fail
                  refine (left_at _ _ _ GU.out).mono ?_
                  rintro e w7 ⟨rfl, rfl⟩
                  rw [show (Un.left .idle) = 0 from rfl]
                  go_wp2
                  go_roundw
                  case rel => exact ⟨k + 1, 0, false, by omega, by go_num, rfl, rfl, Lib.hid (.idle _ _ _ _ _ GU.out GA.out GB.out)⟩
                  case measure => simp [intOf]; omega
              · have d1 : (kd == 1) = false := by simpa using q1
                have d2 : (kd == 2) = false := by simpa using q2
                have d3 : (kd == 3) = false := by simpa using q3
                clear q1 q2 q3
                rcases hI.out with ⟨k', f', wd', a', b', hu, ha, hbel⟩ | ⟨k', f', wd', a', b', n, hu, ha, hbel, hn1, hn2⟩ | ⟨k', f', wd', a', b', hu, ha, hbel⟩
                all_goals clear hI
                · have GU : Hid (UAt w.heap.size .idle (wr.alloc (.cells #[.int .i64 kd, .int .i64 fn, .bool wd, .int .u64 (u a), .int .u64 (u b)] 30))) := Lib.hid (hu.on ((On.refl wr).alloc _))
                  have GA : Hid (AtOp C k' f' wd' a' b' (wr.alloc (.cells #[.int .i64 kd, .int .i64 fn, .bool wd, .int .u64 (u a), .int .u64 (u b)] 30))) := Lib.hid (ha.on ((On.refl wr).alloc _))
                  have GO : Hid (AtOp wr.heap.size kd fn wd a b (wr.alloc (.cells #[.int .i64 kd, .int .i64 fn, .bool wd, .int .u64 (u a), .int .u64 (u b)] 30))) := Lib.hid (blk_new wr _)
                  have GB : Hid (Below w.heap.size w (wr.alloc (.cells #[.int .i64 kd, .int .i64 fn, .bool wd, .int .u64 (u a), .int .u64 (u b)] 30))) := Lib.hid (hbel.alloc (by have := hu.lt; omega) _)
                  have hne1 : wr.heap.size ≠ C := by have h := lt_of_block ha; omega
                  have hne2 : wr.heap.size ≠ w.heap.size := by have := hu.lt; omega
                  have H12 := Lib.hid (And.intro hne1 hne2)
                  have HLT := Lib.hid hlt
                  clear hu ha hbel hne1 hne2 hlt
                  go_wp2_with fail
                  refine (step_idle _ _ GU.out).mono ?_
                  rintro e w6 ⟨rfl, rfl⟩
                  clear e0 e1 e2 e3 e4
                  generalize (wr.alloc (.cells #[.int .i64 kd, .int .i64 fn, .bool wd, .int .u64 (u a), .int .u64 (u b)] 30)) = w5 at *
                  go_wp2_with fail
                  refine (left_at _ _ _ GU.out).mono ?_
                  rintro e w7 ⟨rfl, rfl⟩
                  rw [show (Un.left .idle) = 0 from rfl]
                  go_wp2
                  go_roundw
                  case rel => exact ⟨k + 1, 0, false, by omega, by go_num, rfl, rfl, Lib.hid (.idle _ _ _ _ _ GU.out GA.out GB.out)⟩
                  case measure => simp [intOf]; omega
                · by_cases h1n : 1 < lf
                  · have GU : Hid (UAt w.heap.size (.busy f' wd' (prp f' wd' a') (prp f' wd' b') lf) (wr.alloc (.cells #[.int .i64 kd, .int .i64 fn, .bool wd, .int .u64 (u a), .int .u64 (u b)] 30))) := Lib.hid (hu.on ((On.refl wr).alloc _))
                    have GA : Hid (AtOp C k' f' wd' a' b' (wr.alloc (.cells #[.int .i64 kd, .int .i64 fn, .bool wd, .int .u64 (u a), .int .u64 (u b)] 30))) := Lib.hid (ha.on ((On.refl wr).alloc _))
                    have GO : Hid (AtOp wr.heap.size kd fn wd a b (wr.alloc (.cells #[.int .i64 kd, .int .i64 fn, .bool wd, .int .u64 (u a), .int .u64 (u b)] 30))) := Lib.hid (blk_new wr _)
                    have GB : Hid (Below w.heap.size w (wr.alloc (.cells #[.int .i64 kd, .int .i64 fn, .bool wd, .int .u64 (u a), .int .u64 (u b)] 30))) := Lib.hid (hbel.alloc (by have := hu.lt; omega) _)
                    have hne1 : wr.heap.size ≠ C := by have h := lt_of_block ha; omega
                    have hne2 : wr.heap.size ≠ w.heap.size := by have := hu.lt; omega
                    have H12 := Lib.hid (And.intro hne1 hne2)
                    have HLT := Lib.hid hlt
                    clear hu ha hbel hne1 hne2 hlt
                    have t0 : decide (0 < lf) = true := by simp; omega
                    have t2 : (lf - 1 == 0) = false := by rw [beq_eq_false_iff_ne]; omega
                    go_wp2_with fail
                    refine (step_more _ _ _ _ _ _ h1n (by omega) _ GU.out).mono ?_
                    rintro e w6 ⟨rfl, k6, h6⟩
                    clear e0 e1 e2 e3 e4
                    generalize (wr.alloc (.cells #[.int .i64 kd, .int .i64 fn, .bool wd, .int .u64 (u a), .int .u64 (u b)] 30)) = w5 at *
                    have GU := Lib.hid k6
                    have GA := Lib.hid (GA.out.but h6 (by have := HLT.out; omega))
                    have GB : Hid (Below w.heap.size w w6) := Lib.hid (But.below GB.out (Nat.le_refl _) GB.out.size h6)
                    clear k6 h6
                    go_wp2_with fail
                    refine (left_at _ _ _ GU.out).mono ?_
                    rintro e w7 ⟨rfl, rfl⟩
                    rw [show (Un.left (.busy f' wd' (prp f' wd' a') (prp f' wd' b') (lf - 1))) = lf - 1 from rfl]
                    go_wp2
                    go_roundw
                    case rel => exact ⟨k + 1, lf - 1, false, by omega, by go_num, rfl, rfl, Lib.hid (.busy _ _ _ _ _ _ GU.out GA.out GB.out (by omega) (by omega))⟩
                    case measure => simp [intOf]; omega
                  · obtain rfl : lf = 1 := by omega
                    have GU : Hid (UAt w.heap.size (.busy f' wd' (prp f' wd' a') (prp f' wd' b') 1) (wr.alloc (.cells #[.int .i64 kd, .int .i64 fn, .bool wd, .int .u64 (u a), .int .u64 (u b)] 30))) := Lib.hid (hu.on ((On.refl wr).alloc _))
                    have GA : Hid (AtOp C k' f' wd' a' b' (wr.alloc (.cells #[.int .i64 kd, .int .i64 fn, .bool wd, .int .u64 (u a), .int .u64 (u b)] 30))) := Lib.hid (ha.on ((On.refl wr).alloc _))
                    have GO : Hid (AtOp wr.heap.size kd fn wd a b (wr.alloc (.cells #[.int .i64 kd, .int .i64 fn, .bool wd, .int .u64 (u a), .int .u64 (u b)] 30))) := Lib.hid (blk_new wr _)
                    have GB : Hid (Below w.heap.size w (wr.alloc (.cells #[.int .i64 kd, .int .i64 fn, .bool wd, .int .u64 (u a), .int .u64 (u b)] 30))) := Lib.hid (hbel.alloc (by have := hu.lt; omega) _)
                    have hne1 : wr.heap.size ≠ C := by have h := lt_of_block ha; omega
                    have hne2 : wr.heap.size ≠ w.heap.size := by have := hu.lt; omega
                    have H12 := Lib.hid (And.intro hne1 hne2)
                    have HLT := Lib.hid hlt
                    clear hu ha hbel hne1 hne2 hlt
                    go_wp2_with fail
                    refine (step_last _ _ _ _ _ _ GU.out).mono ?_
                    rw [tres_prp]
                    rintro e w6 ⟨rfl, k6, h6⟩
                    clear e0 e1 e2 e3 e4
                    generalize (wr.alloc (.cells #[.int .i64 kd, .int .i64 fn, .bool wd, .int .u64 (u a), .int .u64 (u b)] 30)) = w5 at *
                    have GU := Lib.hid k6
                    have GA := Lib.hid (GA.out.but h6 (by have := HLT.out; omega))
                    have GB : Hid (Below w.heap.size w w6) := Lib.hid (But.below GB.out (Nat.le_refl _) GB.out.size h6)
                    clear k6 h6
                    go_wp2_with fail
                    refine (left_at _ _ _ GU.out).mono ?_
                    rintro e w7 ⟨rfl, rfl⟩
                    rw [show (Un.left (.fin (mres f' wd' a' b'))) = 0 from rfl]
                    go_wp2
                    go_roundw
                    case rel => exact ⟨k + 1, 0, true, by omega, by go_num, rfl, rfl, Lib.hid (.fin _ _ _ _ _ GU.out GA.out GB.out)⟩
                    case measure => simp [intOf]; omega
                · have GU : Hid (UAt w.heap.size (.fin (mres f' wd' a' b')) (wr.alloc (.cells #[.int .i64 kd, .int .i64 fn, .bool wd, .int .u64 (u a), .int .u64 (u b)] 30))) := Lib.hid (hu.on ((On.refl wr).alloc _))
                  have GA : Hid (AtOp C k' f' wd' a' b' (wr.alloc (.cells #[.int .i64 kd, .int .i64 fn, .bool wd, .int .u64 (u a), .int .u64 (u b)] 30))) := Lib.hid (ha.on ((On.refl wr).alloc _))
                  have GO : Hid (AtOp wr.heap.size kd fn wd a b (wr.alloc (.cells #[.int .i64 kd, .int .i64 fn, .bool wd, .int .u64 (u a), .int .u64 (u b)] 30))) := Lib.hid (blk_new wr _)
                  have GB : Hid (Below w.heap.size w (wr.alloc (.cells #[.int .i64 kd, .int .i64 fn, .bool wd, .int .u64 (u a), .int .u64 (u b)] 30))) := Lib.hid (hbel.alloc (by have := hu.lt; omega) _)
                  have hne1 : wr.heap.size ≠ C := by have h := lt_of_block ha; omega
                  have hne2 : wr.heap.size ≠ w.heap.size := by have := hu.lt; omega
                  have H12 := Lib.hid (And.intro hne1 hne2)
                  have HLT := Lib.hid hlt
                  clear hu ha hbel hne1 hne2 hlt
                  go_wp2_with fail
                  refine (step_fin _ _ _ GU.out).mono ?_
                  rintro e w6 ⟨rfl, rfl⟩
                  clear e0 e1 e2 e3 e4
                  generalize (wr.alloc (.cells #[.int .i64 kd, .int .i64 fn, .bool wd, .int .u64 (u a), .int .u64 (u b)] 30)) = w5 at *
                  go_wp2_with fail
                  refine (left_at _ _ _ GU.out).mono ?_
                  rintro e w7 ⟨rfl, rfl⟩
                  rw [show (Un.left (.fin (mres f' wd' a' b'))) = 0 from rfl]
                  go_wp2
                  go_roundw
                  case rel => exact ⟨k + 1, 0, true, by omega, by go_num, rfl, rfl, Lib.hid (.fin _ _ _ _ _ GU.out GA.out GB.out)⟩
                  case measure => simp [intOf]; omega
      · go_wp2_with fail
        go_ret
        exact ⟨rfl, hI.out.below⟩
    · go_wp2_with fail
      go_ret
      exact ⟨rfl, hI.out.below⟩

set_option maxRecDepth 100000 in
theorem lifted (os : Os) (started : os.Started) (H : Type) (enc : TypeId × Value → H) :
    ReturnsInHanded {} Try.checked os 4 .any (Rows.mulStepsSpec.pre6 enc Try.prog Try.f4 Rows.mulStepsRow.domain false) (Rows.mulStepsSpec.post enc Try.prog Try.f4 false true false false) := by
  refine returnsInHanded_of_change (C := Try.checked) own started (by kernel_rfl) Try.func4
    (ChangeSpec.witness6 (enc := enc) (C := Try.checked) false ⟨#[], #[.slice none 0 0], []⟩ 12 (by kernel_rfl) (by kernel_rfl) (by kernel_rfl) (by kernel_rfl)) ?_
  intro W base args ds gs before hval0 hW hcnd _
  have hval : ∀ (j : Nat) t v, Try.f4.params[j]? = some t → args[j]? = some v → Value.okWide Try.prog W .any base t v := hval0
  have hW' := hW
  obtain ⟨p, q, hA0, hV, rfl, hfz, hnd⟩ := hW
  have hA : DataW.TrodAll enc Try.prog W 0 (fun _ => true) true Try.f4.params.toList args.toList ds p := hA0
  rw [Try.params4] at hA hval
  obtain ⟨v0, vs0, d0, ds0, p0, q0, hargs, rfl, rfl, h0, r0⟩ := trodAll_cons hA
  obtain ⟨rfl, rfl, rfl⟩ := trodAll_nil r0
  obtain rfl : args = #[v0] := by cases args; simp_all
  obtain ⟨rfl, rfl⟩ := trodVars_none hV
  have k0 := h0
  have lt0 : ∀ x ∈ p0, x.block < W.heap.size := fun x hx => by have := hW'.lt x (by simp [hx]); simpa using this
  obtain ⟨a0, l0, c0, rfl, w0⟩ := open_row 12 [.int .i64, .int .i64, .bool, .int .u64, .int .u64] (by kernel_rfl) (by kernel_rfl) (by decide) Try.underlying26 (hval 0 26 v0 rfl rfl) h0
  clear h0
  clear hA0 hval0
  refine (walk W a0 l0 c0 w0).mono fun e W' ⟨he, bel⟩ => ?_
  subst he
  exact ⟨_, rfl, _, _, _, [], _, [], hW', trodAll_mk1 (shut_bool Try.underlying4 _), (trodAll_cons_mk (Below.trod (by kernel_rfl) (by kernel_rfl) (of_decide_eq_true (by kernel_rfl)) k0 bel lt0) trodAll_mk0), rfl, bel.frame _, fun h => by cases h⟩

theorem over : Rows.mulStepsRow.holds Try.pinned (OpenSpec.ofChange Rows.mulStepsSpec) :=
  OpenClaim.holds_of_wide 4 Try.f4 rfl rfl rfl rfl rfl rfl rfl ⟨rfl, rfl, rfl, rfl, rfl⟩ rfl rfl rfl rfl rfl (by kernel_rfl) Try.func4 (by kernel_rfl)
    (of_decide_eq_true (by kernel_rfl)) (by unfold Func.isWrapper; first | (rw [if_pos (by decide +kernel)]; kernel_rfl) | (rw [if_neg (by decide +kernel)]; exact ⟨rfl, rfl⟩))
    (fun os started H enc _ => lifted os started H enc)

theorem proved : Rows.MulStepsSaid :=
  over
#print axioms proved
end Go.Proofs.Ytapaddbgmbkelaa.mulSteps
