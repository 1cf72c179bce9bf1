/- One call of the law on both memories: bytes written with a strobe. Conditions: named at each. -/
import Derived.Test.YtkjkmekkcnmjnaaRamWr
namespace Go.Proofs.Ytkjkmekkcnmjnaa
open Go.RowKit
set_option linter.unusedVariables false
set_option maxRecDepth 100000
theorem wp_call_ex {P : Program} {Q : Exit → Act → World → Prop} {o : Oper} {a : Act} {w : World} {K : Act → World → Prop} {f : FuncId} {xs : Array Operand} {ts : Array TypeId} {vs : Array Value} {R : Value → World → Prop} (ho : o.op = .call { callee := .value (.func f), args := xs, argTypes := ts }) (hx : xs.toList.map a.eval = vs.toList)
    (hc : (callFunc f vs).run P w = .ok (.enter f vs) w) (h : Calls P f vs w fun e w' => ∃ v, e = .returned v ∧ R v w') (hk : ∀ v w', R v w' → K (a.put o.dst v) w') : o.wp P a w K Q := by
  have hx : xs.map a.eval = vs := by rw [← Array.toList_inj, Array.toList_map]; exact hx
  unfold Oper.wp
  have : (execOp a.eval o).run P w = .ok (.enter f vs) w := by
    unfold execOp
    simp only [ho]
    rw [← hx]
    go_simp
  rw [this, Oper.upon_enter]
  refine h.mono ?_
  rintro e w' ⟨v, rfl, hr⟩
  exact hk v w' hr
/-- two copies being made, in either order -/
structure OwnsAt (wa : World) (zs : List Int) (bs : List Bool) (g : Nat × Nat) (l : Array Bool) (wr : World) : Prop where
  on : On wa wr
  c : l.getD 2 false = true → wa.heap.size ≤ g.1 ∧ OwnC g.1 zs wr
  d : l.getD 5 false = true → wa.heap.size ≤ g.2 ∧ OwnD g.2 bs wr
  o1 : l.getD 6 false = true → l.getD 2 false = true
  o2 : l.getD 7 false = true → l.getD 5 false = true
section
variable {wa wr wx : World} {zs : List Int} {bs : List Bool} {g : Nat × Nat} {l : Array Bool}
theorem OwnsAt.start (k : Nat) : OwnsAt wa zs bs g (Array.replicate k false) { wa with drawn := wa.drawn + 1 } :=
  ⟨(On.refl _).drewN 1, fun h => by (rw [getD_nope] at h; cases h), fun h => by (rw [getD_nope] at h; cases h), fun h => by (rw [getD_nope] at h; cases h), fun h => by (rw [getD_nope] at h; cases h)⟩
theorem OwnsAt.step (h : OwnsAt wa zs bs g l wr) (i : Nat) (h1 : i ≠ 2) (h2 : i ≠ 5) (h3 : i = 6 → l.getD 2 false = true) (h4 : i = 7 → l.getD 5 false = true) (k : On wr wx) : OwnsAt wa zs bs g (l.setIfInBounds i true) wx := by
  refine ⟨h.on.trans k, fun e => ?_, fun e => ?_, fun e => ?_, fun e => ?_⟩
  · rw [g_eq h1] at e; exact ⟨(h.c e).1, (h.c e).2.on k⟩
  · rw [g_eq h2] at e; exact ⟨(h.d e).1, (h.d e).2.on k⟩
  · rw [g_eq h1]
    by_cases e6 : i = 6
    · exact h3 e6
    · rw [g_eq e6] at e; exact h.o1 e
  · rw [g_eq h2]
    by_cases e7 : i = 7
    · exact h4 e7
    · rw [g_eq e7] at e; exact h.o2 e
theorem OwnsAt.put2 (h : OwnsAt wa zs bs g l wr) (hs : 2 < l.size) {g' : Nat} (hg : wr.heap.size ≤ g') (k : On wr wx) (hO : OwnC g' zs wx) : OwnsAt wa zs bs (g', g.2) (l.setIfInBounds 2 true) wx := by
  refine ⟨h.on.trans k, fun e => ⟨Nat.le_trans h.on.size hg, hO⟩, fun e => ?_, fun _ => g_self hs, fun e => ?_⟩
  · rw [g_eq (by omega)] at e; exact ⟨(h.d e).1, (h.d e).2.on k⟩
  · rw [g_eq (by omega)] at e; rw [g_eq (by omega)]; exact h.o2 e
theorem OwnsAt.put5 (h : OwnsAt wa zs bs g l wr) (hs : 5 < l.size) {g' : Nat} (hg : wr.heap.size ≤ g') (k : On wr wx) (hO : OwnD g' bs wx) : OwnsAt wa zs bs (g.1, g') (l.setIfInBounds 5 true) wx := by
  refine ⟨h.on.trans k, fun e => ?_, fun e => ⟨Nat.le_trans h.on.size hg, hO⟩, fun e => ?_, fun _ => g_self hs⟩
  · rw [g_eq (by omega)] at e; exact ⟨(h.c e).1, (h.c e).2.on k⟩
  · rw [g_eq (by omega)] at e; rw [g_eq (by omega)]; exact h.o1 e
end
section
variable {w0 w : World} {n r N m p : Nat} {M : Nat → Int} {L : List (Int × Int)} {zs : List Int} {bs : List Bool}
set_option maxHeartbeats 8000000 in
theorem step_some (HO : On w0 w) (hn : w0.heap.size ≤ n) (hm0 : w0.heap.size ≤ m) (hm : m ≤ w.heap.size) (R : RamAt n r N M w) (Q : RefAt m p N L w) (hRM : RefM N M L) (hL : L.length ≤ 900000) (nn : Int) (x : BitVec 64) (v : Int) (rw : Bool) (aB : Option Addr) (cB : Nat) (aS : Option Addr) (cS : Nat) (hB : RB w0 (.slice aB zs.length cB) zs) (hz : Byte zs) (hl : zs.length ≤ 200) (hBS : Bl.RB w0 (.slice aS bs.length cS) bs) (hls : bs.length ≤ 140737488351232) :
    Calls Try.prog 15 #[.pointer (some ⟨r, 0, none⟩), .pointer (some ⟨p, 0, none⟩), .agg #[.int .i64 1, .int .i64 nn, .int .u64 (u x), .bool rw, .slice aB zs.length cB, .slice aS bs.length cS, .int .u64 v]] w fun e w' =>
      e = .returned (.bool true) ∧ StepR w0 n r N m p L w' := by
  obtain ⟨aa, h1, h2⟩ := plA_ex rw x
  have K0 := Lib.hid (lplace_any 1 nn x aa rw (.slice aB zs.length cB) (.slice aS bs.length cS) v h1 h2 rfl rfl)
  have K1 := Lib.hid (fun wx (hq : On w0 wx) => own_c (RB.on0 hB hq) (by omega))
  have K2 := Lib.hid (fun wx (hq : On w0 wx) => own_d (Bl.RB.below hBS hq) hls)
  have HN := Lib.hid hn
  have HM := Lib.hid hm0
  have HB := Lib.hid hB
  have HBS := Lib.hid hBS
  have HZ := Lib.hid hz
  have HL := Lib.hid hl
  have HLS := Lib.hid hls
  have HQ : Hid (L.length + zs.length ≤ 1000000) := Lib.hid (by omega)
  have HE := Lib.hid (And.intro (hRM.se aa zs.length (fun i => zs.getD i 0) (fun i => decide (i < bs.length) && bs.getD i false)) hL)
  have c0 : ∀ wr, On (w.alloc (.cells #[.int .i64 1, .int .i64 nn, .int .u64 (u x), .bool rw, .slice aB zs.length cB, .slice aS bs.length cS, .int .u64 v] 35)) wr → wr.cell? ⟨w.heap.size, 0, none⟩ = some (.int .i64 1) := fun _ h => on_new h 0 rfl
  have c1 : ∀ wr, On (w.alloc (.cells #[.int .i64 1, .int .i64 nn, .int .u64 (u x), .bool rw, .slice aB zs.length cB, .slice aS bs.length cS, .int .u64 v] 35)) wr → wr.cell? ⟨w.heap.size, 1, none⟩ = some (.int .i64 nn) := fun _ h => on_new h 1 rfl
  have c2 : ∀ wr, On (w.alloc (.cells #[.int .i64 1, .int .i64 nn, .int .u64 (u x), .bool rw, .slice aB zs.length cB, .slice aS bs.length cS, .int .u64 v] 35)) wr → wr.cell? ⟨w.heap.size, 2, none⟩ = some (.int .u64 (u x)) := fun _ h => on_new h 2 rfl
  have c3 : ∀ wr, On (w.alloc (.cells #[.int .i64 1, .int .i64 nn, .int .u64 (u x), .bool rw, .slice aB zs.length cB, .slice aS bs.length cS, .int .u64 v] 35)) wr → wr.cell? ⟨w.heap.size, 3, none⟩ = some (.bool rw) := fun _ h => on_new h 3 rfl
  have c4 : ∀ wr, On (w.alloc (.cells #[.int .i64 1, .int .i64 nn, .int .u64 (u x), .bool rw, .slice aB zs.length cB, .slice aS bs.length cS, .int .u64 v] 35)) wr → wr.cell? ⟨w.heap.size, 4, none⟩ = some (.slice aB zs.length cB) := fun _ h => on_new h 4 rfl
  have c5 : ∀ wr, On (w.alloc (.cells #[.int .i64 1, .int .i64 nn, .int .u64 (u x), .bool rw, .slice aB zs.length cB, .slice aS bs.length cS, .int .u64 v] 35)) wr → wr.cell? ⟨w.heap.size, 5, none⟩ = some (.slice aS bs.length cS) := fun _ h => on_new h 5 rfl
  have c6 : ∀ wr, On (w.alloc (.cells #[.int .i64 1, .int .i64 nn, .int .u64 (u x), .bool rw, .slice aB zs.length cB, .slice aS bs.length cS, .int .u64 v] 35)) wr → wr.cell? ⟨w.heap.size, 6, none⟩ = some (.int .u64 v) := fun _ h => on_new h 6 rfl
  have hb := On.refl (w.alloc (.cells #[.int .i64 1, .int .i64 nn, .int .u64 (u x), .bool rw, .slice aB zs.length cB, .slice aS bs.length cS, .int .u64 v] 35))
  have hw1 := (On.refl w).alloc (.cells #[.int .i64 1, .int .i64 nn, .int .u64 (u x), .bool rw, .slice aB zs.length cB, .slice aS bs.length cS, .int .u64 v] 35)
  have HW := Lib.hid (HO.trans hw1)
  have HS := Lib.hid (fun wx (hq : On (w.alloc (.cells #[.int .i64 1, .int .i64 nn, .int .u64 (u x), .bool rw, .slice aB zs.length cB, .slice aS bs.length cS, .int .u64 v] 35)) wx) => BothAt.start (M' := (seM N M aa zs.length (fun i => zs.getD i 0) (fun i => decide (i < bs.length) && bs.getD i false))) (L' := (seL N L aa zs.length (fun i => zs.getD i 0) (fun i => decide (i < bs.length) && bs.getD i false))) (i := 4) (j := 11) 26 (HO.trans (hw1.trans hq)) (Nat.le_trans hm (hw1.trans hq).size) (hq.keep (blk_new w _)) (R.on (hw1.trans hq)) (Q.on (hw1.trans hq)))
  clear h1 h2 HO R Q hRM hL hw1 hn hm hm0 hB hz hl hBS hls
  go_enter Try.func15, Try.ntmps15
  go_wp2_with (first | (go_at_call 27; refine (K0.out _).mono ?_; rintro e wn ⟨rfl, hb'⟩; have hb := hb.trans hb'; clear hb'))
  have HV := Lib.hid (HW.out.trans hb)
  have HX := Lib.hid (fun wx (hq : On wn wx) => (hb.trans hq).keep (blk_new w (.cells #[.int .i64 1, .int .i64 nn, .int .u64 (u x), .bool rw, .slice aB zs.length cB, .slice aS bs.length cS, .int .u64 v] 35)))
  refine wp_region_slotsG (by kernel_rfl) (fun (gG : Nat × Nat) i => (#[.pointer (some ⟨w.heap.size, 4, none⟩), .slice aB zs.length cB, .slice (some ⟨gG.1, 0, none⟩) zs.length (zs.length + 3), .pointer (some ⟨w.heap.size, 5, none⟩), .slice aS bs.length cS, .slice (some ⟨gG.2, 0, none⟩) bs.length (bs.length + 3), .slice (some ⟨gG.1, 0, none⟩) zs.length (zs.length + 3), .slice (some ⟨gG.2, 0, none⟩) bs.length (bs.length + 3)] : Array Value).getD i undef) (fun gG l wr => OwnsAt wn zs bs gG l wr) (lex_of (by kernel_rfl)) (oneDst_of (by kernel_rfl)) (0, 0) (OwnsAt.start 8) ?done ?step
  case step =>
    intro i o hi hi13 gG l a wr hS hW hl haft
    have hi13 : i < 8 := hi13
    have h13 : i = 0 ∨ i = 1 ∨ i = 2 ∨ i = 3 ∨ i = 4 ∨ i = 5 ∨ i = 6 ∨ i = 7 := by omega
    rcases h13 with rfl | rfl | rfl | rfl | rfl | rfl | rfl | rfl
    · obtain rfl := Option.some.inj hi
      refine wpOp_of hi rfl ?_
      exact wp_field_at rfl (hS.old (by kernel_rfl)) (show _ = Result.ok (.pointer (some ⟨w.heap.size, 4, none⟩)) wr by go_simp) ⟨gG, hS.put (oneDst_of (by kernel_rfl)) hi (fun _ => rfl), hW.step 0 (by omega) (by omega) (by omega) (by omega) (On.refl _)⟩
    · obtain rfl := Option.some.inj hi
      refine wpOp_of hi rfl ?_
      exact wp_load_at rfl (hS.val (i := 0) rfl rfl (haft ⟨0, .data⟩ (by simp) rfl)) (show _ = Result.ok (.slice aB zs.length cB) wr by have hc := blk_cell (HX.out _ hW.on) 4 rfl; go_simp) ⟨gG, hS.put (oneDst_of (by kernel_rfl)) hi (fun _ => rfl), hW.step 1 (by omega) (by omega) (by omega) (by omega) (On.refl _)⟩
    · obtain rfl := Option.some.inj hi
      refine wpOp_of hi rfl ?_
      refine wp_call_ex (vs := #[.slice aB zs.length cB, .int .u8 71]) (R := fun v w' => ∃ g', wr.heap.size ≤ g' ∧ v = .slice (some ⟨g', 0, none⟩) zs.length (zs.length + 3) ∧ On wr w' ∧ OwnC g' zs w') rfl ?_ rfl ((K1.out _ (HV.out.trans hW.on)).mono ?_) ?_
      · show [a.eval (.tmp 30), .int .u8 71] = _
        rw [(hS.val (i := 1) rfl rfl (haft ⟨1, .data⟩ (by simp) rfl))]
        rfl
      · rintro e w' ⟨g', h1, rfl, h2, h3⟩; exact ⟨_, rfl, g', h1, rfl, h2, h3⟩
      · rintro v w' ⟨g', h1, rfl, h2, h3⟩
        refine ⟨(g', gG.2), (hS.swap (vals' := fun i => (#[.pointer (some ⟨w.heap.size, 4, none⟩), .slice aB zs.length cB, .slice (some ⟨(g', gG.2).1, 0, none⟩) zs.length (zs.length + 3), .pointer (some ⟨w.heap.size, 5, none⟩), .slice aS bs.length cS, .slice (some ⟨(g', gG.2).2, 0, none⟩) bs.length (bs.length + 3), .slice (some ⟨(g', gG.2).1, 0, none⟩) zs.length (zs.length + 3), .slice (some ⟨(g', gG.2).2, 0, none⟩) bs.length (bs.length + 3)] : Array Value).getD i undef) ?_).put (oneDst_of (by kernel_rfl)) hi (fun _ => rfl), hW.put2 (by rw [hS.size]; decide) h1 h2 h3⟩
        intro k hk
        match k, hk with
        | 0, hk => rfl
        | 1, hk => rfl
        | 2, hk => rw [g_not hl] at hk; cases hk
        | 3, hk => rfl
        | 4, hk => rfl
        | 5, hk => rfl
        | 6, hk => have := hW.o1 hk; rw [g_not hl] at this; cases this
        | 7, hk => rfl
        | _ + 8, _ => rfl
    · obtain rfl := Option.some.inj hi
      refine wpOp_of hi rfl ?_
      exact wp_field_at rfl (hS.old (by kernel_rfl)) (show _ = Result.ok (.pointer (some ⟨w.heap.size, 5, none⟩)) wr by go_simp) ⟨gG, hS.put (oneDst_of (by kernel_rfl)) hi (fun _ => rfl), hW.step 3 (by omega) (by omega) (by omega) (by omega) (On.refl _)⟩
    · obtain rfl := Option.some.inj hi
      refine wpOp_of hi rfl ?_
      exact wp_load_at rfl (hS.val (i := 3) rfl rfl (haft ⟨3, .data⟩ (by simp) rfl)) (show _ = Result.ok (.slice aS bs.length cS) wr by have hc := blk_cell (HX.out _ hW.on) 5 rfl; go_simp) ⟨gG, hS.put (oneDst_of (by kernel_rfl)) hi (fun _ => rfl), hW.step 4 (by omega) (by omega) (by omega) (by omega) (On.refl _)⟩
    · obtain rfl := Option.some.inj hi
      refine wpOp_of hi rfl ?_
      refine wp_call_ex (vs := #[.slice aS bs.length cS, .bool true]) (R := fun v w' => ∃ g', wr.heap.size ≤ g' ∧ v = .slice (some ⟨g', 0, none⟩) bs.length (bs.length + 3) ∧ On wr w' ∧ OwnD g' bs w') rfl ?_ rfl ((K2.out _ (HV.out.trans hW.on)).mono ?_) ?_
      · show [a.eval (.tmp 33), .bool true] = _
        rw [(hS.val (i := 4) rfl rfl (haft ⟨4, .data⟩ (by simp) rfl))]
        rfl
      · rintro e w' ⟨g', h1, rfl, h2, h3⟩; exact ⟨_, rfl, g', h1, rfl, h2, h3⟩
      · rintro v w' ⟨g', h1, rfl, h2, h3⟩
        refine ⟨(gG.1, g'), (hS.swap (vals' := fun i => (#[.pointer (some ⟨w.heap.size, 4, none⟩), .slice aB zs.length cB, .slice (some ⟨(gG.1, g').1, 0, none⟩) zs.length (zs.length + 3), .pointer (some ⟨w.heap.size, 5, none⟩), .slice aS bs.length cS, .slice (some ⟨(gG.1, g').2, 0, none⟩) bs.length (bs.length + 3), .slice (some ⟨(gG.1, g').1, 0, none⟩) zs.length (zs.length + 3), .slice (some ⟨(gG.1, g').2, 0, none⟩) bs.length (bs.length + 3)] : Array Value).getD i undef) ?_).put (oneDst_of (by kernel_rfl)) hi (fun _ => rfl), hW.put5 (by rw [hS.size]; decide) h1 h2 h3⟩
        intro k hk
        match k, hk with
        | 0, hk => rfl
        | 1, hk => rfl
        | 2, hk => rfl
        | 3, hk => rfl
        | 4, hk => rfl
        | 5, hk => rw [g_not hl] at hk; cases hk
        | 6, hk => rfl
        | 7, hk => have := hW.o2 hk; rw [g_not hl] at this; cases this
        | _ + 8, _ => rfl
    · obtain rfl := Option.some.inj hi
      refine wpOp_of hi rfl ?_
      exact wp_assign_at rfl (hS.val (i := 2) rfl rfl (haft ⟨2, .data⟩ (by simp) rfl)) ⟨gG, hS.put (oneDst_of (by kernel_rfl)) hi (fun _ => rfl), hW.step 6 (by omega) (by omega) (fun _ => haft ⟨2, .data⟩ (by simp) rfl) (by omega) (On.refl _)⟩
    · obtain rfl := Option.some.inj hi
      refine wpOp_of hi rfl ?_
      exact wp_assign_at rfl (hS.val (i := 5) rfl rfl (haft ⟨5, .data⟩ (by simp) rfl)) ⟨gG, hS.put (oneDst_of (by kernel_rfl)) hi (fun _ => rfl), hW.step 7 (by omega) (by omega) (by omega) (fun _ => haft ⟨5, .data⟩ (by simp) rfl) (On.refl _)⟩
  case done =>
    intro gG wr hW
    simp only [puts]
    go_simp
    have hy := HV.out.trans hW.on
    have hg := Lib.hid (Nat.le_trans (HV.out.size) (hW.c rfl).1)
    have hS0 : BothAt w0 w.heap.size #[.int .i64 1, .int .i64 nn, .int .u64 (u x), .bool rw, .slice aB zs.length cB, .slice aS bs.length cS, .int .u64 v] n r N m p M (seM N M aa zs.length (fun i => zs.getD i 0) (fun i => decide (i < bs.length) && bs.getD i false)) L (seL N L aa zs.length (fun i => zs.getD i 0) (fun i => decide (i < bs.length) && bs.getD i false)) 4 11 (Array.replicate 26 false) _ ∧ OwnC gG.1 zs _ ∧ OwnD gG.2 bs _ := ⟨HS.out _ (hb.trans hW.on), (hW.c rfl).2.on ((On.refl wr).drewN 1), (hW.d rfl).2.on ((On.refl wr).drewN 1)⟩
    clear hW hy
    go_wp2_with fail
    refine wp_region_slots (by kernel_rfl) (fun i => (#[.pointer (some ⟨r, 0, none⟩), .int .u64 (u aa), .slice (some ⟨gG.1, 0, none⟩) zs.length (zs.length + 3), .slice (some ⟨gG.2, 0, none⟩) bs.length (bs.length + 3), .int .i64 (seE N aa zs.length), .pointer (some ⟨p, 0, none⟩), .int .u64 (u aa), .pointer (some ⟨w.heap.size, 4, none⟩), .slice aB zs.length cB, .pointer (some ⟨w.heap.size, 5, none⟩), .slice aS bs.length cS, .int .i64 (seE N aa zs.length), .bool true, .bool true, .slice (some ⟨gG.1, 0, none⟩) zs.length (zs.length + 3), .pointer (some ⟨w.heap.size, 4, none⟩), .slice aB zs.length cB, .bool true, .bool true, .bool true, .slice (some ⟨gG.2, 0, none⟩) bs.length (bs.length + 3), .pointer (some ⟨w.heap.size, 5, none⟩), .slice aS bs.length cS, .bool true, .bool true, .bool true] : Array Value).getD i undef) (fun l wr => BothAt w0 w.heap.size #[.int .i64 1, .int .i64 nn, .int .u64 (u x), .bool rw, .slice aB zs.length cB, .slice aS bs.length cS, .int .u64 v] n r N m p M (seM N M aa zs.length (fun i => zs.getD i 0) (fun i => decide (i < bs.length) && bs.getD i false)) L (seL N L aa zs.length (fun i => zs.getD i 0) (fun i => decide (i < bs.length) && bs.getD i false)) 4 11 l wr ∧ OwnC gG.1 zs wr ∧ OwnD gG.2 bs wr) (lex_of (by kernel_rfl)) (oneDst_of (by kernel_rfl)) hS0 ?done ?step
    case step =>
      intro i o hi hi13 l a wr hS hW hl haft
      have hi13 : i < 26 := hi13
      have h13 : i = 0 ∨ i = 1 ∨ i = 2 ∨ i = 3 ∨ i = 4 ∨ i = 5 ∨ i = 6 ∨ i = 7 ∨ i = 8 ∨ i = 9 ∨ i = 10 ∨ i = 11 ∨ i = 12 ∨ i = 13 ∨ i = 14 ∨ i = 15 ∨ i = 16 ∨ i = 17 ∨ i = 18 ∨ i = 19 ∨ i = 20 ∨ i = 21 ∨ i = 22 ∨ i = 23 ∨ i = 24 ∨ i = 25 := by omega
      rcases h13 with rfl | rfl | rfl | rfl | rfl | rfl | rfl | rfl | rfl | rfl | rfl | rfl | rfl | rfl | rfl | rfl | rfl | rfl | rfl | rfl | rfl | rfl | rfl | rfl | rfl | rfl
      · obtain rfl := Option.some.inj hi
        refine wpOp_of hi rfl ?_
        exact wp_move_at rfl (hS.old (by kernel_rfl)) ⟨hS.put (oneDst_of (by kernel_rfl)) hi (fun _ => rfl), ⟨hW.1.step 0 (by omega) (by omega) (On.refl _), hW.2⟩⟩
      · obtain rfl := Option.some.inj hi
        refine wpOp_of hi rfl ?_
        exact wp_move_at rfl (hS.old (by kernel_rfl)) ⟨hS.put (oneDst_of (by kernel_rfl)) hi (fun _ => rfl), ⟨hW.1.step 1 (by omega) (by omega) (On.refl _), hW.2⟩⟩
      · obtain rfl := Option.some.inj hi
        refine wpOp_of hi rfl ?_
        exact wp_move_at rfl (hS.old (by kernel_rfl)) ⟨hS.put (oneDst_of (by kernel_rfl)) hi (fun _ => rfl), ⟨hW.1.step 2 (by omega) (by omega) (On.refl _), hW.2⟩⟩
      · obtain rfl := Option.some.inj hi
        refine wpOp_of hi rfl ?_
        exact wp_move_at rfl (hS.old (by kernel_rfl)) ⟨hS.put (oneDst_of (by kernel_rfl)) hi (fun _ => rfl), ⟨hW.1.step 3 (by omega) (by omega) (On.refl _), hW.2⟩⟩
      · obtain rfl := Option.some.inj hi
        refine wpOp_of hi rfl ?_
        refine wp_call_at (vs := #[.pointer (some ⟨r, 0, none⟩), .int .u64 (u aa), .slice (some ⟨gG.1, 0, none⟩) zs.length (zs.length + 3), .slice (some ⟨gG.2, 0, none⟩) bs.length (bs.length + 3)]) rfl ?_ rfl (ramsome_c (hW.1.ram0 hl) HZ.out aa (hW.2.1.src (by have := HL.out; omega)) (hW.2.2.src HLS.out) (by have := HL.out; omega)) (fun w' h' => ⟨hS.put (oneDst_of (by kernel_rfl)) hi (fun _ => rfl), ⟨hW.1.rams (by rw [hS.size]; decide) (by omega) HN.out h', hW.2.1.kp h'.1, hW.2.2.kp h'.1⟩⟩)
        show [a.eval (.tmp 35), a.eval (.tmp 36), a.eval (.tmp 37), a.eval (.tmp 38)] = _
        rw [(hS.val (i := 0) rfl rfl (haft ⟨0, .data⟩ (by simp) rfl))]
        rw [(hS.val (i := 1) rfl rfl (haft ⟨1, .data⟩ (by simp) rfl))]
        rw [(hS.val (i := 2) rfl rfl (haft ⟨2, .data⟩ (by simp) rfl))]
        rw [(hS.val (i := 3) rfl rfl (haft ⟨3, .data⟩ (by simp) rfl))]
        rfl
      · obtain rfl := Option.some.inj hi
        refine wpOp_of hi rfl ?_
        exact wp_move_at rfl (hS.old (by kernel_rfl)) ⟨hS.put (oneDst_of (by kernel_rfl)) hi (fun _ => rfl), ⟨hW.1.step 5 (by omega) (by omega) (On.refl _), hW.2⟩⟩
      · obtain rfl := Option.some.inj hi
        refine wpOp_of hi rfl ?_
        exact wp_move_at rfl (hS.old (by kernel_rfl)) ⟨hS.put (oneDst_of (by kernel_rfl)) hi (fun _ => rfl), ⟨hW.1.step 6 (by omega) (by omega) (On.refl _), hW.2⟩⟩
      · obtain rfl := Option.some.inj hi
        refine wpOp_of hi rfl ?_
        exact wp_field_at rfl (hS.old (by kernel_rfl)) (show _ = Result.ok (.pointer (some ⟨w.heap.size, 4, none⟩)) wr by go_simp) ⟨hS.put (oneDst_of (by kernel_rfl)) hi (fun _ => rfl), ⟨hW.1.step 7 (by omega) (by omega) (On.refl _), hW.2⟩⟩
      · obtain rfl := Option.some.inj hi
        refine wpOp_of hi rfl ?_
        exact wp_load_at rfl (hS.val (i := 7) rfl rfl (haft ⟨7, .data⟩ (by simp) rfl)) (show _ = Result.ok (.slice aB zs.length cB) wr by have hc := blk_cell hW.1.box 4 rfl; go_simp) ⟨hS.put (oneDst_of (by kernel_rfl)) hi (fun _ => rfl), ⟨hW.1.step 8 (by omega) (by omega) (On.refl _), hW.2⟩⟩
      · obtain rfl := Option.some.inj hi
        refine wpOp_of hi rfl ?_
        exact wp_field_at rfl (hS.old (by kernel_rfl)) (show _ = Result.ok (.pointer (some ⟨w.heap.size, 5, none⟩)) wr by go_simp) ⟨hS.put (oneDst_of (by kernel_rfl)) hi (fun _ => rfl), ⟨hW.1.step 9 (by omega) (by omega) (On.refl _), hW.2⟩⟩
      · obtain rfl := Option.some.inj hi
        refine wpOp_of hi rfl ?_
        exact wp_load_at rfl (hS.val (i := 9) rfl rfl (haft ⟨9, .data⟩ (by simp) rfl)) (show _ = Result.ok (.slice aS bs.length cS) wr by have hc := blk_cell hW.1.box 5 rfl; go_simp) ⟨hS.put (oneDst_of (by kernel_rfl)) hi (fun _ => rfl), ⟨hW.1.step 10 (by omega) (by omega) (On.refl _), hW.2⟩⟩
      · obtain rfl := Option.some.inj hi
        refine wpOp_of hi rfl ?_
        refine wp_call_at (vs := #[.pointer (some ⟨p, 0, none⟩), .int .u64 (u aa), .slice aB zs.length cB, .slice aS bs.length cS, .bool false]) rfl ?_ rfl (refsome_c (hW.1.ref0 hl) hW.1.size HQ.out aa (RB.srcR HB.out hW.1.on HM.out) (RB.srcRB HBS.out hW.1.on HM.out)) (fun w' h' => ⟨hS.put (oneDst_of (by kernel_rfl)) hi (fun _ => rfl), ⟨hW.1.refs (by rw [hS.size]; decide) (by omega) HM.out h', hW.2.1.kr h'.1, hW.2.2.kr h'.1⟩⟩)
        show [a.eval (.tmp 40), a.eval (.tmp 41), a.eval (.tmp 43), a.eval (.tmp 45), .bool false] = _
        rw [(hS.val (i := 5) rfl rfl (haft ⟨5, .data⟩ (by simp) rfl))]
        rw [(hS.val (i := 6) rfl rfl (haft ⟨6, .data⟩ (by simp) rfl))]
        rw [(hS.val (i := 8) rfl rfl (haft ⟨8, .data⟩ (by simp) rfl))]
        rw [(hS.val (i := 10) rfl rfl (haft ⟨10, .data⟩ (by simp) rfl))]
        rfl
      · obtain rfl := Option.some.inj hi
        refine wpOp_of hi rfl ?_
        exact wp_bin_at rfl (hS.val (i := 4) rfl rfl (haft ⟨4, .data⟩ (by simp) rfl)) (hS.val (i := 11) rfl rfl (haft ⟨11, .data⟩ (by simp) rfl)) rfl (show _ = Result.ok (Value.bool true) wr by go_simp) ⟨hS.put (oneDst_of (by kernel_rfl)) hi (fun _ => rfl), ⟨hW.1.step 12 (by omega) (by omega) (On.refl _), hW.2⟩⟩
      · obtain rfl := Option.some.inj hi
        refine wpOp_of hi rfl ?_
        exact wp_move_at rfl (hS.val (i := 12) rfl rfl (haft ⟨12, .data⟩ (by simp) rfl)) ⟨hS.put (oneDst_of (by kernel_rfl)) hi (fun _ => rfl), ⟨hW.1.step 13 (by omega) (by omega) (On.refl _), hW.2⟩⟩
      · obtain rfl := Option.some.inj hi
        refine wpOp_if hi (wanted_of rfl rfl rfl ((hS.val (i := 13) rfl rfl (haft ⟨13, .guard⟩ (by simp) rfl)))) ?_
        exact wp_move_at rfl (hS.old (by kernel_rfl)) ⟨hS.put (oneDst_of (by kernel_rfl)) hi (fun _ => rfl), ⟨hW.1.step 14 (by omega) (by omega) (On.refl _), hW.2⟩⟩
      · obtain rfl := Option.some.inj hi
        refine wpOp_if hi (wanted_of rfl rfl rfl ((hS.val (i := 13) rfl rfl (haft ⟨13, .guard⟩ (by simp) rfl)))) ?_
        exact wp_field_at rfl (hS.old (by kernel_rfl)) (show _ = Result.ok (.pointer (some ⟨w.heap.size, 4, none⟩)) wr by go_simp) ⟨hS.put (oneDst_of (by kernel_rfl)) hi (fun _ => rfl), ⟨hW.1.step 15 (by omega) (by omega) (On.refl _), hW.2⟩⟩
      · obtain rfl := Option.some.inj hi
        refine wpOp_if hi (wanted_of rfl rfl rfl ((hS.val (i := 13) rfl rfl (haft ⟨13, .guard⟩ (by simp) rfl)))) ?_
        exact wp_load_at rfl (hS.val (i := 15) rfl rfl (haft ⟨15, .data⟩ (by simp) rfl)) (show _ = Result.ok (.slice aB zs.length cB) wr by have hc := blk_cell hW.1.box 4 rfl; go_simp) ⟨hS.put (oneDst_of (by kernel_rfl)) hi (fun _ => rfl), ⟨hW.1.step 16 (by omega) (by omega) (On.refl _), hW.2⟩⟩
      · obtain rfl := Option.some.inj hi
        refine wpOp_if hi (wanted_of rfl rfl rfl ((hS.val (i := 13) rfl rfl (haft ⟨13, .guard⟩ (by simp) rfl)))) ?_
        refine wp_call_at (vs := #[.slice (some ⟨gG.1, 0, none⟩) zs.length (zs.length + 3), .slice aB zs.length cB, .int .u8 71]) rfl ?_ rfl (kept_c hW.2.1 (RB.on0 HB.out hW.1.on) (by have := HL.out; omega)) (fun w' h' => ⟨hS.put (oneDst_of (by kernel_rfl)) hi (fun _ => rfl), ⟨hW.1.step 17 (by omega) (by omega) h', hW.2.1.on h', hW.2.2.on h'⟩⟩)
        show [a.eval (.tmp 49), a.eval (.tmp 51), .int .u8 71] = _
        rw [(hS.val (i := 14) rfl rfl (haft ⟨14, .data⟩ (by simp) rfl))]
        rw [(hS.val (i := 16) rfl rfl (haft ⟨16, .data⟩ (by simp) rfl))]
        rfl
      · obtain rfl := Option.some.inj hi
        refine wpOp_of hi rfl ?_
        exact wp_pick_at rfl (hS.val (i := 13) rfl rfl (haft ⟨13, .data⟩ (by simp) rfl)) (hS.val (i := 17) rfl rfl (haft ⟨17, .data⟩ (by simp) rfl)) ⟨hS.put (oneDst_of (by kernel_rfl)) hi (fun _ => rfl), ⟨hW.1.step 18 (by omega) (by omega) (On.refl _), hW.2⟩⟩
      · obtain rfl := Option.some.inj hi
        refine wpOp_of hi rfl ?_
        exact wp_move_at rfl (hS.val (i := 18) rfl rfl (haft ⟨18, .data⟩ (by simp) rfl)) ⟨hS.put (oneDst_of (by kernel_rfl)) hi (fun _ => rfl), ⟨hW.1.step 19 (by omega) (by omega) (On.refl _), hW.2⟩⟩
      · obtain rfl := Option.some.inj hi
        refine wpOp_if hi (wanted_of rfl rfl rfl ((hS.val (i := 19) rfl rfl (haft ⟨19, .guard⟩ (by simp) rfl)))) ?_
        exact wp_move_at rfl (hS.old (by kernel_rfl)) ⟨hS.put (oneDst_of (by kernel_rfl)) hi (fun _ => rfl), ⟨hW.1.step 20 (by omega) (by omega) (On.refl _), hW.2⟩⟩
      · obtain rfl := Option.some.inj hi
        refine wpOp_if hi (wanted_of rfl rfl rfl ((hS.val (i := 19) rfl rfl (haft ⟨19, .guard⟩ (by simp) rfl)))) ?_
        exact wp_field_at rfl (hS.old (by kernel_rfl)) (show _ = Result.ok (.pointer (some ⟨w.heap.size, 5, none⟩)) wr by go_simp) ⟨hS.put (oneDst_of (by kernel_rfl)) hi (fun _ => rfl), ⟨hW.1.step 21 (by omega) (by omega) (On.refl _), hW.2⟩⟩
      · obtain rfl := Option.some.inj hi
        refine wpOp_if hi (wanted_of rfl rfl rfl ((hS.val (i := 19) rfl rfl (haft ⟨19, .guard⟩ (by simp) rfl)))) ?_
        exact wp_load_at rfl (hS.val (i := 21) rfl rfl (haft ⟨21, .data⟩ (by simp) rfl)) (show _ = Result.ok (.slice aS bs.length cS) wr by have hc := blk_cell hW.1.box 5 rfl; go_simp) ⟨hS.put (oneDst_of (by kernel_rfl)) hi (fun _ => rfl), ⟨hW.1.step 22 (by omega) (by omega) (On.refl _), hW.2⟩⟩
      · obtain rfl := Option.some.inj hi
        refine wpOp_if hi (wanted_of rfl rfl rfl ((hS.val (i := 19) rfl rfl (haft ⟨19, .guard⟩ (by simp) rfl)))) ?_
        refine wp_call_at (vs := #[.slice (some ⟨gG.2, 0, none⟩) bs.length (bs.length + 3), .slice aS bs.length cS, .bool true]) rfl ?_ rfl (kept_d hW.2.2 (Bl.RB.below HBS.out hW.1.on) HLS.out) (fun w' h' => ⟨hS.put (oneDst_of (by kernel_rfl)) hi (fun _ => rfl), ⟨hW.1.step 23 (by omega) (by omega) h', hW.2.1.on h', hW.2.2.on h'⟩⟩)
        show [a.eval (.tmp 55), a.eval (.tmp 57), .bool true] = _
        rw [(hS.val (i := 20) rfl rfl (haft ⟨20, .data⟩ (by simp) rfl))]
        rw [(hS.val (i := 22) rfl rfl (haft ⟨22, .data⟩ (by simp) rfl))]
        rfl
      · obtain rfl := Option.some.inj hi
        refine wpOp_of hi rfl ?_
        exact wp_pick_at rfl (hS.val (i := 19) rfl rfl (haft ⟨19, .data⟩ (by simp) rfl)) (hS.val (i := 23) rfl rfl (haft ⟨23, .data⟩ (by simp) rfl)) ⟨hS.put (oneDst_of (by kernel_rfl)) hi (fun _ => rfl), ⟨hW.1.step 24 (by omega) (by omega) (On.refl _), hW.2⟩⟩
      · obtain rfl := Option.some.inj hi
        refine wpOp_of hi rfl ?_
        exact wp_assign_at rfl (hS.val (i := 24) rfl rfl (haft ⟨24, .data⟩ (by simp) rfl)) ⟨hS.put (oneDst_of (by kernel_rfl)) hi (fun _ => rfl), ⟨hW.1.step 25 (by omega) (by omega) (On.refl _), hW.2⟩⟩
    case done =>
      intro wr hW
      simp only [puts]
      go_simp
      have hR : RamAt n r N (seM N M aa zs.length (fun i => zs.getD i 0) (fun i => decide (i < bs.length) && bs.getD i false)) wr := hW.1.ram
      have hQ : RefAt m p N (seL N L aa zs.length (fun i => zs.getD i 0) (fun i => decide (i < bs.length) && bs.getD i false)) wr := hW.1.ref
      have HR := Lib.hid (And.intro hR hQ)
      have HW2 := Lib.hid hW.2.1
      have HW1 := Lib.hid hW.1.on
      clear hR hQ hW hS0
      go_wp2_with (go_at_call 33; refine (spoil_c HW2.out HZ.out (by have := HL.out; omega)).mono ?_; rintro e w' ⟨rfl, hbt⟩)
      go_ret
      exact ⟨by simp, .spoil HW1.out hg.out HW2.out HR.out.1 HR.out.2 HE.out.1.1 (by have := HE.out.1.2; have := HL.out; omega) hbt⟩
end
end Go.Proofs.Ytkjkmekkcnmjnaa
