/- What From, Imm and With of the reference of package shape come to. Conditions: named at each. -/
import Derived.Test.YtjnalgilkdoalaaDoorFlds
import Derived.Test.YtjnalgilkdoalaaDoorForm
namespace Go.Proofs.YtjnalgilkdoalaaDoor
open Go.RowKit

/-- numbers that lie in memory -/
def Nums (w : World) (b : Nat) (F : List Int) : Prop := b < w.heap.size ∧ ∀ k, k < F.length → w.cell? ⟨b, k, none⟩ = some (.int .i64 (F.getD k 0))
theorem Nums.keep {w w' : World} {b : Nat} {F : List Int} (h : Nums w b F) (hw : On w w') : Nums w' b F :=
  ⟨Nat.lt_of_lt_of_le h.1 hw.size, fun k hk => (Below.cell hw (p := ⟨b, k, none⟩) h.1).trans (h.2 k hk)⟩
def intCells (F : List Int) : Array Value := (F.map (Value.int .i64)).toArray
theorem nums_new (w : World) (F : List Int) (t : TypeId) : Nums (w.alloc (.cells (intCells F) t)) w.heap.size F := by
  refine ⟨by simp, fun k hk => (World.cell?_alloc_at _ t _ k rfl).trans ?_⟩
  unfold intCells
  simp [hk]
theorem fromI_any (w : World) :
    Calls Tryd.prog 95 #[.int .u8 73] w fun e w' => e = .returned (.slice (some ⟨w.heap.size, 0, none⟩) 12 12) ∧ Nums w' w.heap.size FI ∧ On w w' := by
  go_enter Tryd.func95, Tryd.ntmps95
  go_wp2
  go_ret
  exact ⟨rfl, nums_new w FI _, (On.refl w).alloc _⟩
theorem fromS_any (w : World) :
    Calls Tryd.prog 95 #[.int .u8 83] w fun e w' => e = .returned (.slice (some ⟨w.heap.size, 0, none⟩) 12 12) ∧ Nums w' w.heap.size FS ∧ On w w' := by
  go_enter Tryd.func95, Tryd.ntmps95
  go_wp2
  go_ret
  exact ⟨rfl, nums_new w FS _, (On.refl w).alloc _⟩
theorem fromB_any (w : World) :
    Calls Tryd.prog 95 #[.int .u8 66] w fun e w' => e = .returned (.slice (some ⟨w.heap.size, 0, none⟩) 13 13) ∧ Nums w' w.heap.size FB ∧ On w w' := by
  go_enter Tryd.func95, Tryd.ntmps95
  go_wp2
  go_ret
  exact ⟨rfl, nums_new w FB _, (On.refl w).alloc _⟩
theorem fromU_any (w : World) :
    Calls Tryd.prog 95 #[.int .u8 85] w fun e w' => e = .returned (.slice (some ⟨w.heap.size, 0, none⟩) 32 32) ∧ Nums w' w.heap.size FU ∧ On w w' := by
  go_enter Tryd.func95, Tryd.ntmps95
  go_wp2
  go_ret
  exact ⟨rfl, nums_new w FU _, (On.refl w).alloc _⟩
theorem fromJ_any (w : World) :
    Calls Tryd.prog 95 #[.int .u8 74] w fun e w' => e = .returned (.slice (some ⟨w.heap.size, 0, none⟩) 21 21) ∧ Nums w' w.heap.size FJ ∧ On w w' := by
  go_enter Tryd.func95, Tryd.ntmps95
  go_wp2
  go_ret
  exact ⟨rfl, nums_new w FJ _, (On.refl w).alloc _⟩
theorem fi_one (x : BitVec 32) (f : Int) (h0 : 0 ≤ f) (h1 : f < 64) : (fi x f f == 1) = x.getLsbD f.toNat := by
  have hE : Ends f f := ⟨h0, by omega, h1⟩
  have e : fld (zx x) f f = if x.getLsbD f.toNat then 1 else 0 := by
    apply BitVec.eq_of_getLsbD_eq; intro i hi
    by_cases c : i = 0
    · subst c
      rw [fld_in _ _ _ _ hE (by omega), Nat.add_zero, zx_bit]; cases x.getLsbD f.toNat <;> decide
    · rw [fld_out _ _ _ _ (by omega)]
      have h1 : (1 : BitVec 64).getLsbD i = false := by
        have := one_shl_bit 0 i
        rw [BitVec.shiftLeft_zero] at this
        rw [this, decide_eq_false c]; rfl
      cases x.getLsbD f.toNat
      · simp
      · rw [if_pos rfl, h1]
  unfold fi
  rw [e, show (1 : Int) = u 1 from rfl, u_beq]; cases x.getLsbD f.toNat <;> decide
theorem immTo_yes (x : BitVec 32) (F : List Int) (k : Nat) (h0 : 0 ≤ F.getD k 0) (hb : x.getLsbD (F.getD k 0).toNat = true) : immTo (zx x) F (k + 1) = immTo (zx x) F k ||| (1 : BitVec 64) <<< k := by
  conv => lhs; unfold immTo
  rw [zx_bit, hb, decide_eq_true h0]; rfl
theorem immTo_no (x : BitVec 32) (F : List Int) (k : Nat) (h : ¬ 0 ≤ F.getD k 0 ∨ x.getLsbD (F.getD k 0).toNat = false) : immTo (zx x) F (k + 1) = immTo (zx x) F k := by
  conv => lhs; unfold immTo
  rw [zx_bit]
  rcases h with h | h
  · rw [decide_eq_false h]; rfl
  · rw [h, Bool.and_false]; rfl
theorem refImm_of (c : Int) (F : List Int) (n : Nat) (hn : F.length = n) (hn64 : n ≤ 64) (hF : ∀ k, F.getD k 0 < 64)
    (hfrom : ∀ w : World, Calls Tryd.prog 95 #[.int .u8 c] w fun e w' => e = .returned (.slice (some ⟨w.heap.size, 0, none⟩) n n) ∧ Nums w' w.heap.size F ∧ On w w')
    (x : BitVec 32) (w : World) :
    Calls Tryd.prog 83 #[.int .u32 (q x), .int .u8 c] w fun e w' => e = .returned (.int .u64 (u (sxt (immTo (zx x) F F.length) F.length))) ∧ On w w' := by
  rw [hn]
  have HF := Lib.hid hF
  have Hfrom := Lib.hid hfrom
  have Hn := Lib.hid hn
  clear hF hfrom hn
  go_enter Tryd.func83, Tryd.ntmps83
  go_wp2_with (go_at_call 95; refine (Hfrom.out _).mono ?_; rintro e w1 ⟨rfl, hs, hb1⟩; have HS := Lib.hid hs; have HB1 := Lib.hid hb1; clear hs hb1)
  go_loopw [6, 7] (fun m i wr => ∃ k : Nat, k ≤ n ∧ i = .int .i64 k ∧ m = .int .u64 (u (immTo (zx x) F k)) ∧ Hid (On w1 wr)) (fun _ i _ => (n - intOf i).toNat)
  case atStart => exact ⟨0, by omega, rfl, rfl, Lib.hid (On.refl _)⟩
  case round =>
    obtain ⟨k, hk, rfl, rfl, hw⟩ := hrel
    by_cases hlt : k < n
    · have g1 := (HS.out.keep hw.out).2 k (by rw [Hn.out]; exact hlt)
      have hf1 := HF.out k
      have i0 : (0 : Int) ≤ (k : Int) := by omega
      have i1 : (k : Int) < (n : Int) := by omega
      by_cases h0 : 0 ≤ F.getD k 0
      · have e1 := fi_one x (F.getD k 0) h0 hf1
        cases hb : x.getLsbD (F.getD k 0).toNat
        · have Hst := Lib.hid (immTo_no x F k (.inr hb))
          rw [hb] at e1
          have Hb := Lib.hid hb
          clear hb
          obtain ⟨f, hf⟩ : ∃ f, F.getD k 0 = f := ⟨_, rfl⟩
          rw [hf] at g1 hf1 h0 e1
          clear hf
          have e0 : decide (0 ≤ f) = true := decide_eq_true h0
          go_wp2_with fail
          go_quiet ((go_at_call 96; exact Calls.quiet_of_same ((ref_F _ _ _ _).mono (fun _ _ h => ⟨h.1, h.2.symm⟩))))
          go_wp2
          exact ⟨⟨k + 1, by omega, by go_num, by rw [Hst.out], Lib.hid (hw.out.drewN _)⟩, by simp [intOf]; omega⟩
        · have Hst := Lib.hid (immTo_yes x F k h0 hb)
          rw [hb] at e1
          have Hb := Lib.hid hb
          clear hb
          obtain ⟨f, hf⟩ : ∃ f, F.getD k 0 = f := ⟨_, rfl⟩
          rw [hf] at g1 hf1 h0 e1
          clear hf
          have e0 : decide (0 ≤ f) = true := decide_eq_true h0
          go_wp2_with fail
          go_quiet ((go_at_call 96; exact Calls.quiet_of_same ((ref_F _ _ _ _).mono (fun _ _ h => ⟨h.1, h.2.symm⟩))))
          go_wp2
          exact ⟨⟨k + 1, by omega, by go_num, by rw [Hst.out]; simp only [Int.one_mul, ← u_or, ← u_one_shl], Lib.hid (hw.out.drewN _)⟩, by simp [intOf]; omega⟩
      · have Hst := Lib.hid (immTo_no x F k (.inl h0))
        obtain ⟨f, hf⟩ : ∃ f, F.getD k 0 = f := ⟨_, rfl⟩
        rw [hf] at g1 hf1 h0
        clear hf
        have e0 : decide (0 ≤ f) = false := decide_eq_false h0
        go_wp2_with fail
        go_quiet ((go_at_call 96; exact Calls.quiet_of_same ((ref_F _ _ _ _).mono (fun _ _ h => ⟨h.1, h.2.symm⟩))))
        go_wp2
        exact ⟨⟨k + 1, by omega, by go_num, by rw [Hst.out], Lib.hid (hw.out.drewN _)⟩, by simp [intOf]; omega⟩
    · have Hk : Hid (k = n) := Lib.hid (by omega)
      go_wp2_with (go_at_call 97; refine (ref_sext_any _ _ _).mono ?_; rintro e w2 ⟨rfl, rfl⟩)
      go_ret
      exact ⟨by rw [Hk.out]; rfl, HB1.out.trans hw.out⟩
end Go.Proofs.YtjnalgilkdoalaaDoor
