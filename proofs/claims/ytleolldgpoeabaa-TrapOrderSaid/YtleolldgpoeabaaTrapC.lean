/- Which interrupts are taken and which not, on words; the law's own call. Conditions: named at each. -/
import Derived.Test.YtleolldgpoeabaaTrapB
namespace Go.Proofs.Ytleolldgpoeabaa
open Go.RowKit
theorem stop_load {P : Program} {ops : Array Oper} {rest : List Oper} {o : Oper} {a : Act} {w : World} {Q : Exit → Act → World → Prop} {t : TypeId} {x : Operand} (ho : o.op = .load t x) (h : Stop (wpList P ops Q (o :: rest) a w)) :
    wpList P ops Q (o :: rest) a w := (fun _ => h.out) ho
theorem acc_zero {x : BitVec 64} (h : ∀ k, k < 6 → x.getLsbD (ordN k) = false) : acc x 6 = 0#64 := by
  have : ∀ j, j ≤ 6 → acc x j = 0#64 := by
    intro j
    induction j with
    | zero => intro _; rfl
    | succ j ih => intro hj; exact acc_no (ih (by omega)) (h j (by omega))
  exact this 6 (by omega)
theorem acc_some {x : BitVec 64} {k : Nat} (hk : k < 6) (hb : x.getLsbD (ordN k) = true) : acc x 6 ≠ 0#64 := by
  by_cases h : acc x k = 0#64
  · rw [acc_end hk h hb]; exact cauN_ne k
  · have h2 := acc_stay h (6 - k)
    rw [show k + (6 - k) = 6 by omega] at h2
    rw [h2]; exact h
theorem sel_zero {m s : BitVec 64} (hm : acc m 6 = 0#64) (hs : acc s 6 = 0#64) : selV m s = 0#64 ∧ selB m s = false := by
  have : selV m s = 0#64 := by rw [selV_end s hm, hs]
  exact ⟨this, by unfold selB; rw [this]; rfl⟩
theorem selB_true {m s : BitVec 64} (h : acc m 6 ≠ 0#64 ∨ acc s 6 ≠ 0#64) : selB m s = true := by
  have : selV m s ≠ 0#64 := by
    unfold selV
    by_cases hm : acc m 6 = 0#64
    · rw [if_pos hm]; rcases h with h | h
      · exact absurd hm h
      · exact h
    · rw [if_neg hm]; exact hm
  unfold selB; simpa using this
theorem acc_nil : acc 0#64 6 = 0#64 := rfl
theorem six_bit (k : Nat) : (2730#64).getLsbD (ordN k) = true := by unfold ordN; split <;> decide
theorem six_of {i : Nat} (hi : i < 64) (h : (2730#64).getLsbD i = true) : ∃ k, k < 6 ∧ ordN k = i := by
  have : ∀ j : Fin 64, (2730#64).getLsbD j.val = true → ∃ k : Fin 6, ordN k.val = j.val := by decide +kernel
  obtain ⟨k, hk⟩ := this ⟨i, hi⟩ h
  exact ⟨k.val, k.isLt, hk⟩
/-- of what is there, delegated or not, one of the six -/
theorem sel_six (x i : BitVec 64) : selB (x &&& ~~~i) (x &&& i) = !(x &&& 2730#64 == 0#64) := by
  by_cases h : ∀ k, k < 6 → x.getLsbD (ordN k) = false
  · have hm : acc (x &&& ~~~i) 6 = 0#64 := acc_zero fun k hk => by rw [BitVec.getLsbD_and, h k hk]; rfl
    have hs : acc (x &&& i) 6 = 0#64 := acc_zero fun k hk => by rw [BitVec.getLsbD_and, h k hk]; rfl
    have hx : x &&& 2730#64 = 0#64 := by
      apply BitVec.eq_of_getLsbD_eq
      intro j hj
      rw [BitVec.getLsbD_and, BitVec.getLsbD_zero]
      cases hb : (2730#64).getLsbD j
      · simp
      · obtain ⟨k, hk, rfl⟩ := six_of hj hb
        rw [h k hk]; rfl
    rw [(sel_zero hm hs).2, hx]; rfl
  · obtain ⟨k, hk⟩ := Classical.not_forall.1 h
    obtain ⟨hk, hb⟩ := Classical.not_imp.1 hk
    have hb : x.getLsbD (ordN k) = true := by simpa using hb
    have hx : x &&& 2730#64 ≠ 0#64 := by
      intro he
      have h2 := congrArg (fun v => BitVec.getLsbD v (ordN k)) he
      simp only [BitVec.getLsbD_and, hb, six_bit, BitVec.getLsbD_zero] at h2
      cases h2
    have hl := ord_lt k
    have : selB (x &&& ~~~i) (x &&& i) = true := by
      apply selB_true
      cases hi : i.getLsbD (ordN k)
      · exact .inl (acc_some hk (by rw [BitVec.getLsbD_and, BitVec.getLsbD_not, hb, hi]; simp [hl]))
      · exact .inr (acc_some hk (by rw [BitVec.getLsbD_and, hb, hi]; rfl))
    rw [this]; symm; simpa using hx
/-- nothing is set in Ie -/
theorem none_cnd (h e : Nat → BitVec 64) : cnd (upd h 37 0#64) e = 0#64 := by
  unfold cnd; rw [upd_self]; exact BitVec.and_zero
theorem none_M (h : Nat → BitVec 64) (p : Int) : cntM h p 0#64 = 0#64 := by unfold cntM; split <;> simp
theorem none_S (h : Nat → BitVec 64) (p : Int) : cntS h p 0#64 = 0#64 := by unfold cntS; split <;> simp
theorem mach_M (h : Nat → BitVec 64) (x : BitVec 64) : cntM (upd h 34 (h 34 &&& ~~~8#64)) 3 x = 0#64 := by
  unfold cntM; rw [upd_self, if_neg]
  rw [show (h 34 &&& ~~~8#64).getLsbD 3 = false from by rw [BitVec.getLsbD_and, show (~~~8#64).getLsbD 3 = false from by decide, Bool.and_false]]
  simp
theorem mach_S (h : Nat → BitVec 64) (x : BitVec 64) : cntS h 3 x = 0#64 := by unfold cntS; rfl
def smB (h e : Nat → BitVec 64) : Bool := !(cnd h e &&& 2730#64 == 0#64)
theorem user_sel (h e : Nat → BitVec 64) : selB (cntM h 0 (cnd h e)) (cntS h 0 (cnd h e)) = smB h e := by
  rw [show cntM h 0 (cnd h e) = cnd h e &&& ~~~h 36 from rfl, show cntS h 0 (cnd h e) = cnd h e &&& h 36 from rfl, sel_six]; rfl
theorem smB_wak {h e : Nat → BitVec 64} (hw : wak h e = false) : smB h e = false := by
  unfold wak at hw; unfold smB
  have : cnd h e = 0#64 := by simpa using hw
  rw [this]; rfl
set_option maxHeartbeats 1000000 in
theorem some_any (h e : Nat → BitVec 64) (p : Int) (r q1 q2 : Bool) (w : World) : Calls Try.prog 27 #[.agg (hV h p r), .agg (eV e q1 q2)] w fun r' w' => r' = .returned (.bool (smB h e)) ∧ On w w' := by
  have b := box1 w (.cells (hV h p r) 28) (.cells (eV e q1 q2) 35)
  have c38 := blk_cell b 38 (hV_get h p r 38 (by omega) (by omega) (by omega))
  have c37 := blk_cell b 37 (hV_get h p r 37 (by omega) (by omega) (by omega))
  have e2 := blk_cell (box2 w (.cells (hV h p r) 28) (.cells (eV e q1 q2) 35)) 2 (eV_get e q1 q2 2 (by omega))
  have A : bits .and .u64 (bits .or .u64 (u (h 38)) (bits .and .u64 (u (e 2)) 2696)) (u (h 37)) = u (cnd h e) := by rw [show (2696 : Int) = u 0xa88#64 from rfl, u_and, u_or, u_and]; rfl
  have B : bits .and .u64 (u (cnd h e)) 2730 = u (cnd h e &&& 2730#64) := u_and _ 2730#64
  have D : Hid ((u (cnd h e &&& 2730#64) != 0) = smB h e) := Lib.hid (nz _)
  generalize cnd h e &&& 2730#64 = z at *
  generalize cnd h e = x at *
  clear b
  go_enter Try.func27, Try.ntmps27
  go_wp2
  go_ret
  exact ⟨by rw [← D.out]; rfl, ((On.refl w).alloc _).alloc _⟩
end Go.Proofs.Ytleolldgpoeabaa
