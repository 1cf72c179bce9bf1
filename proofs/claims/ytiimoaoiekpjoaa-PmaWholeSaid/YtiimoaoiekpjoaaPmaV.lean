/- What follows of what may be: accesses of fewer bytes, plain ones, loads; all bytes in one region. Plain lemmas. Conditions: none. -/
import Derived.Test.YtiimoaoiekpjoaaPmaW
namespace Go.Proofs.Ytiimoaoiekpjoaa
theorem may_plain {p : Int} {a : BitVec 64} {s k : Int} (h : mayA p a s k false = false) : mayA p a s k true = false := by
  unfold mayA at *
  simp at h ⊢
  intro h1 h2; rw [h h1] at h2; cases h2
theorem sizeOk_le {s : Int} (h : sizeOk s = true) : 1 ≤ s ∧ s ≤ 8 := by unfold sizeOk at h; simp [or_assoc] at h; omega
theorem may_holds {p : Int} {a : BitVec 64} {s k : Int} {t : Bool} (h : mayA p a s k t = true) : sizeOk s = true ∧ offA p a + s ≤ rgS p (regA p a) ∧ kindOk (regA p a) k = true := by
  unfold mayA holdsA at h
  simp at h
  exact ⟨h.1.1.1, h.1.1.2, h.1.2⟩
theorem may_mk {p : Int} {a : BitVec 64} {s k : Int} (h1 : sizeOk s = true) (h2 : offA p a + s ≤ rgS p (regA p a)) (h3 : kindOk (regA p a) k = true) : mayA p a s k false = true := by
  unfold mayA holdsA
  simp [h1, h2, h3]
theorem may_one {p : Int} {a : BitVec 64} {s k : Int} (h : mayA p a s k false = true) : mayA p a 1 k false = true := by
  obtain ⟨h1, h2, h3⟩ := may_holds h
  have := sizeOk_le h1
  exact may_mk rfl (by omega) h3
theorem may_load {p : Int} {a : BitVec 64} {s k : Int} (h : mayA p a s k false = true) : mayA p a s 1 false = true := by
  obtain ⟨h1, h2, h3⟩ := may_holds h
  exact may_mk h1 h2 rfl
theorem may_all {p : Int} {a : BitVec 64} {s k : Int} {t : Bool} (h : mayA p a s k t = true) (i : Nat) (hi : (i : Int) < s) : IntKind.u64.wrap (u a + i) = u (a + BitVec.ofNat 64 i) ∧ regA p (a + BitVec.ofNat 64 i) = regA p a := by
  obtain ⟨h1, h2, _⟩ := may_holds h
  have hs := sizeOk_le h1
  have hz : regA p a ≠ 0 := fun hz => by
    rw [hz, (offA_in p a).2.2 hz] at h2
    simp [rgS] at h2; omega
  have hin := regA_in hz
  have ho : offA p a = u a - rgB (regA p a) := by unfold offA; rw [if_neg hz]
  have hr := rg_in p (regA p a)
  have e : u (a + BitVec.ofNat 64 i) = u a + i := by
    unfold u at *
    rw [BitVec.toNat_add, BitVec.toNat_ofNat]; omega
  refine ⟨?_, regA_uniq (regA_le p a) (by rw [e]; omega)⟩
  rw [e]
  have := u_nonneg a
  exact wrap_in _ (by omega) (by omega)
end Go.Proofs.Ytiimoaoiekpjoaa
