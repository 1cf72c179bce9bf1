/- What word and assemble of package shape come to. Conditions: named at each. -/
import Derived.Test.YtjnalgilkdoalaaDoorPack
namespace Go.Proofs.YtjnalgilkdoalaaDoor
open Go.RowKit

def ptsOf (op rd f3 rs1 rs2 f7 : Int) : List Pt := [⟨op, 6, 0⟩, ⟨rd, 11, 7⟩, ⟨f3, 14, 12⟩, ⟨rs1, 19, 15⟩, ⟨rs2, 24, 20⟩, ⟨f7, 31, 25⟩]
abbrev ptCells (op rd f3 rs1 rs2 f7 : Int) : Array Value := #[.int .i64 op, .int .i64 6, .int .i64 0, .int .i64 rd, .int .i64 11, .int .i64 7, .int .i64 f3, .int .i64 14, .int .i64 12, .int .i64 rs1, .int .i64 19, .int .i64 15, .int .i64 rs2, .int .i64 24, .int .i64 20, .int .i64 f7, .int .i64 31, .int .i64 25]
theorem parts_new (w : World) (t : TypeId) (op rd f3 rs1 rs2 f7 : Int) : Parts (w.alloc (.cells (ptCells op rd f3 rs1 rs2 f7) t)) w.heap.size (ptsOf op rd f3 rs1 rs2 f7) := by
  intro k p h
  have c : ∀ i v, (ptCells op rd f3 rs1 rs2 f7)[i]? = some v → (w.alloc (.cells (ptCells op rd f3 rs1 rs2 f7) t)).cell? ⟨w.heap.size, i, none⟩ = some v := fun i v hv => (World.cell?_alloc_at _ t _ i rfl).trans hv
  match k, h with
  | 0, h => cases h; exact ⟨c 0 _ rfl, c 1 _ rfl, c 2 _ rfl⟩
  | 1, h => cases h; exact ⟨c 3 _ rfl, c 4 _ rfl, c 5 _ rfl⟩
  | 2, h => cases h; exact ⟨c 6 _ rfl, c 7 _ rfl, c 8 _ rfl⟩
  | 3, h => cases h; exact ⟨c 9 _ rfl, c 10 _ rfl, c 11 _ rfl⟩
  | 4, h => cases h; exact ⟨c 12 _ rfl, c 13 _ rfl, c 14 _ rfl⟩
  | 5, h => cases h; exact ⟨c 15 _ rfl, c 16 _ rfl, c 17 _ rfl⟩
  | k + 6, h => simp [ptsOf] at h
theorem pack_six (op rd f3 rs1 rs2 f7 : Int) (t : TypeId) (w : World) (n : Nat) (hn : n = w.heap.size) :
    Calls Tryd.prog 99 #[.slice (some ⟨n, 0, none⟩) 6 6] (w.alloc (.cells (ptCells op rd f3 rs1 rs2 f7) t)) fun e w' =>
      e = .returned (.tuple #[.int .u32 (q (packW (ptsOf op rd f3 rs1 rs2 f7))), .bool (packOk (ptsOf op rd f3 rs1 rs2 f7))]) ∧ On w w' := by
  subst hn
  exact (pack_any (ptsOf op rd f3 rs1 rs2 f7) rfl w.heap.size _ (by simp) (show 0 < 6 by decide) (show 6 ≤ 1000 by decide) (parts_new w t op rd f3 rs1 rs2 f7)).mono fun _ _ ⟨h1, h2⟩ => ⟨h1, ((On.refl w).alloc _).trans h2⟩

theorem fits_in (n : Int) (h : I64 n) (hi lo : Nat) (k : Nat) (hk : (hi : Int) - lo + 1 = k) (h2 : k ≤ 62) : Pt.fits ⟨n, hi, lo⟩ = In n k := by
  have hp : (2 : Int) ^ k ≤ 2 ^ 62 := by
    have : (2 : Nat) ^ k ≤ 2 ^ 62 := Nat.pow_le_pow_right (by omega) h2
    exact_mod_cast this
  have hp0 : (0 : Int) < 2 ^ k := by
    have : (0 : Nat) < 2 ^ k := Nat.two_pow_pos k
    exact_mod_cast this
  unfold I64 at h
  unfold Pt.fits In
  simp only []
  rw [hk, Bool.eq_iff_iff, beq_iff_eq, ← BitVec.toNat_inj, zxt_toNat _ _ (by omega), Bool.and_eq_true, decide_eq_true_eq, decide_eq_true_eq]
  have hw := wd_toNat n
  have key : ((wd64 n).toNat % 2 ^ k = (wd64 n).toNat) ↔ ((wd64 n).toNat : Int) < 2 ^ k := by
    constructor
    · intro e
      have : (wd64 n).toNat % 2 ^ k < 2 ^ k := Nat.mod_lt _ (Nat.two_pow_pos k)
      rw [e] at this
      exact_mod_cast this
    · intro e
      exact Nat.mod_eq_of_lt (by exact_mod_cast e)
  rw [key, hw]
  have e62 : (2 : Int) ^ 62 = 4611686018427387904 := by decide
  rw [e62] at hp
  generalize (2 : Int) ^ k = m at *
  omega
theorem packOk_fit {op rd f3 rs1 rs2 f7 : Int} (h1 : I64 op) (h2 : I64 rd) (h3 : I64 f3) (h4 : I64 rs1) (h5 : I64 rs2) (h6 : I64 f7) :
    packOk (ptsOf op rd f3 rs1 rs2 f7) = Fit op rd f3 rs1 rs2 f7 := by
  unfold packOk ptsOf Fit
  rw [List.all_cons, List.all_cons, List.all_cons, List.all_cons, List.all_cons, List.all_cons, List.all_nil,
    fits_in op h1 6 0 7 (by decide) (by omega), fits_in rd h2 11 7 5 (by decide) (by omega), fits_in f3 h3 14 12 3 (by decide) (by omega), fits_in rs1 h4 19 15 5 (by decide) (by omega), fits_in rs2 h5 24 20 5 (by decide) (by omega), fits_in f7 h6 31 25 7 (by decide) (by omega)]
  simp only [Bool.and_true, Bool.and_assoc]
theorem pack_lay {op rd f3 rs1 rs2 f7 : Int} (h : Fit op rd f3 rs1 rs2 f7 = true) : lo32 (packAcc (ptsOf op rd f3 rs1 rs2 f7)) = lay op rd f3 rs1 rs2 f7 := by
  apply BitVec.eq_of_getLsbD_eq; intro j hj
  rw [lay_bit h j hj, lo32_bit, decide_eq_true hj, Bool.true_and]
  unfold packAcc ptsOf lb
  simp only [List.foldl_cons, List.foldl_nil, packStep]
  have e : ∀ (a b : Nat), b ≤ a → a < 64 → Ends (a : Int) (b : Int) := fun a b h1 h2 => by unfold Ends; omega
  by_cases g6 : j < 25
  · rw [put_out _ _ _ _ _ (by omega)]
    by_cases g5 : j < 20
    · rw [put_out _ _ _ _ _ (by omega)]
      by_cases g4 : j < 15
      · rw [put_out _ _ _ _ _ (by omega)]
        by_cases g3 : j < 12
        · rw [put_out _ _ _ _ _ (by omega)]
          by_cases g2 : j < 7
          · rw [put_out _ _ _ _ _ (by omega), put_in _ _ _ _ _ (e 6 0 (by omega) (by omega)) (by omega) (by omega), if_pos g2]; rfl
          · rw [put_in _ _ _ _ _ (e 11 7 (by omega) (by omega)) (by omega) (by omega), if_neg g2, if_pos g3]; rfl
        · rw [put_in _ _ _ _ _ (e 14 12 (by omega) (by omega)) (by omega) (by omega), if_neg (by omega), if_neg g3, if_pos g4]; rfl
      · rw [put_in _ _ _ _ _ (e 19 15 (by omega) (by omega)) (by omega) (by omega), if_neg (by omega), if_neg (by omega), if_neg g4, if_pos g5]; rfl
    · rw [put_in _ _ _ _ _ (e 24 20 (by omega) (by omega)) (by omega) (by omega), if_neg (by omega), if_neg (by omega), if_neg (by omega), if_neg g5, if_pos g6]; rfl
  · rw [put_in _ _ _ _ _ (e 31 25 (by omega) (by omega)) (by omega) (by omega), if_neg (by omega), if_neg (by omega), if_neg (by omega), if_neg (by omega), if_neg g6]; rfl
/-- the word of the fields -/
def wordOf (op rd f3 rs1 rs2 f7 : Int) : BitVec 32 := if Fit op rd f3 rs1 rs2 f7 then lay op rd f3 rs1 rs2 f7 else 0
/-- six ints of Go -/
def I6 (op rd f3 rs1 rs2 f7 : Int) : Prop := I64 op ∧ I64 rd ∧ I64 f3 ∧ I64 rs1 ∧ I64 rs2 ∧ I64 f7
theorem packW_word {op rd f3 rs1 rs2 f7 : Int} (h : I6 op rd f3 rs1 rs2 f7) : packW (ptsOf op rd f3 rs1 rs2 f7) = wordOf op rd f3 rs1 rs2 f7 := by
  obtain ⟨h1, h2, h3, h4, h5, h6⟩ := h
  have e := packOk_fit h1 h2 h3 h4 h5 h6
  unfold packOk at e
  unfold packW wordOf
  rw [e]
  cases hf : Fit op rd f3 rs1 rs2 f7
  · rfl
  · rw [if_pos rfl, if_pos rfl, pack_lay hf]
theorem word_any (op rd f3 rs1 rs2 f7 : Int) (h : I6 op rd f3 rs1 rs2 f7) (w : World) :
    Calls Tryd.prog 91 #[.agg #[.int .i64 op, .int .i64 rd, .int .i64 f3, .int .i64 rs1, .int .i64 rs2, .int .i64 f7]] w fun e w' =>
      e = .returned (.tuple #[.int .u32 (q (wordOf op rd f3 rs1 rs2 f7)), .bool (Fit op rd f3 rs1 rs2 f7)]) ∧ On w w' := by
  have E1 := Lib.hid (packW_word h)
  have E2 := Lib.hid (packOk_fit h.1 h.2.1 h.2.2.1 h.2.2.2.1 h.2.2.2.2.1 h.2.2.2.2.2)
  clear h
  go_enter Tryd.func91, Tryd.ntmps91
  go_wp2_with fail
  refine (pack_six op rd f3 rs1 rs2 f7 _ _ _ (by simp)).mono ?_
  rintro e w' ⟨rfl, hb⟩
  have HB := Lib.hid hb
  clear hb
  go_wp2_with fail
  go_ret2
  exact ⟨two_back (by rw [E1.out]) (by rw [E2.out]), ((On.refl w).alloc _).trans HB.out⟩
end Go.Proofs.YtjnalgilkdoalaaDoor
