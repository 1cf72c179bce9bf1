/- The immediates of instruction words as lists of spans, and as tables of bits; the fields of a word; their bits. Plain lemmas, no program. Conditions: none. -/
import Derived.Test.YtjnalgilkdoalaaDoorHalf
namespace Go.Proofs.YtjnalgilkdoalaaDoor
open Go.RowKit

theorem ofInt32_lo (n : Int) : BitVec.ofInt 32 n = lo32 (wd64 n) := by
  apply BitVec.eq_of_toNat_eq
  unfold lo32 wd64
  rw [BitVec.toNat_setWidth, BitVec.toNat_ofInt, BitVec.toNat_ofInt]; omega
theorem put_in (v : BitVec 64) (hi lo : Int) (x : BitVec 64) (i : Nat) (h : Ends hi lo) (h1 : lo ≤ (i : Int)) (h2 : (i : Int) ≤ hi) : (put v hi lo x).getLsbD i = x.getLsbD (i - lo.toNat) := by
  rw [put_bit, if_pos ⟨h, h1, h2⟩]
theorem put_out (v : BitVec 64) (hi lo : Int) (x : BitVec 64) (i : Nat) (h : (i : Int) < lo ∨ hi < (i : Int)) : (put v hi lo x).getLsbD i = v.getLsbD i := by
  rw [put_bit, if_neg (by omega)]
theorem fld_in (v : BitVec 64) (hi lo : Int) (i : Nat) (h : Ends hi lo) (h1 : (i : Int) ≤ hi - lo) : (fld v hi lo).getLsbD i = v.getLsbD (lo.toNat + i) := by
  rw [fld_bit, decide_eq_true ⟨h, h1⟩, Bool.true_and]
theorem fld_out (v : BitVec 64) (hi lo : Int) (i : Nat) (h1 : hi - lo < (i : Int)) : (fld v hi lo).getLsbD i = false := by
  rw [fld_bit, decide_eq_false (by omega), Bool.false_and]
theorem wd_high (n : Int) (k : Nat) (h0 : 0 ≤ n) (h1 : n < 2 ^ k) (i : Nat) (hi : k ≤ i) : (wd64 n).getLsbD i = false := by
  obtain ⟨m, rfl⟩ := Int.eq_ofNat_of_zero_le h0
  have hm : m < 2 ^ k := by exact_mod_cast h1
  unfold wd64
  rw [BitVec.ofInt_natCast, BitVec.getLsbD_ofNat]
  have : m.testBit i = false := Nat.testBit_lt_two_pow (Nat.lt_of_lt_of_le hm (Nat.pow_le_pow_right (by omega) hi))
  rw [this, Bool.and_false]

/-! ### spans -/
structure Sp where
  hi : Nat
  lo : Nat
  at0 : Nat
def Sp.top (s : Sp) : Nat := s.at0 + s.hi - s.lo
def Sp.ok (s : Sp) : Bool := decide (s.lo ≤ s.hi) && decide (s.hi < 64) && decide (s.top < 64)
theorem Sp.ends1 {s : Sp} (h : s.ok = true) : Ends s.hi s.lo := by
  simp [Sp.ok] at h; unfold Ends; omega
theorem Sp.ends2 {s : Sp} (h : s.ok = true) : Ends s.top s.at0 := by
  simp [Sp.ok] at h; unfold Ends Sp.top at *; omega
def joinStep (x a : BitVec 64) (s : Sp) : BitVec 64 := put a s.top s.at0 (fld x s.hi s.lo)
def joinAcc (x : BitVec 64) (L : List Sp) : BitVec 64 := L.foldl (joinStep x) 0
def spreadStep (x a : BitVec 64) (s : Sp) : BitVec 64 := put a s.hi s.lo (fld x s.top s.at0)
def spreadAcc (x : BitVec 64) (L : List Sp) : BitVec 64 := L.foldl (spreadStep x) 0
def widthOf (L : List Sp) : Nat := L.foldl (fun n s => max n (s.top + 1)) 0
def lowOf (L : List Sp) : Nat := L.foldl (fun n s => min n s.at0) (widthOf L)
theorem take_at {α : Type} {L : List α} {k : Nat} {s : α} (h : L[k]? = some s) : L.take (k + 1) = L.take k ++ [s] := by
  rw [List.take_add_one, h]; rfl
theorem joinAcc_next (x : BitVec 64) {L : List Sp} {k : Nat} {s : Sp} (h : L[k]? = some s) : joinAcc x (L.take (k + 1)) = joinStep x (joinAcc x (L.take k)) s := by
  unfold joinAcc; rw [take_at h, List.foldl_append]; rfl
theorem spreadAcc_next (x : BitVec 64) {L : List Sp} {k : Nat} {s : Sp} (h : L[k]? = some s) : spreadAcc x (L.take (k + 1)) = spreadStep x (spreadAcc x (L.take k)) s := by
  unfold spreadAcc; rw [take_at h, List.foldl_append]; rfl
theorem widthOf_next {L : List Sp} {k : Nat} {s : Sp} (h : L[k]? = some s) : widthOf (L.take (k + 1)) = max (widthOf (L.take k)) (s.top + 1) := by
  unfold widthOf; rw [take_at h, List.foldl_append]; rfl
def lowTo (L : List Sp) (k : Nat) : Nat := (L.take k).foldl (fun n s => min n s.at0) (widthOf L)
theorem lowTo_next {L : List Sp} {k : Nat} {s : Sp} (h : L[k]? = some s) : lowTo L (k + 1) = min (lowTo L k) s.at0 := by
  unfold lowTo; rw [take_at h, List.foldl_append]; rfl
theorem lowTo_all (L : List Sp) : lowTo L L.length = lowOf L := by unfold lowTo lowOf; rw [List.take_length]
theorem Sp.bounds {s : Sp} (h : s.ok = true) : s.lo ≤ s.hi ∧ s.hi < 64 ∧ s.at0 + s.hi - s.lo < 64 := by
  simp only [Sp.ok, Sp.top, Bool.and_eq_true, decide_eq_true_eq] at h
  exact ⟨h.1.1, h.1.2, of_decide_eq_true h.2⟩
theorem Sp.ok_at {L : List Sp} (hok : L.all Sp.ok = true) {k : Nat} {s : Sp} (h : L[k]? = some s) : s.ok = true :=
  List.all_eq_true.1 hok s (List.mem_of_getElem? h)
theorem widthOf_le (L : List Sp) (hok : L.all Sp.ok = true) : widthOf L ≤ 64 := by
  have go : ∀ (L : List Sp) (n : Nat), L.all Sp.ok = true → n ≤ 64 → L.foldl (fun n s => max n (s.top + 1)) n ≤ 64 := by
    intro L
    induction L with
    | nil => intro n _ hn; exact hn
    | cons s L ih =>
      intro n hok hn
      rw [List.all_cons, Bool.and_eq_true] at hok
      have := Sp.bounds hok.1
      exact ih _ hok.2 (show max n (s.top + 1) ≤ 64 by unfold Sp.top; omega)
  exact go L 0 hok (by omega)
theorem take_ok {L : List Sp} (hok : L.all Sp.ok = true) (k : Nat) : (L.take k).all Sp.ok = true :=
  List.all_eq_true.2 fun s hs => List.all_eq_true.1 hok s (List.mem_of_mem_take hs)

/-- the bit of x that stands there -/
def pick (x : BitVec 64) (o : Option Nat) : Bool := match o with | none => false | some j => x.getLsbD j
def joinSrc (L : List Sp) (i : Nat) : Option Nat := L.foldl (fun o s => if s.at0 ≤ i ∧ i ≤ s.top then some (s.lo + (i - s.at0)) else o) none
def spreadSrc (L : List Sp) (i : Nat) : Option Nat := L.foldl (fun o s => if s.lo ≤ i ∧ i ≤ s.hi then some (s.at0 + (i - s.lo)) else o) none
theorem joinStep_bit (x a : BitVec 64) (s : Sp) (h : s.ok = true) (i : Nat) (o : Option Nat) (ha : a.getLsbD i = pick x o) :
    (joinStep x a s).getLsbD i = pick x (if s.at0 ≤ i ∧ i ≤ s.top then some (s.lo + (i - s.at0)) else o) := by
  have e1 := Sp.ends1 h
  have e2 := Sp.ends2 h
  simp [Sp.ok] at h
  unfold joinStep
  by_cases hc : s.at0 ≤ i ∧ i ≤ s.top
  · rw [if_pos hc, put_in _ _ _ _ _ e2 (by omega) (by omega), fld_in _ _ _ _ e1 (by unfold Sp.top at *; omega)]
    simp [pick]
  · rw [if_neg hc, put_out _ _ _ _ _ (by omega), ha]
theorem join_bit (x : BitVec 64) (L : List Sp) (h : L.all Sp.ok = true) (i : Nat) : (joinAcc x L).getLsbD i = pick x (joinSrc L i) := by
  have go : ∀ (L : List Sp) (a : BitVec 64) (o : Option Nat), L.all Sp.ok = true → a.getLsbD i = pick x o →
      (L.foldl (joinStep x) a).getLsbD i = pick x (L.foldl (fun o s => if s.at0 ≤ i ∧ i ≤ s.top then some (s.lo + (i - s.at0)) else o) o) := by
    intro L
    induction L with
    | nil => intro a o _ ha; exact ha
    | cons s L ih =>
      intro a o hok ha
      rw [List.all_cons, Bool.and_eq_true] at hok
      exact ih _ _ hok.2 (joinStep_bit x a s hok.1 i o ha)
  exact go L 0 none h (by simp [pick])
theorem spreadStep_bit (x a : BitVec 64) (s : Sp) (h : s.ok = true) (i : Nat) (o : Option Nat) (ha : a.getLsbD i = pick x o) :
    (spreadStep x a s).getLsbD i = pick x (if s.lo ≤ i ∧ i ≤ s.hi then some (s.at0 + (i - s.lo)) else o) := by
  have e1 := Sp.ends1 h
  have e2 := Sp.ends2 h
  simp [Sp.ok] at h
  unfold spreadStep
  by_cases hc : s.lo ≤ i ∧ i ≤ s.hi
  · rw [if_pos hc, put_in _ _ _ _ _ e1 (by omega) (by omega), fld_in _ _ _ _ e2 (by unfold Sp.top at *; omega)]
    simp [pick]
  · rw [if_neg hc, put_out _ _ _ _ _ (by omega), ha]
theorem spread_bit (x : BitVec 64) (L : List Sp) (h : L.all Sp.ok = true) (i : Nat) : (spreadAcc x L).getLsbD i = pick x (spreadSrc L i) := by
  have go : ∀ (L : List Sp) (a : BitVec 64) (o : Option Nat), L.all Sp.ok = true → a.getLsbD i = pick x o →
      (L.foldl (spreadStep x) a).getLsbD i = pick x (L.foldl (fun o s => if s.lo ≤ i ∧ i ≤ s.hi then some (s.at0 + (i - s.lo)) else o) o) := by
    intro L
    induction L with
    | nil => intro a o _ ha; exact ha
    | cons s L ih =>
      intro a o hok ha
      rw [List.all_cons, Bool.and_eq_true] at hok
      exact ih _ _ hok.2 (spreadStep_bit x a s hok.1 i o ha)
  exact go L 0 none h (by simp [pick])

/-! ### tables of bits -/
def immTo (x : BitVec 64) (F : List Int) : Nat → BitVec 64
  | 0 => 0
  | k + 1 => if decide (0 ≤ F.getD k 0) && x.getLsbD (F.getD k 0).toNat then immTo x F k ||| (1 : BitVec 64) <<< k else immTo x F k
theorem imm_bit (x : BitVec 64) (F : List Int) (k i : Nat) (hk : k ≤ 64) : (immTo x F k).getLsbD i = (decide (i < k) && (decide (0 ≤ F.getD i 0) && x.getLsbD (F.getD i 0).toNat)) := by
  induction k with
  | zero => simp [immTo]
  | succ k ih =>
    have ih := ih (by omega)
    unfold immTo
    cases hb : (decide (0 ≤ F.getD k 0) && x.getLsbD (F.getD k 0).toNat)
    · rw [if_neg (by simp), ih]
      by_cases e : i = k
      · subst e; rw [hb]; simp
      · congr 1; rw [decide_eq_decide]; omega
    · rw [if_pos rfl, BitVec.getLsbD_or, ih, one_shl_bit]
      by_cases e : i = k
      · subst e; rw [hb]; simp; omega
      · have e1 : decide (i = k) = false := decide_eq_false e
        rw [e1, Bool.false_and, Bool.or_false]
        congr 1; rw [decide_eq_decide]; omega
def withTo (w : BitVec 32) (F : List Int) (x : BitVec 64) : Nat → BitVec 32
  | 0 => w
  | k + 1 => if 0 ≤ F.getD k 0 then withTo w F x k &&& ~~~((1 : BitVec 32) <<< (F.getD k 0).toNat) ||| lo32 (x >>> k &&& 1) <<< (F.getD k 0).toNat else withTo w F x k
def withSrc (F : List Int) (j : Nat) : Nat → Option Nat
  | 0 => none
  | k + 1 => if F.getD k 0 = (j : Int) then some k else withSrc F j k
theorem one32_shl_bit (k i : Nat) : ((1 : BitVec 32) <<< k).getLsbD i = (decide (i = k) && decide (i < 32)) := by
  rw [BitVec.getLsbD_shiftLeft, show (1 : BitVec 32) = BitVec.ofNat 32 1 from rfl, BitVec.getLsbD_ofNat]
  rcases Nat.lt_trichotomy i k with h | h | h
  · have : decide (i = k) = false := by simp; omega
    simp [h, this]
  · subst h; simp
  · have h1 : Nat.testBit 1 (i - k) = false := by
      have := Nat.testBit_two_pow_of_ne (n := 0) (m := i - k) (by omega)
      simpa using this
    have : decide (i = k) = false := by simp; omega
    simp [h1, this]
theorem lo_one (b : Bool) : lo32 (if b then 1 else 0) = if b then 1 else 0 := by cases b <;> decide
theorem bit_shl (b : Bool) (k i : Nat) : ((if b then (1 : BitVec 32) else 0) <<< k).getLsbD i = (decide (i = k) && decide (i < 32) && b) := by
  cases b
  · simp
  · rw [if_pos rfl, one32_shl_bit]; simp
theorem with_bit (w : BitVec 32) (F : List Int) (x : BitVec 64) (j k : Nat) (hj : j < 32) : (withTo w F x k).getLsbD j = (match withSrc F j k with | none => w.getLsbD j | some i => x.getLsbD i) := by
  induction k with
  | zero => simp [withTo, withSrc]
  | succ k ih =>
    unfold withTo withSrc
    generalize F.getD k 0 = f
    by_cases h0 : 0 ≤ f
    · rw [if_pos h0, BitVec.getLsbD_or, BitVec.getLsbD_and, BitVec.getLsbD_not, one32_shl_bit, and1_bit, lo_one, bit_shl, ih]
      by_cases e : f = (j : Int)
      · rw [if_pos e]
        have e1 : decide (j = f.toNat) = true := by simp; omega
        simp [e1, hj]
      · rw [if_neg e]
        have e1 : decide (j = f.toNat) = false := by simp; omega
        rw [e1]; simp [hj]
    · rw [if_neg h0, if_neg (by omega), ih]

/-! ### the fields -/
def lay (op rd f3 rs1 rs2 f7 : Int) : BitVec 32 :=
  BitVec.ofInt 32 op ||| BitVec.ofInt 32 rd <<< 7 ||| BitVec.ofInt 32 f3 <<< 12 ||| BitVec.ofInt 32 rs1 <<< 15 ||| BitVec.ofInt 32 rs2 <<< 20 ||| BitVec.ofInt 32 f7 <<< 25
def In (n : Int) (k : Nat) : Bool := decide (0 ≤ n) && decide (n < 2 ^ k)
def Fit (op rd f3 rs1 rs2 f7 : Int) : Bool := In op 7 && In rd 5 && In f3 3 && In rs1 5 && In rs2 5 && In f7 7
def lb (op rd f3 rs1 rs2 f7 : Int) (j : Nat) : Bool :=
  if j < 7 then (wd64 op).getLsbD j else if j < 12 then (wd64 rd).getLsbD (j - 7) else if j < 15 then (wd64 f3).getLsbD (j - 12)
  else if j < 20 then (wd64 rs1).getLsbD (j - 15) else if j < 25 then (wd64 rs2).getLsbD (j - 20) else (wd64 f7).getLsbD (j - 25)
theorem In_high {n : Int} {k : Nat} (h : In n k = true) (i : Nat) (hi : k ≤ i) : (wd64 n).getLsbD i = false := by
  simp only [In, Bool.and_eq_true, decide_eq_true_eq] at h
  exact wd_high n k h.1 h.2 i hi
theorem shl_field (n : Int) (k s j : Nat) (h : In n k = true) (hj : j < 32) :
    (BitVec.ofInt 32 n <<< s).getLsbD j = (decide (s ≤ j ∧ j < s + k) && (wd64 n).getLsbD (j - s)) := by
  rw [BitVec.getLsbD_shiftLeft, ofInt32_lo, lo32_bit]
  by_cases h1 : s ≤ j
  · by_cases h2 : j < s + k
    · have e1 : decide (s ≤ j ∧ j < s + k) = true := decide_eq_true ⟨h1, h2⟩
      have e2 : decide (j < s) = false := decide_eq_false (by omega)
      have e3 : decide (j - s < 32) = true := decide_eq_true (by omega)
      simp [e1, e2, e3, hj]
    · rw [In_high h (j - s) (by omega)]; simp
  · have e2 : decide (j < s) = true := decide_eq_true (by omega)
    have e1 : decide (s ≤ j ∧ j < s + k) = false := decide_eq_false (by omega)
    rw [e1, e2]; simp
theorem lay_bit {op rd f3 rs1 rs2 f7 : Int} (h : Fit op rd f3 rs1 rs2 f7 = true) (j : Nat) (hj : j < 32) : (lay op rd f3 rs1 rs2 f7).getLsbD j = lb op rd f3 rs1 rs2 f7 j := by
  simp only [Fit, Bool.and_eq_true] at h
  obtain ⟨⟨⟨⟨⟨h1, h2⟩, h3⟩, h4⟩, h5⟩, h6⟩ := h
  have e0 := shl_field op 7 0 j h1 hj
  rw [BitVec.shiftLeft_zero] at e0
  unfold lay lb
  simp only [BitVec.getLsbD_or]
  rw [e0, shl_field rd 5 7 j h2 hj, shl_field f3 3 12 j h3 hj, shl_field rs1 5 15 j h4 hj, shl_field rs2 5 20 j h5 hj, shl_field f7 7 25 j h6 hj]
  have key : ∀ (a b : Nat), decide (a ≤ j ∧ j < b) = (decide (a ≤ j) && decide (j < b)) := fun a b => by rw [Bool.eq_iff_iff]; simp
  simp only [key]
  rcases Nat.lt_or_ge j 7 with g | g
  · have : ¬ 7 ≤ j := by omega
    have : ¬ 12 ≤ j := by omega
    have : ¬ 15 ≤ j := by omega
    have : ¬ 20 ≤ j := by omega
    have : ¬ 25 ≤ j := by omega
    simp [*]
  rcases Nat.lt_or_ge j 12 with g2 | g2
  · have : ¬ j < 7 := by omega
    have : ¬ 12 ≤ j := by omega
    have : ¬ 15 ≤ j := by omega
    have : ¬ 20 ≤ j := by omega
    have : ¬ 25 ≤ j := by omega
    simp [*]
  rcases Nat.lt_or_ge j 15 with g3 | g3
  · have : ¬ j < 7 := by omega
    have : ¬ j < 12 := by omega
    have : ¬ 15 ≤ j := by omega
    have : ¬ 20 ≤ j := by omega
    have : ¬ 25 ≤ j := by omega
    simp [*]
  rcases Nat.lt_or_ge j 20 with g4 | g4
  · have : ¬ j < 7 := by omega
    have : ¬ j < 12 := by omega
    have : ¬ j < 15 := by omega
    have : ¬ 20 ≤ j := by omega
    have : ¬ 25 ≤ j := by omega
    simp [*]
  rcases Nat.lt_or_ge j 25 with g5 | g5
  · have : ¬ j < 7 := by omega
    have : ¬ j < 12 := by omega
    have : ¬ j < 15 := by omega
    have : ¬ j < 20 := by omega
    have : ¬ 25 ≤ j := by omega
    simp [*]
  · have : ¬ j < 7 := by omega
    have : ¬ j < 12 := by omega
    have : ¬ j < 15 := by omega
    have : ¬ j < 20 := by omega
    have : ¬ j < 25 := by omega
    simp [*]
end Go.Proofs.YtjnalgilkdoalaaDoor
