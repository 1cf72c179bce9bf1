/- The control and status registers as words: what they hold, what reading and writing them comes to. Plain definitions and lemmas. Conditions: none. -/
import Derived.Test.YtleolldgpoeabaaAgg
import Derived.Test.YtleolldgpoeabaaWord
namespace Go.Proofs.Ytleolldgpoeabaa
open Go.RowKit

/-- the cells of a state -/
def cL (c : Nat → BitVec 64) : Array Value := Array.ofFn (n := 30) fun i => .int .u64 (u (c i))
/-- .. behind a name that no walk unfolds -/
theorem cV_is : ∃ f : (Nat → BitVec 64) → Array Value, ∀ c, f c = cL c := ⟨cL, fun _ => rfl⟩
noncomputable def cV : (Nat → BitVec 64) → Array Value := Classical.choose cV_is
theorem cV_eq (c : Nat → BitVec 64) : cV c = cL c := Classical.choose_spec cV_is c
def zC : Nat → BitVec 64 := fun _ => 0#64
def upd (c : Nat → BitVec 64) (i : Nat) (v : BitVec 64) : Nat → BitVec 64 := fun j => if j = i then v else c j
theorem upd_self (c : Nat → BitVec 64) (i : Nat) (v : BitVec 64) : upd c i v i = v := by simp [upd]
theorem upd_ne (c : Nat → BitVec 64) {i j : Nat} (v : BitVec 64) (h : j ≠ i) : upd c i v j = c j := by simp [upd, h]
theorem upd_id (c : Nat → BitVec 64) (i : Nat) : upd c i (c i) = c := by funext j; unfold upd; split <;> simp_all
theorem upd_upd (c : Nat → BitVec 64) (i : Nat) (v x : BitVec 64) : upd (upd c i v) i x = upd c i x := by funext j; unfold upd; split <;> simp_all
theorem upd_comm (c : Nat → BitVec 64) {i j : Nat} (h : i ≠ j) (v x : BitVec 64) : upd (upd c i v) j x = upd (upd c j x) i v := by
  funext k; unfold upd; split <;> split <;> simp_all
theorem cV_size (c : Nat → BitVec 64) : (cV c).size = 30 := by rw [cV_eq]; simp [cL]
theorem cV_get (c : Nat → BitVec 64) (i : Nat) (h : i < 30) : (cV c)[i]? = some (.int .u64 (u (c i))) := by
  rw [cV_eq]; unfold cL; rw [Array.getElem?_ofFn]; simp [h]
theorem cV_set (c : Nat → BitVec 64) (i : Nat) (v : BitVec 64) : (cV c).setIfInBounds i (.int .u64 (u v)) = cV (upd c i v) := by
  apply Array.ext_getElem?
  intro j
  rw [Array.getElem?_setIfInBounds]
  rw [cV_eq, cV_eq]
  unfold cL upd
  simp only [Array.getElem?_ofFn, Array.size_ofFn]
  by_cases e : i = j
  · subst e; simp
  · rw [if_neg e]; split
    · rw [if_neg (Ne.symm e)]
    · rfl
/-- .. or not yet -/
def updI (b : Bool) (i : Nat) (v : BitVec 64) (c : Nat → BitVec 64) : Nat → BitVec 64 := if b = true then upd c i v else c
def csrLeaves : List Leaf := List.replicate 30 (.int .u64)
theorem fits_words : ∀ (n : Nat) (f : Nat → BitVec 64), Fits (List.replicate n (.int .u64)) ((List.ofFn (n := n) fun i => Value.int .u64 (u (f i))))
  | 0, _ => by simp [Fits]
  | n + 1, f => by
    rw [List.replicate_succ, List.ofFn_succ]
    exact ⟨_, _, rfl, u_wf _, fits_words n (fun i => f (i + 1))⟩
theorem cV_fits (c : Nat → BitVec 64) : Fits csrLeaves (cV c).toList := by
  rw [cV_eq]; unfold cL; rw [Array.toList_ofFn]; exact fits_words 30 c
theorem cV_one (c : Nat → BitVec 64) : (cV c).all (·.oneCell') = true := fits_one (cV_fits c)
/-- .. and whatever lies there is a state -/
theorem words_of : ∀ (n : Nat) (l : List Value), Fits (List.replicate n (.int .u64)) l → ∃ f : Nat → BitVec 64, l = List.ofFn (n := n) fun i => Value.int .u64 (u (f i))
  | 0, l, h => by obtain rfl : l = [] := h; exact ⟨fun _ => 0, by simp⟩
  | n + 1, l, h => by
    rw [List.replicate_succ] at h
    obtain ⟨a, vs, rfl, hw, h⟩ := h
    obtain ⟨x, rfl⟩ := u_of hw
    obtain ⟨f, rfl⟩ := words_of n vs h
    refine ⟨fun i => match i with | 0 => x | i + 1 => f i, ?_⟩
    rw [List.ofFn_succ]; rfl
theorem cV_of {l : List Value} (h : Fits csrLeaves l) : ∃ c, l.toArray = cV c := by
  obtain ⟨f, rfl⟩ := words_of 30 l h
  exact ⟨f, by rw [cV_eq]; unfold cL; rw [← Array.toList_inj]; simp⟩
/-- the cells of a world -/
def eL (e : Nat → BitVec 64) (p q : Bool) : Array Value := #[.int .u64 (u (e 0)), .int .u64 (u (e 1)), .int .u64 (u (e 2)), .int .u64 (u (e 3)), .int .u64 (u (e 4)), .int .u64 (u (e 5)), .int .u64 (u (e 6)), .bool p, .int .u64 (u (e 7)), .bool q]
theorem eV_is : ∃ f : (Nat → BitVec 64) → Bool → Bool → Array Value, ∀ e p q, f e p q = eL e p q := ⟨eL, fun _ _ _ => rfl⟩
noncomputable def eV : (Nat → BitVec 64) → Bool → Bool → Array Value := Classical.choose eV_is
theorem eV_eq (e : Nat → BitVec 64) (p q : Bool) : eV e p q = eL e p q := Classical.choose_spec eV_is e p q
theorem eV_get (e : Nat → BitVec 64) (p q : Bool) (i : Nat) (h : i < 7) : (eV e p q)[i]? = some (.int .u64 (u (e i))) := by
  rw [eV_eq]
  obtain rfl | rfl | rfl | rfl | rfl | rfl | rfl : i = 0 ∨ i = 1 ∨ i = 2 ∨ i = 3 ∨ i = 4 ∨ i = 5 ∨ i = 6 := by omega
  all_goals rfl
theorem eV_size (e : Nat → BitVec 64) (p q : Bool) : (eV e p q).size = 10 := by rw [eV_eq]; rfl
theorem eV_of {l : List Value} (h : Fits (List.replicate 7 (.int .u64) ++ [.bool, .int .u64, .bool]) l) : ∃ e p q, l.toArray = eV e p q := by
  obtain ⟨a0, l, rfl, w0, h⟩ := h
  obtain ⟨a1, l, rfl, w1, h⟩ := h
  obtain ⟨a2, l, rfl, w2, h⟩ := h
  obtain ⟨a3, l, rfl, w3, h⟩ := h
  obtain ⟨a4, l, rfl, w4, h⟩ := h
  obtain ⟨a5, l, rfl, w5, h⟩ := h
  obtain ⟨a6, l, rfl, w6, h⟩ := h
  obtain ⟨p, l, rfl, h⟩ := h
  obtain ⟨a7, l, rfl, w7, h⟩ := h
  obtain ⟨q, l, rfl, h⟩ := h
  obtain rfl : l = [] := h
  obtain ⟨x0, rfl⟩ := u_of w0
  obtain ⟨x1, rfl⟩ := u_of w1
  obtain ⟨x2, rfl⟩ := u_of w2
  obtain ⟨x3, rfl⟩ := u_of w3
  obtain ⟨x4, rfl⟩ := u_of w4
  obtain ⟨x5, rfl⟩ := u_of w5
  obtain ⟨x6, rfl⟩ := u_of w6
  obtain ⟨x7, rfl⟩ := u_of w7
  exact ⟨fun i => match i with | 0 => x0 | 1 => x1 | 2 => x2 | 3 => x3 | 4 => x4 | 5 => x5 | 6 => x6 | _ => x7, p, q, by rw [eV_eq]; rfl⟩

/-! ### what the document says -/
def pend (c e : Nat → BitVec 64) : BitVec 64 := c 4 ||| (e 2 &&& 0xa88#64)
def cyc (c e : Nat → BitVec 64) : BitVec 64 := if (c 18).getLsbD 0 = true then c 20 else c 20 + (e 0 - c 21)
def cntd (c : Nat → BitVec 64) (r o : Bool) : Nat → BitVec 64 := if (r && (!o && !(c 18).getLsbD 2)) = true then upd c 19 (c 19 + 1#64) else c
def repl (o v m : BitVec 64) : BitVec 64 := (o &&& ~~~m) ||| (v &&& m)
def kst (o v : BitVec 64) : BitVec 64 := if v &&& 0x1800#64 = 0x1000#64 then repl v o 0x1800#64 &&& 0x7e19aa#64 else v &&& 0x7e19aa#64
def ksa (o v : BitVec 64) : BitVec 64 := if v >>> 60 = 0#64 ∨ v >>> 60 = 8#64 then v else o
def kev (v : BitVec 64) : BitVec 64 := if 5 < (v &&& 7#64).toNat then 0#64 else v &&& 7#64

def csrNums : List Int := [768, 256, 769, 770, 771, 772, 260, 836, 324, 773, 261, 774, 262, 800, 832, 320, 835, 323, 833, 321, 834, 322, 384, 2816, 3072, 2818, 3074, 803, 804, 805, 806, 2819, 2820, 2821, 2822, 3075, 3076, 3077, 3078, 3073, 3857, 3858, 3859, 3860, 3861]
def ex (n : Int) : Bool := csrNums.contains n
def rv (c e : Nat → BitVec 64) (n : Int) : BitVec 64 :=
  if n = 768 then c 0 ||| 0xa00000000#64
  else if n = 256 then (c 0 &&& 0xc0122#64) ||| 0x200000000#64
  else if n = 769 then 0x8000000000141101#64
  else if n = 770 then c 1
  else if n = 771 then c 2
  else if n = 772 then c 3
  else if n = 260 then c 3 &&& c 2
  else if n = 836 then pend c e
  else if n = 324 then pend c e &&& c 2
  else if n = 773 then c 5
  else if n = 261 then c 11
  else if n = 774 then c 6
  else if n = 262 then c 12
  else if n = 800 then c 18
  else if n = 832 then c 7
  else if n = 320 then c 13
  else if n = 835 then c 10
  else if n = 323 then c 16
  else if n = 833 then c 8
  else if n = 321 then c 14
  else if n = 834 then c 9
  else if n = 322 then c 15
  else if n = 384 then c 17
  else if n = 2816 then cyc c e
  else if n = 3072 then cyc c e
  else if n = 2818 then c 19
  else if n = 3074 then c 19
  else if n = 803 then c 22
  else if n = 804 then c 23
  else if n = 805 then c 24
  else if n = 806 then c 25
  else if n = 2819 then c 26 + e 3
  else if n = 2820 then c 27 + e 4
  else if n = 2821 then c 28 + e 5
  else if n = 2822 then c 29 + e 6
  else if n = 3075 then c 26 + e 3
  else if n = 3076 then c 27 + e 4
  else if n = 3077 then c 28 + e 5
  else if n = 3078 then c 29 + e 6
  else if n = 3073 then e 1
  else if n = 3857 then 0#64
  else if n = 3858 then 0#64
  else if n = 3859 then 0#64
  else if n = 3860 then 0#64
  else if n = 3861 then 0#64
  else 0#64
def kp (c e : Nat → BitVec 64) (n : Int) (v : BitVec 64) : Nat → BitVec 64 :=
  if n = 768 then upd c 0 (kst (c 0) v)
  else if n = 256 then upd c 0 (repl (c 0) v 0xc0122#64)
  else if n = 770 then upd c 1 (v &&& 0xb3ff#64)
  else if n = 771 then upd c 2 (v &&& 0x222#64)
  else if n = 772 then upd c 3 (v &&& 0xaaa#64)
  else if n = 260 then upd c 3 (repl (c 3) v (c 2))
  else if n = 836 then upd c 4 (v &&& 0x222#64)
  else if n = 324 then upd c 4 (repl (c 4) v (c 2 &&& 2#64))
  else if n = 773 then upd c 5 (v &&& ~~~2#64)
  else if n = 261 then upd c 11 (v &&& ~~~2#64)
  else if n = 774 then upd c 6 (v &&& 0x7f#64)
  else if n = 262 then upd c 12 (v &&& 0x7f#64)
  else if n = 800 then upd (upd (upd c 20 (cyc c e)) 21 (e 0)) 18 (v &&& 0x7d#64)
  else if n = 832 then upd c 7 v
  else if n = 320 then upd c 13 v
  else if n = 835 then upd c 10 v
  else if n = 323 then upd c 16 v
  else if n = 833 then upd c 8 (v &&& ~~~3#64)
  else if n = 321 then upd c 14 (v &&& ~~~3#64)
  else if n = 834 then upd c 9 (v &&& 0x800000000000003f#64)
  else if n = 322 then upd c 15 (v &&& 0x800000000000003f#64)
  else if n = 384 then upd c 17 (ksa (c 17) v)
  else if n = 2816 then upd (upd c 20 v) 21 (e 0)
  else if n = 2818 then upd c 19 v
  else if n = 803 then upd c 22 (kev v)
  else if n = 804 then upd c 23 (kev v)
  else if n = 805 then upd c 24 (kev v)
  else if n = 806 then upd c 25 (kev v)
  else if n = 2819 then upd c 26 (v - e 3)
  else if n = 2820 then upd c 27 (v - e 4)
  else if n = 2821 then upd c 28 (v - e 5)
  else if n = 2822 then upd c 29 (v - e 6)
  else c
theorem ex_cases {n : Int} (h : ex n = true) : n = 768 ∨ n = 256 ∨ n = 769 ∨ n = 770 ∨ n = 771 ∨ n = 772 ∨ n = 260 ∨ n = 836 ∨ n = 324 ∨ n = 773 ∨ n = 261 ∨ n = 774 ∨ n = 262 ∨ n = 800 ∨ n = 832 ∨ n = 320 ∨ n = 835 ∨ n = 323 ∨ n = 833 ∨ n = 321 ∨ n = 834 ∨ n = 322 ∨ n = 384 ∨ n = 2816 ∨ n = 3072 ∨ n = 2818 ∨ n = 3074 ∨ n = 803 ∨ n = 804 ∨ n = 805 ∨ n = 806 ∨ n = 2819 ∨ n = 2820 ∨ n = 2821 ∨ n = 2822 ∨ n = 3075 ∨ n = 3076 ∨ n = 3077 ∨ n = 3078 ∨ n = 3073 ∨ n = 3857 ∨ n = 3858 ∨ n = 3859 ∨ n = 3860 ∨ n = 3861 := by
  unfold ex csrNums at h
  simpa using h
theorem ex_none {n : Int} (h : ex n = false) : (n == 768) = false ∧ (n == 256) = false ∧ (n == 769) = false ∧ (n == 770) = false ∧ (n == 771) = false ∧ (n == 772) = false ∧ (n == 260) = false ∧ (n == 836) = false ∧ (n == 324) = false ∧ (n == 773) = false ∧ (n == 261) = false ∧ (n == 774) = false ∧ (n == 262) = false ∧ (n == 800) = false ∧ (n == 832) = false ∧ (n == 320) = false ∧ (n == 835) = false ∧ (n == 323) = false ∧ (n == 833) = false ∧ (n == 321) = false ∧ (n == 834) = false ∧ (n == 322) = false ∧ (n == 384) = false ∧ (n == 2816) = false ∧ (n == 3072) = false ∧ (n == 2818) = false ∧ (n == 3074) = false ∧ (n == 803) = false ∧ (n == 804) = false ∧ (n == 805) = false ∧ (n == 806) = false ∧ (n == 2819) = false ∧ (n == 2820) = false ∧ (n == 2821) = false ∧ (n == 2822) = false ∧ (n == 3075) = false ∧ (n == 3076) = false ∧ (n == 3077) = false ∧ (n == 3078) = false ∧ (n == 3073) = false ∧ (n == 3857) = false ∧ (n == 3858) = false ∧ (n == 3859) = false ∧ (n == 3860) = false ∧ (n == 3861) = false := by
  unfold ex csrNums at h
  simpa using h
theorem rv_none {n : Int} (h : ex n = false) (c e : Nat → BitVec 64) : rv c e n = 0#64 := by
  have h' := ex_none h
  simp only [beq_eq_false_iff_ne, ne_eq] at h'
  unfold rv
  simp [h']
/-- the privilege that a number asks -/
def prv (n : Int) : Int := bits .and .i64 (n / 256) 3
def opn (c : Nat → BitVec 64) (n p : Int) : Bool := !(decide (3072 ≤ n) && decide (n ≤ 3078)) || (p == 3 || ((c 6).getLsbD (n - 3072).toNat && (p == 1 || (c 12).getLsbD (n - 3072).toNat)))
/-- may it be read? -/
def rdb (c : Nat → BitVec 64) (n p : Int) : Bool := ex n && ((p == 0 || p == 1 || p == 3) && (decide (prv n ≤ p) && (!(n == 384 && (p == 1 && (c 0).getLsbD 20)) && opn c n p)))
/-- is it for reading alone? -/
def ron (n : Int) : Bool := n / 1024 == 3
end Go.Proofs.Ytleolldgpoeabaa
