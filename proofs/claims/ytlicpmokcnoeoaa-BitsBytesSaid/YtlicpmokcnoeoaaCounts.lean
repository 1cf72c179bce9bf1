/- What the counting calls of package bits, and of its reference, come to: Ones, High, Low. Conditions: none. -/
import Derived.Test.YtlicpmokcnoeoaaCalls
namespace Go.Proofs.Ytlicpmokcnoeoaa
open Go.RowKit

theorem cnt_succ (v : BitVec 64) (k : Nat) : cnt v (k + 1) = cnt v k + (v.getLsbD k).toNat := rfl
/-- what a loop that counts carries -/
def OnesAt (v : BitVec 64) (t i : Value) : Prop := ∃ k : Nat, k ≤ 64 ∧ i = .int .i64 k ∧ t = .int .i64 (cnt v k)
theorem ones_round (v : BitVec 64) (k : Nat) (hk : k < 64) (n m : Int) (hn : n = (cnt v (k + 1) : Nat)) (hm : m = ((k + 1 : Nat) : Int)) : OnesAt v (.int .i64 n) (.int .i64 m) :=
  ⟨k + 1, by omega, by rw [hm], by rw [hn]⟩
theorem ones_any (v : BitVec 64) (w : World) :
    Calls Try.prog 33 #[.int .u64 (u v)] w fun e w' => e = .returned (.int .i64 (cnt v 64 : Nat)) ∧ w = w' := by
  have hu := u_nonneg v
  go_enter Try.func33, Try.ntmps33
  go_wp2_with fail
  go_loop [3, 5] (fun t i => OnesAt v t i) (fun _ i => (64 - intOf i).toNat)
  case atStart => exact ⟨0, by omega, rfl, rfl⟩
  case round =>
    obtain ⟨k, hk, rfl, rfl⟩ := hrel
    have hc := cnt_le v k
    by_cases hlt : k < 64
    · have hv : Hid (bits BinOp.and IntKind.u64 (u v / 2 ^ k) 1 = ((v.getLsbD k).toNat : Int)) := Lib.hid (by rw [u_shr, u_and1, and1_val])
      go_wp2_with fail
      go_round
      case rel =>
        have hb : (v.getLsbD k).toNat ≤ 1 := Bool.toNat_le _
        exact ones_round v k hlt _ _ (by rw [hv.out, IntWalk.wrap64_in (((v.getLsbD k).toNat : Nat) : Int) ⟨by omega, by omega⟩, IntWalk.wrap64_in _ ⟨by omega, by omega⟩, cnt_succ]; omega) (by omega)
      case measure => simp [intOf]; omega
    · have He : Hid (k = 64) := Lib.hid (by omega)
      go_wp2_with fail
      go_ret
      exact ⟨by rw [← He.out]; rfl, rfl⟩
theorem ones_at {a : Int} {v : BitVec 64} (h : a = u v) (w : World) :
    Calls Try.prog 33 #[.int .u64 a] w fun e w' => e = .returned (.int .i64 (cnt v 64 : Nat)) ∧ w = w' := by
  rw [h]; exact ones_any v w
theorem ref_ones_any (v : BitVec 64) (w : World) :
    Calls Try.prog 34 #[.int .u64 (u v)] w fun e w' => e = .returned (.int .i64 (cnt v 64 : Nat)) ∧ w = w' := by
  go_enter Try.func34, Try.ntmps34
  go_wp2_with fail
  go_loop [3, 4] (fun t i => OnesAt v t i) (fun _ i => (64 - intOf i).toNat)
  case atStart => exact ⟨0, by omega, rfl, rfl⟩
  case round =>
    obtain ⟨k, hk, rfl, rfl⟩ := hrel
    have hc := cnt_le v k
    by_cases hlt : k < 64
    · cases hv : v.getLsbD k
      · have Hs : Hid (cnt v (k + 1) = cnt v k) := Lib.hid (by rw [cnt_succ, hv]; rfl)
        have Hv : Hid (v.getLsbD (Int.toNat (k : Int)) = false) := Lib.hid (by rw [Int.toNat_natCast, hv])
        clear hv
        go_wp2_with (go_at_call 38; refine (bit_no _ _ (by omega) (by omega) Hv.out _).mono ?_; rintro e w' ⟨rfl, rfl⟩)
        go_round
        case rel => exact ones_round v k hlt _ _ (by rw [Hs.out]) (by omega)
        case measure => simp [intOf]; omega
      · have Hs : Hid (cnt v (k + 1) = cnt v k + 1) := Lib.hid (by rw [cnt_succ, hv]; rfl)
        have Hv : Hid (v.getLsbD (Int.toNat (k : Int)) = true) := Lib.hid (by rw [Int.toNat_natCast, hv])
        clear hv
        go_wp2_with (go_at_call 38; refine (bit_yes _ _ (by omega) (by omega) Hv.out _).mono ?_; rintro e w' ⟨rfl, rfl⟩)
        go_round
        case rel => exact ones_round v k hlt _ _ (by rw [Hs.out]; omega) (by omega)
        case measure => simp [intOf]; omega
    · have He : Hid (k = 64) := Lib.hid (by omega)
      go_wp2_with fail
      go_ret
      exact ⟨by rw [← He.out]; rfl, rfl⟩

/-- a loop that looks for the lowest bit -/
def LowAt (v : BitVec 64) (i : Value) : Prop := ∃ k : Nat, k ≤ 64 ∧ i = .int .i64 k ∧ NoneBelow v k
theorem low_round (v : BitVec 64) (k : Nat) (hk : k < 64) (m : Int) (hm : m = ((k + 1 : Nat) : Int)) (h : NoneBelow v (k + 1)) : LowAt v (.int .i64 m) := ⟨k + 1, by omega, by rw [hm], h⟩
/-- is no bit set? -/
def none0 (v : BitVec 64) : Bool := v == 0
theorem low_found {v : BitVec 64} {k : Nat} (h : NoneBelow v k) (hv : v.getLsbD k = true) : lowest v = k ∧ (!none0 v) = true :=
  ⟨lowest_of h hv, by unfold none0; simp only [Bool.not_eq_true', beq_eq_false_iff_ne]; rintro rfl; simp at hv⟩
theorem low_lost {v : BitVec 64} (h : NoneBelow v 64) : lowest v = 0 ∧ (!none0 v) = false := by rw [h.all]; exact ⟨lowest_zero, by decide⟩
theorem high_found {v : BitVec 64} {k : Nat} (h : NoneFrom v (k + 1)) (hv : v.getLsbD k = true) : highest v = k ∧ (!none0 v) = true :=
  ⟨highest_of h hv, by unfold none0; simp only [Bool.not_eq_true', beq_eq_false_iff_ne]; rintro rfl; simp at hv⟩
theorem high_lost {v : BitVec 64} (h : NoneFrom v 0) : highest v = 0 ∧ (!none0 v) = false := by rw [h.all]; exact ⟨highest_zero, by decide⟩
theorem two_results {a b : Int} {p q : Bool} (h : a = b) (h' : p = q) : Ending.returned (.tuple #[.int .i64 a, .bool p]) = .returned (.tuple #[.int .i64 b, .bool q]) := by rw [h, h']
theorem low_any (v : BitVec 64) (w : World) :
    Calls Try.prog 31 #[.int .u64 (u v)] w fun e w' => e = .returned (.tuple #[.int .i64 (lowest v : Nat), .bool (!none0 v)]) ∧ w = w' := by
  go_enter Try.func31, Try.ntmps31
  go_wp2_with fail
  go_loop [5] (fun i => LowAt v i) (fun i => (64 - intOf i).toNat)
  case atStart => exact ⟨0, by omega, rfl, NoneBelow.zero v⟩
  case round =>
    obtain ⟨k, hk, rfl, hb⟩ := hrel
    have Hb := Lib.hid hb
    clear hb
    by_cases hlt : k < 64
    · have ht : (bits BinOp.and IntKind.u64 (u v) (IntKind.u64.wrap (2 ^ k)) == 0) = !v.getLsbD k := by
        rw [← Int.one_mul (2 ^ k), u_one_shl, u_and, and_one_shl v k hlt]
      cases hv : v.getLsbD k
      · rw [hv] at ht
        have ht' : (bits BinOp.and IntKind.u64 (u v) (IntKind.u64.wrap (2 ^ k)) != 0) = false := by rw [bne, ht]; rfl
        have Hn := Lib.hid (Hb.out.succ hv)
        clear hv ht
        go_wp2_with fail
        go_round
        case rel => exact low_round v k hlt _ (by omega) Hn.out
        case measure => simp [intOf]; omega
      · rw [hv] at ht
        have ht' : (bits BinOp.and IntKind.u64 (u v) (IntKind.u64.wrap (2 ^ k)) != 0) = true := by rw [bne, ht]; rfl
        have Hf := Lib.hid (low_found Hb.out hv)
        clear hv ht
        go_wp2_with fail
        go_ret2
        exact ⟨two_results (by rw [Hf.out.1]) (by rw [Hf.out.2]), rfl⟩
    · have He : Hid (k = 64) := Lib.hid (by omega)
      have Hf : Hid (lowest v = 0 ∧ (!none0 v) = false) := Lib.hid (low_lost (He.out ▸ Hb.out))
      go_wp2_with fail
      go_ret2
      exact ⟨two_results (by rw [Hf.out.1]; rfl) (by rw [Hf.out.2]), rfl⟩
theorem ref_low_any (v : BitVec 64) (w : World) :
    Calls Try.prog 32 #[.int .u64 (u v)] w fun e w' => e = .returned (.tuple #[.int .i64 (lowest v : Nat), .bool (!none0 v)]) ∧ w = w' := by
  go_enter Try.func32, Try.ntmps32
  go_wp2_with fail
  go_loop [4] (fun i => LowAt v i) (fun i => (64 - intOf i).toNat)
  case atStart => exact ⟨0, by omega, rfl, NoneBelow.zero v⟩
  case round =>
    obtain ⟨k, hk, rfl, hb⟩ := hrel
    have Hb := Lib.hid hb
    clear hb
    by_cases hlt : k < 64
    · cases hv : v.getLsbD k
      · have Hn := Lib.hid (Hb.out.succ hv)
        have Hv : Hid (v.getLsbD (Int.toNat (k : Int)) = false) := Lib.hid (by rw [Int.toNat_natCast, hv])
        clear hv
        go_wp2_with (go_at_call 38; refine (bit_no _ _ (by omega) (by omega) Hv.out _).mono ?_; rintro e w' ⟨rfl, rfl⟩)
        go_round
        case rel => exact low_round v k hlt _ (by omega) Hn.out
        case measure => simp [intOf]; omega
      · have Hf := Lib.hid (low_found Hb.out hv)
        have Hv : Hid (v.getLsbD (Int.toNat (k : Int)) = true) := Lib.hid (by rw [Int.toNat_natCast, hv])
        clear hv
        go_wp2_with (go_at_call 38; refine (bit_yes _ _ (by omega) (by omega) Hv.out _).mono ?_; rintro e w' ⟨rfl, rfl⟩)
        go_ret2
        exact ⟨two_results (by rw [Hf.out.1]) (by rw [Hf.out.2]), rfl⟩
    · have He : Hid (k = 64) := Lib.hid (by omega)
      have Hf : Hid (lowest v = 0 ∧ (!none0 v) = false) := Lib.hid (low_lost (He.out ▸ Hb.out))
      go_wp2_with fail
      go_ret2
      exact ⟨two_results (by rw [Hf.out.1]; rfl) (by rw [Hf.out.2]), rfl⟩
/-- the reference's loop that looks for the highest bit: from k down -/
def HighAt (v : BitVec 64) (i : Value) : Prop := ∃ k : Int, -1 ≤ k ∧ k ≤ 63 ∧ i = .int .i64 k ∧ NoneFrom v (k + 1).toNat
theorem high_round (v : BitVec 64) (k : Int) (h0 : 0 ≤ k) (h1 : k ≤ 63) (h : NoneFrom v k.toNat) : HighAt v (.int .i64 (k - 1)) := ⟨k - 1, by omega, by omega, rfl, by rw [show k - 1 + 1 = k by omega]; exact h⟩
theorem ref_high_any (v : BitVec 64) (w : World) :
    Calls Try.prog 30 #[.int .u64 (u v)] w fun e w' => e = .returned (.tuple #[.int .i64 (highest v : Nat), .bool (!none0 v)]) ∧ w = w' := by
  go_enter Try.func30, Try.ntmps30
  go_wp2_with fail
  go_loop [4] (fun i => HighAt v i) (fun i => (intOf i + 1).toNat)
  case atStart => exact ⟨63, by omega, by omega, rfl, NoneFrom.top v⟩
  case round =>
    obtain ⟨k, hk0, hk1, rfl, hb⟩ := hrel
    have Hb := Lib.hid hb
    clear hb
    by_cases hlt : 0 ≤ k
    · cases hv : v.getLsbD k.toNat
      · have Hn : Hid (NoneFrom v k.toNat) := Lib.hid (NoneFrom.pred (by rw [show k.toNat + 1 = (k + 1).toNat by omega]; exact Hb.out) hv)
        have Hv := Lib.hid hv
        clear hv
        go_wp2_with (go_at_call 38; refine (bit_no _ _ (by omega) (by omega) Hv.out _).mono ?_; rintro e w' ⟨rfl, rfl⟩)
        go_round
        case rel => exact high_round v k hlt hk1 Hn.out
        case measure => simp [intOf]; omega
      · have Hf := Lib.hid (high_found (v := v) (k := k.toNat) (by rw [show k.toNat + 1 = (k + 1).toNat by omega]; exact Hb.out) hv)
        have Hv := Lib.hid hv
        clear hv
        go_wp2_with (go_at_call 38; refine (bit_yes _ _ (by omega) (by omega) Hv.out _).mono ?_; rintro e w' ⟨rfl, rfl⟩)
        go_ret2
        exact ⟨two_results (by rw [Hf.out.1]; omega) (by rw [Hf.out.2]), rfl⟩
    · have Hf : Hid (highest v = 0 ∧ (!none0 v) = false) := Lib.hid (high_lost (by rw [show 0 = (k + 1).toNat by omega]; exact Hb.out))
      go_wp2_with fail
      go_ret2
      exact ⟨two_results (by rw [Hf.out.1]; rfl) (by rw [Hf.out.2]), rfl⟩
/-- the code's loop that looks for the highest bit: k bits from above are clear -/
def TopAt (v : BitVec 64) (i : Value) : Prop := ∃ k : Nat, k ≤ 64 ∧ i = .int .i64 k ∧ NoneFrom v (64 - k)
theorem top_round (v : BitVec 64) (k : Nat) (hk : k < 64) (m : Int) (hm : m = ((k + 1 : Nat) : Int)) (h : NoneFrom v (63 - k)) : TopAt v (.int .i64 m) := ⟨k + 1, by omega, by rw [hm], by rw [show 64 - (k + 1) = 63 - k by omega]; exact h⟩
theorem high_any (v : BitVec 64) (w : World) :
    Calls Try.prog 29 #[.int .u64 (u v)] w fun e w' => e = .returned (.tuple #[.int .i64 (highest v : Nat), .bool (!none0 v)]) ∧ w = w' := by
  go_enter Try.func29, Try.ntmps29
  go_wp2_with fail
  go_loop [5] (fun i => TopAt v i) (fun i => (64 - intOf i).toNat)
  case atStart => exact ⟨0, by omega, rfl, NoneFrom.top v⟩
  case round =>
    obtain ⟨k, hk, rfl, hb⟩ := hrel
    have Hb := Lib.hid hb
    clear hb
    by_cases hlt : k < 64
    · have ht : (bits BinOp.and IntKind.u64 (u v) ((9223372036854775808 : Int) / (2 : Int) ^ k) == 0) = !v.getLsbD (63 - k) := by
        rw [u_top_shr, top_shr k hlt, u_and, and_one_shl v _ (by omega)]
      cases hv : v.getLsbD (63 - k)
      · rw [hv] at ht
        have ht' : (bits BinOp.and IntKind.u64 (u v) ((9223372036854775808 : Int) / (2 : Int) ^ k) != 0) = false := by rw [bne, ht]; rfl
        have Hn : Hid (NoneFrom v (63 - k)) := Lib.hid (NoneFrom.pred (by rw [show 63 - k + 1 = 64 - k by omega]; exact Hb.out) hv)
        clear hv ht
        go_wp2_with fail
        go_round
        case rel => exact top_round v k hlt _ (by omega) Hn.out
        case measure => simp [intOf]; omega
      · rw [hv] at ht
        have ht' : (bits BinOp.and IntKind.u64 (u v) ((9223372036854775808 : Int) / (2 : Int) ^ k) != 0) = true := by rw [bne, ht]; rfl
        have Hf := Lib.hid (high_found (v := v) (k := 63 - k) (by rw [show 63 - k + 1 = 64 - k by omega]; exact Hb.out) hv)
        clear hv ht
        go_wp2_with fail
        go_ret2
        exact ⟨two_results (by rw [Hf.out.1]; omega) (by rw [Hf.out.2]), rfl⟩
    · have He : Hid (k = 64) := Lib.hid (by omega)
      have Hf : Hid (highest v = 0 ∧ (!none0 v) = false) := Lib.hid (high_lost (by have h := Hb.out; rw [He.out] at h; exact h))
      go_wp2_with fail
      go_ret2
      exact ⟨two_results (by rw [Hf.out.1]; rfl) (by rw [Hf.out.2]), rfl⟩
end Go.Proofs.Ytlicpmokcnoeoaa
