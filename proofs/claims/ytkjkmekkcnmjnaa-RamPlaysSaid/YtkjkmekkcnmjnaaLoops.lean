/- What each call of the reference of package bits, and of the counting calls of both, comes to, as words of 64 bits: the loops. Conditions: named at each. -/
import Derived.Test.YtkjkmekkcnmjnaaCalls
namespace Go.Proofs.Ytkjkmekkcnmjnaa
open Go.RowKit

/-- what the loop of the reference's Field carries -/
def FieldAt (v : BitVec 64) (hi lo : Int) (t i : Value) : Prop := ∃ k : Int, lo - 1 ≤ k ∧ k ≤ hi ∧ i = .int .i64 k ∧ t = .int .u64 (u (fld v hi (k + 1)))
theorem field_round (v : BitVec 64) (hi lo k : Int) (h : Ends hi k) (hk : lo ≤ k) (n : Int) (hn : n = u (fld v hi k)) : FieldAt v hi lo (.int .u64 n) (.int .i64 (k - 1)) :=
  ⟨k - 1, by omega, by unfold Ends at h; omega, rfl, by rw [hn, show k - 1 + 1 = k by omega]⟩
theorem ref_field_any (v : BitVec 64) (hi lo : Int) (w : World) :
    Calls Try.prog 55 #[.int .u64 (u v), .int .i64 hi, .int .i64 lo] w fun e w' => e = .returned (.int .u64 (u (fld v hi lo))) ∧ w = w' := by
  by_cases h : Ends hi lo
  · have h' := h
    obtain ⟨h1, h2, h3⟩ := h'
    have H := Lib.hid h
    clear h
    have Hs : Hid (fld v hi (hi + 1) = 0) := Lib.hid (fld_none v hi (hi + 1) (by unfold Ends; omega))
    go_enter Try.func55, Try.ntmps55
    go_wp2_with fail
    go_loop [7, 8] (fun t i => FieldAt v hi lo t i) (fun _ i => (intOf i - lo + 1).toNat)
    case atStart => exact ⟨hi, by omega, by omega, rfl, by rw [Hs.out]; rfl⟩
    case round =>
      obtain ⟨k, hk1, hk2, rfl, rfl⟩ := hrel
      by_cases hlt : lo ≤ k
      · have hst := fld_step v hi k ⟨by omega, by omega, by omega⟩
        cases hv : v.getLsbD k.toNat
        · rw [hv, if_neg (by simp)] at hst
          have Hst := Lib.hid hst
          have Hv := Lib.hid hv
          clear hst hv
          go_wp2_with (first | (go_at_call 58; refine (may_yes _ _ H.out _).mono ?_; rintro e w' ⟨rfl, rfl⟩) | (go_at_call 59; refine (bit_no _ _ (by omega) (by omega) Hv.out _).mono ?_; rintro e w' ⟨rfl, rfl⟩))
          go_round
          case rel => exact field_round v hi lo k ⟨by omega, hk2, h3⟩ hlt _ (by rw [Hst.out, u_shl2])
          case measure => simp [intOf]; omega
        · rw [hv, if_pos rfl] at hst
          have Hst := Lib.hid hst
          have Hv := Lib.hid hv
          clear hst hv
          go_wp2_with (first | (go_at_call 58; refine (may_yes _ _ H.out _).mono ?_; rintro e w' ⟨rfl, rfl⟩) | (go_at_call 59; refine (bit_yes _ _ (by omega) (by omega) Hv.out _).mono ?_; rintro e w' ⟨rfl, rfl⟩))
          go_round
          case rel => exact field_round v hi lo k ⟨by omega, hk2, h3⟩ hlt _ (by rw [Hst.out, u_shl2, u_one, u_add])
          case measure => simp [intOf]; omega
      · have He : Hid (k + 1 = lo) := Lib.hid (by omega)
        go_wp2_with (go_at_call 58; refine (may_yes _ _ H.out _).mono ?_; rintro e w' ⟨rfl, rfl⟩)
        go_ret
        exact ⟨by rw [← He.out]; rfl, rfl⟩
  · have Hf : Hid ((0 : Int) = u (fld v hi lo)) := Lib.hid (by rw [fld_none v hi lo h]; rfl)
    have H := Lib.hid h
    clear h
    go_enter Try.func55, Try.ntmps55
    go_wp2_with fail
    go_loop [7, 8] (fun t i => t = .int .u64 0 ∧ i = .int .i64 hi) (fun _ _ => 0)
    case atStart => exact ⟨rfl, rfl⟩
    case round =>
      obtain ⟨rfl, rfl⟩ := hrel
      go_wp2_with (go_at_call 58; refine (may_no _ _ H.out _).mono ?_; rintro e w' ⟨rfl, rfl⟩)
      go_ret
      exact ⟨by rw [← Hf.out]; rfl, rfl⟩

/-- what the loop of the reference's Put carries -/
def PutAt (v : BitVec 64) (hi lo : Int) (x : BitVec 64) (t i : Value) : Prop := ∃ k : Int, lo ≤ k ∧ k ≤ hi + 1 ∧ i = .int .i64 k ∧ t = .int .u64 (u (put v (k - 1) lo x))
theorem put_round (v : BitVec 64) (hi lo : Int) (x : BitVec 64) (k : Int) (hk1 : lo ≤ k) (hk2 : k ≤ hi) (n : Int) (hn : n = u (put v k lo x)) : PutAt v hi lo x (.int .u64 n) (.int .i64 (k + 1)) :=
  ⟨k + 1, by omega, by omega, rfl, by rw [hn, show k + 1 - 1 = k by omega]⟩
/-- what the loop of the reference's Sext carries -/
def SextAt (v : BitVec 64) (n : Int) (t i : Value) : Prop := ∃ k : Int, n ≤ k ∧ k ≤ 64 ∧ i = .int .i64 k ∧ t = .int .u64 (u (sxtTo v n k))
theorem sext_round (v : BitVec 64) (n k : Int) (hk1 : n ≤ k) (hk2 : k < 64) (m : Int) (hm : m = u (sxtTo v n (k + 1))) : SextAt v n (.int .u64 m) (.int .i64 (k + 1)) :=
  ⟨k + 1, by omega, by omega, rfl, by rw [hm]⟩
end Go.Proofs.Ytkjkmekkcnmjnaa
