/- What the inner calls of package shape come to: spans in memory, their tops. Conditions: named at each. -/
import Derived.Test.YtjnalgilkdoalaaDoorForm
import Derived.Test.YtjnalgilkdoalaaDoorCalls
import Derived.Test.YtjnalgilkdoalaaDoorOn
import Derived.Below
import Derived.Outline
import Derived.Lib.QuietBelow
namespace Go.Proofs.YtjnalgilkdoalaaDoor
open Go.RowKit

theorem field_on (v : BitVec 64) (hi lo : Int) (w : World) :
    Calls Tryd.prog 66 #[.int .u64 (u v), .int .i64 hi, .int .i64 lo] w fun e w' => e = .returned (.int .u64 (u (fld v hi lo))) ∧ On w w' :=
  (field_any v hi lo w).mono fun _ _ ⟨h1, n, h2⟩ => ⟨h1, h2 ▸ on_drawn w n⟩
theorem put_on (v : BitVec 64) (hi lo : Int) (x : BitVec 64) (w : World) :
    Calls Tryd.prog 67 #[.int .u64 (u v), .int .i64 hi, .int .i64 lo, .int .u64 (u x)] w fun e w' => e = .returned (.int .u64 (u (put v hi lo x))) ∧ On w w' :=
  (put_any v hi lo x w).mono fun _ _ ⟨h1, h2⟩ => ⟨h1, h2 ▸ On.refl w⟩
theorem top_any (s : Sp) (h : s.ok = true) (w : World) :
    Calls Tryd.prog 68 #[.agg #[.int .i64 s.hi, .int .i64 s.lo, .int .i64 s.at0]] w fun e w' => e = .returned (.int .i64 s.top) ∧ On w w' := by
  obtain ⟨hi, lo, at0⟩ := s
  have h := Sp.bounds h
  simp only [] at h
  have e1 : wrap64 (wrap64 ((at0 : Int) + hi) - lo) = ((Sp.top ⟨hi, lo, at0⟩ : Nat) : Int) := by
    rw [show wrap64 ((at0 : Int) + hi) = at0 + hi from IntWalk.wrap64_in _ (by omega)]
    rw [show wrap64 ((at0 : Int) + hi - lo) = at0 + hi - lo from IntWalk.wrap64_in _ (by omega)]
    unfold Sp.top; simp only []; omega
  have E1 := Lib.hid e1
  clear e1 h
  go_enter Tryd.func68, Tryd.ntmps68
  go_wp2
  go_ret
  exact ⟨by rw [← E1.out]; rfl, (On.refl _).alloc _⟩
/-- spans that lie in memory -/
def Spans (w : World) (v : Value) (L : List Sp) : Prop :=
  (v = .slice none 0 0 ∧ L = []) ∨
  ∃ b, v = .slice (some ⟨b, 0, none⟩) L.length L.length ∧ b < w.heap.size ∧ 0 < L.length ∧ L.length ≤ 1000 ∧ ∀ k s, L[k]? = some s → w.cell? ⟨b, k * 3, none⟩ = some (.int .i64 s.hi) ∧ w.cell? ⟨b, k * 3 + 1, none⟩ = some (.int .i64 s.lo) ∧ w.cell? ⟨b, k * 3 + 2, none⟩ = some (.int .i64 s.at0)
theorem Spans.keep {w w' : World} {v : Value} {L : List Sp} {B : Nat} (h : Spans w v L) (hB : w.heap.size ≤ B) (hb : Below B w w') : Spans w' v L := by
  rcases h with h | ⟨b, h1, h2, h3, h4, h5⟩
  · exact .inl h
  · refine .inr ⟨b, h1, ?_, h3, h4, fun k s hk => ?_⟩
    · have := hb.size; omega
    · obtain ⟨g1, g2, g3⟩ := h5 k s hk
      have hbB : b < B := by omega
      exact ⟨(hb.cell (p := ⟨b, k * 3, none⟩) hbB).trans g1, (hb.cell (p := ⟨b, k * 3 + 1, none⟩) hbB).trans g2, (hb.cell (p := ⟨b, k * 3 + 2, none⟩) hbB).trans g3⟩
theorem span_cells {w wr : World} {b : Nat} {L : List Sp} (hb : b < w.heap.size) (hw : On w wr) (hc : ∀ k s, L[k]? = some s → w.cell? ⟨b, k * 3, none⟩ = some (.int .i64 s.hi) ∧ w.cell? ⟨b, k * 3 + 1, none⟩ = some (.int .i64 s.lo) ∧ w.cell? ⟨b, k * 3 + 2, none⟩ = some (.int .i64 s.at0))
    {k : Nat} (hk : k < L.length) : ∃ s, L[k]? = some s ∧ wr.cell? ⟨b, k * 3, none⟩ = some (.int .i64 s.hi) ∧ wr.cell? ⟨b, k * 3 + 1, none⟩ = some (.int .i64 s.lo) ∧ wr.cell? ⟨b, k * 3 + 2, none⟩ = some (.int .i64 s.at0) := by
  refine ⟨L[k], List.getElem?_eq_getElem hk, ?_⟩
  obtain ⟨g1, g2, g3⟩ := hc k L[k] (List.getElem?_eq_getElem hk)
  exact ⟨(hw.cell (p := ⟨b, k * 3, none⟩) hb).trans g1, (hw.cell (p := ⟨b, k * 3 + 1, none⟩) hb).trans g2, (hw.cell (p := ⟨b, k * 3 + 2, none⟩) hb).trans g3⟩
theorem width_any (L : List Sp) (hok : L.all Sp.ok = true) (v : Value) (w : World) (hs : Spans w v L) :
    Calls Tryd.prog 70 #[v] w fun e w' => e = .returned (.int .i64 (widthOf L)) ∧ On w w' := by
  rcases hs with ⟨rfl, rfl⟩ | ⟨b, rfl, hb, hl0, hl, hc⟩
  · go_enter Tryd.func70, Tryd.ntmps70
    go_wp2_with fail
    go_loopw [3, 8] (fun m i wr => i = .int .i64 0 ∧ m = .int .i64 0 ∧ wr = w) (fun _ i _ => 0)
    case atStart => exact ⟨rfl, rfl, rfl⟩
    case round =>
      obtain ⟨rfl, rfl, rfl⟩ := hrel
      go_wp2_with fail
      go_ret
      exact ⟨rfl, On.refl _⟩
  · obtain ⟨n, hn⟩ : ∃ n, L.length = n := ⟨_, rfl⟩
    rw [hn] at hl0 hl ⊢
    have Hn := Lib.hid hn
    have Hc := Lib.hid hc
    clear hn hc
    go_enter Tryd.func70, Tryd.ntmps70
    go_wp2_with fail
    go_loopw [3, 8] (fun m i wr => ∃ k : Nat, k ≤ n ∧ i = .int .i64 k ∧ m = .int .i64 (widthOf (L.take k)) ∧ Hid (On w wr)) (fun _ i _ => (n - intOf i).toNat)
    case atStart => exact ⟨0, by omega, rfl, rfl, Lib.hid (On.refl _)⟩
    case round =>
      obtain ⟨k, hk, rfl, rfl, hw⟩ := hrel
      by_cases hlt : k < n
      · obtain ⟨s, hs, g1, g2, g3⟩ := span_cells hb hw.out Hc.out (show k < L.length by rw [Hn.out]; exact hlt)
        have HS := Lib.hid hs
        clear hs
        have hk2 := HS.out
        have hsok := Sp.ok_at hok hk2
        have hsb := Sp.bounds hsok
        have htop : s.top < 64 := by unfold Sp.top; omega
        have hwl := widthOf_le (L.take k) (take_ok hok k)
        have HK := Lib.hid hsok
        clear hsok hsb hk2
        go_wp2_with (go_at_call 68; refine (top_any s HK.out _).mono ?_; rintro e w' ⟨rfl, hb'⟩; have HB := Lib.hid hb'; clear hb')
        exact ⟨⟨k + 1, by omega, by go_num, by rw [widthOf_next HS.out]; congr 1; split <;> omega, Lib.hid ((hw.out.alloc _).trans HB.out)⟩, by simp [intOf]; omega⟩
      · go_wp2_with fail
        go_ret
        have e : k = L.length := by rw [Hn.out]; omega
        rw [e, List.take_length]
        exact ⟨rfl, hw.out⟩
/-- a variable of the loop's own: a span -/
def spCells (s : Sp) : Array Value := #[.int .i64 s.hi, .int .i64 s.lo, .int .i64 s.at0]
end Go.Proofs.YtjnalgilkdoalaaDoor
