/- What pack, word and assemble of package shape come to. Conditions: named at each. -/
import Derived.Test.YtjnalgilkdoalaaDoorShape3
namespace Go.Proofs.YtjnalgilkdoalaaDoor
open Go.RowKit

/-- a value for the bits lo to hi -/
structure Pt where
  val : Int
  hi : Nat
  lo : Nat
def Pt.ok (p : Pt) : Bool := decide (p.lo ≤ p.hi) && decide (p.hi < 64)
def packStep (a : BitVec 64) (p : Pt) : BitVec 64 := put a p.hi p.lo (wd64 p.val)
def packAcc (P : List Pt) : BitVec 64 := P.foldl packStep 0
def Pt.fits (p : Pt) : Bool := zxt (wd64 p.val) ((p.hi : Int) - p.lo + 1) == wd64 p.val
theorem packAcc_next {P : List Pt} {k : Nat} {p : Pt} (h : P[k]? = some p) : packAcc (P.take (k + 1)) = packStep (packAcc (P.take k)) p := by
  unfold packAcc; rw [take_at h, List.foldl_append]; rfl
def Parts (w : World) (b : Nat) (P : List Pt) : Prop :=
  ∀ k p, P[k]? = some p → w.cell? ⟨b, k * 3, none⟩ = some (.int .i64 p.val) ∧ w.cell? ⟨b, k * 3 + 1, none⟩ = some (.int .i64 p.hi) ∧ w.cell? ⟨b, k * 3 + 2, none⟩ = some (.int .i64 p.lo)
theorem part_cells {w wr : World} {b : Nat} {P : List Pt} (hb : b < w.heap.size) (hw : On w wr) (hc : Parts w b P) {k : Nat} (hk : k < P.length) :
    ∃ p, P[k]? = some p ∧ wr.cell? ⟨b, k * 3, none⟩ = some (.int .i64 p.val) ∧ wr.cell? ⟨b, k * 3 + 1, none⟩ = some (.int .i64 p.hi) ∧ wr.cell? ⟨b, k * 3 + 2, none⟩ = some (.int .i64 p.lo) := by
  refine ⟨P[k], List.getElem?_eq_getElem hk, ?_⟩
  obtain ⟨g1, g2, g3⟩ := hc k P[k] (List.getElem?_eq_getElem hk)
  exact ⟨(Below.cell hw (p := ⟨b, k * 3, none⟩) hb).trans g1, (Below.cell hw (p := ⟨b, k * 3 + 1, none⟩) hb).trans g2, (Below.cell hw (p := ⟨b, k * 3 + 2, none⟩) hb).trans g3⟩
theorem all_take {P : List Pt} {k : Nat} {p : Pt} (h : P[k]? = some p) (ha : (P.take k).all Pt.fits = true) (hf : p.fits = true) : (P.take (k + 1)).all Pt.fits = true := by
  rw [take_at h, List.all_append, ha, List.all_cons, hf]; rfl
def packW (P : List Pt) : BitVec 32 := if P.all Pt.fits then lo32 (packAcc P) else 0
def packOk (P : List Pt) : Bool := P.all Pt.fits
theorem two_back {a b : Int} {p q : Bool} (h : a = b) (h' : p = q) : Ending.returned (.tuple #[.int .u32 a, .bool p]) = .returned (.tuple #[.int .u32 b, .bool q]) := by rw [h, h']
theorem not_all {P : List Pt} {k : Nat} {p : Pt} (h : P[k]? = some p) (hf : p.fits = false) : P.all Pt.fits = false := by
  cases e : P.all Pt.fits
  · rfl
  · exact absurd (List.all_eq_true.1 e p (List.mem_of_getElem? h)) (by rw [hf]; simp)
theorem pack_any (P : List Pt) (hok : P.all Pt.ok = true) (b : Nat) (w : World) (hb : b < w.heap.size) (hl0 : 0 < P.length) (hl : P.length ≤ 1000) (hc : Parts w b P) :
    Calls Tryd.prog 99 #[.slice (some ⟨b, 0, none⟩) P.length P.length] w fun e w' =>
      e = .returned (.tuple #[.int .u32 (q (packW P)), .bool (packOk P)]) ∧ On w w' := by
  obtain ⟨m, hn⟩ : ∃ n, P.length = n := ⟨_, rfl⟩
  rw [hn] at hl0 hl ⊢
  have Hn := Lib.hid hn
  have Hc := Lib.hid hc
  clear hn hc
  go_enter Tryd.func99, Tryd.ntmps99
  go_wp2_with fail
  go_loopw [4, 10] (fun m4 i wr => ∃ k : Nat, k ≤ m ∧ i = .int .i64 k ∧ m4 = .int .u64 (u (packAcc (P.take k))) ∧ Hid (On w wr ∧ (P.take k).all Pt.fits = true)) (fun _ i _ => (m - intOf i).toNat)
  case atStart => exact ⟨0, by omega, rfl, rfl, Lib.hid ⟨On.refl _, rfl⟩⟩
  case round =>
    obtain ⟨k, hk, rfl, rfl, hw⟩ := hrel
    by_cases hlt : k < m
    · obtain ⟨p, hp, g1, g2, g3⟩ := part_cells hb hw.out.1 Hc.out (show k < P.length by rw [Hn.out]; exact hlt)
      have hpok : p.ok = true := List.all_eq_true.1 hok p (List.mem_of_getElem? hp)
      have hpb : p.lo ≤ p.hi ∧ p.hi < 64 := by simpa [Pt.ok] using hpok
      have e0 := wrap_wd p.val
      have Hp := Lib.hid hp
      clear hp hpok
      cases hf : p.fits
      · have hz : (u (zxt (wd64 p.val) ((p.hi : Int) - p.lo + 1)) != u (wd64 p.val)) = true := by unfold Pt.fits at hf; rw [bne, u_beq, hf]; rfl
        have Hf := Lib.hid hf
        clear hf
        go_wp2_with (first | (go_at_call 90; refine (zext_any _ _ _).mono ?_; rintro e w' ⟨rfl, rfl⟩))
        go_ret2
        have hn := not_all Hp.out Hf.out
        exact ⟨two_back (by unfold packW; rw [hn]; rfl) (by unfold packOk; rw [hn]), hw.out.1.alloc _⟩
      · have hz : (u (zxt (wd64 p.val) ((p.hi : Int) - p.lo + 1)) != u (wd64 p.val)) = false := by unfold Pt.fits at hf; rw [beq_iff_eq] at hf; rw [hf]; simp
        have Hf := Lib.hid hf
        clear hf
        go_wp2_with (first | (go_at_call 90; refine (zext_any _ _ _).mono ?_; rintro e w' ⟨rfl, rfl⟩) | (go_at_call 67; refine (put_any _ _ _ _ _).mono ?_; rintro e w' ⟨rfl, rfl⟩))
        exact ⟨⟨k + 1, by omega, by go_num, by rw [packAcc_next Hp.out]; rfl, Lib.hid ⟨hw.out.1.alloc _, all_take Hp.out hw.out.2 Hf.out⟩⟩, by simp [intOf]; omega⟩
    · have e : P.take k = P := by rw [show k = P.length by rw [Hn.out]; omega, List.take_length]
      have E := Lib.hid e
      clear e
      go_wp2_with fail
      go_ret2
      have ha := hw.out.2
      rw [E.out] at ha
      exact ⟨two_back (by rw [E.out, mod_lo]; unfold packW; rw [ha]; rfl) (by unfold packOk; rw [ha]), hw.out.1⟩
end Go.Proofs.YtjnalgilkdoalaaDoor
