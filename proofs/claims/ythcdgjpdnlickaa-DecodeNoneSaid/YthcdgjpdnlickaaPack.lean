/- What pack, word and assemble of package shape come to. Conditions: named at each. -/
import Derived.Test.YthcdgjpdnlickaaShape3
namespace Go.Proofs.Ythcdgjpdnlickaa
open Go.RowKit

/-- a value for the bits lo to hi -/
structure Pt where
  val : Int
  hi : Nat
  lo : Nat
def Pt.ok (p : Pt) : Bool := decide (p.lo ≤ p.hi) && decide (p.hi < 64)
def packStep (a : BitVec 64) (p : Pt) : BitVec 64 := put a p.hi p.lo (wd64 p.val)
def packAcc (P : List Pt) : BitVec 64 := P.foldl packStep 0
def Pt.fits (p : Pt) : Bool := zxt (wd64 p.val) ((p.hi : Int) - p.lo + 1) == wd64 p.val
theorem packAcc_next {P : List Pt} {k : Nat} {p : Pt} (h : P[k]? = some p) : packAcc (P.take (k + 1)) = packStep (packAcc (P.take k)) p := by
  unfold packAcc; rw [take_at h, List.foldl_append]; rfl
def Parts (w : World) (b : Nat) (P : List Pt) : Prop :=
  ∀ k p, P[k]? = some p → w.cell? ⟨b, k * 3, none⟩ = some (.int .i64 p.val) ∧ w.cell? ⟨b, k * 3 + 1, none⟩ = some (.int .i64 p.hi) ∧ w.cell? ⟨b, k * 3 + 2, none⟩ = some (.int .i64 p.lo)
theorem part_cells {w wr : World} {b : Nat} {P : List Pt} (hb : b < w.heap.size) (hw : On w wr) (hc : Parts w b P) {k : Nat} (hk : k < P.length) :
    ∃ p, P[k]? = some p ∧ wr.cell? ⟨b, k * 3, none⟩ = some (.int .i64 p.val) ∧ wr.cell? ⟨b, k * 3 + 1, none⟩ = some (.int .i64 p.hi) ∧ wr.cell? ⟨b, k * 3 + 2, none⟩ = some (.int .i64 p.lo) := by
  refine ⟨P[k], List.getElem?_eq_getElem hk, ?_⟩
  obtain ⟨g1, g2, g3⟩ := hc k P[k] (List.getElem?_eq_getElem hk)
  exact ⟨(Below.cell hw (p := ⟨b, k * 3, none⟩) hb).trans g1, (Below.cell hw (p := ⟨b, k * 3 + 1, none⟩) hb).trans g2, (Below.cell hw (p := ⟨b, k * 3 + 2, none⟩) hb).trans g3⟩
theorem all_take {P : List Pt} {k : Nat} {p : Pt} (h : P[k]? = some p) (ha : (P.take k).all Pt.fits = true) (hf : p.fits = true) : (P.take (k + 1)).all Pt.fits = true := by
  rw [take_at h, List.all_append, ha, List.all_cons, hf]; rfl
def packW (P : List Pt) : BitVec 32 := if P.all Pt.fits then lo32 (packAcc P) else 0
def packOk (P : List Pt) : Bool := P.all Pt.fits
theorem two_back {a b : Int} {p q : Bool} (h : a = b) (h' : p = q) : Ending.returned (.tuple #[.int .u32 a, .bool p]) = .returned (.tuple #[.int .u32 b, .bool q]) := by rw [h, h']
theorem not_all {P : List Pt} {k : Nat} {p : Pt} (h : P[k]? = some p) (hf : p.fits = false) : P.all Pt.fits = false := by
  cases e : P.all Pt.fits
  · rfl
  · exact absurd (List.all_eq_true.1 e p (List.mem_of_getElem? h)) (by rw [hf]; simp)
end Go.Proofs.Ythcdgjpdnlickaa
