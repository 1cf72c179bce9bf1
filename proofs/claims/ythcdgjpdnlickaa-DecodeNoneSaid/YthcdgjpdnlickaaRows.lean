/-
  No cell of these rows narrows 'for every input' (looked for: loops, veiled, ifaces, maps, wideKeys, modest, calm, conditions, laid).
  DERIVED. THE GIVEN ROWS OF THIS SEAT. 3 by the template 'for every input the law returns true; each argument reads behind the call as it read before'; 0 by the template 'total and deterministic' (their statements: YthcdgjpdnlickaaTotals.lean).
  GIVEN WITH THE SEED: the statements are not yours to turn. If you find one false, say at which input.
  Laid BY PROGRAM, IN A SANDBOX (cutbox-rows.mjs): the forced cells as the released guide's own fill.sh prints them over the translation f665c271af2f3e74… (all of the seat's roots in one cut). By AI agents, Wed Nov 11 2026. No macro, syntax, notation, axiom, sorry.
-/
import Derived.Test.YthcdgjpdnlickaaChecked
import GoSem.Claim
import GoSem.ClaimJoined
import GoSem.ClaimMapViews
import Derived.JoinedTies
import Derived.KernelRfl
namespace Go.Proofs.Ythcdgjpdnlickaa
/- THE CELL 'sum', in the pinned program and in every row, IS THE sha256 OF THE DUMP (.gsa) THAT YthcdgjpdnlickaaProg.lean LOADS. Nothing in Lean hashes anything: it is a label: what it is worth is what the hold of that sum in a sandbox is worth. -/
noncomputable def Try.pinned : Pinned := { name := "ythcdgjpdnlickaa", sum := "f665c271af2f3e7476acb1a442c69f70c53725957e4dde47150b1b4853155164", checked := Try.checked }
namespace Rows
def none {H : Type} : Left H := { results := [], args := [] }

/-- 'tappetlaw03.DecodeWords': WHATEVER THE INPUT: true; the input reads as it did. -/
def decodeWordsSpec : ChangeSpec := { name := "decodeWords", fn := fun _ => fun
  | [d] => { results := [.lit (.bool true)], args := [d] }
  | _ => none }
def decodeWordsRow : OpenClaim := { program := "ythcdgjpdnlickaa", sum := "f665c271af2f3e7476acb1a442c69f70c53725957e4dde47150b1b4853155164", func := "tappet/tappetlaw03.DecodeWords", spec := "decodeWords", apart := false }
def DecodeWordsSaid : Prop := decodeWordsRow.holds Try.pinned (OpenSpec.ofChange decodeWordsSpec)

/-- ITS FALSE NEIGHBOUR: 'it returns false'. Refute it at one input. -/
def decodeWordsWrong : ChangeSpec := { name := "decodeWords", fn := fun _ => fun
  | [d] => { results := [.lit (.bool false)], args := [d] }
  | _ => none }
def DecodeWordsWrongFalsely : Prop := decodeWordsRow.holds Try.pinned (OpenSpec.ofChange decodeWordsWrong)

/-- 'tappetlaw03.DecodeNone': WHATEVER THE INPUT: true; the input reads as it did. -/
def decodeNoneSpec : ChangeSpec := { name := "decodeNone", fn := fun _ => fun
  | [d] => { results := [.lit (.bool true)], args := [d] }
  | _ => none }
def decodeNoneRow : OpenClaim := { program := "ythcdgjpdnlickaa", sum := "f665c271af2f3e7476acb1a442c69f70c53725957e4dde47150b1b4853155164", func := "tappet/tappetlaw03.DecodeNone", spec := "decodeNone", apart := false }
def DecodeNoneSaid : Prop := decodeNoneRow.holds Try.pinned (OpenSpec.ofChange decodeNoneSpec)

/-- ITS FALSE NEIGHBOUR: 'it returns false'. Refute it at one input. -/
def decodeNoneWrong : ChangeSpec := { name := "decodeNone", fn := fun _ => fun
  | [d] => { results := [.lit (.bool false)], args := [d] }
  | _ => none }
def DecodeNoneWrongFalsely : Prop := decodeNoneRow.holds Try.pinned (OpenSpec.ofChange decodeNoneWrong)

/-- 'tappetlaw03.DecodeOrder': WHATEVER THE INPUT: true; the input reads as it did. -/
def decodeOrderSpec : ChangeSpec := { name := "decodeOrder", fn := fun _ => fun
  | [d1, d2] => { results := [.lit (.bool true)], args := [d1, d2] }
  | _ => none }
def decodeOrderRow : OpenClaim := { program := "ythcdgjpdnlickaa", sum := "f665c271af2f3e7476acb1a442c69f70c53725957e4dde47150b1b4853155164", func := "tappet/tappetlaw03.DecodeOrder", spec := "decodeOrder", apart := false }
def DecodeOrderSaid : Prop := decodeOrderRow.holds Try.pinned (OpenSpec.ofChange decodeOrderSpec)

/-- ITS FALSE NEIGHBOUR: 'it returns false'. Refute it at one input. -/
def decodeOrderWrong : ChangeSpec := { name := "decodeOrder", fn := fun _ => fun
  | [d1, d2] => { results := [.lit (.bool false)], args := [d1, d2] }
  | _ => none }
def DecodeOrderWrongFalsely : Prop := decodeOrderRow.holds Try.pinned (OpenSpec.ofChange decodeOrderWrong)

/- THE SECOND FORM. 'bulk': how many values and letters a reading holds, each counted each time it is reached (what is shared counts as often as it is met; a slice's spare places count too). A statement '..UptoSaid' is the law's where the arguments, and the package variables that the reading takes, are together of bulk at most 1048576: NARROWER than '..Said'. Prove '..Said' where nothing that the law and all that it calls make is longer than what came in: it says more and counts as full. Else prove '..UptoSaid'. A law counts once. -/
mutual
def uptoBulk {H : Type} : DataW H → Nat
  | .lit (.string bytes) => bytes.length + 1
  | .lit _ => 1
  | .nil => 1
  | .ptr d => uptoBulk d + 1
  | .slice elems spare => uptoBulkAll elems + uptoBulkAll spare + 1
  | .agg parts => uptoBulkAll parts + 1
  | .iface _ d => uptoBulk d + 1
  | .map entries => uptoBulkEntries entries + 1
  | .held _ => 1
def uptoBulkAll {H : Type} : List (DataW H) → Nat
  | [] => 0
  | d :: r => uptoBulk d + uptoBulkAll r
def uptoBulkEntries {H : Type} : List (Lit × DataW H) → Nat
  | [] => 0
  | x :: r => uptoBulkEntry x + uptoBulkEntries r
def uptoBulkEntry {H : Type} : Lit × DataW H → Nat
  | (.string bytes, d) => bytes.length + uptoBulk d + 1
  | (_, d) => uptoBulk d + 1
 end
def uptoSmall : (H : Type) → List (DataW H) → Bool := fun _ ds => decide (uptoBulkAll ds ≤ 1048576)
def OpenSpec.upto (s : _root_.Go.ChangeSpec) : _root_.Go.OpenSpec := { _root_.Go.OpenSpec.ofChange s with cond := some uptoSmall }

/-- 'tappetlaw03.DecodeWords', WHERE WHAT IT READS IS OF BULK AT MOST 1048576: true; the input reads as it did. -/
def decodeWordsUptoRow : OpenClaim := { program := "ythcdgjpdnlickaa", sum := "f665c271af2f3e7476acb1a442c69f70c53725957e4dde47150b1b4853155164", func := "tappet/tappetlaw03.DecodeWords", spec := "decodeWords", apart := false, narrowed := true }
def DecodeWordsUptoSaid : Prop := decodeWordsUptoRow.holds Try.pinned (OpenSpec.upto decodeWordsSpec)

/-- 'tappetlaw03.DecodeNone', WHERE WHAT IT READS IS OF BULK AT MOST 1048576: true; the input reads as it did. -/
def decodeNoneUptoRow : OpenClaim := { program := "ythcdgjpdnlickaa", sum := "f665c271af2f3e7476acb1a442c69f70c53725957e4dde47150b1b4853155164", func := "tappet/tappetlaw03.DecodeNone", spec := "decodeNone", apart := false, narrowed := true }
def DecodeNoneUptoSaid : Prop := decodeNoneUptoRow.holds Try.pinned (OpenSpec.upto decodeNoneSpec)

/-- 'tappetlaw03.DecodeOrder', WHERE WHAT IT READS IS OF BULK AT MOST 1048576: true; the input reads as it did. -/
def decodeOrderUptoRow : OpenClaim := { program := "ythcdgjpdnlickaa", sum := "f665c271af2f3e7476acb1a442c69f70c53725957e4dde47150b1b4853155164", func := "tappet/tappetlaw03.DecodeOrder", spec := "decodeOrder", apart := false, narrowed := true }
def DecodeOrderUptoSaid : Prop := decodeOrderUptoRow.holds Try.pinned (OpenSpec.upto decodeOrderSpec)

end Rows
end Go.Proofs.Ythcdgjpdnlickaa
