/-
  DERIVED. GIVEN WITH THE SEED: THE CARDS: each row of YtjnalgilkdoalaaDoorRows.lean that lists a variable, with what it lists TIED to the program's text (the seventh form; the later family's looks); each row that meets fmt, with fmt's text TOLD by the authors' own Lean function (tested against real Go, not proved from fmt's source: count such statements apart). THE CARD IS WHAT COUNTS. Prove the row's statement (the work); the ties are given (YtjnalgilkdoalaaDoorTie.lean); close each card by the builder's one call (the guide's Derived/Test/ToyasCard.lean, 'card_holds'). Laid BY PROGRAM, IN A SANDBOX (cutbox-door.mjs). By AI agents, Wed Nov 11 2026. No macro, syntax, notation, axiom, sorry.
-/
import Derived.Test.YtjnalgilkdoalaaDoorRows
import GoSem.ClaimSeven
namespace Go.Proofs.YtjnalgilkdoalaaDoor
namespace Rows

/-- THE TIED CARD OF 'tappetlaw03.DecodeReads'. -/
def decodeReadsCard : Claim7 := { stood := { row := decodeReadsRow, standIns := [], harness := (true, "b054c3d90bbcdc800711bfae0f950d815861c7ed872ba19bd8cd8d3c4dbb0852"), looks := false }, kinds := [], alts := [], laidByText := true, laidKinds := [.data], laidTests := true, laidLooks := .later }
def DecodeReadsCardSaid : Prop := Claim7.holds Tryd.pinned (.plain (OpenSpec.ofChange decodeReadsSpec)) decodeReadsCard

/-- THE TIED CARD OF 'tappetlaw03.DecodeRoles'. -/
def decodeRolesCard : Claim7 := { stood := { row := decodeRolesRow, standIns := [], harness := (true, "b054c3d90bbcdc800711bfae0f950d815861c7ed872ba19bd8cd8d3c4dbb0852"), looks := false }, kinds := [], alts := [], laidByText := true, laidKinds := [.data], laidTests := true, laidLooks := .later }
def DecodeRolesCardSaid : Prop := Claim7.holds Tryd.pinned (.plain (OpenSpec.ofChange decodeRolesSpec)) decodeRolesCard

/-- THE SECOND FORM's CARD OF 'tappetlaw03.DecodeReads'. -/
def decodeReadsUptoCard : Claim7 := { stood := { row := decodeReadsUptoRow, standIns := [], harness := (true, "b054c3d90bbcdc800711bfae0f950d815861c7ed872ba19bd8cd8d3c4dbb0852"), looks := false }, kinds := [], alts := [], laidByText := true, laidKinds := [.data], laidTests := true, laidLooks := .later }
def DecodeReadsUptoCardSaid : Prop := Claim7.holds Tryd.pinned (.plain (OpenSpec.upto decodeReadsSpec)) decodeReadsUptoCard

/-- THE SECOND FORM's CARD OF 'tappetlaw03.DecodeRoles'. -/
def decodeRolesUptoCard : Claim7 := { stood := { row := decodeRolesUptoRow, standIns := [], harness := (true, "b054c3d90bbcdc800711bfae0f950d815861c7ed872ba19bd8cd8d3c4dbb0852"), looks := false }, kinds := [], alts := [], laidByText := true, laidKinds := [.data], laidTests := true, laidLooks := .later }
def DecodeRolesUptoCardSaid : Prop := Claim7.holds Tryd.pinned (.plain (OpenSpec.upto decodeRolesSpec)) decodeRolesUptoCard
end Rows
end Go.Proofs.YtjnalgilkdoalaaDoor
