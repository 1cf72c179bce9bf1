/-
  DERIVED. GIVEN WITH THE SEED: THE CARDS: each row of YthcdgjpdnlickaaDoorRows.lean that lists a variable, with what it lists TIED to the program's text (the seventh form; the later family's looks); each row that meets fmt, with fmt's text TOLD by the authors' own Lean function (tested against real Go, not proved from fmt's source: count such statements apart). THE CARD IS WHAT COUNTS. Prove the row's statement (the work); the ties are given (YthcdgjpdnlickaaDoorTie.lean); close each card by the builder's one call (the guide's Derived/Test/ToyasCard.lean, 'card_holds'). Laid BY PROGRAM, IN A SANDBOX (cutbox-door.mjs). By AI agents, Wed Nov 11 2026. No macro, syntax, notation, axiom, sorry.
-/
import Derived.Test.YthcdgjpdnlickaaDoorRows
import GoSem.ClaimSeven
namespace Go.Proofs.YthcdgjpdnlickaaDoor
namespace Rows

/-- THE TIED CARD OF 'tappetlaw03.DecodeEncodes'. -/
def decodeEncodesCard : Claim7 := { stood := { row := decodeEncodesRow, standIns := [], harness := (true, "42324d93b1edad54e5c2d0c3d2ec0ca6fa229b9b75c52b00fa807d623b7f1f62"), looks := false }, kinds := [], alts := [], laidByText := true, laidKinds := [.data], laidTests := true, laidLooks := .later }
def DecodeEncodesCardSaid : Prop := Claim7.holds Tryd.pinned (.plain (OpenSpec.ofChange decodeEncodesSpec)) decodeEncodesCard

/-- THE TIED CARD OF 'tappetlaw03.DecodeReads'. -/
def decodeReadsCard : Claim7 := { stood := { row := decodeReadsRow, standIns := [], harness := (true, "42324d93b1edad54e5c2d0c3d2ec0ca6fa229b9b75c52b00fa807d623b7f1f62"), looks := false }, kinds := [], alts := [], laidByText := true, laidKinds := [.data], laidTests := true, laidLooks := .later }
def DecodeReadsCardSaid : Prop := Claim7.holds Tryd.pinned (.plain (OpenSpec.ofChange decodeReadsSpec)) decodeReadsCard

/-- THE TIED CARD OF 'tappetlaw03.DecodeBack'. -/
def decodeBackCard : Claim7 := { stood := { row := decodeBackRow, standIns := [], harness := (true, "42324d93b1edad54e5c2d0c3d2ec0ca6fa229b9b75c52b00fa807d623b7f1f62"), looks := false }, kinds := [], alts := [], laidByText := true, laidKinds := [.data], laidTests := true, laidLooks := .later }
def DecodeBackCardSaid : Prop := Claim7.holds Tryd.pinned (.plain (OpenSpec.ofChange decodeBackSpec)) decodeBackCard

/-- THE TIED CARD OF 'tappetlaw03.DecodeRoles'. -/
def decodeRolesCard : Claim7 := { stood := { row := decodeRolesRow, standIns := [], harness := (true, "42324d93b1edad54e5c2d0c3d2ec0ca6fa229b9b75c52b00fa807d623b7f1f62"), looks := false }, kinds := [], alts := [], laidByText := true, laidKinds := [.data], laidTests := true, laidLooks := .later }
def DecodeRolesCardSaid : Prop := Claim7.holds Tryd.pinned (.plain (OpenSpec.ofChange decodeRolesSpec)) decodeRolesCard

/-- THE SECOND FORM's CARD OF 'tappetlaw03.DecodeEncodes'. -/
def decodeEncodesUptoCard : Claim7 := { stood := { row := decodeEncodesUptoRow, standIns := [], harness := (true, "42324d93b1edad54e5c2d0c3d2ec0ca6fa229b9b75c52b00fa807d623b7f1f62"), looks := false }, kinds := [], alts := [], laidByText := true, laidKinds := [.data], laidTests := true, laidLooks := .later }
def DecodeEncodesUptoCardSaid : Prop := Claim7.holds Tryd.pinned (.plain (OpenSpec.upto decodeEncodesSpec)) decodeEncodesUptoCard

/-- THE SECOND FORM's CARD OF 'tappetlaw03.DecodeReads'. -/
def decodeReadsUptoCard : Claim7 := { stood := { row := decodeReadsUptoRow, standIns := [], harness := (true, "42324d93b1edad54e5c2d0c3d2ec0ca6fa229b9b75c52b00fa807d623b7f1f62"), looks := false }, kinds := [], alts := [], laidByText := true, laidKinds := [.data], laidTests := true, laidLooks := .later }
def DecodeReadsUptoCardSaid : Prop := Claim7.holds Tryd.pinned (.plain (OpenSpec.upto decodeReadsSpec)) decodeReadsUptoCard

/-- THE SECOND FORM's CARD OF 'tappetlaw03.DecodeBack'. -/
def decodeBackUptoCard : Claim7 := { stood := { row := decodeBackUptoRow, standIns := [], harness := (true, "42324d93b1edad54e5c2d0c3d2ec0ca6fa229b9b75c52b00fa807d623b7f1f62"), looks := false }, kinds := [], alts := [], laidByText := true, laidKinds := [.data], laidTests := true, laidLooks := .later }
def DecodeBackUptoCardSaid : Prop := Claim7.holds Tryd.pinned (.plain (OpenSpec.upto decodeBackSpec)) decodeBackUptoCard

/-- THE SECOND FORM's CARD OF 'tappetlaw03.DecodeRoles'. -/
def decodeRolesUptoCard : Claim7 := { stood := { row := decodeRolesUptoRow, standIns := [], harness := (true, "42324d93b1edad54e5c2d0c3d2ec0ca6fa229b9b75c52b00fa807d623b7f1f62"), looks := false }, kinds := [], alts := [], laidByText := true, laidKinds := [.data], laidTests := true, laidLooks := .later }
def DecodeRolesUptoCardSaid : Prop := Claim7.holds Tryd.pinned (.plain (OpenSpec.upto decodeRolesSpec)) decodeRolesUptoCard
end Rows
end Go.Proofs.YthcdgjpdnlickaaDoor
