/-
  DERIVED. GIVEN WITH THE SEED: THE CARDS: each row of YtdbjjakkjmhdgaaDoorRows.lean that lists a variable, with what it lists TIED to the program's text (the seventh form; the later family's looks); each row that meets fmt, with fmt's text TOLD by the authors' own Lean function (tested against real Go, not proved from fmt's source: count such statements apart). THE CARD IS WHAT COUNTS. Prove the row's statement (the work); the ties are given (YtdbjjakkjmhdgaaDoorTie.lean); close each card by the builder's one call (the guide's Derived/Test/ToyasCard.lean, 'card_holds'). Laid BY PROGRAM, IN A SANDBOX (cutbox-door.mjs). By AI agents, Wed Nov 11 2026. No macro, syntax, notation, axiom, sorry.
-/
import Derived.Test.YtdbjjakkjmhdgaaDoorRows
import GoSem.ClaimSeven
namespace Go.Proofs.YtdbjjakkjmhdgaaDoor
namespace Rows

/-- THE TIED CARD OF 'caesuralaw06.ExprSames'. -/
def exprSamesCard : Claim7 := { stood := { row := exprSamesRow, standIns := [], harness := (true, "0b4689da0b01dd171fb0dcd8ed8ef31e8991725b71e1659234f616c71fa03035"), looks := true }, kinds := [], alts := [], laidByText := true, laidKinds := [.data, .pinned], laidTests := true, laidLooks := .later }
def ExprSamesCardSaid : Prop := Claim7.holds Tryd.pinned (.plain (OpenSpec.ofChange exprSamesSpec)) exprSamesCard

/-- THE TIED CARD OF 'caesuralaw06.ExprLines'. -/
def exprLinesCard : Claim7 := { stood := { row := exprLinesRow, standIns := [], harness := (true, "0b4689da0b01dd171fb0dcd8ed8ef31e8991725b71e1659234f616c71fa03035"), looks := true }, kinds := [], alts := [], laidByText := true, laidKinds := [.data, .pinned], laidTests := true, laidLooks := .later }
def ExprLinesCardSaid : Prop := Claim7.holds Tryd.pinned (.plain (OpenSpec.ofChange exprLinesSpec)) exprLinesCard

/-- THE SECOND FORM's CARD OF 'caesuralaw06.ExprSames'. -/
def exprSamesUptoCard : Claim7 := { stood := { row := exprSamesUptoRow, standIns := [], harness := (true, "0b4689da0b01dd171fb0dcd8ed8ef31e8991725b71e1659234f616c71fa03035"), looks := true }, kinds := [], alts := [], laidByText := true, laidKinds := [.data, .pinned], laidTests := true, laidLooks := .later }
def ExprSamesUptoCardSaid : Prop := Claim7.holds Tryd.pinned (.plain (OpenSpec.upto exprSamesSpec)) exprSamesUptoCard

/-- THE SECOND FORM's CARD OF 'caesuralaw06.ExprLines'. -/
def exprLinesUptoCard : Claim7 := { stood := { row := exprLinesUptoRow, standIns := [], harness := (true, "0b4689da0b01dd171fb0dcd8ed8ef31e8991725b71e1659234f616c71fa03035"), looks := true }, kinds := [], alts := [], laidByText := true, laidKinds := [.data, .pinned], laidTests := true, laidLooks := .later }
def ExprLinesUptoCardSaid : Prop := Claim7.holds Tryd.pinned (.plain (OpenSpec.upto exprLinesSpec)) exprLinesUptoCard
end Rows
end Go.Proofs.YtdbjjakkjmhdgaaDoor
