/-
  DERIVED. GIVEN WITH THE SEED: THE CARDS: each row of YtdhighnbbpngpaaGreatDoorRows.lean that lists a variable, with what it lists TIED to the program's text (the seventh form; the later family's looks); each row that meets fmt, with fmt's text TOLD by the authors' own Lean function (tested against real Go, not proved from fmt's source: count such statements apart). THE CARD IS WHAT COUNTS. Prove the row's statement (the work); the ties are given (YtdhighnbbpngpaaGreatDoorTie.lean); close each card by the builder's one call (the guide's Derived/Test/ToyasCard.lean, 'card_holds'). Laid BY PROGRAM, IN A SANDBOX (cutbox-door.mjs). By AI agents, Wed Nov 11 2026. No macro, syntax, notation, axiom, sorry.
-/
import Derived.Test.YtdhighnbbpngpaaGreatDoorRows
import GoSem.ClaimSeven
namespace Go.Proofs.YtdhighnbbpngpaaGreatDoor
namespace Rows

/-- THE TIED CARD OF 'caesuralaw06.ExprBrackets'. -/
def exprBracketsCard : Claim7 := { stood := { row := exprBracketsRow, standIns := [], harness := (true, "eb5149ccc9d93fca7cd62ea1ef14abd60b993c3cd6bb8a39c6b1e5ed50f52e2e"), looks := true }, kinds := [], alts := [], laidByText := true, laidKinds := [.data, .pinned], laidTests := true, laidLooks := .later }
def ExprBracketsCardSaid : Prop := Claim7.holds Tryz.pinned (.plain (OpenSpec.ofChange exprBracketsSpec)) exprBracketsCard

/-- THE TIED CARD OF 'caesuralaw07.InkWrites'. -/
def inkWritesCard : Claim7 := { stood := { row := inkWritesRow, standIns := [], harness := (true, "eb5149ccc9d93fca7cd62ea1ef14abd60b993c3cd6bb8a39c6b1e5ed50f52e2e"), looks := true }, kinds := [], alts := [], laidByText := true, laidKinds := [.data, .data, .data, .data, .pinned], laidTests := true, laidLooks := .later }
def InkWritesCardSaid : Prop := Claim7.holds Tryz.pinned (.plain (OpenSpec.ofChange inkWritesSpec)) inkWritesCard

/-- THE TIED CARD OF 'caesuralaw07.InkBack'. -/
def inkBackCard : Claim7 := { stood := { row := inkBackRow, standIns := [], harness := (true, "eb5149ccc9d93fca7cd62ea1ef14abd60b993c3cd6bb8a39c6b1e5ed50f52e2e"), looks := true }, kinds := [], alts := [], laidByText := true, laidKinds := [.data, .data, .data, .data, .pinned], laidTests := true, laidLooks := .later }
def InkBackCardSaid : Prop := Claim7.holds Tryz.pinned (.plain (OpenSpec.ofChange inkBackSpec)) inkBackCard

/-- THE TIED CARD OF 'caesuralaw07.InkLines'. -/
def inkLinesCard : Claim7 := { stood := { row := inkLinesRow, standIns := [], harness := (true, "eb5149ccc9d93fca7cd62ea1ef14abd60b993c3cd6bb8a39c6b1e5ed50f52e2e"), looks := true }, kinds := [], alts := [], laidByText := true, laidKinds := [.data, .data, .data, .data, .pinned], laidTests := true, laidLooks := .later }
def InkLinesCardSaid : Prop := Claim7.holds Tryz.pinned (.plain (OpenSpec.ofChange inkLinesSpec)) inkLinesCard

/-- THE TIED CARD OF 'caesuralaw07.InkParts'. -/
def inkPartsCard : Claim7 := { stood := { row := inkPartsRow, standIns := [], harness := (true, "eb5149ccc9d93fca7cd62ea1ef14abd60b993c3cd6bb8a39c6b1e5ed50f52e2e"), looks := true }, kinds := [], alts := [], laidByText := true, laidKinds := [.data, .data, .data, .data, .pinned], laidTests := true, laidLooks := .later }
def InkPartsCardSaid : Prop := Claim7.holds Tryz.pinned (.plain (OpenSpec.ofChange inkPartsSpec)) inkPartsCard

/-- THE SECOND FORM's CARD OF 'caesuralaw06.ExprBrackets'. -/
def exprBracketsUptoCard : Claim7 := { stood := { row := exprBracketsUptoRow, standIns := [], harness := (true, "eb5149ccc9d93fca7cd62ea1ef14abd60b993c3cd6bb8a39c6b1e5ed50f52e2e"), looks := true }, kinds := [], alts := [], laidByText := true, laidKinds := [.data, .pinned], laidTests := true, laidLooks := .later }
def ExprBracketsUptoCardSaid : Prop := Claim7.holds Tryz.pinned (.plain (OpenSpec.upto exprBracketsSpec)) exprBracketsUptoCard

/-- THE SECOND FORM's CARD OF 'caesuralaw07.InkWrites'. -/
def inkWritesUptoCard : Claim7 := { stood := { row := inkWritesUptoRow, standIns := [], harness := (true, "eb5149ccc9d93fca7cd62ea1ef14abd60b993c3cd6bb8a39c6b1e5ed50f52e2e"), looks := true }, kinds := [], alts := [], laidByText := true, laidKinds := [.data, .data, .data, .data, .pinned], laidTests := true, laidLooks := .later }
def InkWritesUptoCardSaid : Prop := Claim7.holds Tryz.pinned (.plain (OpenSpec.upto inkWritesSpec)) inkWritesUptoCard

/-- THE SECOND FORM's CARD OF 'caesuralaw07.InkBack'. -/
def inkBackUptoCard : Claim7 := { stood := { row := inkBackUptoRow, standIns := [], harness := (true, "eb5149ccc9d93fca7cd62ea1ef14abd60b993c3cd6bb8a39c6b1e5ed50f52e2e"), looks := true }, kinds := [], alts := [], laidByText := true, laidKinds := [.data, .data, .data, .data, .pinned], laidTests := true, laidLooks := .later }
def InkBackUptoCardSaid : Prop := Claim7.holds Tryz.pinned (.plain (OpenSpec.upto inkBackSpec)) inkBackUptoCard

/-- THE SECOND FORM's CARD OF 'caesuralaw07.InkLines'. -/
def inkLinesUptoCard : Claim7 := { stood := { row := inkLinesUptoRow, standIns := [], harness := (true, "eb5149ccc9d93fca7cd62ea1ef14abd60b993c3cd6bb8a39c6b1e5ed50f52e2e"), looks := true }, kinds := [], alts := [], laidByText := true, laidKinds := [.data, .data, .data, .data, .pinned], laidTests := true, laidLooks := .later }
def InkLinesUptoCardSaid : Prop := Claim7.holds Tryz.pinned (.plain (OpenSpec.upto inkLinesSpec)) inkLinesUptoCard

/-- THE SECOND FORM's CARD OF 'caesuralaw07.InkParts'. -/
def inkPartsUptoCard : Claim7 := { stood := { row := inkPartsUptoRow, standIns := [], harness := (true, "eb5149ccc9d93fca7cd62ea1ef14abd60b993c3cd6bb8a39c6b1e5ed50f52e2e"), looks := true }, kinds := [], alts := [], laidByText := true, laidKinds := [.data, .data, .data, .data, .pinned], laidTests := true, laidLooks := .later }
def InkPartsUptoCardSaid : Prop := Claim7.holds Tryz.pinned (.plain (OpenSpec.upto inkPartsSpec)) inkPartsUptoCard
end Rows
end Go.Proofs.YtdhighnbbpngpaaGreatDoor
