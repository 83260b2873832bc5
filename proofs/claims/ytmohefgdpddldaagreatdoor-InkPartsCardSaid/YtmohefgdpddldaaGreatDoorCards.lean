/-
  DERIVED. GIVEN WITH THE SEED: THE CARDS: each row of YtmohefgdpddldaaGreatDoorRows.lean that lists a variable, with what it lists TIED to the program's text (the seventh form; the later family's looks); each row that meets fmt, with fmt's text TOLD by the authors' own Lean function (tested against real Go, not proved from fmt's source: count such statements apart). THE CARD IS WHAT COUNTS. Prove the row's statement (the work); the ties are given (YtmohefgdpddldaaGreatDoorTie.lean); close each card by the builder's one call (the guide's Derived/Test/ToyasCard.lean, 'card_holds'). Laid BY PROGRAM, IN A SANDBOX (cutbox-door.mjs). By AI agents, Wed Nov 11 2026. No macro, syntax, notation, axiom, sorry.
-/
import Derived.Test.YtmohefgdpddldaaGreatDoorRows
import GoSem.ClaimSeven
namespace Go.Proofs.YtmohefgdpddldaaGreatDoor
namespace Rows

/-- THE TIED CARD OF 'caesuralaw07.InkWrites'. -/
def inkWritesCard : Claim7 := { stood := { row := inkWritesRow, standIns := [], harness := (true, "5ede0a325a208dd29142b7a25bd5fead7f8eb9936ff9cf4a484ea06ef3a61abe"), looks := false }, kinds := [], alts := [], laidByText := true, laidKinds := [.data, .data, .data, .data, .pinned], laidTests := true, laidLooks := .later }
def InkWritesCardSaid : Prop := Claim7.holds Tryz.pinned (.plain (OpenSpec.ofChange inkWritesSpec)) inkWritesCard

/-- THE TIED CARD OF 'caesuralaw07.InkBack'. -/
def inkBackCard : Claim7 := { stood := { row := inkBackRow, standIns := [], harness := (true, "5ede0a325a208dd29142b7a25bd5fead7f8eb9936ff9cf4a484ea06ef3a61abe"), looks := false }, kinds := [], alts := [], laidByText := true, laidKinds := [.data, .data, .data, .data, .pinned], laidTests := true, laidLooks := .later }
def InkBackCardSaid : Prop := Claim7.holds Tryz.pinned (.plain (OpenSpec.ofChange inkBackSpec)) inkBackCard

/-- THE TIED CARD OF 'caesuralaw07.InkLines'. -/
def inkLinesCard : Claim7 := { stood := { row := inkLinesRow, standIns := [], harness := (true, "5ede0a325a208dd29142b7a25bd5fead7f8eb9936ff9cf4a484ea06ef3a61abe"), looks := false }, kinds := [], alts := [], laidByText := true, laidKinds := [.data, .data, .data, .data, .pinned], laidTests := true, laidLooks := .later }
def InkLinesCardSaid : Prop := Claim7.holds Tryz.pinned (.plain (OpenSpec.ofChange inkLinesSpec)) inkLinesCard

/-- THE TIED CARD OF 'caesuralaw07.InkParts'. -/
def inkPartsCard : Claim7 := { stood := { row := inkPartsRow, standIns := [], harness := (true, "5ede0a325a208dd29142b7a25bd5fead7f8eb9936ff9cf4a484ea06ef3a61abe"), looks := false }, kinds := [], alts := [], laidByText := true, laidKinds := [.data, .data, .data, .data, .pinned], laidTests := true, laidLooks := .later }
def InkPartsCardSaid : Prop := Claim7.holds Tryz.pinned (.plain (OpenSpec.ofChange inkPartsSpec)) inkPartsCard

/-- THE SECOND FORM's CARD OF 'caesuralaw07.InkWrites'. -/
def inkWritesUptoCard : Claim7 := { stood := { row := inkWritesUptoRow, standIns := [], harness := (true, "5ede0a325a208dd29142b7a25bd5fead7f8eb9936ff9cf4a484ea06ef3a61abe"), looks := false }, kinds := [], alts := [], laidByText := true, laidKinds := [.data, .data, .data, .data, .pinned], laidTests := true, laidLooks := .later }
def InkWritesUptoCardSaid : Prop := Claim7.holds Tryz.pinned (.plain (OpenSpec.upto inkWritesSpec)) inkWritesUptoCard

/-- THE SECOND FORM's CARD OF 'caesuralaw07.InkBack'. -/
def inkBackUptoCard : Claim7 := { stood := { row := inkBackUptoRow, standIns := [], harness := (true, "5ede0a325a208dd29142b7a25bd5fead7f8eb9936ff9cf4a484ea06ef3a61abe"), looks := false }, kinds := [], alts := [], laidByText := true, laidKinds := [.data, .data, .data, .data, .pinned], laidTests := true, laidLooks := .later }
def InkBackUptoCardSaid : Prop := Claim7.holds Tryz.pinned (.plain (OpenSpec.upto inkBackSpec)) inkBackUptoCard

/-- THE SECOND FORM's CARD OF 'caesuralaw07.InkLines'. -/
def inkLinesUptoCard : Claim7 := { stood := { row := inkLinesUptoRow, standIns := [], harness := (true, "5ede0a325a208dd29142b7a25bd5fead7f8eb9936ff9cf4a484ea06ef3a61abe"), looks := false }, kinds := [], alts := [], laidByText := true, laidKinds := [.data, .data, .data, .data, .pinned], laidTests := true, laidLooks := .later }
def InkLinesUptoCardSaid : Prop := Claim7.holds Tryz.pinned (.plain (OpenSpec.upto inkLinesSpec)) inkLinesUptoCard

/-- THE SECOND FORM's CARD OF 'caesuralaw07.InkParts'. -/
def inkPartsUptoCard : Claim7 := { stood := { row := inkPartsUptoRow, standIns := [], harness := (true, "5ede0a325a208dd29142b7a25bd5fead7f8eb9936ff9cf4a484ea06ef3a61abe"), looks := false }, kinds := [], alts := [], laidByText := true, laidKinds := [.data, .data, .data, .data, .pinned], laidTests := true, laidLooks := .later }
def InkPartsUptoCardSaid : Prop := Claim7.holds Tryz.pinned (.plain (OpenSpec.upto inkPartsSpec)) inkPartsUptoCard
end Rows
end Go.Proofs.YtmohefgdpddldaaGreatDoor
