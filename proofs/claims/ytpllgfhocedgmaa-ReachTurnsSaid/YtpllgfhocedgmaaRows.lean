/-
  NARROWER THAN 'FOR EVERY INPUT', by the rows' own cells (each row's printed sentence says how): ReachTurns: loops · ReachKinds: loops · ReachParts: loops · VerdictOne: loops · VerdictWithout: loops · VerdictLast: loops.
  DERIVED. THE GIVEN ROWS OF THIS SEAT. 6 by the template 'for every input the law returns true; each argument reads behind the call as it read before'; 0 by the template 'total and deterministic' (their statements: YtpllgfhocedgmaaTotals.lean).
  GIVEN WITH THE SEED: the statements are not yours to turn. If you find one false, say at which input.
  Laid BY PROGRAM, IN A SANDBOX (cutbox-rows.mjs): the forced cells as the released guide's own fill.sh prints them over the translation af25a6797a470fca… (all of the seat's roots in one cut). By AI agents, Wed Nov 11 2026. No macro, syntax, notation, axiom, sorry.
-/
import Derived.Test.YtpllgfhocedgmaaChecked
import GoSem.Claim
import GoSem.ClaimJoined
import GoSem.ClaimMapViews
import Derived.JoinedTies
import Derived.KernelRfl
namespace Go.Proofs.Ytpllgfhocedgmaa
/- THE CELL 'sum', in the pinned program and in every row, IS THE sha256 OF THE DUMP (.gsa) THAT YtpllgfhocedgmaaProg.lean LOADS. Nothing in Lean hashes anything: it is a label: what it is worth is what the hold of that sum in a sandbox is worth. -/
noncomputable def Try.pinned : Pinned := { name := "ytpllgfhocedgmaa", sum := "af25a6797a470fca89318e338bf6f7ebe8476d84e81a594752e30c90a6a11f9d", checked := Try.checked }
namespace Rows
def none {H : Type} : Left H := { results := [], args := [] }

/-- 'caesuralaw11.ReachTurns': WHATEVER THE INPUT: true; the input reads as it did. -/
def reachTurnsSpec : ChangeSpec := { name := "reachTurns", fn := fun _ => fun
  | [d1, d2] => { results := [.lit (.bool true)], args := [d1, d2] }
  | _ => none }
def reachTurnsRow : OpenClaim := { program := "ytpllgfhocedgmaa", sum := "af25a6797a470fca89318e338bf6f7ebe8476d84e81a594752e30c90a6a11f9d", func := "caesura/caesuralaw11.ReachTurns", spec := "reachTurns", unfollowed := true, recurses := true, loops := true, plainKeys := false, apart := false }
def ReachTurnsSaid : Prop := reachTurnsRow.holds Try.pinned (OpenSpec.ofChange reachTurnsSpec)

/-- ITS FALSE NEIGHBOUR: 'it returns false'. Refute it at one input. -/
def reachTurnsWrong : ChangeSpec := { name := "reachTurns", fn := fun _ => fun
  | [d1, d2] => { results := [.lit (.bool false)], args := [d1, d2] }
  | _ => none }
def ReachTurnsWrongFalsely : Prop := reachTurnsRow.holds Try.pinned (OpenSpec.ofChange reachTurnsWrong)

/-- 'caesuralaw11.ReachKinds': WHATEVER THE INPUT: true; the input reads as it did. -/
def reachKindsSpec : ChangeSpec := { name := "reachKinds", fn := fun _ => fun
  | [d1, d2, d3] => { results := [.lit (.bool true)], args := [d1, d2, d3] }
  | _ => none }
def reachKindsRow : OpenClaim := { program := "ytpllgfhocedgmaa", sum := "af25a6797a470fca89318e338bf6f7ebe8476d84e81a594752e30c90a6a11f9d", func := "caesura/caesuralaw11.ReachKinds", spec := "reachKinds", unfollowed := true, recurses := true, loops := true, plainKeys := false, apart := false }
def ReachKindsSaid : Prop := reachKindsRow.holds Try.pinned (OpenSpec.ofChange reachKindsSpec)

/-- ITS FALSE NEIGHBOUR: 'it returns false'. Refute it at one input. -/
def reachKindsWrong : ChangeSpec := { name := "reachKinds", fn := fun _ => fun
  | [d1, d2, d3] => { results := [.lit (.bool false)], args := [d1, d2, d3] }
  | _ => none }
def ReachKindsWrongFalsely : Prop := reachKindsRow.holds Try.pinned (OpenSpec.ofChange reachKindsWrong)

/-- 'caesuralaw11.ReachParts': WHATEVER THE INPUT: true; the input reads as it did. -/
def reachPartsSpec : ChangeSpec := { name := "reachParts", fn := fun _ => fun
  | [d1, d2, d3] => { results := [.lit (.bool true)], args := [d1, d2, d3] }
  | _ => none }
def reachPartsRow : OpenClaim := { program := "ytpllgfhocedgmaa", sum := "af25a6797a470fca89318e338bf6f7ebe8476d84e81a594752e30c90a6a11f9d", func := "caesura/caesuralaw11.ReachParts", spec := "reachParts", unfollowed := true, recurses := true, loops := true, plainKeys := false, apart := false }
def ReachPartsSaid : Prop := reachPartsRow.holds Try.pinned (OpenSpec.ofChange reachPartsSpec)

/-- ITS FALSE NEIGHBOUR: 'it returns false'. Refute it at one input. -/
def reachPartsWrong : ChangeSpec := { name := "reachParts", fn := fun _ => fun
  | [d1, d2, d3] => { results := [.lit (.bool false)], args := [d1, d2, d3] }
  | _ => none }
def ReachPartsWrongFalsely : Prop := reachPartsRow.holds Try.pinned (OpenSpec.ofChange reachPartsWrong)

/-- 'caesuralaw12.VerdictOne': WHATEVER THE INPUT: true; the input reads as it did. -/
def verdictOneSpec : ChangeSpec := { name := "verdictOne", fn := fun _ => fun
  | [d1, d2] => { results := [.lit (.bool true)], args := [d1, d2] }
  | _ => none }
def verdictOneRow : OpenClaim := { program := "ytpllgfhocedgmaa", sum := "af25a6797a470fca89318e338bf6f7ebe8476d84e81a594752e30c90a6a11f9d", func := "caesura/caesuralaw12.VerdictOne", spec := "verdictOne", unfollowed := true, recurses := true, loops := true, plainKeys := false, apart := false }
def VerdictOneSaid : Prop := verdictOneRow.holds Try.pinned (OpenSpec.ofChange verdictOneSpec)

/-- ITS FALSE NEIGHBOUR: 'it returns false'. Refute it at one input. -/
def verdictOneWrong : ChangeSpec := { name := "verdictOne", fn := fun _ => fun
  | [d1, d2] => { results := [.lit (.bool false)], args := [d1, d2] }
  | _ => none }
def VerdictOneWrongFalsely : Prop := verdictOneRow.holds Try.pinned (OpenSpec.ofChange verdictOneWrong)

/-- 'caesuralaw12.VerdictWithout': WHATEVER THE INPUT: true; the input reads as it did. -/
def verdictWithoutSpec : ChangeSpec := { name := "verdictWithout", fn := fun _ => fun
  | [d1, d2, d3] => { results := [.lit (.bool true)], args := [d1, d2, d3] }
  | _ => none }
def verdictWithoutRow : OpenClaim := { program := "ytpllgfhocedgmaa", sum := "af25a6797a470fca89318e338bf6f7ebe8476d84e81a594752e30c90a6a11f9d", func := "caesura/caesuralaw12.VerdictWithout", spec := "verdictWithout", unfollowed := true, recurses := true, loops := true, plainKeys := false, apart := false }
def VerdictWithoutSaid : Prop := verdictWithoutRow.holds Try.pinned (OpenSpec.ofChange verdictWithoutSpec)

/-- ITS FALSE NEIGHBOUR: 'it returns false'. Refute it at one input. -/
def verdictWithoutWrong : ChangeSpec := { name := "verdictWithout", fn := fun _ => fun
  | [d1, d2, d3] => { results := [.lit (.bool false)], args := [d1, d2, d3] }
  | _ => none }
def VerdictWithoutWrongFalsely : Prop := verdictWithoutRow.holds Try.pinned (OpenSpec.ofChange verdictWithoutWrong)

/-- 'caesuralaw12.VerdictLast': WHATEVER THE INPUT: true; the input reads as it did. -/
def verdictLastSpec : ChangeSpec := { name := "verdictLast", fn := fun _ => fun
  | [d1, d2, d3] => { results := [.lit (.bool true)], args := [d1, d2, d3] }
  | _ => none }
def verdictLastRow : OpenClaim := { program := "ytpllgfhocedgmaa", sum := "af25a6797a470fca89318e338bf6f7ebe8476d84e81a594752e30c90a6a11f9d", func := "caesura/caesuralaw12.VerdictLast", spec := "verdictLast", unfollowed := true, recurses := true, loops := true, plainKeys := false, apart := false }
def VerdictLastSaid : Prop := verdictLastRow.holds Try.pinned (OpenSpec.ofChange verdictLastSpec)

/-- ITS FALSE NEIGHBOUR: 'it returns false'. Refute it at one input. -/
def verdictLastWrong : ChangeSpec := { name := "verdictLast", fn := fun _ => fun
  | [d1, d2, d3] => { results := [.lit (.bool false)], args := [d1, d2, d3] }
  | _ => none }
def VerdictLastWrongFalsely : Prop := verdictLastRow.holds Try.pinned (OpenSpec.ofChange verdictLastWrong)

/- THE SECOND FORM. 'bulk': how many values and letters a reading holds, each counted each time it is reached (what is shared counts as often as it is met; a slice's spare places count too). A statement '..UptoSaid' is the law's where the arguments, and the package variables that the reading takes, are together of bulk at most 1048576: NARROWER than '..Said'. Prove '..Said' where nothing that the law and all that it calls make is longer than what came in: it says more and counts as full. Else prove '..UptoSaid'. A law counts once. -/
mutual
def uptoBulk {H : Type} : DataW H → Nat
  | .lit (.string bytes) => bytes.length + 1
  | .lit _ => 1
  | .nil => 1
  | .ptr d => uptoBulk d + 1
  | .slice elems spare => uptoBulkAll elems + uptoBulkAll spare + 1
  | .agg parts => uptoBulkAll parts + 1
  | .iface _ d => uptoBulk d + 1
  | .map entries => uptoBulkEntries entries + 1
  | .held _ => 1
def uptoBulkAll {H : Type} : List (DataW H) → Nat
  | [] => 0
  | d :: r => uptoBulk d + uptoBulkAll r
def uptoBulkEntries {H : Type} : List (Lit × DataW H) → Nat
  | [] => 0
  | x :: r => uptoBulkEntry x + uptoBulkEntries r
def uptoBulkEntry {H : Type} : Lit × DataW H → Nat
  | (.string bytes, d) => bytes.length + uptoBulk d + 1
  | (_, d) => uptoBulk d + 1
 end
def uptoSmall : (H : Type) → List (DataW H) → Bool := fun _ ds => decide (uptoBulkAll ds ≤ 1048576)
def OpenSpec.upto (s : _root_.Go.ChangeSpec) : _root_.Go.OpenSpec := { _root_.Go.OpenSpec.ofChange s with cond := some uptoSmall }

/-- 'caesuralaw11.ReachTurns', WHERE WHAT IT READS IS OF BULK AT MOST 1048576: true; the input reads as it did. -/
def reachTurnsUptoRow : OpenClaim := { program := "ytpllgfhocedgmaa", sum := "af25a6797a470fca89318e338bf6f7ebe8476d84e81a594752e30c90a6a11f9d", func := "caesura/caesuralaw11.ReachTurns", spec := "reachTurns", unfollowed := true, recurses := true, loops := true, plainKeys := false, apart := false, narrowed := true }
def ReachTurnsUptoSaid : Prop := reachTurnsUptoRow.holds Try.pinned (OpenSpec.upto reachTurnsSpec)

/-- 'caesuralaw11.ReachKinds', WHERE WHAT IT READS IS OF BULK AT MOST 1048576: true; the input reads as it did. -/
def reachKindsUptoRow : OpenClaim := { program := "ytpllgfhocedgmaa", sum := "af25a6797a470fca89318e338bf6f7ebe8476d84e81a594752e30c90a6a11f9d", func := "caesura/caesuralaw11.ReachKinds", spec := "reachKinds", unfollowed := true, recurses := true, loops := true, plainKeys := false, apart := false, narrowed := true }
def ReachKindsUptoSaid : Prop := reachKindsUptoRow.holds Try.pinned (OpenSpec.upto reachKindsSpec)

/-- 'caesuralaw11.ReachParts', WHERE WHAT IT READS IS OF BULK AT MOST 1048576: true; the input reads as it did. -/
def reachPartsUptoRow : OpenClaim := { program := "ytpllgfhocedgmaa", sum := "af25a6797a470fca89318e338bf6f7ebe8476d84e81a594752e30c90a6a11f9d", func := "caesura/caesuralaw11.ReachParts", spec := "reachParts", unfollowed := true, recurses := true, loops := true, plainKeys := false, apart := false, narrowed := true }
def ReachPartsUptoSaid : Prop := reachPartsUptoRow.holds Try.pinned (OpenSpec.upto reachPartsSpec)

/-- 'caesuralaw12.VerdictOne', WHERE WHAT IT READS IS OF BULK AT MOST 1048576: true; the input reads as it did. -/
def verdictOneUptoRow : OpenClaim := { program := "ytpllgfhocedgmaa", sum := "af25a6797a470fca89318e338bf6f7ebe8476d84e81a594752e30c90a6a11f9d", func := "caesura/caesuralaw12.VerdictOne", spec := "verdictOne", unfollowed := true, recurses := true, loops := true, plainKeys := false, apart := false, narrowed := true }
def VerdictOneUptoSaid : Prop := verdictOneUptoRow.holds Try.pinned (OpenSpec.upto verdictOneSpec)

/-- 'caesuralaw12.VerdictWithout', WHERE WHAT IT READS IS OF BULK AT MOST 1048576: true; the input reads as it did. -/
def verdictWithoutUptoRow : OpenClaim := { program := "ytpllgfhocedgmaa", sum := "af25a6797a470fca89318e338bf6f7ebe8476d84e81a594752e30c90a6a11f9d", func := "caesura/caesuralaw12.VerdictWithout", spec := "verdictWithout", unfollowed := true, recurses := true, loops := true, plainKeys := false, apart := false, narrowed := true }
def VerdictWithoutUptoSaid : Prop := verdictWithoutUptoRow.holds Try.pinned (OpenSpec.upto verdictWithoutSpec)

/-- 'caesuralaw12.VerdictLast', WHERE WHAT IT READS IS OF BULK AT MOST 1048576: true; the input reads as it did. -/
def verdictLastUptoRow : OpenClaim := { program := "ytpllgfhocedgmaa", sum := "af25a6797a470fca89318e338bf6f7ebe8476d84e81a594752e30c90a6a11f9d", func := "caesura/caesuralaw12.VerdictLast", spec := "verdictLast", unfollowed := true, recurses := true, loops := true, plainKeys := false, apart := false, narrowed := true }
def VerdictLastUptoSaid : Prop := verdictLastUptoRow.holds Try.pinned (OpenSpec.upto verdictLastSpec)

end Rows
end Go.Proofs.Ytpllgfhocedgmaa
