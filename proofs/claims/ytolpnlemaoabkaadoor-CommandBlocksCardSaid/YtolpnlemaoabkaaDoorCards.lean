/-
  DERIVED. GIVEN WITH THE SEED: THE CARDS: each row of YtolpnlemaoabkaaDoorRows.lean that lists a variable, with what it lists TIED to the program's text (the seventh form; the later family's looks); each row that meets fmt, with fmt's text TOLD by the authors' own Lean function (tested against real Go, not proved from fmt's source: count such statements apart). THE CARD IS WHAT COUNTS. Prove the row's statement (the work); the ties are given (YtolpnlemaoabkaaDoorTie.lean); close each card by the builder's one call (the guide's Derived/Test/ToyasCard.lean, 'card_holds'). Laid BY PROGRAM, IN A SANDBOX (cutbox-door.mjs). By AI agents, Wed Nov 11 2026. No macro, syntax, notation, axiom, sorry.
-/
import Derived.Test.YtolpnlemaoabkaaDoorRows
import GoSem.ClaimSeven
namespace Go.Proofs.YtolpnlemaoabkaaDoor
namespace Rows

/-- THE TIED CARD OF 'zoneappendlaw15.CommandExact'. -/
def commandExactCard : Claim7 := { stood := { row := commandExactRow, standIns := [], harness := (true, "06c5adf343a861868b3063e7149472108f6e2e0f4688a2789d48c788da09d2e1"), looks := false }, kinds := [], alts := [], laidByText := true, laidKinds := [.data], laidTests := true, laidLooks := .later }
def CommandExactCardSaid : Prop := Claim7.holds Tryd.pinned (.plain (OpenSpec.ofChange commandExactSpec)) commandExactCard

/-- THE TIED CARD OF 'zoneappendlaw15.CommandBlocks'. -/
def commandBlocksCard : Claim7 := { stood := { row := commandBlocksRow, standIns := [], harness := (true, "06c5adf343a861868b3063e7149472108f6e2e0f4688a2789d48c788da09d2e1"), looks := false }, kinds := [], alts := [], laidByText := true, laidKinds := [.data], laidTests := true, laidLooks := .later }
def CommandBlocksCardSaid : Prop := Claim7.holds Tryd.pinned (.plain (OpenSpec.ofChange commandBlocksSpec)) commandBlocksCard

/-- THE SECOND FORM's CARD OF 'zoneappendlaw15.CommandExact'. -/
def commandExactUptoCard : Claim7 := { stood := { row := commandExactUptoRow, standIns := [], harness := (true, "06c5adf343a861868b3063e7149472108f6e2e0f4688a2789d48c788da09d2e1"), looks := false }, kinds := [], alts := [], laidByText := true, laidKinds := [.data], laidTests := true, laidLooks := .later }
def CommandExactUptoCardSaid : Prop := Claim7.holds Tryd.pinned (.plain (OpenSpec.upto commandExactSpec)) commandExactUptoCard

/-- THE SECOND FORM's CARD OF 'zoneappendlaw15.CommandBlocks'. -/
def commandBlocksUptoCard : Claim7 := { stood := { row := commandBlocksUptoRow, standIns := [], harness := (true, "06c5adf343a861868b3063e7149472108f6e2e0f4688a2789d48c788da09d2e1"), looks := false }, kinds := [], alts := [], laidByText := true, laidKinds := [.data], laidTests := true, laidLooks := .later }
def CommandBlocksUptoCardSaid : Prop := Claim7.holds Tryd.pinned (.plain (OpenSpec.upto commandBlocksSpec)) commandBlocksUptoCard
end Rows
end Go.Proofs.YtolpnlemaoabkaaDoor
