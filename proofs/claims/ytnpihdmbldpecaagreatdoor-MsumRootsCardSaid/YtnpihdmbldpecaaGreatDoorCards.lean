/-
  DERIVED. GIVEN WITH THE SEED: THE CARDS: each row of YtnpihdmbldpecaaGreatDoorRows.lean that lists a variable, with what it lists TIED to the program's text (the seventh form; the later family's looks); each row that meets fmt, with fmt's text TOLD by the authors' own Lean function (tested against real Go, not proved from fmt's source: count such statements apart). THE CARD IS WHAT COUNTS. Prove the row's statement (the work); the ties are given (YtnpihdmbldpecaaGreatDoorTie.lean); close each card by the builder's one call (the guide's Derived/Test/ToyasCard.lean, 'card_holds'). Laid BY PROGRAM, IN A SANDBOX (cutbox-door.mjs). By AI agents, Wed Nov 11 2026. No macro, syntax, notation, axiom, sorry.
-/
import Derived.Test.YtnpihdmbldpecaaGreatDoorRows
import GoSem.ClaimSeven
namespace Go.Proofs.YtnpihdmbldpecaaGreatDoor
namespace Rows

/-- THE TIED CARD OF 'moneyerlaw04.MsumRoots'. -/
def msumRootsCard : Claim7 := { stood := { row := msumRootsRow, standIns := [], harness := (true, "610ebcdb83a59add1dcc5deb73e066fbc0bd313207a7e20a2d5e9b3f52ab0a39"), looks := false }, kinds := [], alts := [], laidByText := true, laidKinds := [.data, .data], laidTests := true, laidLooks := .later }
def MsumRootsCardSaid : Prop := Claim7.holds Tryz.pinned (.plain (OpenSpec.ofChange msumRootsSpec)) msumRootsCard

/-- THE SECOND FORM's CARD OF 'moneyerlaw04.MsumRoots'. -/
def msumRootsUptoCard : Claim7 := { stood := { row := msumRootsUptoRow, standIns := [], harness := (true, "610ebcdb83a59add1dcc5deb73e066fbc0bd313207a7e20a2d5e9b3f52ab0a39"), looks := false }, kinds := [], alts := [], laidByText := true, laidKinds := [.data, .data], laidTests := true, laidLooks := .later }
def MsumRootsUptoCardSaid : Prop := Claim7.holds Tryz.pinned (.plain (OpenSpec.upto msumRootsSpec)) msumRootsUptoCard
end Rows
end Go.Proofs.YtnpihdmbldpecaaGreatDoor
