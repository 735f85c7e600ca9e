/-
  DERIVED. GIVEN WITH THE SEED: THE CARDS: each row of YtjjkmpdgiogchaaGreatDoorRows.lean that lists a variable, with what it lists TIED to the program's text (the seventh form; the later family's looks); each row that meets fmt, with fmt's text TOLD by the authors' own Lean function (tested against real Go, not proved from fmt's source: count such statements apart). THE CARD IS WHAT COUNTS. Prove the row's statement (the work); the ties are given (YtjjkmpdgiogchaaGreatDoorTie.lean); close each card by the builder's one call (the guide's Derived/Test/ToyasCard.lean, 'card_holds'). Laid BY PROGRAM, IN A SANDBOX (cutbox-door.mjs). By AI agents, Wed Nov 11 2026. No macro, syntax, notation, axiom, sorry.
-/
import Derived.Test.YtjjkmpdgiogchaaGreatDoorRows
import GoSem.ClaimSeven
namespace Go.Proofs.YtjjkmpdgiogchaaGreatDoor
namespace Rows

/-- THE TIED CARD OF 'moneyerlaw04.MsumEmpties'. -/
def msumEmptiesCard : Claim7 := { stood := { row := msumEmptiesRow, standIns := [], harness := (true, "445d7eb7ef123f9aa5a09ecd2337b62cc594bd74ebdd435a32cec1a772fc8fbf"), looks := false }, kinds := [], alts := [], laidByText := true, laidKinds := [.data, .data], laidTests := true, laidLooks := .later }
def MsumEmptiesCardSaid : Prop := Claim7.holds Tryz.pinned (.plain (OpenSpec.ofChange msumEmptiesSpec)) msumEmptiesCard

/-- THE TIED CARD OF 'moneyerlaw04.MsumRoots'. -/
def msumRootsCard : Claim7 := { stood := { row := msumRootsRow, standIns := [], harness := (true, "445d7eb7ef123f9aa5a09ecd2337b62cc594bd74ebdd435a32cec1a772fc8fbf"), looks := false }, kinds := [], alts := [], laidByText := true, laidKinds := [.data, .data], laidTests := true, laidLooks := .later }
def MsumRootsCardSaid : Prop := Claim7.holds Tryz.pinned (.plain (OpenSpec.ofChange msumRootsSpec)) msumRootsCard

/-- THE SECOND FORM's CARD OF 'moneyerlaw04.MsumEmpties'. -/
def msumEmptiesUptoCard : Claim7 := { stood := { row := msumEmptiesUptoRow, standIns := [], harness := (true, "445d7eb7ef123f9aa5a09ecd2337b62cc594bd74ebdd435a32cec1a772fc8fbf"), looks := false }, kinds := [], alts := [], laidByText := true, laidKinds := [.data, .data], laidTests := true, laidLooks := .later }
def MsumEmptiesUptoCardSaid : Prop := Claim7.holds Tryz.pinned (.plain (OpenSpec.upto msumEmptiesSpec)) msumEmptiesUptoCard

/-- THE SECOND FORM's CARD OF 'moneyerlaw04.MsumRoots'. -/
def msumRootsUptoCard : Claim7 := { stood := { row := msumRootsUptoRow, standIns := [], harness := (true, "445d7eb7ef123f9aa5a09ecd2337b62cc594bd74ebdd435a32cec1a772fc8fbf"), looks := false }, kinds := [], alts := [], laidByText := true, laidKinds := [.data, .data], laidTests := true, laidLooks := .later }
def MsumRootsUptoCardSaid : Prop := Claim7.holds Tryz.pinned (.plain (OpenSpec.upto msumRootsSpec)) msumRootsUptoCard
end Rows
end Go.Proofs.YtjjkmpdgiogchaaGreatDoor
