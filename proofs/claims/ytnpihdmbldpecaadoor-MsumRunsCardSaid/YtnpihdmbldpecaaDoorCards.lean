/-
  DERIVED. GIVEN WITH THE SEED: THE CARDS: each row of YtnpihdmbldpecaaDoorRows.lean that lists a variable, with what it lists TIED to the program's text (the seventh form; the later family's looks); each row that meets fmt, with fmt's text TOLD by the authors' own Lean function (tested against real Go, not proved from fmt's source: count such statements apart). THE CARD IS WHAT COUNTS. Prove the row's statement (the work); the ties are given (YtnpihdmbldpecaaDoorTie.lean); close each card by the builder's one call (the guide's Derived/Test/ToyasCard.lean, 'card_holds'). Laid BY PROGRAM, IN A SANDBOX (cutbox-door.mjs). By AI agents, Wed Nov 11 2026. No macro, syntax, notation, axiom, sorry.
-/
import Derived.Test.YtnpihdmbldpecaaDoorRows
import GoSem.ClaimSeven
namespace Go.Proofs.YtnpihdmbldpecaaDoor
namespace Rows

/-- THE TIED CARD OF 'moneyerlaw04.MsumRuns'. -/
def msumRunsCard : Claim7 := { stood := { row := msumRunsRow, standIns := [], harness := (true, "d1dde00d26230fb9297828ea483bbbb55e14cc6e4d240c42c466cfa11e3bc371"), looks := false }, kinds := [], alts := [], laidByText := true, laidKinds := [.data, .data], laidTests := true, laidLooks := .later }
def MsumRunsCardSaid : Prop := Claim7.holds Tryd.pinned (.plain (OpenSpec.ofChange msumRunsSpec)) msumRunsCard

/-- THE TIED CARD OF 'moneyerlaw04.MsumOrders'. -/
def msumOrdersCard : Claim7 := { stood := { row := msumOrdersRow, standIns := [], harness := (true, "d1dde00d26230fb9297828ea483bbbb55e14cc6e4d240c42c466cfa11e3bc371"), looks := false }, kinds := [], alts := [], laidByText := true, laidKinds := [.data, .data], laidTests := true, laidLooks := .later }
def MsumOrdersCardSaid : Prop := Claim7.holds Tryd.pinned (.plain (OpenSpec.ofChange msumOrdersSpec)) msumOrdersCard

/-- THE TIED CARD OF 'moneyerlaw04.MsumClimbs'. -/
def msumClimbsCard : Claim7 := { stood := { row := msumClimbsRow, standIns := [], harness := (true, "d1dde00d26230fb9297828ea483bbbb55e14cc6e4d240c42c466cfa11e3bc371"), looks := false }, kinds := [], alts := [], laidByText := true, laidKinds := [.data, .data], laidTests := true, laidLooks := .later }
def MsumClimbsCardSaid : Prop := Claim7.holds Tryd.pinned (.plain (OpenSpec.ofChange msumClimbsSpec)) msumClimbsCard

/-- THE SECOND FORM's CARD OF 'moneyerlaw04.MsumRuns'. -/
def msumRunsUptoCard : Claim7 := { stood := { row := msumRunsUptoRow, standIns := [], harness := (true, "d1dde00d26230fb9297828ea483bbbb55e14cc6e4d240c42c466cfa11e3bc371"), looks := false }, kinds := [], alts := [], laidByText := true, laidKinds := [.data, .data], laidTests := true, laidLooks := .later }
def MsumRunsUptoCardSaid : Prop := Claim7.holds Tryd.pinned (.plain (OpenSpec.upto msumRunsSpec)) msumRunsUptoCard

/-- THE SECOND FORM's CARD OF 'moneyerlaw04.MsumOrders'. -/
def msumOrdersUptoCard : Claim7 := { stood := { row := msumOrdersUptoRow, standIns := [], harness := (true, "d1dde00d26230fb9297828ea483bbbb55e14cc6e4d240c42c466cfa11e3bc371"), looks := false }, kinds := [], alts := [], laidByText := true, laidKinds := [.data, .data], laidTests := true, laidLooks := .later }
def MsumOrdersUptoCardSaid : Prop := Claim7.holds Tryd.pinned (.plain (OpenSpec.upto msumOrdersSpec)) msumOrdersUptoCard

/-- THE SECOND FORM's CARD OF 'moneyerlaw04.MsumClimbs'. -/
def msumClimbsUptoCard : Claim7 := { stood := { row := msumClimbsUptoRow, standIns := [], harness := (true, "d1dde00d26230fb9297828ea483bbbb55e14cc6e4d240c42c466cfa11e3bc371"), looks := false }, kinds := [], alts := [], laidByText := true, laidKinds := [.data, .data], laidTests := true, laidLooks := .later }
def MsumClimbsUptoCardSaid : Prop := Claim7.holds Tryd.pinned (.plain (OpenSpec.upto msumClimbsSpec)) msumClimbsUptoCard
end Rows
end Go.Proofs.YtnpihdmbldpecaaDoor
