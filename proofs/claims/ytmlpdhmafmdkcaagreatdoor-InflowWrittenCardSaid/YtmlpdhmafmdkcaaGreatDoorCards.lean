/-
  DERIVED. GIVEN WITH THE SEED: THE CARDS: each row of YtmlpdhmafmdkcaaGreatDoorRows.lean that lists a variable, with what it lists TIED to the program's text (the seventh form; the later family's looks); each row that meets fmt, with fmt's text TOLD by the authors' own Lean function (tested against real Go, not proved from fmt's source: count such statements apart). THE CARD IS WHAT COUNTS. Prove the row's statement (the work); the ties are given (YtmlpdhmafmdkcaaGreatDoorTie.lean); close each card by the builder's one call (the guide's Derived/Test/ToyasCard.lean, 'card_holds'). Laid BY PROGRAM, IN A SANDBOX (cutbox-door.mjs). By AI agents, Wed Nov 11 2026. No macro, syntax, notation, axiom, sorry.
-/
import Derived.Test.YtmlpdhmafmdkcaaGreatDoorRows
import GoSem.ClaimSeven
namespace Go.Proofs.YtmlpdhmafmdkcaaGreatDoor
namespace Rows

/-- THE TIED CARD OF 'barbicanlaw11.InflowWritten'. -/
def inflowWrittenCard : Claim7 := { stood := { row := inflowWrittenRow, standIns := [], harness := (true, "a0996d7c517d42a7757108350f054eff39c027cc2c5064a9b6782aee20ba85b1"), looks := false }, kinds := [], alts := [], laidByText := true, laidKinds := [.data, .pinned], laidTests := true, laidLooks := .later }
def InflowWrittenCardSaid : Prop := Claim7.holds Tryz.pinned (.plain (OpenSpec.ofChange inflowWrittenSpec)) inflowWrittenCard

/-- THE TIED CARD OF 'barbicanlaw11.InflowHosts'. -/
def inflowHostsCard : Claim7 := { stood := { row := inflowHostsRow, standIns := [], harness := (true, "a0996d7c517d42a7757108350f054eff39c027cc2c5064a9b6782aee20ba85b1"), looks := false }, kinds := [], alts := [], laidByText := true, laidKinds := [.data, .pinned], laidTests := true, laidLooks := .later }
def InflowHostsCardSaid : Prop := Claim7.holds Tryz.pinned (.plain (OpenSpec.ofChange inflowHostsSpec)) inflowHostsCard

/-- THE SECOND FORM's CARD OF 'barbicanlaw11.InflowWritten'. -/
def inflowWrittenUptoCard : Claim7 := { stood := { row := inflowWrittenUptoRow, standIns := [], harness := (true, "a0996d7c517d42a7757108350f054eff39c027cc2c5064a9b6782aee20ba85b1"), looks := false }, kinds := [], alts := [], laidByText := true, laidKinds := [.data, .pinned], laidTests := true, laidLooks := .later }
def InflowWrittenUptoCardSaid : Prop := Claim7.holds Tryz.pinned (.plain (OpenSpec.upto inflowWrittenSpec)) inflowWrittenUptoCard

/-- THE SECOND FORM's CARD OF 'barbicanlaw11.InflowHosts'. -/
def inflowHostsUptoCard : Claim7 := { stood := { row := inflowHostsUptoRow, standIns := [], harness := (true, "a0996d7c517d42a7757108350f054eff39c027cc2c5064a9b6782aee20ba85b1"), looks := false }, kinds := [], alts := [], laidByText := true, laidKinds := [.data, .pinned], laidTests := true, laidLooks := .later }
def InflowHostsUptoCardSaid : Prop := Claim7.holds Tryz.pinned (.plain (OpenSpec.upto inflowHostsSpec)) inflowHostsUptoCard
end Rows
end Go.Proofs.YtmlpdhmafmdkcaaGreatDoor
