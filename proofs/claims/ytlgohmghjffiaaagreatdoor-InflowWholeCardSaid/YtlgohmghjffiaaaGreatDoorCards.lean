/-
  DERIVED. GIVEN WITH THE SEED: THE CARDS: each row of YtlgohmghjffiaaaGreatDoorRows.lean that lists a variable, with what it lists TIED to the program's text (the seventh form; the later family's looks); each row that meets fmt, with fmt's text TOLD by the authors' own Lean function (tested against real Go, not proved from fmt's source: count such statements apart). THE CARD IS WHAT COUNTS. Prove the row's statement (the work); the ties are given (YtlgohmghjffiaaaGreatDoorTie.lean); close each card by the builder's one call (the guide's Derived/Test/ToyasCard.lean, 'card_holds'). Laid BY PROGRAM, IN A SANDBOX (cutbox-door.mjs). By AI agents, Wed Nov 11 2026. No macro, syntax, notation, axiom, sorry.
-/
import Derived.Test.YtlgohmghjffiaaaGreatDoorRows
import GoSem.ClaimSeven
namespace Go.Proofs.YtlgohmghjffiaaaGreatDoor
namespace Rows

/-- THE TIED CARD OF 'barbicanlaw11.InflowSmuggles'. -/
def inflowSmugglesCard : Claim7 := { stood := { row := inflowSmugglesRow, standIns := [], harness := (true, "d48b11da45a36149903a212278b81304533a6e72b238efbe6a5380bae856a0ea"), looks := false }, kinds := [], alts := [], laidByText := true, laidKinds := [.data, .pinned], laidTests := true, laidLooks := .later }
def InflowSmugglesCardSaid : Prop := Claim7.holds Tryz.pinned (.plain (OpenSpec.ofChange inflowSmugglesSpec)) inflowSmugglesCard

/-- THE TIED CARD OF 'barbicanlaw11.InflowWhole'. -/
def inflowWholeCard : Claim7 := { stood := { row := inflowWholeRow, standIns := [], harness := (true, "d48b11da45a36149903a212278b81304533a6e72b238efbe6a5380bae856a0ea"), looks := false }, kinds := [], alts := [], laidByText := true, laidKinds := [.data, .pinned], laidTests := true, laidLooks := .later }
def InflowWholeCardSaid : Prop := Claim7.holds Tryz.pinned (.plain (OpenSpec.ofChange inflowWholeSpec)) inflowWholeCard

/-- THE TIED CARD OF 'barbicanlaw11.InflowMemory'. -/
def inflowMemoryCard : Claim7 := { stood := { row := inflowMemoryRow, standIns := [], harness := (true, "d48b11da45a36149903a212278b81304533a6e72b238efbe6a5380bae856a0ea"), looks := false }, kinds := [], alts := [], laidByText := true, laidKinds := [.data, .pinned], laidTests := true, laidLooks := .later }
def InflowMemoryCardSaid : Prop := Claim7.holds Tryz.pinned (.plain (OpenSpec.ofChange inflowMemorySpec)) inflowMemoryCard

/-- THE TIED CARD OF 'barbicanlaw11.InflowWritten'. -/
def inflowWrittenCard : Claim7 := { stood := { row := inflowWrittenRow, standIns := [], harness := (true, "d48b11da45a36149903a212278b81304533a6e72b238efbe6a5380bae856a0ea"), looks := false }, kinds := [], alts := [], laidByText := true, laidKinds := [.data, .pinned], laidTests := true, laidLooks := .later }
def InflowWrittenCardSaid : Prop := Claim7.holds Tryz.pinned (.plain (OpenSpec.ofChange inflowWrittenSpec)) inflowWrittenCard

/-- THE TIED CARD OF 'barbicanlaw11.InflowBound'. -/
def inflowBoundCard : Claim7 := { stood := { row := inflowBoundRow, standIns := [], harness := (true, "d48b11da45a36149903a212278b81304533a6e72b238efbe6a5380bae856a0ea"), looks := false }, kinds := [], alts := [], laidByText := true, laidKinds := [.data, .pinned], laidTests := true, laidLooks := .later }
def InflowBoundCardSaid : Prop := Claim7.holds Tryz.pinned (.plain (OpenSpec.ofChange inflowBoundSpec)) inflowBoundCard

/-- THE TIED CARD OF 'barbicanlaw11.InflowRest'. -/
def inflowRestCard : Claim7 := { stood := { row := inflowRestRow, standIns := [], harness := (true, "d48b11da45a36149903a212278b81304533a6e72b238efbe6a5380bae856a0ea"), looks := false }, kinds := [], alts := [], laidByText := true, laidKinds := [.data, .pinned], laidTests := true, laidLooks := .later }
def InflowRestCardSaid : Prop := Claim7.holds Tryz.pinned (.plain (OpenSpec.ofChange inflowRestSpec)) inflowRestCard

/-- THE TIED CARD OF 'barbicanlaw11.InflowHosts'. -/
def inflowHostsCard : Claim7 := { stood := { row := inflowHostsRow, standIns := [], harness := (true, "d48b11da45a36149903a212278b81304533a6e72b238efbe6a5380bae856a0ea"), looks := false }, kinds := [], alts := [], laidByText := true, laidKinds := [.data, .pinned], laidTests := true, laidLooks := .later }
def InflowHostsCardSaid : Prop := Claim7.holds Tryz.pinned (.plain (OpenSpec.ofChange inflowHostsSpec)) inflowHostsCard

/-- THE SECOND FORM's CARD OF 'barbicanlaw11.InflowSmuggles'. -/
def inflowSmugglesUptoCard : Claim7 := { stood := { row := inflowSmugglesUptoRow, standIns := [], harness := (true, "d48b11da45a36149903a212278b81304533a6e72b238efbe6a5380bae856a0ea"), looks := false }, kinds := [], alts := [], laidByText := true, laidKinds := [.data, .pinned], laidTests := true, laidLooks := .later }
def InflowSmugglesUptoCardSaid : Prop := Claim7.holds Tryz.pinned (.plain (OpenSpec.upto inflowSmugglesSpec)) inflowSmugglesUptoCard

/-- THE SECOND FORM's CARD OF 'barbicanlaw11.InflowWhole'. -/
def inflowWholeUptoCard : Claim7 := { stood := { row := inflowWholeUptoRow, standIns := [], harness := (true, "d48b11da45a36149903a212278b81304533a6e72b238efbe6a5380bae856a0ea"), looks := false }, kinds := [], alts := [], laidByText := true, laidKinds := [.data, .pinned], laidTests := true, laidLooks := .later }
def InflowWholeUptoCardSaid : Prop := Claim7.holds Tryz.pinned (.plain (OpenSpec.upto inflowWholeSpec)) inflowWholeUptoCard

/-- THE SECOND FORM's CARD OF 'barbicanlaw11.InflowMemory'. -/
def inflowMemoryUptoCard : Claim7 := { stood := { row := inflowMemoryUptoRow, standIns := [], harness := (true, "d48b11da45a36149903a212278b81304533a6e72b238efbe6a5380bae856a0ea"), looks := false }, kinds := [], alts := [], laidByText := true, laidKinds := [.data, .pinned], laidTests := true, laidLooks := .later }
def InflowMemoryUptoCardSaid : Prop := Claim7.holds Tryz.pinned (.plain (OpenSpec.upto inflowMemorySpec)) inflowMemoryUptoCard

/-- THE SECOND FORM's CARD OF 'barbicanlaw11.InflowWritten'. -/
def inflowWrittenUptoCard : Claim7 := { stood := { row := inflowWrittenUptoRow, standIns := [], harness := (true, "d48b11da45a36149903a212278b81304533a6e72b238efbe6a5380bae856a0ea"), looks := false }, kinds := [], alts := [], laidByText := true, laidKinds := [.data, .pinned], laidTests := true, laidLooks := .later }
def InflowWrittenUptoCardSaid : Prop := Claim7.holds Tryz.pinned (.plain (OpenSpec.upto inflowWrittenSpec)) inflowWrittenUptoCard

/-- THE SECOND FORM's CARD OF 'barbicanlaw11.InflowBound'. -/
def inflowBoundUptoCard : Claim7 := { stood := { row := inflowBoundUptoRow, standIns := [], harness := (true, "d48b11da45a36149903a212278b81304533a6e72b238efbe6a5380bae856a0ea"), looks := false }, kinds := [], alts := [], laidByText := true, laidKinds := [.data, .pinned], laidTests := true, laidLooks := .later }
def InflowBoundUptoCardSaid : Prop := Claim7.holds Tryz.pinned (.plain (OpenSpec.upto inflowBoundSpec)) inflowBoundUptoCard

/-- THE SECOND FORM's CARD OF 'barbicanlaw11.InflowRest'. -/
def inflowRestUptoCard : Claim7 := { stood := { row := inflowRestUptoRow, standIns := [], harness := (true, "d48b11da45a36149903a212278b81304533a6e72b238efbe6a5380bae856a0ea"), looks := false }, kinds := [], alts := [], laidByText := true, laidKinds := [.data, .pinned], laidTests := true, laidLooks := .later }
def InflowRestUptoCardSaid : Prop := Claim7.holds Tryz.pinned (.plain (OpenSpec.upto inflowRestSpec)) inflowRestUptoCard

/-- THE SECOND FORM's CARD OF 'barbicanlaw11.InflowHosts'. -/
def inflowHostsUptoCard : Claim7 := { stood := { row := inflowHostsUptoRow, standIns := [], harness := (true, "d48b11da45a36149903a212278b81304533a6e72b238efbe6a5380bae856a0ea"), looks := false }, kinds := [], alts := [], laidByText := true, laidKinds := [.data, .pinned], laidTests := true, laidLooks := .later }
def InflowHostsUptoCardSaid : Prop := Claim7.holds Tryz.pinned (.plain (OpenSpec.upto inflowHostsSpec)) inflowHostsUptoCard
end Rows
end Go.Proofs.YtlgohmghjffiaaaGreatDoor
