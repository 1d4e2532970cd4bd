/-
  DERIVED. GIVEN WITH THE SEED: THE CARDS: each row of YtclecgopmegjeaaDoorRows.lean that lists a variable, with what it lists TIED to the program's text (the seventh form; the later family's looks); each row that meets fmt, with fmt's text TOLD by the authors' own Lean function (tested against real Go, not proved from fmt's source: count such statements apart). THE CARD IS WHAT COUNTS. Prove the row's statement (the work); the ties are given (YtclecgopmegjeaaDoorTie.lean); close each card by the builder's one call (the guide's Derived/Test/ToyasCard.lean, 'card_holds'). Laid BY PROGRAM, IN A SANDBOX (cutbox-door.mjs). By AI agents, Wed Nov 11 2026. No macro, syntax, notation, axiom, sorry.
-/
import Derived.Test.YtclecgopmegjeaaDoorRows
import GoSem.ClaimSeven
namespace Go.Proofs.YtclecgopmegjeaaDoor
namespace Rows

/-- THE TIED CARD OF 'barbicanlaw08.HeadReads'. -/
def headReadsCard : Claim7 := { stood := { row := headReadsRow, standIns := [], harness := (true, "c17ca870cb4528c577b7003675acccd55cee26ab2f082cbd809272f14a67b1c9"), looks := false }, kinds := [], alts := [], laidByText := true, laidKinds := [.data, .pinned], laidTests := true, laidLooks := .later }
def HeadReadsCardSaid : Prop := Claim7.holds Tryd.pinned (.plain (OpenSpec.ofChange headReadsSpec)) headReadsCard

/-- THE TIED CARD OF 'barbicanlaw08.HeadSteady'. -/
def headSteadyCard : Claim7 := { stood := { row := headSteadyRow, standIns := [], harness := (true, "c17ca870cb4528c577b7003675acccd55cee26ab2f082cbd809272f14a67b1c9"), looks := false }, kinds := [], alts := [], laidByText := true, laidKinds := [.data, .pinned], laidTests := true, laidLooks := .later }
def HeadSteadyCardSaid : Prop := Claim7.holds Tryd.pinned (.plain (OpenSpec.ofChange headSteadySpec)) headSteadyCard

/-- THE TIED CARD OF 'barbicanlaw08.HeadUsed'. -/
def headUsedCard : Claim7 := { stood := { row := headUsedRow, standIns := [], harness := (true, "c17ca870cb4528c577b7003675acccd55cee26ab2f082cbd809272f14a67b1c9"), looks := false }, kinds := [], alts := [], laidByText := true, laidKinds := [.data, .pinned], laidTests := true, laidLooks := .later }
def HeadUsedCardSaid : Prop := Claim7.holds Tryd.pinned (.plain (OpenSpec.ofChange headUsedSpec)) headUsedCard

/-- THE TIED CARD OF 'barbicanlaw08.HeadWritten'. -/
def headWrittenCard : Claim7 := { stood := { row := headWrittenRow, standIns := [], harness := (true, "c17ca870cb4528c577b7003675acccd55cee26ab2f082cbd809272f14a67b1c9"), looks := false }, kinds := [], alts := [], laidByText := true, laidKinds := [.data, .pinned], laidTests := true, laidLooks := .later }
def HeadWrittenCardSaid : Prop := Claim7.holds Tryd.pinned (.plain (OpenSpec.ofChange headWrittenSpec)) headWrittenCard

/-- THE TIED CARD OF 'barbicanlaw08.HeadFields'. -/
def headFieldsCard : Claim7 := { stood := { row := headFieldsRow, standIns := [], harness := (true, "c17ca870cb4528c577b7003675acccd55cee26ab2f082cbd809272f14a67b1c9"), looks := false }, kinds := [], alts := [], laidByText := true, laidKinds := [.data, .pinned], laidTests := true, laidLooks := .later }
def HeadFieldsCardSaid : Prop := Claim7.holds Tryd.pinned (.plain (OpenSpec.ofChange headFieldsSpec)) headFieldsCard

/-- THE TIED CARD OF 'barbicanlaw08.HeadBare'. -/
def headBareCard : Claim7 := { stood := { row := headBareRow, standIns := [], harness := (true, "c17ca870cb4528c577b7003675acccd55cee26ab2f082cbd809272f14a67b1c9"), looks := false }, kinds := [], alts := [], laidByText := true, laidKinds := [.data, .pinned], laidTests := true, laidLooks := .later }
def HeadBareCardSaid : Prop := Claim7.holds Tryd.pinned (.plain (OpenSpec.ofChange headBareSpec)) headBareCard

/-- THE TIED CARD OF 'barbicanlaw08.HeadBounds'. -/
def headBoundsCard : Claim7 := { stood := { row := headBoundsRow, standIns := [], harness := (true, "c17ca870cb4528c577b7003675acccd55cee26ab2f082cbd809272f14a67b1c9"), looks := false }, kinds := [], alts := [], laidByText := true, laidKinds := [.data, .pinned], laidTests := true, laidLooks := .later }
def HeadBoundsCardSaid : Prop := Claim7.holds Tryd.pinned (.plain (OpenSpec.ofChange headBoundsSpec)) headBoundsCard

/-- THE TIED CARD OF 'barbicanlaw08.HeadAhead'. -/
def headAheadCard : Claim7 := { stood := { row := headAheadRow, standIns := [], harness := (true, "c17ca870cb4528c577b7003675acccd55cee26ab2f082cbd809272f14a67b1c9"), looks := false }, kinds := [], alts := [], laidByText := true, laidKinds := [.data, .pinned], laidTests := true, laidLooks := .later }
def HeadAheadCardSaid : Prop := Claim7.holds Tryd.pinned (.plain (OpenSpec.ofChange headAheadSpec)) headAheadCard

/-- THE SECOND FORM's CARD OF 'barbicanlaw08.HeadReads'. -/
def headReadsUptoCard : Claim7 := { stood := { row := headReadsUptoRow, standIns := [], harness := (true, "c17ca870cb4528c577b7003675acccd55cee26ab2f082cbd809272f14a67b1c9"), looks := false }, kinds := [], alts := [], laidByText := true, laidKinds := [.data, .pinned], laidTests := true, laidLooks := .later }
def HeadReadsUptoCardSaid : Prop := Claim7.holds Tryd.pinned (.plain (OpenSpec.upto headReadsSpec)) headReadsUptoCard

/-- THE SECOND FORM's CARD OF 'barbicanlaw08.HeadSteady'. -/
def headSteadyUptoCard : Claim7 := { stood := { row := headSteadyUptoRow, standIns := [], harness := (true, "c17ca870cb4528c577b7003675acccd55cee26ab2f082cbd809272f14a67b1c9"), looks := false }, kinds := [], alts := [], laidByText := true, laidKinds := [.data, .pinned], laidTests := true, laidLooks := .later }
def HeadSteadyUptoCardSaid : Prop := Claim7.holds Tryd.pinned (.plain (OpenSpec.upto headSteadySpec)) headSteadyUptoCard

/-- THE SECOND FORM's CARD OF 'barbicanlaw08.HeadUsed'. -/
def headUsedUptoCard : Claim7 := { stood := { row := headUsedUptoRow, standIns := [], harness := (true, "c17ca870cb4528c577b7003675acccd55cee26ab2f082cbd809272f14a67b1c9"), looks := false }, kinds := [], alts := [], laidByText := true, laidKinds := [.data, .pinned], laidTests := true, laidLooks := .later }
def HeadUsedUptoCardSaid : Prop := Claim7.holds Tryd.pinned (.plain (OpenSpec.upto headUsedSpec)) headUsedUptoCard

/-- THE SECOND FORM's CARD OF 'barbicanlaw08.HeadWritten'. -/
def headWrittenUptoCard : Claim7 := { stood := { row := headWrittenUptoRow, standIns := [], harness := (true, "c17ca870cb4528c577b7003675acccd55cee26ab2f082cbd809272f14a67b1c9"), looks := false }, kinds := [], alts := [], laidByText := true, laidKinds := [.data, .pinned], laidTests := true, laidLooks := .later }
def HeadWrittenUptoCardSaid : Prop := Claim7.holds Tryd.pinned (.plain (OpenSpec.upto headWrittenSpec)) headWrittenUptoCard

/-- THE SECOND FORM's CARD OF 'barbicanlaw08.HeadFields'. -/
def headFieldsUptoCard : Claim7 := { stood := { row := headFieldsUptoRow, standIns := [], harness := (true, "c17ca870cb4528c577b7003675acccd55cee26ab2f082cbd809272f14a67b1c9"), looks := false }, kinds := [], alts := [], laidByText := true, laidKinds := [.data, .pinned], laidTests := true, laidLooks := .later }
def HeadFieldsUptoCardSaid : Prop := Claim7.holds Tryd.pinned (.plain (OpenSpec.upto headFieldsSpec)) headFieldsUptoCard

/-- THE SECOND FORM's CARD OF 'barbicanlaw08.HeadBare'. -/
def headBareUptoCard : Claim7 := { stood := { row := headBareUptoRow, standIns := [], harness := (true, "c17ca870cb4528c577b7003675acccd55cee26ab2f082cbd809272f14a67b1c9"), looks := false }, kinds := [], alts := [], laidByText := true, laidKinds := [.data, .pinned], laidTests := true, laidLooks := .later }
def HeadBareUptoCardSaid : Prop := Claim7.holds Tryd.pinned (.plain (OpenSpec.upto headBareSpec)) headBareUptoCard

/-- THE SECOND FORM's CARD OF 'barbicanlaw08.HeadBounds'. -/
def headBoundsUptoCard : Claim7 := { stood := { row := headBoundsUptoRow, standIns := [], harness := (true, "c17ca870cb4528c577b7003675acccd55cee26ab2f082cbd809272f14a67b1c9"), looks := false }, kinds := [], alts := [], laidByText := true, laidKinds := [.data, .pinned], laidTests := true, laidLooks := .later }
def HeadBoundsUptoCardSaid : Prop := Claim7.holds Tryd.pinned (.plain (OpenSpec.upto headBoundsSpec)) headBoundsUptoCard

/-- THE SECOND FORM's CARD OF 'barbicanlaw08.HeadAhead'. -/
def headAheadUptoCard : Claim7 := { stood := { row := headAheadUptoRow, standIns := [], harness := (true, "c17ca870cb4528c577b7003675acccd55cee26ab2f082cbd809272f14a67b1c9"), looks := false }, kinds := [], alts := [], laidByText := true, laidKinds := [.data, .pinned], laidTests := true, laidLooks := .later }
def HeadAheadUptoCardSaid : Prop := Claim7.holds Tryd.pinned (.plain (OpenSpec.upto headAheadSpec)) headAheadUptoCard
end Rows
end Go.Proofs.YtclecgopmegjeaaDoor
