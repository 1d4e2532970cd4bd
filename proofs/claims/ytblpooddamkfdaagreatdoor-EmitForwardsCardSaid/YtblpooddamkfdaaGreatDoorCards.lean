/-
  DERIVED. GIVEN WITH THE SEED: THE CARDS: each row of YtblpooddamkfdaaGreatDoorRows.lean that lists a variable, with what it lists TIED to the program's text (the seventh form; the later family's looks); each row that meets fmt, with fmt's text TOLD by the authors' own Lean function (tested against real Go, not proved from fmt's source: count such statements apart). THE CARD IS WHAT COUNTS. Prove the row's statement (the work); the ties are given (YtblpooddamkfdaaGreatDoorTie.lean); close each card by the builder's one call (the guide's Derived/Test/ToyasCard.lean, 'card_holds'). Laid BY PROGRAM, IN A SANDBOX (cutbox-door.mjs). By AI agents, Wed Nov 11 2026. No macro, syntax, notation, axiom, sorry.
-/
import Derived.Test.YtblpooddamkfdaaGreatDoorRows
import GoSem.ClaimSeven
namespace Go.Proofs.YtblpooddamkfdaaGreatDoor
namespace Rows

/-- THE TIED CARD OF 'barbicanlaw13.EmitForwards'. -/
def emitForwardsCard : Claim7 := { stood := { row := emitForwardsRow, standIns := [], harness := (true, "8f8fe8276c25d4fddb5014e10df4320c4c7495a8929e08cf663ad82f768b6749"), looks := false }, kinds := [], alts := [], laidByText := true, laidKinds := [.data, .data, .data, .data, .pinned], laidTests := true, laidLooks := .later }
def EmitForwardsCardSaid : Prop := Claim7.holds Tryz.pinned (.plain (OpenSpec.ofChange emitForwardsSpec)) emitForwardsCard

/-- THE TIED CARD OF 'barbicanlaw13.EmitAnswers'. -/
def emitAnswersCard : Claim7 := { stood := { row := emitAnswersRow, standIns := [], harness := (true, "8f8fe8276c25d4fddb5014e10df4320c4c7495a8929e08cf663ad82f768b6749"), looks := false }, kinds := [], alts := [], laidByText := true, laidKinds := [.data, .data, .data, .data, .pinned], laidTests := true, laidLooks := .later }
def EmitAnswersCardSaid : Prop := Claim7.holds Tryz.pinned (.plain (OpenSpec.ofChange emitAnswersSpec)) emitAnswersCard

/-- THE TIED CARD OF 'barbicanlaw13.EmitStrips'. -/
def emitStripsCard : Claim7 := { stood := { row := emitStripsRow, standIns := [], harness := (true, "8f8fe8276c25d4fddb5014e10df4320c4c7495a8929e08cf663ad82f768b6749"), looks := false }, kinds := [], alts := [], laidByText := true, laidKinds := [.data, .data, .data, .data, .pinned], laidTests := true, laidLooks := .later }
def EmitStripsCardSaid : Prop := Claim7.holds Tryz.pinned (.plain (OpenSpec.ofChange emitStripsSpec)) emitStripsCard

/-- THE SECOND FORM's CARD OF 'barbicanlaw13.EmitForwards'. -/
def emitForwardsUptoCard : Claim7 := { stood := { row := emitForwardsUptoRow, standIns := [], harness := (true, "8f8fe8276c25d4fddb5014e10df4320c4c7495a8929e08cf663ad82f768b6749"), looks := false }, kinds := [], alts := [], laidByText := true, laidKinds := [.data, .data, .data, .data, .pinned], laidTests := true, laidLooks := .later }
def EmitForwardsUptoCardSaid : Prop := Claim7.holds Tryz.pinned (.plain (OpenSpec.upto emitForwardsSpec)) emitForwardsUptoCard

/-- THE SECOND FORM's CARD OF 'barbicanlaw13.EmitAnswers'. -/
def emitAnswersUptoCard : Claim7 := { stood := { row := emitAnswersUptoRow, standIns := [], harness := (true, "8f8fe8276c25d4fddb5014e10df4320c4c7495a8929e08cf663ad82f768b6749"), looks := false }, kinds := [], alts := [], laidByText := true, laidKinds := [.data, .data, .data, .data, .pinned], laidTests := true, laidLooks := .later }
def EmitAnswersUptoCardSaid : Prop := Claim7.holds Tryz.pinned (.plain (OpenSpec.upto emitAnswersSpec)) emitAnswersUptoCard

/-- THE SECOND FORM's CARD OF 'barbicanlaw13.EmitStrips'. -/
def emitStripsUptoCard : Claim7 := { stood := { row := emitStripsUptoRow, standIns := [], harness := (true, "8f8fe8276c25d4fddb5014e10df4320c4c7495a8929e08cf663ad82f768b6749"), looks := false }, kinds := [], alts := [], laidByText := true, laidKinds := [.data, .data, .data, .data, .pinned], laidTests := true, laidLooks := .later }
def EmitStripsUptoCardSaid : Prop := Claim7.holds Tryz.pinned (.plain (OpenSpec.upto emitStripsSpec)) emitStripsUptoCard
end Rows
end Go.Proofs.YtblpooddamkfdaaGreatDoor
