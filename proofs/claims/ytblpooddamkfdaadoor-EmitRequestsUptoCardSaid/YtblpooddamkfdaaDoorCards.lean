/-
  DERIVED. GIVEN WITH THE SEED: THE CARDS: each row of YtblpooddamkfdaaDoorRows.lean that lists a variable, with what it lists TIED to the program's text (the seventh form; the later family's looks); each row that meets fmt, with fmt's text TOLD by the authors' own Lean function (tested against real Go, not proved from fmt's source: count such statements apart). THE CARD IS WHAT COUNTS. Prove the row's statement (the work); the ties are given (YtblpooddamkfdaaDoorTie.lean); close each card by the builder's one call (the guide's Derived/Test/ToyasCard.lean, 'card_holds'). Laid BY PROGRAM, IN A SANDBOX (cutbox-door.mjs). By AI agents, Wed Nov 11 2026. No macro, syntax, notation, axiom, sorry.
-/
import Derived.Test.YtblpooddamkfdaaDoorRows
import GoSem.ClaimSeven
namespace Go.Proofs.YtblpooddamkfdaaDoor
namespace Rows

/-- THE TIED CARD OF 'barbicanlaw13.EmitRequests'. -/
def emitRequestsCard : Claim7 := { stood := { row := emitRequestsRow, standIns := [], harness := (true, "a03defb6c26f5e6f3aa29c90efb261eb662526f89b02dfb30851c2111d5b2439"), looks := false }, kinds := [], alts := [], laidByText := true, laidKinds := [.data, .data, .data, .data, .pinned], laidTests := true, laidLooks := .later }
def EmitRequestsCardSaid : Prop := Claim7.holds Tryd.pinned (.plain (OpenSpec.ofChange emitRequestsSpec)) emitRequestsCard

/-- THE TIED CARD OF 'barbicanlaw13.EmitHeads'. -/
def emitHeadsCard : Claim7 := { stood := { row := emitHeadsRow, standIns := [], harness := (true, "a03defb6c26f5e6f3aa29c90efb261eb662526f89b02dfb30851c2111d5b2439"), looks := false }, kinds := [], alts := [], laidByText := true, laidKinds := [.data, .data, .data, .data, .pinned], laidTests := true, laidLooks := .later }
def EmitHeadsCardSaid : Prop := Claim7.holds Tryd.pinned (.plain (OpenSpec.ofChange emitHeadsSpec)) emitHeadsCard

/-- THE SECOND FORM's CARD OF 'barbicanlaw13.EmitRequests'. -/
def emitRequestsUptoCard : Claim7 := { stood := { row := emitRequestsUptoRow, standIns := [], harness := (true, "a03defb6c26f5e6f3aa29c90efb261eb662526f89b02dfb30851c2111d5b2439"), looks := false }, kinds := [], alts := [], laidByText := true, laidKinds := [.data, .data, .data, .data, .pinned], laidTests := true, laidLooks := .later }
def EmitRequestsUptoCardSaid : Prop := Claim7.holds Tryd.pinned (.plain (OpenSpec.upto emitRequestsSpec)) emitRequestsUptoCard

/-- THE SECOND FORM's CARD OF 'barbicanlaw13.EmitHeads'. -/
def emitHeadsUptoCard : Claim7 := { stood := { row := emitHeadsUptoRow, standIns := [], harness := (true, "a03defb6c26f5e6f3aa29c90efb261eb662526f89b02dfb30851c2111d5b2439"), looks := false }, kinds := [], alts := [], laidByText := true, laidKinds := [.data, .data, .data, .data, .pinned], laidTests := true, laidLooks := .later }
def EmitHeadsUptoCardSaid : Prop := Claim7.holds Tryd.pinned (.plain (OpenSpec.upto emitHeadsSpec)) emitHeadsUptoCard
end Rows
end Go.Proofs.YtblpooddamkfdaaDoor
