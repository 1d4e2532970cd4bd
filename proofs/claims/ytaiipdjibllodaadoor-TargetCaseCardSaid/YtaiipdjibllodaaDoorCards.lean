/-
  DERIVED. GIVEN WITH THE SEED: THE CARDS: each row of YtaiipdjibllodaaDoorRows.lean that lists a variable, with what it lists TIED to the program's text (the seventh form; the later family's looks); each row that meets fmt, with fmt's text TOLD by the authors' own Lean function (tested against real Go, not proved from fmt's source: count such statements apart). THE CARD IS WHAT COUNTS. Prove the row's statement (the work); the ties are given (YtaiipdjibllodaaDoorTie.lean); close each card by the builder's one call (the guide's Derived/Test/ToyasCard.lean, 'card_holds'). Laid BY PROGRAM, IN A SANDBOX (cutbox-door.mjs). By AI agents, Wed Nov 11 2026. No macro, syntax, notation, axiom, sorry.
-/
import Derived.Test.YtaiipdjibllodaaDoorRows
import GoSem.ClaimSeven
namespace Go.Proofs.YtaiipdjibllodaaDoor
namespace Rows

/-- THE TIED CARD OF 'barbicanlaw06.TargetParses'. -/
def targetParsesCard : Claim7 := { stood := { row := targetParsesRow, standIns := [], harness := (true, "3eea3dbd03e2fd8b262ad2fb504043f66e5ca21d70132ae99855552a2f73c915"), looks := false }, kinds := [], alts := [], laidByText := true, laidKinds := [.data, .pinned], laidTests := true, laidLooks := .later }
def TargetParsesCardSaid : Prop := Claim7.holds Tryd.pinned (.plain (OpenSpec.ofChange targetParsesSpec)) targetParsesCard

/-- THE TIED CARD OF 'barbicanlaw06.TargetHosts'. -/
def targetHostsCard : Claim7 := { stood := { row := targetHostsRow, standIns := [], harness := (true, "3eea3dbd03e2fd8b262ad2fb504043f66e5ca21d70132ae99855552a2f73c915"), looks := false }, kinds := [], alts := [], laidByText := true, laidKinds := [.data, .pinned], laidTests := true, laidLooks := .later }
def TargetHostsCardSaid : Prop := Claim7.holds Tryd.pinned (.plain (OpenSpec.ofChange targetHostsSpec)) targetHostsCard

/-- THE TIED CARD OF 'barbicanlaw06.TargetAgain'. -/
def targetAgainCard : Claim7 := { stood := { row := targetAgainRow, standIns := [], harness := (true, "3eea3dbd03e2fd8b262ad2fb504043f66e5ca21d70132ae99855552a2f73c915"), looks := false }, kinds := [], alts := [], laidByText := true, laidKinds := [.data, .pinned], laidTests := true, laidLooks := .later }
def TargetAgainCardSaid : Prop := Claim7.holds Tryd.pinned (.plain (OpenSpec.ofChange targetAgainSpec)) targetAgainCard

/-- THE TIED CARD OF 'barbicanlaw06.TargetAbsolute'. -/
def targetAbsoluteCard : Claim7 := { stood := { row := targetAbsoluteRow, standIns := [], harness := (true, "3eea3dbd03e2fd8b262ad2fb504043f66e5ca21d70132ae99855552a2f73c915"), looks := false }, kinds := [], alts := [], laidByText := true, laidKinds := [.data, .pinned], laidTests := true, laidLooks := .later }
def TargetAbsoluteCardSaid : Prop := Claim7.holds Tryd.pinned (.plain (OpenSpec.ofChange targetAbsoluteSpec)) targetAbsoluteCard

/-- THE TIED CARD OF 'barbicanlaw06.TargetCase'. -/
def targetCaseCard : Claim7 := { stood := { row := targetCaseRow, standIns := [], harness := (true, "3eea3dbd03e2fd8b262ad2fb504043f66e5ca21d70132ae99855552a2f73c915"), looks := false }, kinds := [], alts := [], laidByText := true, laidKinds := [.data, .pinned], laidTests := true, laidLooks := .later }
def TargetCaseCardSaid : Prop := Claim7.holds Tryd.pinned (.plain (OpenSpec.ofChange targetCaseSpec)) targetCaseCard

/-- THE SECOND FORM's CARD OF 'barbicanlaw06.TargetParses'. -/
def targetParsesUptoCard : Claim7 := { stood := { row := targetParsesUptoRow, standIns := [], harness := (true, "3eea3dbd03e2fd8b262ad2fb504043f66e5ca21d70132ae99855552a2f73c915"), looks := false }, kinds := [], alts := [], laidByText := true, laidKinds := [.data, .pinned], laidTests := true, laidLooks := .later }
def TargetParsesUptoCardSaid : Prop := Claim7.holds Tryd.pinned (.plain (OpenSpec.upto targetParsesSpec)) targetParsesUptoCard

/-- THE SECOND FORM's CARD OF 'barbicanlaw06.TargetHosts'. -/
def targetHostsUptoCard : Claim7 := { stood := { row := targetHostsUptoRow, standIns := [], harness := (true, "3eea3dbd03e2fd8b262ad2fb504043f66e5ca21d70132ae99855552a2f73c915"), looks := false }, kinds := [], alts := [], laidByText := true, laidKinds := [.data, .pinned], laidTests := true, laidLooks := .later }
def TargetHostsUptoCardSaid : Prop := Claim7.holds Tryd.pinned (.plain (OpenSpec.upto targetHostsSpec)) targetHostsUptoCard

/-- THE SECOND FORM's CARD OF 'barbicanlaw06.TargetAgain'. -/
def targetAgainUptoCard : Claim7 := { stood := { row := targetAgainUptoRow, standIns := [], harness := (true, "3eea3dbd03e2fd8b262ad2fb504043f66e5ca21d70132ae99855552a2f73c915"), looks := false }, kinds := [], alts := [], laidByText := true, laidKinds := [.data, .pinned], laidTests := true, laidLooks := .later }
def TargetAgainUptoCardSaid : Prop := Claim7.holds Tryd.pinned (.plain (OpenSpec.upto targetAgainSpec)) targetAgainUptoCard

/-- THE SECOND FORM's CARD OF 'barbicanlaw06.TargetAbsolute'. -/
def targetAbsoluteUptoCard : Claim7 := { stood := { row := targetAbsoluteUptoRow, standIns := [], harness := (true, "3eea3dbd03e2fd8b262ad2fb504043f66e5ca21d70132ae99855552a2f73c915"), looks := false }, kinds := [], alts := [], laidByText := true, laidKinds := [.data, .pinned], laidTests := true, laidLooks := .later }
def TargetAbsoluteUptoCardSaid : Prop := Claim7.holds Tryd.pinned (.plain (OpenSpec.upto targetAbsoluteSpec)) targetAbsoluteUptoCard

/-- THE SECOND FORM's CARD OF 'barbicanlaw06.TargetCase'. -/
def targetCaseUptoCard : Claim7 := { stood := { row := targetCaseUptoRow, standIns := [], harness := (true, "3eea3dbd03e2fd8b262ad2fb504043f66e5ca21d70132ae99855552a2f73c915"), looks := false }, kinds := [], alts := [], laidByText := true, laidKinds := [.data, .pinned], laidTests := true, laidLooks := .later }
def TargetCaseUptoCardSaid : Prop := Claim7.holds Tryd.pinned (.plain (OpenSpec.upto targetCaseSpec)) targetCaseUptoCard
end Rows
end Go.Proofs.YtaiipdjibllodaaDoor
