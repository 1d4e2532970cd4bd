/-
  DERIVED. GIVEN WITH THE SEED: THE CARDS: each row of YtfihehobkbfmiaaGreatDoorRows.lean that lists a variable, with what it lists TIED to the program's text (the seventh form; the later family's looks); each row that meets fmt, with fmt's text TOLD by the authors' own Lean function (tested against real Go, not proved from fmt's source: count such statements apart). THE CARD IS WHAT COUNTS. Prove the row's statement (the work); the ties are given (YtfihehobkbfmiaaGreatDoorTie.lean); close each card by the builder's one call (the guide's Derived/Test/ToyasCard.lean, 'card_holds'). Laid BY PROGRAM, IN A SANDBOX (cutbox-door.mjs). By AI agents, Wed Nov 11 2026. No macro, syntax, notation, axiom, sorry.
-/
import Derived.Test.YtfihehobkbfmiaaGreatDoorRows
import GoSem.ClaimSeven
namespace Go.Proofs.YtfihehobkbfmiaaGreatDoor
namespace Rows

/-- THE TIED CARD OF 'barbicanlaw14.ConfigChecks'. -/
def configChecksCard : Claim7 := { stood := { row := configChecksRow, standIns := [], harness := (true, "5985119aa63426e332a5a8af3f5a1251cc615fa45d2b722c993d1f471ae02c5d"), looks := false }, kinds := [], alts := [], laidByText := true, laidKinds := [.data, .data, .data, .data, .pinned], laidTests := true, laidLooks := .later }
def ConfigChecksCardSaid : Prop := Claim7.holds Tryz.pinned (.plain (OpenSpec.ofChange configChecksSpec)) configChecksCard

/-- THE TIED CARD OF 'barbicanlaw14.ConfigBack'. -/
def configBackCard : Claim7 := { stood := { row := configBackRow, standIns := [], harness := (true, "5985119aa63426e332a5a8af3f5a1251cc615fa45d2b722c993d1f471ae02c5d"), looks := false }, kinds := [], alts := [], laidByText := true, laidKinds := [.data, .data, .data, .data, .pinned], laidTests := true, laidLooks := .later }
def ConfigBackCardSaid : Prop := Claim7.holds Tryz.pinned (.plain (OpenSpec.ofChange configBackSpec)) configBackCard

/-- THE TIED CARD OF 'barbicanlaw14.ConfigSafe'. -/
def configSafeCard : Claim7 := { stood := { row := configSafeRow, standIns := [], harness := (true, "5985119aa63426e332a5a8af3f5a1251cc615fa45d2b722c993d1f471ae02c5d"), looks := false }, kinds := [], alts := [], laidByText := true, laidKinds := [.data, .data, .data, .data, .pinned], laidTests := true, laidLooks := .later }
def ConfigSafeCardSaid : Prop := Claim7.holds Tryz.pinned (.plain (OpenSpec.ofChange configSafeSpec)) configSafeCard

/-- THE TIED CARD OF 'barbicanlaw14.ConfigMemory'. -/
def configMemoryCard : Claim7 := { stood := { row := configMemoryRow, standIns := [], harness := (true, "5985119aa63426e332a5a8af3f5a1251cc615fa45d2b722c993d1f471ae02c5d"), looks := false }, kinds := [], alts := [], laidByText := true, laidKinds := [.data, .data, .data, .data, .pinned], laidTests := true, laidLooks := .later }
def ConfigMemoryCardSaid : Prop := Claim7.holds Tryz.pinned (.plain (OpenSpec.ofChange configMemorySpec)) configMemoryCard

/-- THE TIED CARD OF 'barbicanlaw14.ConfigLines'. -/
def configLinesCard : Claim7 := { stood := { row := configLinesRow, standIns := [], harness := (true, "5985119aa63426e332a5a8af3f5a1251cc615fa45d2b722c993d1f471ae02c5d"), looks := false }, kinds := [], alts := [], laidByText := true, laidKinds := [.data, .data, .data, .data, .pinned], laidTests := true, laidLooks := .later }
def ConfigLinesCardSaid : Prop := Claim7.holds Tryz.pinned (.plain (OpenSpec.ofChange configLinesSpec)) configLinesCard

/-- THE TIED CARD OF 'barbicanlaw14.ConfigNumbers'. -/
def configNumbersCard : Claim7 := { stood := { row := configNumbersRow, standIns := [], harness := (true, "5985119aa63426e332a5a8af3f5a1251cc615fa45d2b722c993d1f471ae02c5d"), looks := false }, kinds := [], alts := [], laidByText := true, laidKinds := [.data, .data, .data, .data, .pinned], laidTests := true, laidLooks := .later }
def ConfigNumbersCardSaid : Prop := Claim7.holds Tryz.pinned (.plain (OpenSpec.ofChange configNumbersSpec)) configNumbersCard

/-- THE SECOND FORM's CARD OF 'barbicanlaw14.ConfigChecks'. -/
def configChecksUptoCard : Claim7 := { stood := { row := configChecksUptoRow, standIns := [], harness := (true, "5985119aa63426e332a5a8af3f5a1251cc615fa45d2b722c993d1f471ae02c5d"), looks := false }, kinds := [], alts := [], laidByText := true, laidKinds := [.data, .data, .data, .data, .pinned], laidTests := true, laidLooks := .later }
def ConfigChecksUptoCardSaid : Prop := Claim7.holds Tryz.pinned (.plain (OpenSpec.upto configChecksSpec)) configChecksUptoCard

/-- THE SECOND FORM's CARD OF 'barbicanlaw14.ConfigBack'. -/
def configBackUptoCard : Claim7 := { stood := { row := configBackUptoRow, standIns := [], harness := (true, "5985119aa63426e332a5a8af3f5a1251cc615fa45d2b722c993d1f471ae02c5d"), looks := false }, kinds := [], alts := [], laidByText := true, laidKinds := [.data, .data, .data, .data, .pinned], laidTests := true, laidLooks := .later }
def ConfigBackUptoCardSaid : Prop := Claim7.holds Tryz.pinned (.plain (OpenSpec.upto configBackSpec)) configBackUptoCard

/-- THE SECOND FORM's CARD OF 'barbicanlaw14.ConfigSafe'. -/
def configSafeUptoCard : Claim7 := { stood := { row := configSafeUptoRow, standIns := [], harness := (true, "5985119aa63426e332a5a8af3f5a1251cc615fa45d2b722c993d1f471ae02c5d"), looks := false }, kinds := [], alts := [], laidByText := true, laidKinds := [.data, .data, .data, .data, .pinned], laidTests := true, laidLooks := .later }
def ConfigSafeUptoCardSaid : Prop := Claim7.holds Tryz.pinned (.plain (OpenSpec.upto configSafeSpec)) configSafeUptoCard

/-- THE SECOND FORM's CARD OF 'barbicanlaw14.ConfigMemory'. -/
def configMemoryUptoCard : Claim7 := { stood := { row := configMemoryUptoRow, standIns := [], harness := (true, "5985119aa63426e332a5a8af3f5a1251cc615fa45d2b722c993d1f471ae02c5d"), looks := false }, kinds := [], alts := [], laidByText := true, laidKinds := [.data, .data, .data, .data, .pinned], laidTests := true, laidLooks := .later }
def ConfigMemoryUptoCardSaid : Prop := Claim7.holds Tryz.pinned (.plain (OpenSpec.upto configMemorySpec)) configMemoryUptoCard

/-- THE SECOND FORM's CARD OF 'barbicanlaw14.ConfigLines'. -/
def configLinesUptoCard : Claim7 := { stood := { row := configLinesUptoRow, standIns := [], harness := (true, "5985119aa63426e332a5a8af3f5a1251cc615fa45d2b722c993d1f471ae02c5d"), looks := false }, kinds := [], alts := [], laidByText := true, laidKinds := [.data, .data, .data, .data, .pinned], laidTests := true, laidLooks := .later }
def ConfigLinesUptoCardSaid : Prop := Claim7.holds Tryz.pinned (.plain (OpenSpec.upto configLinesSpec)) configLinesUptoCard

/-- THE SECOND FORM's CARD OF 'barbicanlaw14.ConfigNumbers'. -/
def configNumbersUptoCard : Claim7 := { stood := { row := configNumbersUptoRow, standIns := [], harness := (true, "5985119aa63426e332a5a8af3f5a1251cc615fa45d2b722c993d1f471ae02c5d"), looks := false }, kinds := [], alts := [], laidByText := true, laidKinds := [.data, .data, .data, .data, .pinned], laidTests := true, laidLooks := .later }
def ConfigNumbersUptoCardSaid : Prop := Claim7.holds Tryz.pinned (.plain (OpenSpec.upto configNumbersSpec)) configNumbersUptoCard
end Rows
end Go.Proofs.YtfihehobkbfmiaaGreatDoor
