/-
  DERIVED. GIVEN WITH THE SEED: THE CARDS: each row of YtlhpjinajaociaaDoorRows.lean that lists a variable, with what it lists TIED to the program's text (the seventh form; the later family's looks); each row that meets fmt, with fmt's text TOLD by the authors' own Lean function (tested against real Go, not proved from fmt's source: count such statements apart). THE CARD IS WHAT COUNTS. Prove the row's statement (the work); the ties are given (YtlhpjinajaociaaDoorTie.lean); close each card by the builder's one call (the guide's Derived/Test/ToyasCard.lean, 'card_holds'). Laid BY PROGRAM, IN A SANDBOX (cutbox-door.mjs). By AI agents, Wed Nov 11 2026. No macro, syntax, notation, axiom, sorry.
-/
import Derived.Test.YtlhpjinajaociaaDoorRows
import GoSem.ClaimSeven
namespace Go.Proofs.YtlhpjinajaociaaDoor
namespace Rows

/-- THE TIED CARD OF 'barbicanlaw05.PathNormals'. -/
def pathNormalsCard : Claim7 := { stood := { row := pathNormalsRow, standIns := [], harness := (true, "2e62cbd8601359af2fad0136946534f8bba6182b4d2d2e14b0139a350e6e3441"), looks := false }, kinds := [], alts := [], laidByText := true, laidKinds := [.data, .pinned], laidTests := true, laidLooks := .later }
def PathNormalsCardSaid : Prop := Claim7.holds Tryd.pinned (.plain (OpenSpec.ofChange pathNormalsSpec)) pathNormalsCard

/-- THE TIED CARD OF 'barbicanlaw05.PathFixed'. -/
def pathFixedCard : Claim7 := { stood := { row := pathFixedRow, standIns := [], harness := (true, "2e62cbd8601359af2fad0136946534f8bba6182b4d2d2e14b0139a350e6e3441"), looks := false }, kinds := [], alts := [], laidByText := true, laidKinds := [.data, .pinned], laidTests := true, laidLooks := .later }
def PathFixedCardSaid : Prop := Claim7.holds Tryd.pinned (.plain (OpenSpec.ofChange pathFixedSpec)) pathFixedCard

/-- THE TIED CARD OF 'barbicanlaw05.PathMeans'. -/
def pathMeansCard : Claim7 := { stood := { row := pathMeansRow, standIns := [], harness := (true, "2e62cbd8601359af2fad0136946534f8bba6182b4d2d2e14b0139a350e6e3441"), looks := false }, kinds := [], alts := [], laidByText := true, laidKinds := [.data, .pinned], laidTests := true, laidLooks := .later }
def PathMeansCardSaid : Prop := Claim7.holds Tryd.pinned (.plain (OpenSpec.ofChange pathMeansSpec)) pathMeansCard

/-- THE TIED CARD OF 'barbicanlaw05.PathDecodes'. -/
def pathDecodesCard : Claim7 := { stood := { row := pathDecodesRow, standIns := [], harness := (true, "2e62cbd8601359af2fad0136946534f8bba6182b4d2d2e14b0139a350e6e3441"), looks := false }, kinds := [], alts := [], laidByText := true, laidKinds := [.data, .pinned], laidTests := true, laidLooks := .later }
def PathDecodesCardSaid : Prop := Claim7.holds Tryd.pinned (.plain (OpenSpec.ofChange pathDecodesSpec)) pathDecodesCard

/-- THE TIED CARD OF 'barbicanlaw05.PathChain'. -/
def pathChainCard : Claim7 := { stood := { row := pathChainRow, standIns := [], harness := (true, "2e62cbd8601359af2fad0136946534f8bba6182b4d2d2e14b0139a350e6e3441"), looks := false }, kinds := [], alts := [], laidByText := true, laidKinds := [.data, .pinned], laidTests := true, laidLooks := .later }
def PathChainCardSaid : Prop := Claim7.holds Tryd.pinned (.plain (OpenSpec.ofChange pathChainSpec)) pathChainCard

/-- THE TIED CARD OF 'barbicanlaw05.PathSteps'. -/
def pathStepsCard : Claim7 := { stood := { row := pathStepsRow, standIns := [], harness := (true, "2e62cbd8601359af2fad0136946534f8bba6182b4d2d2e14b0139a350e6e3441"), looks := false }, kinds := [], alts := [], laidByText := true, laidKinds := [.data, .pinned], laidTests := true, laidLooks := .later }
def PathStepsCardSaid : Prop := Claim7.holds Tryd.pinned (.plain (OpenSpec.ofChange pathStepsSpec)) pathStepsCard

/-- THE SECOND FORM's CARD OF 'barbicanlaw05.PathNormals'. -/
def pathNormalsUptoCard : Claim7 := { stood := { row := pathNormalsUptoRow, standIns := [], harness := (true, "2e62cbd8601359af2fad0136946534f8bba6182b4d2d2e14b0139a350e6e3441"), looks := false }, kinds := [], alts := [], laidByText := true, laidKinds := [.data, .pinned], laidTests := true, laidLooks := .later }
def PathNormalsUptoCardSaid : Prop := Claim7.holds Tryd.pinned (.plain (OpenSpec.upto pathNormalsSpec)) pathNormalsUptoCard

/-- THE SECOND FORM's CARD OF 'barbicanlaw05.PathFixed'. -/
def pathFixedUptoCard : Claim7 := { stood := { row := pathFixedUptoRow, standIns := [], harness := (true, "2e62cbd8601359af2fad0136946534f8bba6182b4d2d2e14b0139a350e6e3441"), looks := false }, kinds := [], alts := [], laidByText := true, laidKinds := [.data, .pinned], laidTests := true, laidLooks := .later }
def PathFixedUptoCardSaid : Prop := Claim7.holds Tryd.pinned (.plain (OpenSpec.upto pathFixedSpec)) pathFixedUptoCard

/-- THE SECOND FORM's CARD OF 'barbicanlaw05.PathMeans'. -/
def pathMeansUptoCard : Claim7 := { stood := { row := pathMeansUptoRow, standIns := [], harness := (true, "2e62cbd8601359af2fad0136946534f8bba6182b4d2d2e14b0139a350e6e3441"), looks := false }, kinds := [], alts := [], laidByText := true, laidKinds := [.data, .pinned], laidTests := true, laidLooks := .later }
def PathMeansUptoCardSaid : Prop := Claim7.holds Tryd.pinned (.plain (OpenSpec.upto pathMeansSpec)) pathMeansUptoCard

/-- THE SECOND FORM's CARD OF 'barbicanlaw05.PathDecodes'. -/
def pathDecodesUptoCard : Claim7 := { stood := { row := pathDecodesUptoRow, standIns := [], harness := (true, "2e62cbd8601359af2fad0136946534f8bba6182b4d2d2e14b0139a350e6e3441"), looks := false }, kinds := [], alts := [], laidByText := true, laidKinds := [.data, .pinned], laidTests := true, laidLooks := .later }
def PathDecodesUptoCardSaid : Prop := Claim7.holds Tryd.pinned (.plain (OpenSpec.upto pathDecodesSpec)) pathDecodesUptoCard

/-- THE SECOND FORM's CARD OF 'barbicanlaw05.PathChain'. -/
def pathChainUptoCard : Claim7 := { stood := { row := pathChainUptoRow, standIns := [], harness := (true, "2e62cbd8601359af2fad0136946534f8bba6182b4d2d2e14b0139a350e6e3441"), looks := false }, kinds := [], alts := [], laidByText := true, laidKinds := [.data, .pinned], laidTests := true, laidLooks := .later }
def PathChainUptoCardSaid : Prop := Claim7.holds Tryd.pinned (.plain (OpenSpec.upto pathChainSpec)) pathChainUptoCard

/-- THE SECOND FORM's CARD OF 'barbicanlaw05.PathSteps'. -/
def pathStepsUptoCard : Claim7 := { stood := { row := pathStepsUptoRow, standIns := [], harness := (true, "2e62cbd8601359af2fad0136946534f8bba6182b4d2d2e14b0139a350e6e3441"), looks := false }, kinds := [], alts := [], laidByText := true, laidKinds := [.data, .pinned], laidTests := true, laidLooks := .later }
def PathStepsUptoCardSaid : Prop := Claim7.holds Tryd.pinned (.plain (OpenSpec.upto pathStepsSpec)) pathStepsUptoCard
end Rows
end Go.Proofs.YtlhpjinajaociaaDoor
