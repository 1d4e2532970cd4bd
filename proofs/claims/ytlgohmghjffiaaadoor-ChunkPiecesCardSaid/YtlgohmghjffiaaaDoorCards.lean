/-
  DERIVED. GIVEN WITH THE SEED: THE CARDS: each row of YtlgohmghjffiaaaDoorRows.lean that lists a variable, with what it lists TIED to the program's text (the seventh form; the later family's looks); each row that meets fmt, with fmt's text TOLD by the authors' own Lean function (tested against real Go, not proved from fmt's source: count such statements apart). THE CARD IS WHAT COUNTS. Prove the row's statement (the work); the ties are given (YtlgohmghjffiaaaDoorTie.lean); close each card by the builder's one call (the guide's Derived/Test/ToyasCard.lean, 'card_holds'). Laid BY PROGRAM, IN A SANDBOX (cutbox-door.mjs). By AI agents, Wed Nov 11 2026. No macro, syntax, notation, axiom, sorry.
-/
import Derived.Test.YtlgohmghjffiaaaDoorRows
import GoSem.ClaimSeven
namespace Go.Proofs.YtlgohmghjffiaaaDoor
namespace Rows

/-- THE TIED CARD OF 'barbicanlaw10.ChunkPieces'. -/
def chunkPiecesCard : Claim7 := { stood := { row := chunkPiecesRow, standIns := [], harness := (true, "f3b81dac0b30047dfdec04b84abf98a26e8f7dd987221042fe693af495bd42b5"), looks := false }, kinds := [], alts := [], laidByText := true, laidKinds := [.data, .pinned], laidTests := true, laidLooks := .later }
def ChunkPiecesCardSaid : Prop := Claim7.holds Tryd.pinned (.plain (OpenSpec.ofChange chunkPiecesSpec)) chunkPiecesCard

/-- THE TIED CARD OF 'barbicanlaw10.ChunkBack'. -/
def chunkBackCard : Claim7 := { stood := { row := chunkBackRow, standIns := [], harness := (true, "f3b81dac0b30047dfdec04b84abf98a26e8f7dd987221042fe693af495bd42b5"), looks := false }, kinds := [], alts := [], laidByText := true, laidKinds := [.data, .data, .data, .data, .pinned], laidTests := true, laidLooks := .later }
def ChunkBackCardSaid : Prop := Claim7.holds Tryd.pinned (.plain (OpenSpec.ofChange chunkBackSpec)) chunkBackCard

/-- THE TIED CARD OF 'barbicanlaw10.ChunkBound'. -/
def chunkBoundCard : Claim7 := { stood := { row := chunkBoundRow, standIns := [], harness := (true, "f3b81dac0b30047dfdec04b84abf98a26e8f7dd987221042fe693af495bd42b5"), looks := false }, kinds := [], alts := [], laidByText := true, laidKinds := [.data, .pinned], laidTests := true, laidLooks := .later }
def ChunkBoundCardSaid : Prop := Claim7.holds Tryd.pinned (.plain (OpenSpec.ofChange chunkBoundSpec)) chunkBoundCard

/-- THE TIED CARD OF 'barbicanlaw10.ChunkDressed'. -/
def chunkDressedCard : Claim7 := { stood := { row := chunkDressedRow, standIns := [], harness := (true, "f3b81dac0b30047dfdec04b84abf98a26e8f7dd987221042fe693af495bd42b5"), looks := false }, kinds := [], alts := [], laidByText := true, laidKinds := [.data, .pinned], laidTests := true, laidLooks := .later }
def ChunkDressedCardSaid : Prop := Claim7.holds Tryd.pinned (.plain (OpenSpec.ofChange chunkDressedSpec)) chunkDressedCard

/-- THE SECOND FORM's CARD OF 'barbicanlaw10.ChunkPieces'. -/
def chunkPiecesUptoCard : Claim7 := { stood := { row := chunkPiecesUptoRow, standIns := [], harness := (true, "f3b81dac0b30047dfdec04b84abf98a26e8f7dd987221042fe693af495bd42b5"), looks := false }, kinds := [], alts := [], laidByText := true, laidKinds := [.data, .pinned], laidTests := true, laidLooks := .later }
def ChunkPiecesUptoCardSaid : Prop := Claim7.holds Tryd.pinned (.plain (OpenSpec.upto chunkPiecesSpec)) chunkPiecesUptoCard

/-- THE SECOND FORM's CARD OF 'barbicanlaw10.ChunkBack'. -/
def chunkBackUptoCard : Claim7 := { stood := { row := chunkBackUptoRow, standIns := [], harness := (true, "f3b81dac0b30047dfdec04b84abf98a26e8f7dd987221042fe693af495bd42b5"), looks := false }, kinds := [], alts := [], laidByText := true, laidKinds := [.data, .data, .data, .data, .pinned], laidTests := true, laidLooks := .later }
def ChunkBackUptoCardSaid : Prop := Claim7.holds Tryd.pinned (.plain (OpenSpec.upto chunkBackSpec)) chunkBackUptoCard

/-- THE SECOND FORM's CARD OF 'barbicanlaw10.ChunkBound'. -/
def chunkBoundUptoCard : Claim7 := { stood := { row := chunkBoundUptoRow, standIns := [], harness := (true, "f3b81dac0b30047dfdec04b84abf98a26e8f7dd987221042fe693af495bd42b5"), looks := false }, kinds := [], alts := [], laidByText := true, laidKinds := [.data, .pinned], laidTests := true, laidLooks := .later }
def ChunkBoundUptoCardSaid : Prop := Claim7.holds Tryd.pinned (.plain (OpenSpec.upto chunkBoundSpec)) chunkBoundUptoCard

/-- THE SECOND FORM's CARD OF 'barbicanlaw10.ChunkDressed'. -/
def chunkDressedUptoCard : Claim7 := { stood := { row := chunkDressedUptoRow, standIns := [], harness := (true, "f3b81dac0b30047dfdec04b84abf98a26e8f7dd987221042fe693af495bd42b5"), looks := false }, kinds := [], alts := [], laidByText := true, laidKinds := [.data, .pinned], laidTests := true, laidLooks := .later }
def ChunkDressedUptoCardSaid : Prop := Claim7.holds Tryd.pinned (.plain (OpenSpec.upto chunkDressedSpec)) chunkDressedUptoCard
end Rows
end Go.Proofs.YtlgohmghjffiaaaDoor
