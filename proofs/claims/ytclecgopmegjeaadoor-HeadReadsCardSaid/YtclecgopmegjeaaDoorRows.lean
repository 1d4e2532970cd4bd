/-
  NARROWER THAN 'FOR EVERY INPUT', by the rows' own cells (each row's printed sentence says how): HeadReads: laid · HeadSteady: laid · HeadUsed: laid · HeadWritten: laid · HeadFields: laid · HeadBare: laid · HeadBounds: laid · HeadAhead: laid.
  DERIVED. THE GIVEN ROWS OF THIS SEAT. 8 by the template 'for every input the law returns true; each argument reads behind the call as it read before'; 0 by the template 'total and deterministic' (their statements: YtclecgopmegjeaaDoorTotals.lean).
  GIVEN WITH THE SEED: the statements are not yours to turn. If you find one false, say at which input.
  Laid BY PROGRAM, IN A SANDBOX (cutbox-rows.mjs): the forced cells as the released guide's own fill.sh prints them over the translation f2d1d122c102a55b… (all of the seat's roots in one cut). By AI agents, Wed Nov 11 2026. No macro, syntax, notation, axiom, sorry.
-/
import Derived.Test.YtclecgopmegjeaaDoorChecked
import GoSem.PinnedTables
import GoSem.Claim
import GoSem.ClaimJoined
import GoSem.ClaimMapViews
import Derived.JoinedTies
import Derived.KernelRfl
namespace Go.Proofs.YtclecgopmegjeaaDoor
/- THE CELL 'sum', in the pinned program and in every row, IS THE sha256 OF THE DUMP (.gsa) THAT YtclecgopmegjeaaDoorProg.lean LOADS. Nothing in Lean hashes anything: it is a label: what it is worth is what the hold of that sum in a sandbox is worth. -/
noncomputable def Tryd.pinned : Pinned := { name := "ytclecgopmegjeaadoor", sum := "f2d1d122c102a55b7934d7fdcc2aaf275b1b5ed20e107b2fd7967a493af1c509", checked := Tryd.checked }
namespace Rows
def none {H : Type} : Left H := { results := [], args := [] }

/- WHAT THE LISTED PACKAGE-LEVEL VARIABLES READ AS WHEN THE CALL BEGINS. Each datum BY PROGRAM (the guide's laid-datum.mjs) off the statement by which the dump's own 'gosem.cut.vars' lays the variable. In a bare row this is a premise. The card (YtclecgopmegjeaaDoorCards.lean) ties it to the program's text. -/
def laid_unicode_utf8_acceptRanges {H : Type} : DataW H := .agg [.agg [.lit (.int .u8 128), .lit (.int .u8 191)], .agg [.lit (.int .u8 160), .lit (.int .u8 191)], .agg [.lit (.int .u8 128), .lit (.int .u8 159)], .agg [.lit (.int .u8 144), .lit (.int .u8 191)], .agg [.lit (.int .u8 128), .lit (.int .u8 143)], .agg [.lit (.int .u8 0), .lit (.int .u8 0)], .agg [.lit (.int .u8 0), .lit (.int .u8 0)], .agg [.lit (.int .u8 0), .lit (.int .u8 0)], .agg [.lit (.int .u8 0), .lit (.int .u8 0)], .agg [.lit (.int .u8 0), .lit (.int .u8 0)], .agg [.lit (.int .u8 0), .lit (.int .u8 0)], .agg [.lit (.int .u8 0), .lit (.int .u8 0)], .agg [.lit (.int .u8 0), .lit (.int .u8 0)], .agg [.lit (.int .u8 0), .lit (.int .u8 0)], .agg [.lit (.int .u8 0), .lit (.int .u8 0)], .agg [.lit (.int .u8 0), .lit (.int .u8 0)]]
/-- One of Go's own tables, pinned by name: the form's constant. -/
def laid_unicode_utf8_first : DataW Unit := Go.Pinned.utf8First

/-- 'barbicanlaw08.HeadReads': WHATEVER THE INPUT: true; the input reads as it did. -/
def headReadsSpec : ChangeSpec := { name := "headReads", fn := fun _ => fun
  | [d] => { results := [.lit (.bool true)], args := [d] }
  | _ => none }
def headReadsRow : OpenClaim := { program := "ytclecgopmegjeaadoor", sum := "f2d1d122c102a55b7934d7fdcc2aaf275b1b5ed20e107b2fd7967a493af1c509", func := "barbican/barbicanlaw08.HeadReads", spec := "headReads", inPlace := ["internal/bytealg.IndexByteString", "internal/bytealg.IndexString"], unfollowed := true, recurses := true, named := ["internal/bytealg.MaxLen", "unicode/utf8.first", "unicode/utf8.acceptRanges"], apart := false, laid := [("unicode/utf8.acceptRanges", laid_unicode_utf8_acceptRanges), ("unicode/utf8.first", laid_unicode_utf8_first)] }
def HeadReadsSaid : Prop := headReadsRow.holds Tryd.pinned (OpenSpec.ofChange headReadsSpec)

/-- ITS FALSE NEIGHBOUR: 'it returns false'. Refute it at one input. -/
def headReadsWrong : ChangeSpec := { name := "headReads", fn := fun _ => fun
  | [d] => { results := [.lit (.bool false)], args := [d] }
  | _ => none }
def HeadReadsWrongFalsely : Prop := headReadsRow.holds Tryd.pinned (OpenSpec.ofChange headReadsWrong)

/-- 'barbicanlaw08.HeadSteady': WHATEVER THE INPUT: true; the input reads as it did. -/
def headSteadySpec : ChangeSpec := { name := "headSteady", fn := fun _ => fun
  | [d1, d2] => { results := [.lit (.bool true)], args := [d1, d2] }
  | _ => none }
def headSteadyRow : OpenClaim := { program := "ytclecgopmegjeaadoor", sum := "f2d1d122c102a55b7934d7fdcc2aaf275b1b5ed20e107b2fd7967a493af1c509", func := "barbican/barbicanlaw08.HeadSteady", spec := "headSteady", inPlace := ["internal/bytealg.IndexByteString", "internal/bytealg.IndexString"], unfollowed := true, recurses := true, named := ["internal/bytealg.MaxLen", "unicode/utf8.first", "unicode/utf8.acceptRanges"], apart := false, laid := [("unicode/utf8.acceptRanges", laid_unicode_utf8_acceptRanges), ("unicode/utf8.first", laid_unicode_utf8_first)] }
def HeadSteadySaid : Prop := headSteadyRow.holds Tryd.pinned (OpenSpec.ofChange headSteadySpec)

/-- ITS FALSE NEIGHBOUR: 'it returns false'. Refute it at one input. -/
def headSteadyWrong : ChangeSpec := { name := "headSteady", fn := fun _ => fun
  | [d1, d2] => { results := [.lit (.bool false)], args := [d1, d2] }
  | _ => none }
def HeadSteadyWrongFalsely : Prop := headSteadyRow.holds Tryd.pinned (OpenSpec.ofChange headSteadyWrong)

/-- 'barbicanlaw08.HeadUsed': WHATEVER THE INPUT: true; the input reads as it did. -/
def headUsedSpec : ChangeSpec := { name := "headUsed", fn := fun _ => fun
  | [d1, d2] => { results := [.lit (.bool true)], args := [d1, d2] }
  | _ => none }
def headUsedRow : OpenClaim := { program := "ytclecgopmegjeaadoor", sum := "f2d1d122c102a55b7934d7fdcc2aaf275b1b5ed20e107b2fd7967a493af1c509", func := "barbican/barbicanlaw08.HeadUsed", spec := "headUsed", inPlace := ["internal/bytealg.IndexByteString", "internal/bytealg.IndexString"], unfollowed := true, recurses := true, named := ["internal/bytealg.MaxLen", "unicode/utf8.first", "unicode/utf8.acceptRanges"], apart := false, laid := [("unicode/utf8.acceptRanges", laid_unicode_utf8_acceptRanges), ("unicode/utf8.first", laid_unicode_utf8_first)] }
def HeadUsedSaid : Prop := headUsedRow.holds Tryd.pinned (OpenSpec.ofChange headUsedSpec)

/-- ITS FALSE NEIGHBOUR: 'it returns false'. Refute it at one input. -/
def headUsedWrong : ChangeSpec := { name := "headUsed", fn := fun _ => fun
  | [d1, d2] => { results := [.lit (.bool false)], args := [d1, d2] }
  | _ => none }
def HeadUsedWrongFalsely : Prop := headUsedRow.holds Tryd.pinned (OpenSpec.ofChange headUsedWrong)

/-- 'barbicanlaw08.HeadWritten': WHATEVER THE INPUT: true; the input reads as it did. -/
def headWrittenSpec : ChangeSpec := { name := "headWritten", fn := fun _ => fun
  | [d1, d2, d3, d4] => { results := [.lit (.bool true)], args := [d1, d2, d3, d4] }
  | _ => none }
def headWrittenRow : OpenClaim := { program := "ytclecgopmegjeaadoor", sum := "f2d1d122c102a55b7934d7fdcc2aaf275b1b5ed20e107b2fd7967a493af1c509", func := "barbican/barbicanlaw08.HeadWritten", spec := "headWritten", inPlace := ["internal/bytealg.IndexByteString", "internal/bytealg.IndexString"], unfollowed := true, recurses := true, named := ["internal/bytealg.MaxLen", "unicode/utf8.first", "unicode/utf8.acceptRanges"], apart := false, laid := [("unicode/utf8.acceptRanges", laid_unicode_utf8_acceptRanges), ("unicode/utf8.first", laid_unicode_utf8_first)] }
def HeadWrittenSaid : Prop := headWrittenRow.holds Tryd.pinned (OpenSpec.ofChange headWrittenSpec)

/-- ITS FALSE NEIGHBOUR: 'it returns false'. Refute it at one input. -/
def headWrittenWrong : ChangeSpec := { name := "headWritten", fn := fun _ => fun
  | [d1, d2, d3, d4] => { results := [.lit (.bool false)], args := [d1, d2, d3, d4] }
  | _ => none }
def HeadWrittenWrongFalsely : Prop := headWrittenRow.holds Tryd.pinned (OpenSpec.ofChange headWrittenWrong)

/-- 'barbicanlaw08.HeadFields': WHATEVER THE INPUT: true; the input reads as it did. -/
def headFieldsSpec : ChangeSpec := { name := "headFields", fn := fun _ => fun
  | [d] => { results := [.lit (.bool true)], args := [d] }
  | _ => none }
def headFieldsRow : OpenClaim := { program := "ytclecgopmegjeaadoor", sum := "f2d1d122c102a55b7934d7fdcc2aaf275b1b5ed20e107b2fd7967a493af1c509", func := "barbican/barbicanlaw08.HeadFields", spec := "headFields", inPlace := ["internal/bytealg.IndexByteString", "internal/bytealg.IndexString"], unfollowed := true, recurses := true, named := ["internal/bytealg.MaxLen", "unicode/utf8.first", "unicode/utf8.acceptRanges"], apart := false, laid := [("unicode/utf8.acceptRanges", laid_unicode_utf8_acceptRanges), ("unicode/utf8.first", laid_unicode_utf8_first)] }
def HeadFieldsSaid : Prop := headFieldsRow.holds Tryd.pinned (OpenSpec.ofChange headFieldsSpec)

/-- ITS FALSE NEIGHBOUR: 'it returns false'. Refute it at one input. -/
def headFieldsWrong : ChangeSpec := { name := "headFields", fn := fun _ => fun
  | [d] => { results := [.lit (.bool false)], args := [d] }
  | _ => none }
def HeadFieldsWrongFalsely : Prop := headFieldsRow.holds Tryd.pinned (OpenSpec.ofChange headFieldsWrong)

/-- 'barbicanlaw08.HeadBare': WHATEVER THE INPUT: true; the input reads as it did. -/
def headBareSpec : ChangeSpec := { name := "headBare", fn := fun _ => fun
  | [d] => { results := [.lit (.bool true)], args := [d] }
  | _ => none }
def headBareRow : OpenClaim := { program := "ytclecgopmegjeaadoor", sum := "f2d1d122c102a55b7934d7fdcc2aaf275b1b5ed20e107b2fd7967a493af1c509", func := "barbican/barbicanlaw08.HeadBare", spec := "headBare", inPlace := ["internal/bytealg.IndexByteString", "internal/bytealg.IndexString"], unfollowed := true, recurses := true, named := ["internal/bytealg.MaxLen", "unicode/utf8.first", "unicode/utf8.acceptRanges"], apart := false, laid := [("unicode/utf8.acceptRanges", laid_unicode_utf8_acceptRanges), ("unicode/utf8.first", laid_unicode_utf8_first)] }
def HeadBareSaid : Prop := headBareRow.holds Tryd.pinned (OpenSpec.ofChange headBareSpec)

/-- ITS FALSE NEIGHBOUR: 'it returns false'. Refute it at one input. -/
def headBareWrong : ChangeSpec := { name := "headBare", fn := fun _ => fun
  | [d] => { results := [.lit (.bool false)], args := [d] }
  | _ => none }
def HeadBareWrongFalsely : Prop := headBareRow.holds Tryd.pinned (OpenSpec.ofChange headBareWrong)

/-- 'barbicanlaw08.HeadBounds': WHATEVER THE INPUT: true; the input reads as it did. -/
def headBoundsSpec : ChangeSpec := { name := "headBounds", fn := fun _ => fun
  | [d1, d2, d3] => { results := [.lit (.bool true)], args := [d1, d2, d3] }
  | _ => none }
def headBoundsRow : OpenClaim := { program := "ytclecgopmegjeaadoor", sum := "f2d1d122c102a55b7934d7fdcc2aaf275b1b5ed20e107b2fd7967a493af1c509", func := "barbican/barbicanlaw08.HeadBounds", spec := "headBounds", inPlace := ["internal/bytealg.IndexByteString", "internal/bytealg.IndexString"], unfollowed := true, recurses := true, named := ["internal/bytealg.MaxLen", "unicode/utf8.first", "unicode/utf8.acceptRanges"], apart := false, laid := [("unicode/utf8.acceptRanges", laid_unicode_utf8_acceptRanges), ("unicode/utf8.first", laid_unicode_utf8_first)] }
def HeadBoundsSaid : Prop := headBoundsRow.holds Tryd.pinned (OpenSpec.ofChange headBoundsSpec)

/-- ITS FALSE NEIGHBOUR: 'it returns false'. Refute it at one input. -/
def headBoundsWrong : ChangeSpec := { name := "headBounds", fn := fun _ => fun
  | [d1, d2, d3] => { results := [.lit (.bool false)], args := [d1, d2, d3] }
  | _ => none }
def HeadBoundsWrongFalsely : Prop := headBoundsRow.holds Tryd.pinned (OpenSpec.ofChange headBoundsWrong)

/-- 'barbicanlaw08.HeadAhead': WHATEVER THE INPUT: true; the input reads as it did. -/
def headAheadSpec : ChangeSpec := { name := "headAhead", fn := fun _ => fun
  | [d1, d2] => { results := [.lit (.bool true)], args := [d1, d2] }
  | _ => none }
def headAheadRow : OpenClaim := { program := "ytclecgopmegjeaadoor", sum := "f2d1d122c102a55b7934d7fdcc2aaf275b1b5ed20e107b2fd7967a493af1c509", func := "barbican/barbicanlaw08.HeadAhead", spec := "headAhead", inPlace := ["internal/bytealg.IndexByteString", "internal/bytealg.IndexString"], unfollowed := true, recurses := true, named := ["internal/bytealg.MaxLen", "unicode/utf8.first", "unicode/utf8.acceptRanges"], apart := false, laid := [("unicode/utf8.acceptRanges", laid_unicode_utf8_acceptRanges), ("unicode/utf8.first", laid_unicode_utf8_first)] }
def HeadAheadSaid : Prop := headAheadRow.holds Tryd.pinned (OpenSpec.ofChange headAheadSpec)

/-- ITS FALSE NEIGHBOUR: 'it returns false'. Refute it at one input. -/
def headAheadWrong : ChangeSpec := { name := "headAhead", fn := fun _ => fun
  | [d1, d2] => { results := [.lit (.bool false)], args := [d1, d2] }
  | _ => none }
def HeadAheadWrongFalsely : Prop := headAheadRow.holds Tryd.pinned (OpenSpec.ofChange headAheadWrong)

/- THE SECOND FORM. 'bulk': how many values and letters a reading holds, each counted each time it is reached (what is shared counts as often as it is met; a slice's spare places count too). A statement '..UptoSaid' is the law's where the arguments, and the package variables that the reading takes, are together of bulk at most 1048576: NARROWER than '..Said'. Prove '..Said' where nothing that the law and all that it calls make is longer than what came in: it says more and counts as full. Else prove '..UptoSaid'. A law counts once. -/
mutual
def uptoBulk {H : Type} : DataW H → Nat
  | .lit (.string bytes) => bytes.length + 1
  | .lit _ => 1
  | .nil => 1
  | .ptr d => uptoBulk d + 1
  | .slice elems spare => uptoBulkAll elems + uptoBulkAll spare + 1
  | .agg parts => uptoBulkAll parts + 1
  | .iface _ d => uptoBulk d + 1
  | .map entries => uptoBulkEntries entries + 1
  | .held _ => 1
def uptoBulkAll {H : Type} : List (DataW H) → Nat
  | [] => 0
  | d :: r => uptoBulk d + uptoBulkAll r
def uptoBulkEntries {H : Type} : List (Lit × DataW H) → Nat
  | [] => 0
  | x :: r => uptoBulkEntry x + uptoBulkEntries r
def uptoBulkEntry {H : Type} : Lit × DataW H → Nat
  | (.string bytes, d) => bytes.length + uptoBulk d + 1
  | (_, d) => uptoBulk d + 1
 end
def uptoSmall : (H : Type) → List (DataW H) → Bool := fun _ ds => decide (uptoBulkAll ds ≤ 1048576)
def OpenSpec.upto (s : _root_.Go.ChangeSpec) : _root_.Go.OpenSpec := { _root_.Go.OpenSpec.ofChange s with cond := some uptoSmall }

/-- 'barbicanlaw08.HeadReads', WHERE WHAT IT READS IS OF BULK AT MOST 1048576: true; the input reads as it did. -/
def headReadsUptoRow : OpenClaim := { program := "ytclecgopmegjeaadoor", sum := "f2d1d122c102a55b7934d7fdcc2aaf275b1b5ed20e107b2fd7967a493af1c509", func := "barbican/barbicanlaw08.HeadReads", spec := "headReads", inPlace := ["internal/bytealg.IndexByteString", "internal/bytealg.IndexString"], unfollowed := true, recurses := true, named := ["internal/bytealg.MaxLen", "unicode/utf8.first", "unicode/utf8.acceptRanges"], apart := false, laid := [("unicode/utf8.acceptRanges", laid_unicode_utf8_acceptRanges), ("unicode/utf8.first", laid_unicode_utf8_first)], narrowed := true }
def HeadReadsUptoSaid : Prop := headReadsUptoRow.holds Tryd.pinned (OpenSpec.upto headReadsSpec)

/-- 'barbicanlaw08.HeadSteady', WHERE WHAT IT READS IS OF BULK AT MOST 1048576: true; the input reads as it did. -/
def headSteadyUptoRow : OpenClaim := { program := "ytclecgopmegjeaadoor", sum := "f2d1d122c102a55b7934d7fdcc2aaf275b1b5ed20e107b2fd7967a493af1c509", func := "barbican/barbicanlaw08.HeadSteady", spec := "headSteady", inPlace := ["internal/bytealg.IndexByteString", "internal/bytealg.IndexString"], unfollowed := true, recurses := true, named := ["internal/bytealg.MaxLen", "unicode/utf8.first", "unicode/utf8.acceptRanges"], apart := false, laid := [("unicode/utf8.acceptRanges", laid_unicode_utf8_acceptRanges), ("unicode/utf8.first", laid_unicode_utf8_first)], narrowed := true }
def HeadSteadyUptoSaid : Prop := headSteadyUptoRow.holds Tryd.pinned (OpenSpec.upto headSteadySpec)

/-- 'barbicanlaw08.HeadUsed', WHERE WHAT IT READS IS OF BULK AT MOST 1048576: true; the input reads as it did. -/
def headUsedUptoRow : OpenClaim := { program := "ytclecgopmegjeaadoor", sum := "f2d1d122c102a55b7934d7fdcc2aaf275b1b5ed20e107b2fd7967a493af1c509", func := "barbican/barbicanlaw08.HeadUsed", spec := "headUsed", inPlace := ["internal/bytealg.IndexByteString", "internal/bytealg.IndexString"], unfollowed := true, recurses := true, named := ["internal/bytealg.MaxLen", "unicode/utf8.first", "unicode/utf8.acceptRanges"], apart := false, laid := [("unicode/utf8.acceptRanges", laid_unicode_utf8_acceptRanges), ("unicode/utf8.first", laid_unicode_utf8_first)], narrowed := true }
def HeadUsedUptoSaid : Prop := headUsedUptoRow.holds Tryd.pinned (OpenSpec.upto headUsedSpec)

/-- 'barbicanlaw08.HeadWritten', WHERE WHAT IT READS IS OF BULK AT MOST 1048576: true; the input reads as it did. -/
def headWrittenUptoRow : OpenClaim := { program := "ytclecgopmegjeaadoor", sum := "f2d1d122c102a55b7934d7fdcc2aaf275b1b5ed20e107b2fd7967a493af1c509", func := "barbican/barbicanlaw08.HeadWritten", spec := "headWritten", inPlace := ["internal/bytealg.IndexByteString", "internal/bytealg.IndexString"], unfollowed := true, recurses := true, named := ["internal/bytealg.MaxLen", "unicode/utf8.first", "unicode/utf8.acceptRanges"], apart := false, laid := [("unicode/utf8.acceptRanges", laid_unicode_utf8_acceptRanges), ("unicode/utf8.first", laid_unicode_utf8_first)], narrowed := true }
def HeadWrittenUptoSaid : Prop := headWrittenUptoRow.holds Tryd.pinned (OpenSpec.upto headWrittenSpec)

/-- 'barbicanlaw08.HeadFields', WHERE WHAT IT READS IS OF BULK AT MOST 1048576: true; the input reads as it did. -/
def headFieldsUptoRow : OpenClaim := { program := "ytclecgopmegjeaadoor", sum := "f2d1d122c102a55b7934d7fdcc2aaf275b1b5ed20e107b2fd7967a493af1c509", func := "barbican/barbicanlaw08.HeadFields", spec := "headFields", inPlace := ["internal/bytealg.IndexByteString", "internal/bytealg.IndexString"], unfollowed := true, recurses := true, named := ["internal/bytealg.MaxLen", "unicode/utf8.first", "unicode/utf8.acceptRanges"], apart := false, laid := [("unicode/utf8.acceptRanges", laid_unicode_utf8_acceptRanges), ("unicode/utf8.first", laid_unicode_utf8_first)], narrowed := true }
def HeadFieldsUptoSaid : Prop := headFieldsUptoRow.holds Tryd.pinned (OpenSpec.upto headFieldsSpec)

/-- 'barbicanlaw08.HeadBare', WHERE WHAT IT READS IS OF BULK AT MOST 1048576: true; the input reads as it did. -/
def headBareUptoRow : OpenClaim := { program := "ytclecgopmegjeaadoor", sum := "f2d1d122c102a55b7934d7fdcc2aaf275b1b5ed20e107b2fd7967a493af1c509", func := "barbican/barbicanlaw08.HeadBare", spec := "headBare", inPlace := ["internal/bytealg.IndexByteString", "internal/bytealg.IndexString"], unfollowed := true, recurses := true, named := ["internal/bytealg.MaxLen", "unicode/utf8.first", "unicode/utf8.acceptRanges"], apart := false, laid := [("unicode/utf8.acceptRanges", laid_unicode_utf8_acceptRanges), ("unicode/utf8.first", laid_unicode_utf8_first)], narrowed := true }
def HeadBareUptoSaid : Prop := headBareUptoRow.holds Tryd.pinned (OpenSpec.upto headBareSpec)

/-- 'barbicanlaw08.HeadBounds', WHERE WHAT IT READS IS OF BULK AT MOST 1048576: true; the input reads as it did. -/
def headBoundsUptoRow : OpenClaim := { program := "ytclecgopmegjeaadoor", sum := "f2d1d122c102a55b7934d7fdcc2aaf275b1b5ed20e107b2fd7967a493af1c509", func := "barbican/barbicanlaw08.HeadBounds", spec := "headBounds", inPlace := ["internal/bytealg.IndexByteString", "internal/bytealg.IndexString"], unfollowed := true, recurses := true, named := ["internal/bytealg.MaxLen", "unicode/utf8.first", "unicode/utf8.acceptRanges"], apart := false, laid := [("unicode/utf8.acceptRanges", laid_unicode_utf8_acceptRanges), ("unicode/utf8.first", laid_unicode_utf8_first)], narrowed := true }
def HeadBoundsUptoSaid : Prop := headBoundsUptoRow.holds Tryd.pinned (OpenSpec.upto headBoundsSpec)

/-- 'barbicanlaw08.HeadAhead', WHERE WHAT IT READS IS OF BULK AT MOST 1048576: true; the input reads as it did. -/
def headAheadUptoRow : OpenClaim := { program := "ytclecgopmegjeaadoor", sum := "f2d1d122c102a55b7934d7fdcc2aaf275b1b5ed20e107b2fd7967a493af1c509", func := "barbican/barbicanlaw08.HeadAhead", spec := "headAhead", inPlace := ["internal/bytealg.IndexByteString", "internal/bytealg.IndexString"], unfollowed := true, recurses := true, named := ["internal/bytealg.MaxLen", "unicode/utf8.first", "unicode/utf8.acceptRanges"], apart := false, laid := [("unicode/utf8.acceptRanges", laid_unicode_utf8_acceptRanges), ("unicode/utf8.first", laid_unicode_utf8_first)], narrowed := true }
def HeadAheadUptoSaid : Prop := headAheadUptoRow.holds Tryd.pinned (OpenSpec.upto headAheadSpec)

end Rows
end Go.Proofs.YtclecgopmegjeaaDoor
