/-
  No cell of these rows narrows 'for every input' (looked for: loops, veiled, ifaces, maps, wideKeys, modest, calm, conditions, laid).
  DERIVED. THE GIVEN ROWS OF THIS SEAT. 6 by the template 'for every input the law returns true; each argument reads behind the call as it read before'; 0 by the template 'total and deterministic' (their statements: YtfdpoibmlggfbaaTotals.lean).
  GIVEN WITH THE SEED: the statements are not yours to turn. If you find one false, say at which input.
  Laid BY PROGRAM, IN A SANDBOX (cutbox-rows.mjs): the forced cells as the released guide's own fill.sh prints them over the translation 0293136344452616… (all of the seat's roots in one cut). By AI agents, Wed Nov 11 2026. No macro, syntax, notation, axiom, sorry.
-/
import Derived.Test.YtfdpoibmlggfbaaChecked
import GoSem.Claim
import GoSem.ClaimJoined
import GoSem.ClaimMapViews
import Derived.JoinedTies
import Derived.KernelRfl
namespace Go.Proofs.Ytfdpoibmlggfbaa
/- THE CELL 'sum', in the pinned program and in every row, IS THE sha256 OF THE DUMP (.gsa) THAT YtfdpoibmlggfbaaProg.lean LOADS. Nothing in Lean hashes anything: it is a label: what it is worth is what the hold of that sum in a sandbox is worth. -/
noncomputable def Try.pinned : Pinned := { name := "ytfdpoibmlggfbaa", sum := "0293136344452616ebab2a35fcab9cfb578ad5276cc12a1f467678ae98ee4522", checked := Try.checked }
namespace Rows
def none {H : Type} : Left H := { results := [], args := [] }

/-- 'barbicanlaw16.FilterPlays': WHATEVER THE INPUT: true; the input reads as it did. -/
def filterPlaysSpec : ChangeSpec := { name := "filterPlays", fn := fun _ => fun
  | [d1, d2, d3] => { results := [.lit (.bool true)], args := [d1, d2, d3] }
  | _ => none }
def filterPlaysRow : OpenClaim := { program := "ytfdpoibmlggfbaa", sum := "0293136344452616ebab2a35fcab9cfb578ad5276cc12a1f467678ae98ee4522", func := "barbican/barbicanlaw16.FilterPlays", spec := "filterPlays", unfollowed := true, recurses := true, apart := false }
def FilterPlaysSaid : Prop := filterPlaysRow.holds Try.pinned (OpenSpec.ofChange filterPlaysSpec)

/-- ITS FALSE NEIGHBOUR: 'it returns false'. Refute it at one input. -/
def filterPlaysWrong : ChangeSpec := { name := "filterPlays", fn := fun _ => fun
  | [d1, d2, d3] => { results := [.lit (.bool false)], args := [d1, d2, d3] }
  | _ => none }
def FilterPlaysWrongFalsely : Prop := filterPlaysRow.holds Try.pinned (OpenSpec.ofChange filterPlaysWrong)

/-- 'barbicanlaw16.FilterGuards': WHATEVER THE INPUT: true; the input reads as it did. -/
def filterGuardsSpec : ChangeSpec := { name := "filterGuards", fn := fun _ => fun
  | [d1, d2, d3] => { results := [.lit (.bool true)], args := [d1, d2, d3] }
  | _ => none }
def filterGuardsRow : OpenClaim := { program := "ytfdpoibmlggfbaa", sum := "0293136344452616ebab2a35fcab9cfb578ad5276cc12a1f467678ae98ee4522", func := "barbican/barbicanlaw16.FilterGuards", spec := "filterGuards", unfollowed := true, recurses := true, apart := false }
def FilterGuardsSaid : Prop := filterGuardsRow.holds Try.pinned (OpenSpec.ofChange filterGuardsSpec)

/-- ITS FALSE NEIGHBOUR: 'it returns false'. Refute it at one input. -/
def filterGuardsWrong : ChangeSpec := { name := "filterGuards", fn := fun _ => fun
  | [d1, d2, d3] => { results := [.lit (.bool false)], args := [d1, d2, d3] }
  | _ => none }
def FilterGuardsWrongFalsely : Prop := filterGuardsRow.holds Try.pinned (OpenSpec.ofChange filterGuardsWrong)

/-- 'barbicanlaw16.FilterReverse': WHATEVER THE INPUT: true; the input reads as it did. -/
def filterReverseSpec : ChangeSpec := { name := "filterReverse", fn := fun _ => fun
  | [d1, d2] => { results := [.lit (.bool true)], args := [d1, d2] }
  | _ => none }
def filterReverseRow : OpenClaim := { program := "ytfdpoibmlggfbaa", sum := "0293136344452616ebab2a35fcab9cfb578ad5276cc12a1f467678ae98ee4522", func := "barbican/barbicanlaw16.FilterReverse", spec := "filterReverse", unfollowed := true, recurses := true, apart := false }
def FilterReverseSaid : Prop := filterReverseRow.holds Try.pinned (OpenSpec.ofChange filterReverseSpec)

/-- ITS FALSE NEIGHBOUR: 'it returns false'. Refute it at one input. -/
def filterReverseWrong : ChangeSpec := { name := "filterReverse", fn := fun _ => fun
  | [d1, d2] => { results := [.lit (.bool false)], args := [d1, d2] }
  | _ => none }
def FilterReverseWrongFalsely : Prop := filterReverseRow.holds Try.pinned (OpenSpec.ofChange filterReverseWrong)

/-- 'barbicanlaw16.FilterMemory': WHATEVER THE INPUT: true; the input reads as it did. -/
def filterMemorySpec : ChangeSpec := { name := "filterMemory", fn := fun _ => fun
  | [d1, d2] => { results := [.lit (.bool true)], args := [d1, d2] }
  | _ => none }
def filterMemoryRow : OpenClaim := { program := "ytfdpoibmlggfbaa", sum := "0293136344452616ebab2a35fcab9cfb578ad5276cc12a1f467678ae98ee4522", func := "barbican/barbicanlaw16.FilterMemory", spec := "filterMemory", unfollowed := true, recurses := true, apart := false }
def FilterMemorySaid : Prop := filterMemoryRow.holds Try.pinned (OpenSpec.ofChange filterMemorySpec)

/-- ITS FALSE NEIGHBOUR: 'it returns false'. Refute it at one input. -/
def filterMemoryWrong : ChangeSpec := { name := "filterMemory", fn := fun _ => fun
  | [d1, d2] => { results := [.lit (.bool false)], args := [d1, d2] }
  | _ => none }
def FilterMemoryWrongFalsely : Prop := filterMemoryRow.holds Try.pinned (OpenSpec.ofChange filterMemoryWrong)

/-- 'barbicanlaw16.FilterRate': WHATEVER THE INPUT: true; the input reads as it did. -/
def filterRateSpec : ChangeSpec := { name := "filterRate", fn := fun _ => fun
  | [d1, d2, d3, d4] => { results := [.lit (.bool true)], args := [d1, d2, d3, d4] }
  | _ => none }
def filterRateRow : OpenClaim := { program := "ytfdpoibmlggfbaa", sum := "0293136344452616ebab2a35fcab9cfb578ad5276cc12a1f467678ae98ee4522", func := "barbican/barbicanlaw16.FilterRate", spec := "filterRate", unfollowed := true, recurses := true, apart := false }
def FilterRateSaid : Prop := filterRateRow.holds Try.pinned (OpenSpec.ofChange filterRateSpec)

/-- ITS FALSE NEIGHBOUR: 'it returns false'. Refute it at one input. -/
def filterRateWrong : ChangeSpec := { name := "filterRate", fn := fun _ => fun
  | [d1, d2, d3, d4] => { results := [.lit (.bool false)], args := [d1, d2, d3, d4] }
  | _ => none }
def FilterRateWrongFalsely : Prop := filterRateRow.holds Try.pinned (OpenSpec.ofChange filterRateWrong)

/-- 'barbicanlaw16.FilterFirst': WHATEVER THE INPUT: true; the input reads as it did. -/
def filterFirstSpec : ChangeSpec := { name := "filterFirst", fn := fun _ => fun
  | [d1, d2, d3] => { results := [.lit (.bool true)], args := [d1, d2, d3] }
  | _ => none }
def filterFirstRow : OpenClaim := { program := "ytfdpoibmlggfbaa", sum := "0293136344452616ebab2a35fcab9cfb578ad5276cc12a1f467678ae98ee4522", func := "barbican/barbicanlaw16.FilterFirst", spec := "filterFirst", unfollowed := true, recurses := true, apart := false }
def FilterFirstSaid : Prop := filterFirstRow.holds Try.pinned (OpenSpec.ofChange filterFirstSpec)

/-- ITS FALSE NEIGHBOUR: 'it returns false'. Refute it at one input. -/
def filterFirstWrong : ChangeSpec := { name := "filterFirst", fn := fun _ => fun
  | [d1, d2, d3] => { results := [.lit (.bool false)], args := [d1, d2, d3] }
  | _ => none }
def FilterFirstWrongFalsely : Prop := filterFirstRow.holds Try.pinned (OpenSpec.ofChange filterFirstWrong)

/- THE SECOND FORM. 'bulk': how many values and letters a reading holds, each counted each time it is reached (what is shared counts as often as it is met; a slice's spare places count too). A statement '..UptoSaid' is the law's where the arguments, and the package variables that the reading takes, are together of bulk at most 1048576: NARROWER than '..Said'. Prove '..Said' where nothing that the law and all that it calls make is longer than what came in: it says more and counts as full. Else prove '..UptoSaid'. A law counts once. -/
mutual
def uptoBulk {H : Type} : DataW H → Nat
  | .lit (.string bytes) => bytes.length + 1
  | .lit _ => 1
  | .nil => 1
  | .ptr d => uptoBulk d + 1
  | .slice elems spare => uptoBulkAll elems + uptoBulkAll spare + 1
  | .agg parts => uptoBulkAll parts + 1
  | .iface _ d => uptoBulk d + 1
  | .map entries => uptoBulkEntries entries + 1
  | .held _ => 1
def uptoBulkAll {H : Type} : List (DataW H) → Nat
  | [] => 0
  | d :: r => uptoBulk d + uptoBulkAll r
def uptoBulkEntries {H : Type} : List (Lit × DataW H) → Nat
  | [] => 0
  | x :: r => uptoBulkEntry x + uptoBulkEntries r
def uptoBulkEntry {H : Type} : Lit × DataW H → Nat
  | (.string bytes, d) => bytes.length + uptoBulk d + 1
  | (_, d) => uptoBulk d + 1
 end
def uptoSmall : (H : Type) → List (DataW H) → Bool := fun _ ds => decide (uptoBulkAll ds ≤ 1048576)
def OpenSpec.upto (s : _root_.Go.ChangeSpec) : _root_.Go.OpenSpec := { _root_.Go.OpenSpec.ofChange s with cond := some uptoSmall }

/-- 'barbicanlaw16.FilterPlays', WHERE WHAT IT READS IS OF BULK AT MOST 1048576: true; the input reads as it did. -/
def filterPlaysUptoRow : OpenClaim := { program := "ytfdpoibmlggfbaa", sum := "0293136344452616ebab2a35fcab9cfb578ad5276cc12a1f467678ae98ee4522", func := "barbican/barbicanlaw16.FilterPlays", spec := "filterPlays", unfollowed := true, recurses := true, apart := false, narrowed := true }
def FilterPlaysUptoSaid : Prop := filterPlaysUptoRow.holds Try.pinned (OpenSpec.upto filterPlaysSpec)

/-- 'barbicanlaw16.FilterGuards', WHERE WHAT IT READS IS OF BULK AT MOST 1048576: true; the input reads as it did. -/
def filterGuardsUptoRow : OpenClaim := { program := "ytfdpoibmlggfbaa", sum := "0293136344452616ebab2a35fcab9cfb578ad5276cc12a1f467678ae98ee4522", func := "barbican/barbicanlaw16.FilterGuards", spec := "filterGuards", unfollowed := true, recurses := true, apart := false, narrowed := true }
def FilterGuardsUptoSaid : Prop := filterGuardsUptoRow.holds Try.pinned (OpenSpec.upto filterGuardsSpec)

/-- 'barbicanlaw16.FilterReverse', WHERE WHAT IT READS IS OF BULK AT MOST 1048576: true; the input reads as it did. -/
def filterReverseUptoRow : OpenClaim := { program := "ytfdpoibmlggfbaa", sum := "0293136344452616ebab2a35fcab9cfb578ad5276cc12a1f467678ae98ee4522", func := "barbican/barbicanlaw16.FilterReverse", spec := "filterReverse", unfollowed := true, recurses := true, apart := false, narrowed := true }
def FilterReverseUptoSaid : Prop := filterReverseUptoRow.holds Try.pinned (OpenSpec.upto filterReverseSpec)

/-- 'barbicanlaw16.FilterMemory', WHERE WHAT IT READS IS OF BULK AT MOST 1048576: true; the input reads as it did. -/
def filterMemoryUptoRow : OpenClaim := { program := "ytfdpoibmlggfbaa", sum := "0293136344452616ebab2a35fcab9cfb578ad5276cc12a1f467678ae98ee4522", func := "barbican/barbicanlaw16.FilterMemory", spec := "filterMemory", unfollowed := true, recurses := true, apart := false, narrowed := true }
def FilterMemoryUptoSaid : Prop := filterMemoryUptoRow.holds Try.pinned (OpenSpec.upto filterMemorySpec)

/-- 'barbicanlaw16.FilterRate', WHERE WHAT IT READS IS OF BULK AT MOST 1048576: true; the input reads as it did. -/
def filterRateUptoRow : OpenClaim := { program := "ytfdpoibmlggfbaa", sum := "0293136344452616ebab2a35fcab9cfb578ad5276cc12a1f467678ae98ee4522", func := "barbican/barbicanlaw16.FilterRate", spec := "filterRate", unfollowed := true, recurses := true, apart := false, narrowed := true }
def FilterRateUptoSaid : Prop := filterRateUptoRow.holds Try.pinned (OpenSpec.upto filterRateSpec)

/-- 'barbicanlaw16.FilterFirst', WHERE WHAT IT READS IS OF BULK AT MOST 1048576: true; the input reads as it did. -/
def filterFirstUptoRow : OpenClaim := { program := "ytfdpoibmlggfbaa", sum := "0293136344452616ebab2a35fcab9cfb578ad5276cc12a1f467678ae98ee4522", func := "barbican/barbicanlaw16.FilterFirst", spec := "filterFirst", unfollowed := true, recurses := true, apart := false, narrowed := true }
def FilterFirstUptoSaid : Prop := filterFirstUptoRow.holds Try.pinned (OpenSpec.upto filterFirstSpec)

end Rows
end Go.Proofs.Ytfdpoibmlggfbaa
