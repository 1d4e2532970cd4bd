/-
  No cell of these rows narrows 'for every input' (looked for: loops, veiled, ifaces, maps, wideKeys, modest, calm, conditions, laid).
  DERIVED. THE GIVEN ROWS OF THIS SEAT. 6 by the template 'for every input the law returns true; each argument reads behind the call as it read before'; 0 by the template 'total and deterministic' (their statements: YtdckgbinfblpiaaTotals.lean).
  GIVEN WITH THE SEED: the statements are not yours to turn. If you find one false, say at which input.
  Laid BY PROGRAM, IN A SANDBOX (cutbox-rows.mjs): the forced cells as the released guide's own fill.sh prints them over the translation fbd781973945bad8… (all of the seat's roots in one cut). By AI agents, Wed Nov 11 2026. No macro, syntax, notation, axiom, sorry.
-/
import Derived.Test.YtdckgbinfblpiaaChecked
import GoSem.Claim
import GoSem.ClaimJoined
import GoSem.ClaimMapViews
import Derived.JoinedTies
import Derived.KernelRfl
namespace Go.Proofs.Ytdckgbinfblpiaa
/- THE CELL 'sum', in the pinned program and in every row, IS THE sha256 OF THE DUMP (.gsa) THAT YtdckgbinfblpiaaProg.lean LOADS. Nothing in Lean hashes anything: it is a label: what it is worth is what the hold of that sum in a sandbox is worth. -/
noncomputable def Try.pinned : Pinned := { name := "ytdckgbinfblpiaa", sum := "fbd781973945bad8fec8bc35bc2f8779cf1d07f6e4888c482de5b624b1ffa0bc", checked := Try.checked }
namespace Rows
def none {H : Type} : Left H := { results := [], args := [] }

/-- 'barbicanlaw01.DicePlays': WHATEVER THE INPUT: true; the input reads as it did. -/
def dicePlaysSpec : ChangeSpec := { name := "dicePlays", fn := fun _ => fun
  | [d1, d2] => { results := [.lit (.bool true)], args := [d1, d2] }
  | _ => none }
def dicePlaysRow : OpenClaim := { program := "ytdckgbinfblpiaa", sum := "fbd781973945bad8fec8bc35bc2f8779cf1d07f6e4888c482de5b624b1ffa0bc", func := "barbican/barbicanlaw01.DicePlays", spec := "dicePlays", apart := false }
def DicePlaysSaid : Prop := dicePlaysRow.holds Try.pinned (OpenSpec.ofChange dicePlaysSpec)

/-- ITS FALSE NEIGHBOUR: 'it returns false'. Refute it at one input. -/
def dicePlaysWrong : ChangeSpec := { name := "dicePlays", fn := fun _ => fun
  | [d1, d2] => { results := [.lit (.bool false)], args := [d1, d2] }
  | _ => none }
def DicePlaysWrongFalsely : Prop := dicePlaysRow.holds Try.pinned (OpenSpec.ofChange dicePlaysWrong)

/-- 'barbicanlaw01.DiceHashes': WHATEVER THE INPUT: true; the input reads as it did. -/
def diceHashesSpec : ChangeSpec := { name := "diceHashes", fn := fun _ => fun
  | [d1, d2] => { results := [.lit (.bool true)], args := [d1, d2] }
  | _ => none }
def diceHashesRow : OpenClaim := { program := "ytdckgbinfblpiaa", sum := "fbd781973945bad8fec8bc35bc2f8779cf1d07f6e4888c482de5b624b1ffa0bc", func := "barbican/barbicanlaw01.DiceHashes", spec := "diceHashes", apart := false }
def DiceHashesSaid : Prop := diceHashesRow.holds Try.pinned (OpenSpec.ofChange diceHashesSpec)

/-- ITS FALSE NEIGHBOUR: 'it returns false'. Refute it at one input. -/
def diceHashesWrong : ChangeSpec := { name := "diceHashes", fn := fun _ => fun
  | [d1, d2] => { results := [.lit (.bool false)], args := [d1, d2] }
  | _ => none }
def DiceHashesWrongFalsely : Prop := diceHashesRow.holds Try.pinned (OpenSpec.ofChange diceHashesWrong)

/-- 'barbicanlaw01.DiceChains': WHATEVER THE INPUT: true; the input reads as it did. -/
def diceChainsSpec : ChangeSpec := { name := "diceChains", fn := fun _ => fun
  | [d1, d2] => { results := [.lit (.bool true)], args := [d1, d2] }
  | _ => none }
def diceChainsRow : OpenClaim := { program := "ytdckgbinfblpiaa", sum := "fbd781973945bad8fec8bc35bc2f8779cf1d07f6e4888c482de5b624b1ffa0bc", func := "barbican/barbicanlaw01.DiceChains", spec := "diceChains", apart := false }
def DiceChainsSaid : Prop := diceChainsRow.holds Try.pinned (OpenSpec.ofChange diceChainsSpec)

/-- ITS FALSE NEIGHBOUR: 'it returns false'. Refute it at one input. -/
def diceChainsWrong : ChangeSpec := { name := "diceChains", fn := fun _ => fun
  | [d1, d2] => { results := [.lit (.bool false)], args := [d1, d2] }
  | _ => none }
def DiceChainsWrongFalsely : Prop := diceChainsRow.holds Try.pinned (OpenSpec.ofChange diceChainsWrong)

/-- 'barbicanlaw01.DiceBelow': WHATEVER THE INPUT: true; the input reads as it did. -/
def diceBelowSpec : ChangeSpec := { name := "diceBelow", fn := fun _ => fun
  | [d1, d2, d3] => { results := [.lit (.bool true)], args := [d1, d2, d3] }
  | _ => none }
def diceBelowRow : OpenClaim := { program := "ytdckgbinfblpiaa", sum := "fbd781973945bad8fec8bc35bc2f8779cf1d07f6e4888c482de5b624b1ffa0bc", func := "barbican/barbicanlaw01.DiceBelow", spec := "diceBelow", apart := false }
def DiceBelowSaid : Prop := diceBelowRow.holds Try.pinned (OpenSpec.ofChange diceBelowSpec)

/-- ITS FALSE NEIGHBOUR: 'it returns false'. Refute it at one input. -/
def diceBelowWrong : ChangeSpec := { name := "diceBelow", fn := fun _ => fun
  | [d1, d2, d3] => { results := [.lit (.bool false)], args := [d1, d2, d3] }
  | _ => none }
def DiceBelowWrongFalsely : Prop := diceBelowRow.holds Try.pinned (OpenSpec.ofChange diceBelowWrong)

/-- 'barbicanlaw01.DiceMixes': WHATEVER THE INPUT: true; the input reads as it did. -/
def diceMixesSpec : ChangeSpec := { name := "diceMixes", fn := fun _ => fun
  | [d] => { results := [.lit (.bool true)], args := [d] }
  | _ => none }
def diceMixesRow : OpenClaim := { program := "ytdckgbinfblpiaa", sum := "fbd781973945bad8fec8bc35bc2f8779cf1d07f6e4888c482de5b624b1ffa0bc", func := "barbican/barbicanlaw01.DiceMixes", spec := "diceMixes", apart := false }
def DiceMixesSaid : Prop := diceMixesRow.holds Try.pinned (OpenSpec.ofChange diceMixesSpec)

/-- ITS FALSE NEIGHBOUR: 'it returns false'. Refute it at one input. -/
def diceMixesWrong : ChangeSpec := { name := "diceMixes", fn := fun _ => fun
  | [d] => { results := [.lit (.bool false)], args := [d] }
  | _ => none }
def DiceMixesWrongFalsely : Prop := diceMixesRow.holds Try.pinned (OpenSpec.ofChange diceMixesWrong)

/-- 'barbicanlaw01.DiceSeeds': WHATEVER THE INPUT: true; the input reads as it did. -/
def diceSeedsSpec : ChangeSpec := { name := "diceSeeds", fn := fun _ => fun
  | [d1, d2] => { results := [.lit (.bool true)], args := [d1, d2] }
  | _ => none }
def diceSeedsRow : OpenClaim := { program := "ytdckgbinfblpiaa", sum := "fbd781973945bad8fec8bc35bc2f8779cf1d07f6e4888c482de5b624b1ffa0bc", func := "barbican/barbicanlaw01.DiceSeeds", spec := "diceSeeds", apart := false }
def DiceSeedsSaid : Prop := diceSeedsRow.holds Try.pinned (OpenSpec.ofChange diceSeedsSpec)

/-- ITS FALSE NEIGHBOUR: 'it returns false'. Refute it at one input. -/
def diceSeedsWrong : ChangeSpec := { name := "diceSeeds", fn := fun _ => fun
  | [d1, d2] => { results := [.lit (.bool false)], args := [d1, d2] }
  | _ => none }
def DiceSeedsWrongFalsely : Prop := diceSeedsRow.holds Try.pinned (OpenSpec.ofChange diceSeedsWrong)

/- THE SECOND FORM. 'bulk': how many values and letters a reading holds, each counted each time it is reached (what is shared counts as often as it is met; a slice's spare places count too). A statement '..UptoSaid' is the law's where the arguments, and the package variables that the reading takes, are together of bulk at most 1048576: NARROWER than '..Said'. Prove '..Said' where nothing that the law and all that it calls make is longer than what came in: it says more and counts as full. Else prove '..UptoSaid'. A law counts once. -/
mutual
def uptoBulk {H : Type} : DataW H → Nat
  | .lit (.string bytes) => bytes.length + 1
  | .lit _ => 1
  | .nil => 1
  | .ptr d => uptoBulk d + 1
  | .slice elems spare => uptoBulkAll elems + uptoBulkAll spare + 1
  | .agg parts => uptoBulkAll parts + 1
  | .iface _ d => uptoBulk d + 1
  | .map entries => uptoBulkEntries entries + 1
  | .held _ => 1
def uptoBulkAll {H : Type} : List (DataW H) → Nat
  | [] => 0
  | d :: r => uptoBulk d + uptoBulkAll r
def uptoBulkEntries {H : Type} : List (Lit × DataW H) → Nat
  | [] => 0
  | x :: r => uptoBulkEntry x + uptoBulkEntries r
def uptoBulkEntry {H : Type} : Lit × DataW H → Nat
  | (.string bytes, d) => bytes.length + uptoBulk d + 1
  | (_, d) => uptoBulk d + 1
 end
def uptoSmall : (H : Type) → List (DataW H) → Bool := fun _ ds => decide (uptoBulkAll ds ≤ 1048576)
def OpenSpec.upto (s : _root_.Go.ChangeSpec) : _root_.Go.OpenSpec := { _root_.Go.OpenSpec.ofChange s with cond := some uptoSmall }

/-- 'barbicanlaw01.DicePlays', WHERE WHAT IT READS IS OF BULK AT MOST 1048576: true; the input reads as it did. -/
def dicePlaysUptoRow : OpenClaim := { program := "ytdckgbinfblpiaa", sum := "fbd781973945bad8fec8bc35bc2f8779cf1d07f6e4888c482de5b624b1ffa0bc", func := "barbican/barbicanlaw01.DicePlays", spec := "dicePlays", apart := false, narrowed := true }
def DicePlaysUptoSaid : Prop := dicePlaysUptoRow.holds Try.pinned (OpenSpec.upto dicePlaysSpec)

/-- 'barbicanlaw01.DiceHashes', WHERE WHAT IT READS IS OF BULK AT MOST 1048576: true; the input reads as it did. -/
def diceHashesUptoRow : OpenClaim := { program := "ytdckgbinfblpiaa", sum := "fbd781973945bad8fec8bc35bc2f8779cf1d07f6e4888c482de5b624b1ffa0bc", func := "barbican/barbicanlaw01.DiceHashes", spec := "diceHashes", apart := false, narrowed := true }
def DiceHashesUptoSaid : Prop := diceHashesUptoRow.holds Try.pinned (OpenSpec.upto diceHashesSpec)

/-- 'barbicanlaw01.DiceChains', WHERE WHAT IT READS IS OF BULK AT MOST 1048576: true; the input reads as it did. -/
def diceChainsUptoRow : OpenClaim := { program := "ytdckgbinfblpiaa", sum := "fbd781973945bad8fec8bc35bc2f8779cf1d07f6e4888c482de5b624b1ffa0bc", func := "barbican/barbicanlaw01.DiceChains", spec := "diceChains", apart := false, narrowed := true }
def DiceChainsUptoSaid : Prop := diceChainsUptoRow.holds Try.pinned (OpenSpec.upto diceChainsSpec)

/-- 'barbicanlaw01.DiceBelow', WHERE WHAT IT READS IS OF BULK AT MOST 1048576: true; the input reads as it did. -/
def diceBelowUptoRow : OpenClaim := { program := "ytdckgbinfblpiaa", sum := "fbd781973945bad8fec8bc35bc2f8779cf1d07f6e4888c482de5b624b1ffa0bc", func := "barbican/barbicanlaw01.DiceBelow", spec := "diceBelow", apart := false, narrowed := true }
def DiceBelowUptoSaid : Prop := diceBelowUptoRow.holds Try.pinned (OpenSpec.upto diceBelowSpec)

/-- 'barbicanlaw01.DiceMixes', WHERE WHAT IT READS IS OF BULK AT MOST 1048576: true; the input reads as it did. -/
def diceMixesUptoRow : OpenClaim := { program := "ytdckgbinfblpiaa", sum := "fbd781973945bad8fec8bc35bc2f8779cf1d07f6e4888c482de5b624b1ffa0bc", func := "barbican/barbicanlaw01.DiceMixes", spec := "diceMixes", apart := false, narrowed := true }
def DiceMixesUptoSaid : Prop := diceMixesUptoRow.holds Try.pinned (OpenSpec.upto diceMixesSpec)

/-- 'barbicanlaw01.DiceSeeds', WHERE WHAT IT READS IS OF BULK AT MOST 1048576: true; the input reads as it did. -/
def diceSeedsUptoRow : OpenClaim := { program := "ytdckgbinfblpiaa", sum := "fbd781973945bad8fec8bc35bc2f8779cf1d07f6e4888c482de5b624b1ffa0bc", func := "barbican/barbicanlaw01.DiceSeeds", spec := "diceSeeds", apart := false, narrowed := true }
def DiceSeedsUptoSaid : Prop := diceSeedsUptoRow.holds Try.pinned (OpenSpec.upto diceSeedsSpec)

end Rows
end Go.Proofs.Ytdckgbinfblpiaa
