/- The document's first example, with which each law of layer 5 begins. -/
import Derived.Test.YtlhpjinajaociaaDoorPathObj
import Derived.Test.YtlhpjinajaociaaDoorMem
namespace Go.Proofs.YtlhpjinajaociaaDoor.PathAnchor
open Go.ChangeShapes Go.WideShapes Go.ChangeAt Go.RowKit LexPure Bytes PathPure RNormal PathObj PUnder Mem
theorem anchor_any (w : World) (hm : MaxInt w) :
    Calls Tryd.prog 9 #[] w fun e w' => e = .returned (.bool true) ∧ Below w.heap.size w w' := by
  have HM := Lib.hid hm
  clear hm
  have h1 : normal (toL ⟨#[47, 97, 47, 46, 47, 98, 47, 46, 46, 47, 99, 37, 55, 101, 37, 50, 102]⟩) = some [47, 97, 47, 99, 126, 37, 50, 70] := by decide +kernel
  have HS := Lib.hid (norm_some h1).1
  have HE := Lib.hid (norm_some h1).2
  have hq : ((ofL [47, 97, 47, 99, 126, 37, 50, 70]).toList == [47, 97, 47, 99, 126, 37, 50, 70]) = true := by
    rw [ByteArray.toList_eq]
    rfl
  clear h1
  go_enter Tryd.func9, Tryd.ntmps9
  go_wp2_with fail
  refine (normal_any _ (by decide) _ HM.out).mono ?_
  rintro e w1 ⟨rfl, hb1⟩
  rw [HS.out, HE.out]
  generalize ofL [47, 97, 47, 99, 126, 37, 50, 70] = E at *
  go_wp2_with fail
  go_ret
  exact ⟨rfl, hb1⟩
end Go.Proofs.YtlhpjinajaociaaDoor.PathAnchor
