/- How a text begins: strings.HasPrefix, strings.CutPrefix. -/
import Derived.Test.YtclecgopmegjeaaDoorBytes
import Derived.Test.YtclecgopmegjeaaDoorPathLays
import Derived.Test.YtclecgopmegjeaaDoorLawBase
import Derived.Test.YtclecgopmegjeaaDoorRet
import Derived.Lib.Hide
import Derived.Shelf.Small.Wraps
namespace Go.Proofs.YtclecgopmegjeaaDoor.PPre
open Go.ChangeShapes Go.WideShapes Go.ChangeAt Go.RowKit Bytes Ret
set_option maxRecDepth 20000
theorem lib_has (s p : ByteArray) (w : World) :
    Calls Tryd.prog 21 #[.string s, .string p] w fun e w' => e = .returned (.bool ((toL p).isPrefixOf (toL s))) ∧ w' = w :=
  Any.strings_HasPrefix Tryd.lays99 s p w
theorem lib_cutp (s p : ByteArray) (w : World) :
    Calls Tryd.prog 51 #[.string s, .string p] w fun e w' => e = .returned (.tuple #[.string (ofL (if (toL p).isPrefixOf (toL s) then (toL s).drop p.size else toL s)), .bool ((toL p).isPrefixOf (toL s))]) ∧ w' = w := by
  have h := Any.strings_CutPrefix Tryd.lays103 s p w
  unfold Lib.trimPrefix Lib.hasPrefix at h
  rw [show p.data.toList.length = p.size from toL_length p] at h
  exact h
end Go.Proofs.YtclecgopmegjeaaDoor.PPre
