/- The normal form of any text, or that it has none, is the document's: PathNormals returns true, for what comes in of bulk at most 1048576. -/
import Derived.Test.YtlhpjinajaociaaDoorPathAnchor
namespace Go.Proofs.YtlhpjinajaociaaDoor.PathNormalsW
open Go.ChangeShapes Go.WideShapes Go.ChangeAt Go.RowKit LexPure Bytes PathPure RNormal PathObj PUnder PathAnchor Mem
set_option linter.unusedVariables false
set_option maxHeartbeats 1600000 in
theorem walk (s : ByteArray) (w0 : s.size ≤ maxLen) (z0 : s.size ≤ 1048576) (w : World) (hsh : w.ShapedOpen Tryd.prog) :
    Calls Tryd.prog 3 #[.string s] w fun e w' => e = .returned (.bool true) ∧ Below w.heap.size w w' := by
  have HM := Lib.hid (MaxInt.of_shape hsh)
  clear hsh
  have U0 := Lib.hid (fun w hm => normal_any s (by omega) w hm)
  have U1 := Lib.hid (fun w => rnormal_any s (by omega) w)
  generalize normS (toL s) = x at *
  generalize normE (toL s) = y at *
  have q1 : (y == y) = true := beq_self_eq_true _
  have q2 : (x.toList == x.toList) = true := beq_self_eq_true _
  clear w0 z0
  go_enter Tryd.func3, Tryd.ntmps3
  go_wp2_with fail
  refine (anchor_any _ HM.out).mono ?_
  rintro e w1 ⟨rfl, hb1⟩
  go_wp2_with fail
  refine (U0.out _ (HM.out.below hb1)).mono ?_
  rintro e w2 ⟨rfl, hb2⟩
  replace hb1 := below_chain hb1 hb2
  clear hb2
  go_wp2_with fail
  refine (U1.out _).mono ?_
  rintro e w3 ⟨rfl, hb3⟩
  replace hb1 := below_chain hb1 hb3
  clear hb3
  go_wp2_with fail
  go_ret
  exact ⟨rfl, hb1⟩
end Go.Proofs.YtlhpjinajaociaaDoor.PathNormalsW
