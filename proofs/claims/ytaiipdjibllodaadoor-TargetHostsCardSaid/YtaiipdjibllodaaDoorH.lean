/- Texts of this seat, one behind another: TargetHostsW. -/

import Derived.Test.YtaiipdjibllodaaDoorB2
import Derived.Test.YtaiipdjibllodaaDoorC
/- Authority of any text is the document's: TargetHosts returns true. -/
namespace Go.Proofs.YtaiipdjibllodaaDoor.TargetHostsW
open Go.ChangeShapes Go.WideShapes Go.ChangeAt Go.RowKit LexPure Bytes HostPure PUnder TAuth RAuth TAnchor Mem
set_option maxRecDepth 20000
set_option linter.unusedVariables false
set_option maxHeartbeats 1600000 in
theorem walk (s : ByteArray) (w0 : s.size ≤ maxLen) (z0 : s.size ≤ 140737488351232) (w : World) (hsh : w.ShapedOpen Tryd.prog) :
    Calls Tryd.prog 4 #[.string s] w fun e w' => e = .returned (.bool true) ∧ Below w.heap.size w w' := by
  have HM := Lib.hid (MaxInt.of_shape hsh)
  clear hsh
  have U0 := Lib.hid (fun w hm => tauth_any s z0 w hm)
  have U1 := Lib.hid (fun w => rauth_any s z0 w)
  generalize ofL (authH (toL s)) = x at *
  generalize authP (toL s) = y at *
  generalize authE (toL s) = z at *
  have q1 : (y == y) = true := beq_self_eq_true _
  have q2 : (x.toList == x.toList) = true := beq_self_eq_true _
  have q3 : (z == z) = true := beq_self_eq_true _
  clear w0 z0
  go_enter Tryd.func4, Tryd.ntmps4
  go_wp2_with fail
  refine (anchor_any _ HM.out).mono ?_
  rintro e w1 ⟨rfl, hb1⟩
  go_wp2_with fail
  refine (U0.out _ (HM.out.below hb1)).mono ?_
  rintro e w2 ⟨rfl, hb2⟩
  replace hb1 := below_chain hb1 hb2
  clear hb2
  go_wp2_with fail
  refine (U1.out _).mono ?_
  rintro e w3 ⟨rfl, hb3⟩
  replace hb1 := below_chain hb1 hb3
  clear hb3
  go_wp2_with fail
  go_ret
  exact ⟨rfl, hb1⟩
end Go.Proofs.YtaiipdjibllodaaDoor.TargetHostsW
