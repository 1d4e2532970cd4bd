/- Layer 7, the document's own alike. -/
import Derived.Test.YtgkmkkgneipabaaDoorRLower
import Derived.Test.YtgkmkkgneipabaaDoorMem
namespace Go.Proofs.YtgkmkkgneipabaaDoor.RAlike7
open Go.ChangeShapes Go.WideShapes Go.ChangeAt Go.RowKit LexPure Bytes Ret RLower Mem
set_option maxRecDepth 20000
theorem ralike7_any (a b : ByteArray) (ha : a.size ≤ 140737488351232) (hb : b.size ≤ 140737488351232) (w : World) :
    Calls Tryd.prog 28 #[.string a, .string b] w fun e w' => e = .returned (.bool (alike (toL a) (toL b))) ∧ Below w.heap.size w w' := by
  have U0 := Lib.hid (fun w => rlower_any a ha w)
  have U1 := Lib.hid (fun w => rlower_any b hb w)
  have HV := Lib.hid (show ((ofL (lower (toL a))).toList == (ofL (lower (toL b))).toList) = alike (toL a) (toL b) by rw [same_ofL]; rfl)
  generalize ofL (lower (toL a)) = A at *
  generalize ofL (lower (toL b)) = B at *
  clear ha hb
  go_enter Tryd.func28, Tryd.ntmps28
  go_wp2_with fail
  refine (U0.out _).mono ?_
  rintro e w1 ⟨rfl, hb1⟩
  go_wp2_with fail
  refine (U1.out _).mono ?_
  rintro e w2 ⟨rfl, hb2⟩
  have HB := Lib.hid (below_chain hb1 hb2)
  clear hb1 hb2
  go_wp2_with fail
  go_ret
  exact ⟨ret_bool HV.out, HB.out⟩
end Go.Proofs.YtgkmkkgneipabaaDoor.RAlike7
