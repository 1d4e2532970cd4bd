/- Token, Value, Trim, Lower and Alike of any texts are the document's: LexTexts returns true. No condition. -/
import Derived.Test.YtinpgmckndcpbaaDoorLexAnchor
import Derived.Test.YtinpgmckndcpbaaDoorRToken
import Derived.Test.YtinpgmckndcpbaaDoorRTrim
import Derived.Test.YtinpgmckndcpbaaDoorRValue
import Derived.Test.YtinpgmckndcpbaaDoorRLower
namespace Go.Proofs.YtinpgmckndcpbaaDoor.LexTextsW
open Go.ChangeShapes Go.WideShapes Go.ChangeAt Go.RowKit LexPure Bytes LexObj LexAnchor RToken RTrim RValue RLower Mem
set_option linter.unusedVariables false
set_option maxHeartbeats 1600000 in
theorem walk (s : ByteArray) (w0 : s.size ≤ maxLen) (z0 : s.size ≤ 140737488351232) (t : ByteArray) (w1 : t.size ≤ maxLen) (z1 : t.size ≤ 140737488351232) (w : World) :
    Calls Tryd.prog 3 #[.string s, .string t] w fun e w' => e = .returned (.bool true) ∧ Below w.heap.size w w' := by
  have HZ := Lib.hid z0
  have HY := Lib.hid z1
  have HL : Hid ((ofL (lower (toL s))).size ≤ 140737488351232) := Lib.hid (by rw [ofL_size, lower_length, toL_length]; exact z0)
  have q1 : (token (toL s) != token (toL s)) = false := bne_self_eq_false _
  have q2 : (value (toL s) != value (toL s)) = false := bne_self_eq_false _
  have q3 : ((ofL (trim (toL s))).toList == (ofL (trim (toL s))).toList) = true := by rw [same_ofL]; exact beq_self_eq_true _
  have q4 : ((ofL (lower (toL s))).toList == (ofL (lower (toL s))).toList) = true := by rw [same_ofL]; exact beq_self_eq_true _
  have q5 : ((ofL (lower (toL s))).toList == (ofL (lower (toL t))).toList) = alike (toL s) (toL t) := by rw [same_ofL]; rfl
  have q6 : (alike (toL s) (toL t) == alike (toL s) (toL t)) = true := beq_self_eq_true _
  have HA : Hid (alike (toL s) (toL (ofL (lower (toL s)))) = true) := Lib.hid (by rw [toL_ofL, alike_lower])
  clear w0 z0 w1 z1
  go_enter Tryd.func3, Tryd.ntmps3
  go_wp2_with fail
  refine (anchor_any _).mono ?_
  rintro e w1 ⟨rfl, hb1⟩
  go_wp2_with fail
  refine (token_any s (by have := HZ.out; omega) _).mono ?_
  rintro e w2 ⟨rfl, hb2⟩
  replace hb1 := below_chain hb1 hb2
  clear hb2
  go_wp2_with fail
  refine (rtoken_any s (by have := HZ.out; unfold maxLen; omega) _).mono ?_
  rintro e w' ⟨rfl, rfl⟩
  go_wp2_with fail
  refine (value_any s (by have := HZ.out; omega) _).mono ?_
  rintro e w3 ⟨rfl, hb3⟩
  replace hb1 := below_chain hb1 hb3
  clear hb3
  go_wp2_with fail
  refine (rvalue_any s (by have := HZ.out; unfold maxLen; omega) _).mono ?_
  rintro e w' ⟨rfl, rfl⟩
  go_wp2_with fail
  refine (trim_any s (by have := HZ.out; omega) _).mono ?_
  rintro e w4 ⟨rfl, hb4⟩
  replace hb1 := below_chain hb1 hb4
  clear hb4
  go_wp2_with fail
  refine (rtrim_any s (by have := HZ.out; unfold maxLen; omega) _).mono ?_
  rintro e w' ⟨rfl, rfl⟩
  go_wp2_with fail
  refine (lower_any s HZ.out _).mono ?_
  rintro e w5 ⟨rfl, hb5⟩
  replace hb1 := below_chain hb1 hb5
  clear hb5
  go_wp2_with fail
  refine (rlower_any s HZ.out _).mono ?_
  rintro e w20 ⟨rfl, hb20⟩
  replace hb1 := below_chain hb1 hb20
  clear hb20
  go_wp2_with fail
  refine (alike_any s t HZ.out HY.out _).mono ?_
  rintro e w6 ⟨rfl, hb6⟩
  replace hb1 := below_chain hb1 hb6
  clear hb6
  go_wp2_with fail
  refine (rlower_any s HZ.out _).mono ?_
  rintro e w21 ⟨rfl, hb21⟩
  replace hb1 := below_chain hb1 hb21
  clear hb21
  go_wp2_with fail
  refine (rlower_any t HY.out _).mono ?_
  rintro e w21 ⟨rfl, hb21⟩
  replace hb1 := below_chain hb1 hb21
  clear hb21
  go_wp2_with fail
  refine (lower_any s HZ.out _).mono ?_
  rintro e w7 ⟨rfl, hb7⟩
  replace hb1 := below_chain hb1 hb7
  clear hb7
  go_wp2_with fail
  refine (alike_any s (ofL (lower (toL s))) HZ.out HL.out _).mono ?_
  rintro e w8 ⟨rfl, hb8⟩
  replace hb1 := below_chain hb1 hb8
  clear hb8
  rw [HA.out]
  go_wp2_with fail
  go_ret
  exact ⟨rfl, hb1⟩

end Go.Proofs.YtinpgmckndcpbaaDoor.LexTextsW
