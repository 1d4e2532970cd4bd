/- Decimal and Hex of any text are the document's: LexNumbers returns true. No condition. -/
import Derived.Test.YtinpgmckndcpbaaDoorLexAnchor
import Derived.Test.YtinpgmckndcpbaaDoorRDecimal
import Derived.Test.YtinpgmckndcpbaaDoorRHex
namespace Go.Proofs.YtinpgmckndcpbaaDoor.LexNumbersW
open Go.ChangeShapes Go.WideShapes Go.ChangeAt Go.RowKit LexPure Bytes LexObj LexAnchor RDecimal RHex Mem
set_option linter.unusedVariables false
set_option maxHeartbeats 1600000 in
theorem walk (s : ByteArray) (w0 : s.size ≤ maxLen) (z0 : s.size ≤ 140737488351232) (d : Int) (w1 : (Lit.int .i64 d).wf = true) (w : World) :
    Calls Tryd.prog 5 #[.string s, .int .i64 d] w fun e w' => e = .returned (.bool true) ∧ Below w.heap.size w w' := by
  have HD := Lib.hid (fun w => decimal_any s (by omega) d w)
  have HE := Lib.hid (fun w => rdecimal_any s w0 d w)
  have HF := Lib.hid (fun w => hex_any s (by omega) d w)
  have HG := Lib.hid (fun w => rhex_any s w0 d w)
  generalize numR 10 (min d 18) (toL s) = n at *
  generalize numOk 10 (min d 18) (toL s) = p at *
  generalize numR 16 (min d 15) (toL s) = m at *
  generalize numOk 16 (min d 15) (toL s) = q at *
  have q1 : (n == n) = true := beq_self_eq_true _
  have q2 : (m == m) = true := beq_self_eq_true _
  have q3 : (p == p) = true := beq_self_eq_true _
  have q4 : (q == q) = true := beq_self_eq_true _
  clear w0 z0 w1
  go_enter Tryd.func5, Tryd.ntmps5
  go_wp2_with fail
  refine (anchor_any _).mono ?_
  rintro e w1 ⟨rfl, hb1⟩
  go_wp2_with fail
  refine (HD.out _).mono ?_
  rintro e w2 ⟨rfl, hb2⟩
  replace hb1 := below_chain hb1 hb2
  clear hb2
  go_wp2_with fail
  refine (HE.out _).mono ?_
  rintro e w' ⟨rfl, rfl⟩
  go_wp2_with fail
  refine (HF.out _).mono ?_
  rintro e w3 ⟨rfl, hb3⟩
  replace hb1 := below_chain hb1 hb3
  clear hb3
  go_wp2_with fail
  refine (HG.out _).mono ?_
  rintro e w' ⟨rfl, rfl⟩
  go_wp2_with fail
  go_ret
  exact ⟨rfl, hb1⟩

end Go.Proofs.YtinpgmckndcpbaaDoor.LexNumbersW
