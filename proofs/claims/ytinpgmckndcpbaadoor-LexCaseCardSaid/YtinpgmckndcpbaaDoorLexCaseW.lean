/- A text's small form is its own small form, alike to it, a token just if it is one, and as long: LexCase returns true. No condition. -/
import Derived.Test.YtinpgmckndcpbaaDoorLexAnchor
namespace Go.Proofs.YtinpgmckndcpbaaDoor.LexCaseW
open Go.ChangeShapes Go.WideShapes Go.ChangeAt Go.RowKit LexPure Bytes LexObj LexAnchor Mem
set_option linter.unusedVariables false
set_option maxHeartbeats 1600000 in
theorem walk (s : ByteArray) (w0 : s.size ≤ maxLen) (z0 : s.size ≤ 140737488351232) (t : ByteArray) (w1 : t.size ≤ maxLen) (z1 : t.size ≤ 140737488351232) (w : World) :
    Calls Tryd.prog 7 #[.string s, .string t] w fun e w' => e = .returned (.bool true) ∧ Below w.heap.size w w' := by
  obtain ⟨l, hl⟩ : ∃ l, l = ofL (lower (toL s)) := ⟨_, rfl⟩
  obtain ⟨u, hu⟩ : ∃ u, u = ofL (trim (toL s)) := ⟨_, rfl⟩
  have el : toL l = lower (toL s) := by rw [hl, toL_ofL]
  have eu : toL u = trim (toL s) := by rw [hu, toL_ofL]
  have sl : l.size = s.size := by rw [hl, ofL_size, lower_length, toL_length]
  have su : u.size ≤ 140737488351232 := by
    rw [hu, ofL_size]
    have := trim_length (toL s)
    rw [toL_length] at this
    omega
  have LS := Lib.hid (fun w => lower_any s z0 w)
  have LL := Lib.hid (fun w => lower_any l (by omega) w)
  have AL := Lib.hid (fun w => alike_any l s (by omega) z0 w)
  have TL := Lib.hid (fun w => token_any l (by omega) w)
  have TS := Lib.hid (fun w => token_any s (by omega) w)
  have VL := Lib.hid (fun w => value_any l (by omega) w)
  have VS := Lib.hid (fun w => value_any s (by omega) w)
  have A1 := Lib.hid (fun w => alike_any s t z0 z1 w)
  have A2 := Lib.hid (fun w => alike_any t s z1 z0 w)
  have A3 := Lib.hid (fun w => alike_any l t (by omega) z1 w)
  have R1 := Lib.hid (fun w => trim_any s (by omega) w)
  have R2 := Lib.hid (fun w => trim_any u (by omega) w)
  rw [el, lower_lower, ← hl] at LL
  rw [← hl] at LS
  rw [el, alike_lower'] at AL
  rw [el, token_lower] at TL
  rw [el, value_lower] at VL
  rw [alike_comm] at A2
  rw [el, alike_lower_left] at A3
  rw [← hu] at R1
  rw [eu, trim_trim, ← hu] at R2
  clear hl hu el eu su w0 w1 z0 z1
  generalize token (toL s) = tk at *
  generalize value (toL s) = va at *
  generalize alike (toL s) (toL t) = al at *
  have q1 : (l.toList == l.toList) = true := beq_self_eq_true _
  have q2 : ((l.size : Int) != (s.size : Int)) = false := by rw [sl]; exact bne_self_eq_false _
  have q3 : (tk != tk) = false := bne_self_eq_false _
  have q4 : (va != va) = false := bne_self_eq_false _
  have q5 : (al == al) = true := beq_self_eq_true _
  have q6 : (u.toList == u.toList) = true := beq_self_eq_true _
  go_enter Tryd.func7, Tryd.ntmps7
  go_wp2_with fail
  refine (anchor_any _).mono ?_
  rintro e w1 ⟨rfl, hb1⟩
  go_wp2_with fail
  refine (LS.out _).mono ?_
  rintro e w2 ⟨rfl, hb2⟩
  replace hb1 := below_chain hb1 hb2
  clear hb2
  go_wp2_with fail
  refine (LL.out _).mono ?_
  rintro e w3 ⟨rfl, hb3⟩
  replace hb1 := below_chain hb1 hb3
  clear hb3
  go_wp2_with fail
  refine (AL.out _).mono ?_
  rintro e w4 ⟨rfl, hb4⟩
  replace hb1 := below_chain hb1 hb4
  clear hb4
  go_wp2_with fail
  refine (TL.out _).mono ?_
  rintro e w5 ⟨rfl, hb5⟩
  replace hb1 := below_chain hb1 hb5
  clear hb5
  go_wp2_with fail
  refine (TS.out _).mono ?_
  rintro e w6 ⟨rfl, hb6⟩
  replace hb1 := below_chain hb1 hb6
  clear hb6
  go_wp2_with fail
  refine (VL.out _).mono ?_
  rintro e w7 ⟨rfl, hb7⟩
  replace hb1 := below_chain hb1 hb7
  clear hb7
  go_wp2_with fail
  refine (VS.out _).mono ?_
  rintro e w8 ⟨rfl, hb8⟩
  replace hb1 := below_chain hb1 hb8
  clear hb8
  go_wp2_with fail
  refine (A1.out _).mono ?_
  rintro e w9 ⟨rfl, hb9⟩
  replace hb1 := below_chain hb1 hb9
  clear hb9
  go_wp2_with fail
  refine (A2.out _).mono ?_
  rintro e w10 ⟨rfl, hb10⟩
  replace hb1 := below_chain hb1 hb10
  clear hb10
  go_wp2_with fail
  refine (A1.out _).mono ?_
  rintro e w11 ⟨rfl, hb11⟩
  replace hb1 := below_chain hb1 hb11
  clear hb11
  go_wp2_with fail
  refine (A3.out _).mono ?_
  rintro e w12 ⟨rfl, hb12⟩
  replace hb1 := below_chain hb1 hb12
  clear hb12
  go_wp2_with fail
  refine (R1.out _).mono ?_
  rintro e w13 ⟨rfl, hb13⟩
  replace hb1 := below_chain hb1 hb13
  clear hb13
  go_wp2_with fail
  refine (R2.out _).mono ?_
  rintro e w14 ⟨rfl, hb14⟩
  replace hb1 := below_chain hb1 hb14
  clear hb14
  go_wp2_with fail
  refine (R1.out _).mono ?_
  rintro e w15 ⟨rfl, hb15⟩
  replace hb1 := below_chain hb1 hb15
  clear hb15
  go_wp2_with fail
  go_ret
  exact ⟨rfl, hb1⟩

end Go.Proofs.YtinpgmckndcpbaaDoor.LexCaseW
