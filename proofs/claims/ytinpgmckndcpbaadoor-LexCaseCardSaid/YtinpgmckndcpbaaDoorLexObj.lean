/- Layer 4: what each call of the program answers. -/
import Derived.Test.YtinpgmckndcpbaaDoorPToken
import Derived.Test.YtinpgmckndcpbaaDoorPText
import Derived.Test.YtinpgmckndcpbaaDoorPNumber
import Derived.Test.YtinpgmckndcpbaaDoorPLower
import Derived.Test.YtinpgmckndcpbaaDoorMem
namespace Go.Proofs.YtinpgmckndcpbaaDoor.LexObj
open Go.ChangeShapes Go.WideShapes Go.ChangeAt Go.RowKit LexPure Bytes Mem PToken PText PNumber PLower
theorem token_any (s : ByteArray) (hs : s.size ≤ 140737488355328) (w : World) :
    Calls Tryd.prog 9 #[.string s] w fun e w' => e = .returned (.bool (token (toL s))) ∧ Below w.heap.size w w' := by
  refine (ptoken_any s (by unfold maxLen; omega) w).mono ?_
  rintro e w' ⟨rfl, rfl⟩
  exact ⟨rfl, Below.refl _ _⟩
theorem value_any (s : ByteArray) (hs : s.size ≤ 140737488355328) (w : World) :
    Calls Tryd.prog 11 #[.string s] w fun e w' => e = .returned (.bool (value (toL s))) ∧ Below w.heap.size w w' :=
  pvalue_any s (by unfold maxLen; omega) w
theorem trim_any (s : ByteArray) (hs : s.size ≤ 140737488355328) (w : World) :
    Calls Tryd.prog 13 #[.string s] w fun e w' => e = .returned (.string (ofL (trim (toL s)))) ∧ Below w.heap.size w w' :=
  ptrim_any s (by unfold maxLen; omega) w
theorem lower_any (s : ByteArray) (hs : s.size ≤ 140737488351232) (w : World) :
    Calls Tryd.prog 15 #[.string s] w fun e w' => e = .returned (.string (ofL (lower (toL s)))) ∧ Below w.heap.size w w' :=
  plower_any s (by unfold maxLen; omega) w
theorem alike_any (s t : ByteArray) (hs : s.size ≤ 140737488351232) (_ht : t.size ≤ 140737488351232) (w : World) :
    Calls Tryd.prog 17 #[.string s, .string t] w fun e w' => e = .returned (.bool (alike (toL s) (toL t))) ∧ Below w.heap.size w w' :=
  palike_any s t (by unfold maxLen; omega) w
theorem decimal_any (s : ByteArray) (hs : s.size ≤ 140737488355328) (digits : Int) (w : World) :
    Calls Tryd.prog 21 #[.string s, .int .i64 digits] w fun e w' => e = .returned (.tuple #[.int .i64 (numR 10 (min digits 18) (toL s)), .bool (numOk 10 (min digits 18) (toL s))]) ∧ Below w.heap.size w w' := by
  refine (pdecimal_any s (by unfold maxLen; omega) digits w).mono ?_
  rintro e w' ⟨rfl, rfl⟩
  exact ⟨rfl, Below.refl _ _⟩
theorem hex_any (s : ByteArray) (hs : s.size ≤ 140737488355328) (digits : Int) (w : World) :
    Calls Tryd.prog 23 #[.string s, .int .i64 digits] w fun e w' => e = .returned (.tuple #[.int .i64 (numR 16 (min digits 15) (toL s)), .bool (numOk 16 (min digits 15) (toL s))]) ∧ Below w.heap.size w w' := by
  refine (phex_any s (by unfold maxLen; omega) digits w).mono ?_
  rintro e w' ⟨rfl, rfl⟩
  exact ⟨rfl, Below.refl _ _⟩
end Go.Proofs.YtinpgmckndcpbaaDoor.LexObj
