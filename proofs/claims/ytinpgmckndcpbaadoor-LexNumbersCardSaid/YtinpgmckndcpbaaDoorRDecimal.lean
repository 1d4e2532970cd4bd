/- Layer 4, the document's own Decimal. -/
import Derived.Test.YtinpgmckndcpbaaDoorLexPure
import Derived.Test.YtinpgmckndcpbaaDoorLawBase
import Derived.Test.YtinpgmckndcpbaaDoorRet
import Derived.Lib.Hide
import Derived.Below
import Derived.Outline
import Derived.LoopTactic
import Derived.Test.YtinpgmckndcpbaaDoorRNumber
namespace Go.Proofs.YtinpgmckndcpbaaDoor.RDecimal
open Go.ChangeShapes Go.WideShapes Go.ChangeAt Go.RowKit LexPure Bytes Ret LexNum RNumber
theorem rdecimal_any (s : ByteArray) (hs : s.size ≤ maxLen) (digits : Int) (w : World) :
    Calls Tryd.prog 22 #[.string s, .int .i64 digits] w fun e w' => e = .returned (.tuple #[.int .i64 (numR 10 (min digits 18) (toL s)), .bool (numOk 10 (min digits 18) (toL s))]) ∧ w = w' := by
  have HN := Lib.hid (rnumber_any s hs (min digits 18) 10 (.inl ⟨rfl, Int.min_le_right _ _⟩))
  clear hs
  by_cases h : 18 < digits
  · have hm : min digits 18 = 18 := by omega
    rw [hm] at HN ⊢
    go_enter Tryd.func22, Tryd.ntmps22
    go_wp2_with fail
    refine (HN.out _).mono ?_
    rintro e w' ⟨rfl, rfl⟩
    go_wp2_with fail
    go_ret2
    exact ⟨rfl, rfl⟩
  · have hm : min digits 18 = digits := by omega
    rw [hm] at HN ⊢
    go_enter Tryd.func22, Tryd.ntmps22
    go_wp2_with fail
    refine (HN.out _).mono ?_
    rintro e w' ⟨rfl, rfl⟩
    go_wp2_with fail
    go_ret2
    exact ⟨rfl, rfl⟩
end Go.Proofs.YtinpgmckndcpbaaDoor.RDecimal
