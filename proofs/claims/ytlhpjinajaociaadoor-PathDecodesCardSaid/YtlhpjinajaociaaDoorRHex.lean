/- Layer 4, the document's own Hex. -/
import Derived.Test.YtlhpjinajaociaaDoorLexPure
import Derived.Test.YtlhpjinajaociaaDoorLawBase
import Derived.Test.YtlhpjinajaociaaDoorRet
import Derived.Lib.Hide
import Derived.Below
import Derived.Outline
import Derived.LoopTactic
import Derived.Test.YtlhpjinajaociaaDoorRNumber
namespace Go.Proofs.YtlhpjinajaociaaDoor.RHex
open Go.ChangeShapes Go.WideShapes Go.ChangeAt Go.RowKit LexPure Bytes Ret LexNum RNumber
theorem rhex_any (s : ByteArray) (hs : s.size ≤ maxLen) (digits : Int) (w : World) :
    Calls Tryd.prog 23 #[.string s, .int .i64 digits] w fun e w' => e = .returned (.tuple #[.int .i64 (numR 16 (min digits 15) (toL s)), .bool (numOk 16 (min digits 15) (toL s))]) ∧ w = w' := by
  have HN := Lib.hid (rnumber_any s hs (min digits 15) 16 (.inr ⟨rfl, Int.min_le_right _ _⟩))
  clear hs
  by_cases h : 15 < digits
  · have hm : min digits 15 = 15 := by omega
    rw [hm] at HN ⊢
    go_enter Tryd.func23, Tryd.ntmps23
    go_wp2_with fail
    refine (HN.out _).mono ?_
    rintro e w' ⟨rfl, rfl⟩
    go_wp2_with fail
    go_ret2
    exact ⟨rfl, rfl⟩
  · have hm : min digits 15 = digits := by omega
    rw [hm] at HN ⊢
    go_enter Tryd.func23, Tryd.ntmps23
    go_wp2_with fail
    refine (HN.out _).mono ?_
    rintro e w' ⟨rfl, rfl⟩
    go_wp2_with fail
    go_ret2
    exact ⟨rfl, rfl⟩
end Go.Proofs.YtlhpjinajaociaaDoor.RHex
