/- Layer 4, the document's own Marks. -/
import Derived.Test.YtclecgopmegjeaaDoorLexPure
import Derived.Test.YtclecgopmegjeaaDoorLawBase
import Derived.Test.YtclecgopmegjeaaDoorRet
import Derived.Lib.Hide
import Derived.Below
import Derived.Outline
import Derived.LoopTactic
namespace Go.Proofs.YtclecgopmegjeaaDoor.RMarks
open Go.ChangeShapes Go.WideShapes Go.ChangeAt Go.RowKit LexPure Bytes Ret
set_option maxRecDepth 20000
theorem rmarks_any (c : UInt8) (w : World) :
    Calls Tryd.prog 29 #[.int .u8 (c.toNat : Int)] w fun e w' => e = .returned (.bool (markB c)) ∧ w = w' := by
  unfold markB
  generalize (c.toNat : Int) = c
  go_enter Tryd.func29, Tryd.ntmps29
  go_wp2_with fail
  all_goals
    go_ret
    refine ⟨ret_bool ?_, rfl⟩
    try simp only [beq_eq_false_iff_ne, beq_iff_eq, ne_eq] at *
    first
      | exact Eq.symm (decide_eq_true (p := MarkP _) (by unfold MarkP; omega))
      | exact Eq.symm (decide_eq_false (p := MarkP _) (by unfold MarkP; omega))
end Go.Proofs.YtclecgopmegjeaaDoor.RMarks
