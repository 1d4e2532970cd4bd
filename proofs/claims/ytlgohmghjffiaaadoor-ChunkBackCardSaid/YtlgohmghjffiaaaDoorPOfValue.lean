/- Layer 4 of the program: what its function of one byte of a value answers (ofValue). -/
import Derived.Test.YtlgohmghjffiaaaDoorLexPure
import Derived.Test.YtlgohmghjffiaaaDoorLexNum
import Derived.Test.YtlgohmghjffiaaaDoorLawBase
import Derived.Test.YtlgohmghjffiaaaDoorRet
import Derived.Lib.Hide
namespace Go.Proofs.YtlgohmghjffiaaaDoor.POfValue
open Go.ChangeShapes Go.WideShapes Go.ChangeAt Go.RowKit LexPure Bytes Ret LexNum
set_option maxRecDepth 20000
theorem plain_cases (b : UInt8) : plainB b = decide ((b.toNat : Int) = 9 ∨ (32 ≤ (b.toNat : Int) ∧ ¬ (b.toNat : Int) = 127)) := by
  have := all_bytes (p := fun b => plainB b == decide ((b.toNat : Int) = 9 ∨ (32 ≤ (b.toNat : Int) ∧ ¬ (b.toNat : Int) = 127))) (by decide +kernel) b
  simpa using this
theorem pofvalue_any (b : UInt8) (w : World) :
    Calls Tryd.prog 47 #[.int .u8 (b.toNat : Int)] w fun e w' => e = .returned (.bool (plainB b)) ∧ w = w' := by
  rw [plain_cases]
  generalize (b.toNat : Int) = c
  go_enter Tryd.func47, Tryd.ntmps47
  go_wp2_with fail
  all_goals
    go_ret
    refine ⟨ret_bool ?_, rfl⟩
    try simp only [beq_eq_false_iff_ne, beq_iff_eq, ne_eq] at *
    first
      | exact Eq.symm (decide_eq_true (by omega))
      | exact Eq.symm (decide_eq_false (by omega))
      | (by_cases e1 : c = 9 <;> by_cases e2 : c = 127 <;> by_cases e3 : 32 ≤ c <;> first | (exfalso; omega) | simp [e1, e2, e3] | (subst e1; decide) | (subst e2; decide))
end Go.Proofs.YtlgohmghjffiaaaDoor.POfValue
