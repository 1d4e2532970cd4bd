/- Layer 4 of the program: what its functions of one byte answer (small, ofValue, digit). -/
import Derived.Test.YtinpgmckndcpbaaDoorLexPure
import Derived.Test.YtinpgmckndcpbaaDoorLexNum
import Derived.Test.YtinpgmckndcpbaaDoorLawBase
import Derived.Test.YtinpgmckndcpbaaDoorRet
import Derived.Lib.Hide
namespace Go.Proofs.YtinpgmckndcpbaaDoor.PSmall
open Go.ChangeShapes Go.WideShapes Go.ChangeAt Go.RowKit LexPure Bytes Ret LexNum
theorem small_cases (b : UInt8) : (65 ≤ (b.toNat : Int) ∧ (b.toNat : Int) ≤ 90 ∧ ((small b).toNat : Int) = (b.toNat : Int) - 65 + 97) ∨ (((b.toNat : Int) < 65 ∨ (65 ≤ (b.toNat : Int) ∧ 90 < (b.toNat : Int))) ∧ small b = b) := by
  have := all_bytes (p := fun b => decide ((65 ≤ (b.toNat : Int) ∧ (b.toNat : Int) ≤ 90 ∧ ((small b).toNat : Int) = (b.toNat : Int) - 65 + 97) ∨ (((b.toNat : Int) < 65 ∨ (65 ≤ (b.toNat : Int) ∧ 90 < (b.toNat : Int))) ∧ small b = b))) (by decide +kernel) b
  simpa only [decide_eq_true_eq] using this
theorem psmall_any (b : UInt8) (w : World) :
    Calls Tryd.prog 30 #[.int .u8 (b.toNat : Int)] w fun e w' => e = .returned (.int .u8 ((small b).toNat : Int)) ∧ w = w' := by
  have hub : (b.toNat : Int) ≤ 255 := by have := b.toNat_lt; omega
  rcases small_cases b with ⟨h1, h2, h3⟩ | ⟨h1 | ⟨h1, h2⟩, h3⟩
  · have H3 := Lib.hid h3
    clear h3
    generalize (b.toNat : Int) = c at *
    go_enter Tryd.func30, Tryd.ntmps30
    go_wp2_with fail
    go_ret
    exact ⟨by rw [H3.out]; rfl, rfl⟩
  · rw [h3]
    generalize (b.toNat : Int) = c at *
    go_enter Tryd.func30, Tryd.ntmps30
    go_wp2_with fail
    go_ret
    exact ⟨rfl, rfl⟩
  · rw [h3]
    generalize (b.toNat : Int) = c at *
    go_enter Tryd.func30, Tryd.ntmps30
    go_wp2_with fail
    go_ret
    exact ⟨rfl, rfl⟩
theorem plain_cases (b : UInt8) : plainB b = decide ((b.toNat : Int) = 9 ∨ (32 ≤ (b.toNat : Int) ∧ ¬ (b.toNat : Int) = 127)) := by
  have := all_bytes (p := fun b => plainB b == decide ((b.toNat : Int) = 9 ∨ (32 ≤ (b.toNat : Int) ∧ ¬ (b.toNat : Int) = 127))) (by decide +kernel) b
  simpa using this
theorem pofvalue_any (b : UInt8) (w : World) :
    Calls Tryd.prog 27 #[.int .u8 (b.toNat : Int)] w fun e w' => e = .returned (.bool (plainB b)) ∧ w = w' := by
  rw [plain_cases]
  generalize (b.toNat : Int) = c
  go_enter Tryd.func27, Tryd.ntmps27
  go_wp2_with fail
  all_goals
    go_ret
    refine ⟨ret_bool ?_, rfl⟩
    try simp only [beq_eq_false_iff_ne, beq_iff_eq, ne_eq] at *
    first
      | exact Eq.symm (decide_eq_true (by omega))
      | exact Eq.symm (decide_eq_false (by omega))
      | (by_cases e1 : c = 9 <;> by_cases e2 : c = 127 <;> by_cases e3 : 32 ≤ c <;> first | (exfalso; omega) | simp [e1, e2, e3] | (subst e1; decide) | (subst e2; decide))
/-- what the program counts a byte as: 16 where the document's is no digit -/
def digP (b : UInt8) : Nat := if dig b ≤ 15 then dig b else 16
theorem digP_cases (b : UInt8) : ((b.toNat : Int) < 48 ∧ digP b = 16) ∨ (48 ≤ (b.toNat : Int) ∧ (b.toNat : Int) ≤ 57 ∧ (digP b : Int) = (b.toNat : Int) - 48) ∨ (57 < (b.toNat : Int) ∧ (b.toNat : Int) < 65 ∧ digP b = 16) ∨
    (65 ≤ (b.toNat : Int) ∧ (b.toNat : Int) ≤ 70 ∧ (digP b : Int) = (b.toNat : Int) - 65 + 10) ∨ (70 < (b.toNat : Int) ∧ (b.toNat : Int) < 97 ∧ digP b = 16) ∨ (97 ≤ (b.toNat : Int) ∧ (b.toNat : Int) ≤ 102 ∧ (digP b : Int) = (b.toNat : Int) - 97 + 10) ∨ (102 < (b.toNat : Int) ∧ digP b = 16) := by
  have := all_bytes (p := fun b => decide (((b.toNat : Int) < 48 ∧ digP b = 16) ∨ (48 ≤ (b.toNat : Int) ∧ (b.toNat : Int) ≤ 57 ∧ (digP b : Int) = (b.toNat : Int) - 48) ∨ (57 < (b.toNat : Int) ∧ (b.toNat : Int) < 65 ∧ digP b = 16) ∨
    (65 ≤ (b.toNat : Int) ∧ (b.toNat : Int) ≤ 70 ∧ (digP b : Int) = (b.toNat : Int) - 65 + 10) ∨ (70 < (b.toNat : Int) ∧ (b.toNat : Int) < 97 ∧ digP b = 16) ∨ (97 ≤ (b.toNat : Int) ∧ (b.toNat : Int) ≤ 102 ∧ (digP b : Int) = (b.toNat : Int) - 97 + 10) ∨ (102 < (b.toNat : Int) ∧ digP b = 16))) (by decide +kernel) b
  simpa only [decide_eq_true_eq] using this
theorem pdigit_any (b : UInt8) (w : World) :
    Calls Tryd.prog 43 #[.int .u8 (b.toNat : Int)] w fun e w' => e = .returned (.int .i64 (digP b : Int)) ∧ w = w' := by
  have hub : (b.toNat : Int) ≤ 255 := by have := b.toNat_lt; omega
  rcases digP_cases b with ⟨h1, h2⟩ | ⟨h1, h2, h3⟩ | ⟨h1, h2, h3⟩ | ⟨h1, h2, h3⟩ | ⟨h1, h2, h3⟩ | ⟨h1, h2, h3⟩ | ⟨h1, h2⟩
  · rw [h2]
    clear h2
    generalize (b.toNat : Int) = c at *
    go_enter Tryd.func43, Tryd.ntmps43
    go_wp2_with fail
    go_ret
    exact ⟨rfl, rfl⟩
  · rw [h3]
    clear h3
    generalize (b.toNat : Int) = c at *
    go_enter Tryd.func43, Tryd.ntmps43
    go_wp2_with fail
    go_ret
    exact ⟨rfl, rfl⟩
  · rw [h3]
    clear h3
    generalize (b.toNat : Int) = c at *
    go_enter Tryd.func43, Tryd.ntmps43
    go_wp2_with fail
    go_ret
    exact ⟨rfl, rfl⟩
  · rw [h3]
    clear h3
    generalize (b.toNat : Int) = c at *
    go_enter Tryd.func43, Tryd.ntmps43
    go_wp2_with fail
    go_ret
    exact ⟨rfl, rfl⟩
  · rw [h3]
    clear h3
    generalize (b.toNat : Int) = c at *
    go_enter Tryd.func43, Tryd.ntmps43
    go_wp2_with fail
    go_ret
    exact ⟨rfl, rfl⟩
  · rw [h3]
    clear h3
    generalize (b.toNat : Int) = c at *
    go_enter Tryd.func43, Tryd.ntmps43
    go_wp2_with fail
    go_ret
    exact ⟨rfl, rfl⟩
  · rw [h2]
    clear h2
    generalize (b.toNat : Int) = c at *
    go_enter Tryd.func43, Tryd.ntmps43
    go_wp2_with fail
    go_ret
    exact ⟨rfl, rfl⟩
end Go.Proofs.YtinpgmckndcpbaaDoor.PSmall
