/- Layer 4, the document's own Value. -/
import Derived.Test.YtclecgopmegjeaaDoorLexPure
import Derived.Test.YtclecgopmegjeaaDoorLawBase
import Derived.Test.YtclecgopmegjeaaDoorRet
import Derived.Lib.Hide
import Derived.Below
import Derived.Outline
import Derived.LoopTactic
import Derived.Test.YtclecgopmegjeaaDoorRBlank
namespace Go.Proofs.YtclecgopmegjeaaDoor.RValue
open Go.ChangeShapes Go.WideShapes Go.ChangeAt Go.RowKit LexPure Bytes Ret RBlank
set_option maxRecDepth 20000
theorem plain_true {b : UInt8} (h : plainB b = true) : ((b.toNat : Int) == 127) = false ∧ (¬ (b.toNat : Int) < 32 ∨ ((b.toNat : Int) < 32 ∧ ((b.toNat : Int) != 9) = false)) := by
  have := all_bytes (p := fun b => !plainB b || decide (((b.toNat : Int) == 127) = false ∧ (¬ (b.toNat : Int) < 32 ∨ ((b.toNat : Int) < 32 ∧ ((b.toNat : Int) != 9) = false)))) (by decide +kernel) b
  simpa only [h, Bool.not_true, Bool.false_or, decide_eq_true_eq] using this
theorem plain_false {b : UInt8} (h : plainB b = false) : ((b.toNat : Int) == 127) = true ∨ (((b.toNat : Int) == 127) = false ∧ (b.toNat : Int) < 32 ∧ ((b.toNat : Int) != 9) = true) := by
  have := all_bytes (p := fun b => plainB b || decide (((b.toNat : Int) == 127) = true ∨ (((b.toNat : Int) == 127) = false ∧ (b.toNat : Int) < 32 ∧ ((b.toNat : Int) != 9) = true))) (by decide +kernel) b
  simpa only [h, Bool.false_or, decide_eq_true_eq] using this
theorem head_at (s : ByteArray) (h : 0 < s.size) : (toL s).headD 0 = s[0] := by
  have := toL_get s 0 h
  cases hl : toL s with
  | nil => rw [hl] at this; cases this
  | cons c r => rw [hl] at this; simpa using this
theorem last_of (s : ByteArray) (j : Nat) (h : s.size = j + 1) : (toL s).getLastD 0 = s[j] := by
  have := toL_get s j (by omega)
  rw [List.getLastD_eq_getLast?, List.getLast?_eq_getElem?, toL_length, show s.size - 1 = j by omega, this]
  rfl
theorem rvalue_any (s : ByteArray) (hs : s.size ≤ maxLen) (w : World) :
    Calls Tryd.prog 30 #[.string s] w fun e w' => e = .returned (.bool (value (toL s))) ∧ w = w' := by
  unfold maxLen at hs
  go_enter Tryd.func30, Tryd.ntmps30
  go_wp2_with fail
  go_loop [3] (fun i => ∃ k : Nat, k ≤ s.size ∧ i = .int .i64 k ∧ Hid (((toL s).take k).all plainB = true)) (fun i => s.size - (intOf i).toNat)
  case atStart => exact ⟨0, Nat.zero_le _, rfl, Lib.hid rfl⟩
  case round =>
    obtain ⟨k, hk, rfl, ha⟩ := hrel
    by_cases hlt : k < s.size
    · have hki : (k : Int) < (s.size : Int) := by omega
      have HT := Lib.hid (toL_take_succ s k hlt)
      have HG := Lib.hid (toL_get s k hlt)
      by_cases hm : plainB s[k] = true
      · have HA : Hid (((toL s).take (k + 1)).all plainB = true) := Lib.hid (by rw [HT.out, List.all_append, ha.out]; simp [hm])
        have hp := plain_true hm
        clear HT HG ha hm
        obtain ⟨h1, hp⟩ := hp
        rcases hp with h2 | ⟨h2, h3⟩
        all_goals
          go_wp2_with fail
          go_round
          case rel => exact ⟨k + 1, by omega, by go_num, HA⟩
          case measure => simp [intOf]; omega
      · have hm : plainB s[k] = false := by simpa using hm
        have HV : Hid (value (toL s) = false) := Lib.hid (by
          unfold value
          rw [Bool.and_eq_false_iff]
          left
          rw [List.all_eq_false]
          exact ⟨s[k], List.mem_of_getElem? HG.out, by simp [hm]⟩)
        have hp := plain_false hm
        clear HT HG ha hm
        rcases hp with h1 | ⟨h1, h2, h3⟩
        all_goals
          go_wp2_with fail
          go_ret
          exact ⟨ret_bool HV.out.symm, rfl⟩
    · have ha' : (toL s).all plainB = true := by
        have := ha.out
        rwa [toL_take_all s (by omega)] at this
      have hki : ¬ (k : Int) < (s.size : Int) := by omega
      by_cases h0 : s.size = 0
      · have HV : Hid (value (toL s) = true) := Lib.hid (by
          unfold value
          rw [ha', List.isEmpty_iff.2 (List.length_eq_zero_iff.1 (by rw [toL_length]; exact h0))]
          rfl)
        have hq : ((s.size : Int) == 0) = true := by rw [h0]; rfl
        clear ha' ha
        go_wp2_with fail
        go_ret
        exact ⟨ret_bool HV.out.symm, rfl⟩
      · obtain ⟨j, hj⟩ : ∃ j, s.size = j + 1 := ⟨s.size - 1, by omega⟩
        have hV : value (toL s) = (!blankB (s[0]'(by omega)) && !blankB (s[j]'(by omega))) := by
          unfold value
          rw [ha', head_at s (by omega), last_of s j hj]
          have : (toL s).isEmpty = false := by
            cases hl : toL s with
            | nil => have := toL_length s; rw [hl] at this; simp at this; omega
            | cons => rfl
          rw [this]
          simp
        have HV := Lib.hid hV
        have HJ := Lib.hid hj
        have hq : ((s.size : Int) == 0) = false := by
          rw [beq_eq_false_iff_ne]
          omega
        clear ha' ha hV
        have p0 : 0 < s.size := by omega
        by_cases hb0 : blankB (s[0]'p0) = true
        · have HB := Lib.hid hb0
          have HV2 : Hid (value (toL s) = false) := Lib.hid (by rw [HV.out, hb0]; rfl)
          clear hb0
          go_wp2_with fail
          refine (rblank_any _ _).mono ?_
          rintro e w' ⟨rfl, rfl⟩
          rw [HB.out]
          go_wp2_with fail
          go_ret
          exact ⟨ret_bool HV2.out.symm, rfl⟩
        · have hb0 : blankB (s[0]'p0) = false := by simpa using hb0
          have HB := Lib.hid hb0
          have HV2 : Hid (value (toL s) = !blankB (s[j]'(by omega))) := Lib.hid (by rw [HV.out, hb0]; rfl)
          clear hb0
          go_wp2_with fail
          refine (rblank_any _ _).mono ?_
          rintro e w' ⟨rfl, rfl⟩
          rw [HB.out]
          go_wp2_with fail
          refine (rblank_any _ _).mono ?_
          rintro e w' ⟨rfl, rfl⟩
          generalize blankB (s[j]'(by omega)) = bb at *
          go_wp2_with fail
          go_ret
          exact ⟨ret_bool HV2.out.symm, rfl⟩
end Go.Proofs.YtclecgopmegjeaaDoor.RValue
