/- Layer 4 of the program: Token. -/
import Derived.Test.YtlgohmghjffiaaaDoorPOfValue
import Derived.Test.YtlgohmghjffiaaaDoorPLibT
import Derived.Outline
import Derived.LoopTactic
import Derived.Handy
namespace Go.Proofs.YtlgohmghjffiaaaDoor.PToken
open Go.ChangeShapes Go.WideShapes Go.ChangeAt Go.RowKit LexPure Bytes Ret LexSplit PLibT POfValue
set_option maxRecDepth 20000
theorem toList_eq' (s : ByteArray) : s.toList = toL s := ByteArray.toList_eq s
theorem poftoken_any (b : UInt8) (w : World) :
    Calls Tryd.prog 49 #[.int .u8 (b.toNat : Int)] w fun e w' => e = .returned (.bool (markB b)) ∧ w = w' := by
  have HM := Lib.hid (lib_mark b w)
  rw [mark_cases]
  unfold marksA at HM
  generalize markI b = i at *
  generalize (b.toNat : Int) = c at *
  go_enter Tryd.func49, Tryd.ntmps49
  go_wp2_with (refine HM.out.mono ?_; rintro e w' ⟨rfl, rfl⟩)
  all_goals
    go_ret
    refine ⟨ret_bool ?_, rfl⟩
  all_goals first
    | rfl
    | exact Eq.symm (decide_eq_true (by omega))
    | exact Eq.symm (by rw [decide_eq_true (show 48 ≤ c ∧ c ≤ 57 by omega)]; rfl)
    | exact Eq.symm (by rw [decide_eq_true (show 65 ≤ c ∧ c ≤ 90 by omega), Bool.or_true]; rfl)
    | exact Eq.symm (by rw [decide_eq_true (show 97 ≤ c ∧ c ≤ 122 by omega), Bool.or_true]; rfl)
    | (rw [decide_eq_false (show ¬ (48 ≤ c ∧ c ≤ 57) by omega), decide_eq_false (show ¬ (65 ≤ c ∧ c ≤ 90) by omega), decide_eq_false (show ¬ (97 ≤ c ∧ c ≤ 122) by omega)]; first | (simp; done) | (simp; intro h; omega))
theorem ptoken_any (s : ByteArray) (hs : s.size ≤ maxLen) (w : World) :
    Calls Tryd.prog 39 #[.string s] w fun e w' => e = .returned (.bool (token (toL s))) ∧ w = w' := by
  unfold maxLen at hs
  go_enter Tryd.func39, Tryd.ntmps39
  go_wp2_with fail
  go_loop [6] (fun i => ∃ k : Nat, k ≤ s.size ∧ i = .int .i64 k ∧ Hid (((toL s).take k).all markB = true)) (fun i => s.size - (intOf i).toNat)
  case atStart => exact ⟨0, Nat.zero_le _, rfl, Lib.hid rfl⟩
  case round =>
    obtain ⟨k, hk, rfl, ha⟩ := hrel
    by_cases hlt : k < s.size
    · have hki : (k : Int) < (s.size : Int) := by omega
      have HT := Lib.hid (toL_take_succ s k hlt)
      have HG := Lib.hid (toL_get s k hlt)
      have HC := Lib.hid (fun w => poftoken_any s[k] w)
      by_cases hm : markB s[k] = true
      · have HA : Hid (((toL s).take (k + 1)).all markB = true) := Lib.hid (by rw [HT.out, List.all_append, ha.out]; simp [hm])
        rw [hm] at HC
        clear hm HT HG
        go_wp2_with (refine (HC.out _).mono ?_; rintro e w' ⟨rfl, rfl⟩)
        go_round
        case rel => exact ⟨k + 1, by omega, by go_num, HA⟩
        case measure => simp [intOf]; omega
      · have hmf : markB s[k] = false := by simpa using hm
        have HV : Hid (token (toL s) = false) := Lib.hid (by
          unfold token
          rw [Bool.and_eq_false_iff]
          left
          rw [List.all_eq_false]
          exact ⟨s[k], List.mem_of_getElem? HG.out, hm⟩)
        rw [hmf] at HC
        clear hm HT HG hmf
        go_wp2_with (refine (HC.out _).mono ?_; rintro e w' ⟨rfl, rfl⟩)
        go_ret
        exact ⟨by rw [HV.out]; rfl, rfl⟩
    · have hall : (toL s).take k = toL s := toL_take_all s (by omega)
      have HA : Hid ((toL s).all markB = true) := Lib.hid (by rw [← hall]; exact ha.out)
      clear ha hall
      by_cases h0 : s.size = 0
      · have h1 : s.toList = [] := by
          rw [ByteArray.toList_eq]
          exact List.length_eq_zero_iff.1 (by rw [← h0]; exact toL_length s)
        have h2 : s.toList.isEmpty = true := by rw [h1]; rfl
        have HV : Hid (token (toL s) = false) := Lib.hid (by
          unfold token
          rw [show toL s = [] from List.length_eq_zero_iff.1 (by rw [← h0]; exact toL_length s)]
          rfl)
        go_wp2_with fail
        go_ret
        exact ⟨by rw [HV.out]; rfl, rfl⟩
      · have h1 : ¬ s.toList = [] := fun h => by
          rw [ByteArray.toList_eq] at h
          have h2 := toL_length s
          rw [show toL s = [] from h] at h2
          simp at h2
          omega
        have h2 : s.toList.isEmpty = false := by
          cases h : s.toList with
          | nil => exact absurd h h1
          | cons => rfl
        have HV : Hid (token (toL s) = true) := Lib.hid (by
          unfold token
          rw [HA.out, ← toList_eq', h2]
          rfl)
        go_wp2_with fail
        go_ret
        exact ⟨by rw [HV.out]; rfl, rfl⟩
end Go.Proofs.YtlgohmghjffiaaaDoor.PToken
