/- Layer 4 of the program: number. -/
import Derived.Test.YtlgohmghjffiaaaDoorPDigit
import Derived.Outline
import Derived.LoopTactic
import Derived.Handy
namespace Go.Proofs.YtlgohmghjffiaaaDoor.PCount
open Go.ChangeShapes Go.WideShapes Go.ChangeAt Go.RowKit LexPure Bytes Ret LexNum PDigit
set_option maxRecDepth 20000
theorem digP_lt {b : UInt8} {base : Nat} (hb : base ≤ 16) (h : dig b < base) : digP b = dig b := by
  unfold digP
  rw [if_pos (by omega)]
theorem digP_ge {b : UInt8} {base : Nat} (hb : base ≤ 16) (h : ¬ dig b < base) : base ≤ digP b := by
  unfold digP
  split <;> omega
set_option maxHeartbeats 2000000 in
theorem pnumber_any (s : ByteArray) (hs : s.size ≤ maxLen) (digits : Int) (base : Nat) (hF : Fit base digits) (w : World) :
    Calls Tryd.prog 46 #[.string s, .int .i64 digits, .int .i64 (base : Int)] w fun e w' => e = .returned (.tuple #[.int .i64 (numR base digits (toL s)), .bool (numOk base digits (toL s))]) ∧ w = w' := by
  unfold maxLen at hs
  have HF := Lib.hid hF
  have hb16 : base ≤ 16 := by rcases hF with ⟨h, _⟩ | ⟨h, _⟩ <;> omega
  clear hF
  by_cases hlen : 1 ≤ s.size ∧ (s.size : Int) ≤ digits
  · obtain ⟨hl1, hl2⟩ := hlen
    have h1 : ¬ s.toList = [] := fun h => by
      rw [ByteArray.toList_eq] at h
      have h2 := toL_length s
      rw [show toL s = [] from h] at h2
      simp at h2
      omega
    have h2 : s.toList.isEmpty = false := by
      cases h : s.toList with
      | nil => exact absurd h h1
      | cons => rfl
    go_enter Tryd.func46, Tryd.ntmps46
    go_wp2_with fail
    go_loop [8, 21] (fun n i => ∃ k : Nat, k ≤ s.size ∧ i = .int .i64 k ∧ n = .int .i64 (numV base ((toL s).take k) : Nat) ∧ Hid (((toL s).take k).all (fun c => decide (dig c < base)) = true)) (fun _ i => s.size - (intOf i).toNat)
    case atStart => exact ⟨0, Nat.zero_le _, rfl, rfl, Lib.hid rfl⟩
    case round =>
      obtain ⟨k, hk, rfl, rfl, ha⟩ := hrel
      by_cases hlt : k < s.size
      · have hki : (k : Int) < (s.size : Int) := by omega
        have HT := Lib.hid (toL_take_succ s k hlt)
        have HG := Lib.hid (toL_get s k hlt)
        obtain ⟨hb1, hb2⟩ := HF.out.bound (l := (toL s).take k) (by rw [List.length_take, toL_length]; omega) ha.out
        have HN : Hid (numV base ((toL s).take (k + 1)) = base * numV base ((toL s).take k) + dig s[k]) := Lib.hid (by rw [HT.out, numV_snoc])
        have HC := Lib.hid (fun w => pdigit_any s[k] w)
        generalize numV base ((toL s).take k) = n at *
        have hcomm : (base : Int) * (n : Int) = (n : Int) * (base : Int) := Int.mul_comm _ _
        have hp0 : 0 ≤ (n : Int) * (base : Int) := by omega
        have hp1 : (n : Int) * (base : Int) ≤ 1152921504606846976 := by
          have : ((base * n : Nat) : Int) ≤ 1152921504606846976 := by omega
          rw [Int.natCast_mul] at this
          omega
        clear hb1
        by_cases hdb : dig s[k] < base
        · have HA : Hid (((toL s).take (k + 1)).all (fun c => decide (dig c < base)) = true) := Lib.hid (by rw [HT.out, List.all_append, ha.out]; simp [hdb])
          have HN2 : Hid ((n : Int) * (base : Int) + (dig s[k] : Nat) = (numV base ((toL s).take (k + 1)) : Int)) := Lib.hid (by rw [HN.out, ← hcomm]; push_cast; rfl)
          rw [digP_lt hb16 hdb] at HC
          have hdn : ¬ ((base : Int) ≤ (dig s[k] : Int)) := by omega
          have hdm : (dig s[k] : Int) ≤ 16 := by omega
          clear HT HG HN ha hdb hcomm hb16
          generalize dig s[k] = d at *
          go_wp2_with (refine (HC.out _).mono ?_; rintro e w' ⟨rfl, rfl⟩)
          go_round
          case rel => exact ⟨k + 1, by omega, by go_num, by rw [HN2.out], HA⟩
          case measure => simp [intOf]; omega
        · have HV2 : Hid (numOk base digits (toL s) = false) := Lib.hid (by
            unfold numOk
            rw [Bool.and_eq_false_iff]
            right
            rw [List.all_eq_false]
            exact ⟨s[k], List.mem_of_getElem? HG.out, by simpa using hdb⟩)
          have HV1 : Hid (numR base digits (toL s) = 0) := Lib.hid (by unfold numR; rw [HV2.out]; rfl)
          have hdn : (base : Int) ≤ (digP s[k] : Int) := by have := digP_ge hb16 hdb; omega
          clear HT HG HN ha hdb hcomm hb16
          generalize digP s[k] = d at *
          go_wp2_with (refine (HC.out _).mono ?_; rintro e w' ⟨rfl, rfl⟩)
          go_ret2
          exact ⟨ret_num HV1.out.symm HV2.out.symm, rfl⟩
      · have hall : (toL s).take k = toL s := toL_take_all s (by omega)
        have HV2 : Hid (numOk base digits (toL s) = true) := Lib.hid (by
          unfold numOk
          have h := ha.out
          rw [hall] at h
          rw [h, toL_length, decide_eq_true hl2]
          have : (toL s).isEmpty = false := by
            cases hl : toL s with
            | nil => have := toL_length s; rw [hl] at this; simp at this; omega
            | cons => rfl
          rw [this]
          rfl)
        have HV1 : Hid (numR base digits (toL s) = (numV base (toL s) : Int)) := Lib.hid (by unfold numR; rw [HV2.out]; rfl)
        rw [hall]
        clear ha hall hb16
        go_wp2_with fail
        go_ret2
        exact ⟨ret_num HV1.out.symm HV2.out.symm, rfl⟩
  · have HV2 : Hid (numOk base digits (toL s) = false) := Lib.hid (by
      unfold numOk
      rw [toL_length]
      by_cases h0 : s.size = 0
      · rw [List.isEmpty_iff.2 (List.length_eq_zero_iff.1 (by rw [toL_length]; exact h0))]
        rfl
      · rw [decide_eq_false (by omega)]
        simp)
    have HV1 : Hid (numR base digits (toL s) = 0) := Lib.hid (by unfold numR; rw [HV2.out]; rfl)
    clear hb16
    by_cases h0 : s.size = 0
    · have h1 : s.toList = [] := by
        rw [ByteArray.toList_eq]
        exact List.length_eq_zero_iff.1 (by rw [← h0]; exact toL_length s)
      have h2 : s.toList.isEmpty = true := by rw [h1]; rfl
      clear hlen
      go_enter Tryd.func46, Tryd.ntmps46
      go_wp2_with fail
      go_ret2
      exact ⟨ret_num HV1.out.symm HV2.out.symm, rfl⟩
    · have hx : digits < (s.size : Int) := by omega
      have h1 : ¬ s.toList = [] := fun h => by
        rw [ByteArray.toList_eq] at h
        have h2 := toL_length s
        rw [show toL s = [] from h] at h2
        simp at h2
        omega
      have h2 : s.toList.isEmpty = false := by
        cases h : s.toList with
        | nil => exact absurd h h1
        | cons => rfl
      clear hlen
      go_enter Tryd.func46, Tryd.ntmps46
      go_wp2_with fail
      go_ret2
      exact ⟨ret_num HV1.out.symm HV2.out.symm, rfl⟩
end Go.Proofs.YtlgohmghjffiaaaDoor.PCount
