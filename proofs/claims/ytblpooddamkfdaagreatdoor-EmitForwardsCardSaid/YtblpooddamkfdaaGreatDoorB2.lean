/- Texts of this seat, one behind another: RNumber, RDecimal. -/
import Derived.Lib.Hide
import Derived.Below
import Derived.Outline
import Derived.LoopTactic
import Derived.Test.YtblpooddamkfdaaGreatDoorA1
/- Layer 4, the document's own number. -/
namespace Go.Proofs.YtblpooddamkfdaaGreatDoor.RNumber
open Go.ChangeShapes Go.WideShapes Go.ChangeAt Go.RowKit LexPure Bytes Ret LexNum
set_option maxRecDepth 20000
set_option maxHeartbeats 2000000 in
theorem rnumber_any (s : ByteArray) (hs : s.size ≤ maxLen) (digits : Int) (base : Nat) (hF : Fit base digits) (w : World) :
    Calls Tryz.prog 85 #[.string s, .int .i64 digits, .int .i64 (base : Int)] w fun e w' => e = .returned (.tuple #[.int .i64 (numR base digits (toL s)), .bool (numOk base digits (toL s))]) ∧ w = w' := by
  unfold maxLen at hs
  have HF := Lib.hid hF
  clear hF
  by_cases hlen : 1 ≤ s.size ∧ (s.size : Int) ≤ digits
  · obtain ⟨hl1, hl2⟩ := hlen
    go_enter Tryz.func85, Tryz.ntmps85
    go_wp2_with fail
    go_loop [8, 9] (fun n i => ∃ k : Nat, k ≤ s.size ∧ i = .int .i64 k ∧ n = .int .i64 (numV base ((toL s).take k) : Nat) ∧ Hid (((toL s).take k).all (fun c => decide (dig c < base)) = true)) (fun _ i => s.size - (intOf i).toNat)
    case atStart => exact ⟨0, Nat.zero_le _, rfl, rfl, Lib.hid rfl⟩
    case round =>
      obtain ⟨k, hk, rfl, rfl, ha⟩ := hrel
      by_cases hlt : k < s.size
      · have hki : (k : Int) < (s.size : Int) := by omega
        have HT := Lib.hid (toL_take_succ s k hlt)
        have HG := Lib.hid (toL_get s k hlt)
        obtain ⟨hb1, hb2⟩ := HF.out.bound (l := (toL s).take k) (by rw [List.length_take, toL_length]; omega) ha.out
        have hd := dig_at s[k]
        have hdl := dig_le s[k]
        have hub : (s[k].toNat : Int) ≤ 255 := by have := s[k].toNat_lt; omega
        have HN : Hid (numV base ((toL s).take (k + 1)) = base * numV base ((toL s).take k) + dig s[k]) := Lib.hid (by rw [HT.out, numV_snoc])
        generalize numV base ((toL s).take k) = n at *
        have hp0 : 0 ≤ (base : Int) * (n : Int) := by omega
        have hp1 : (base : Int) * (n : Int) ≤ 1152921504606846976 := by
          have : ((base * n : Nat) : Int) ≤ 1152921504606846976 := by omega
          rwa [Int.natCast_mul] at this
        clear hb1
        by_cases hdb : dig s[k] < base
        · have HA : Hid (((toL s).take (k + 1)).all (fun c => decide (dig c < base)) = true) := Lib.hid (by rw [HT.out, List.all_append, ha.out]; simp [hdb])
          have HN2 : Hid ((numV base ((toL s).take (k + 1)) : Int) = (base : Int) * n + (dig s[k] : Nat)) := Lib.hid (by rw [HN.out]; push_cast; rfl)
          clear HT HG HN ha
          rcases hd with ⟨h1, h2⟩ | ⟨h1, h2, h3⟩ | ⟨h1, h2, h3⟩ | ⟨h1, h2, h3⟩ | ⟨h1, h2, h3⟩ | ⟨h1, h2, h3⟩ | ⟨h1, h2⟩
          · omega
          · have hb : ¬ ((base : Int) ≤ (s[k].toNat : Int) - 48) := by omega
            have HN3 : Hid ((base : Int) * n + ((s[k].toNat : Int) - 48) = (numV base ((toL s).take (k + 1)) : Int)) := Lib.hid (by rw [HN2.out, h3])
            clear HN2 h3 hdl hdb
            go_wp2_with fail
            go_round
            case rel => exact ⟨k + 1, by omega, by go_num, by rw [HN3.out], HA⟩
            case measure => simp [intOf]; omega
          · omega
          · have hb : ¬ ((base : Int) ≤ (s[k].toNat : Int) - 55) := by omega
            have HN3 : Hid ((base : Int) * n + ((s[k].toNat : Int) - 55) = (numV base ((toL s).take (k + 1)) : Int)) := Lib.hid (by rw [HN2.out, h3])
            clear HN2 h3 hdl hdb
            go_wp2_with fail
            go_round
            case rel => exact ⟨k + 1, by omega, by go_num, by rw [HN3.out], HA⟩
            case measure => simp [intOf]; omega
          · omega
          · have hb : ¬ ((base : Int) ≤ (s[k].toNat : Int) - 87) := by omega
            have HN3 : Hid ((base : Int) * n + ((s[k].toNat : Int) - 87) = (numV base ((toL s).take (k + 1)) : Int)) := Lib.hid (by rw [HN2.out, h3])
            clear HN2 h3 hdl hdb
            go_wp2_with fail
            go_round
            case rel => exact ⟨k + 1, by omega, by go_num, by rw [HN3.out], HA⟩
            case measure => simp [intOf]; omega
          · omega
        · have HV2 : Hid (numOk base digits (toL s) = false) := Lib.hid (by
            unfold numOk
            rw [Bool.and_eq_false_iff]
            right
            rw [List.all_eq_false]
            exact ⟨s[k], List.mem_of_getElem? HG.out, by simpa using hdb⟩)
          have HV1 : Hid (numR base digits (toL s) = 0) := Lib.hid (by unfold numR; rw [HV2.out]; rfl)
          clear HT HG HN ha
          rcases hd with ⟨h1, h2⟩ | ⟨h1, h2, h3⟩ | ⟨h1, h2, h3⟩ | ⟨h1, h2, h3⟩ | ⟨h1, h2, h3⟩ | ⟨h1, h2, h3⟩ | ⟨h1, h2⟩
          · have hb : (base : Int) ≤ 99 := by omega
            clear h2 hdl hdb
            go_wp2_with fail
            go_ret2
            exact ⟨ret_num HV1.out.symm HV2.out.symm, rfl⟩
          · have hb : (base : Int) ≤ (s[k].toNat : Int) - 48 := by omega
            clear h3 hdl hdb
            go_wp2_with fail
            go_ret2
            exact ⟨ret_num HV1.out.symm HV2.out.symm, rfl⟩
          · have hb : (base : Int) ≤ 99 := by omega
            clear h3 hdl hdb
            go_wp2_with fail
            go_ret2
            exact ⟨ret_num HV1.out.symm HV2.out.symm, rfl⟩
          · have hb : (base : Int) ≤ (s[k].toNat : Int) - 55 := by omega
            clear h3 hdl hdb
            go_wp2_with fail
            go_ret2
            exact ⟨ret_num HV1.out.symm HV2.out.symm, rfl⟩
          · have hb : (base : Int) ≤ 99 := by omega
            clear h3 hdl hdb
            go_wp2_with fail
            go_ret2
            exact ⟨ret_num HV1.out.symm HV2.out.symm, rfl⟩
          · have hb : (base : Int) ≤ (s[k].toNat : Int) - 87 := by omega
            clear h3 hdl hdb
            go_wp2_with fail
            go_ret2
            exact ⟨ret_num HV1.out.symm HV2.out.symm, rfl⟩
          · have hb : (base : Int) ≤ 99 := by omega
            clear h2 hdl hdb
            go_wp2_with fail
            go_ret2
            exact ⟨ret_num HV1.out.symm HV2.out.symm, rfl⟩
      · have hall : (toL s).take k = toL s := toL_take_all s (by omega)
        have HV2 : Hid (numOk base digits (toL s) = true) := Lib.hid (by
          unfold numOk
          have h := ha.out
          rw [hall] at h
          rw [h, toL_length, decide_eq_true hl2]
          have : (toL s).isEmpty = false := by
            cases hl : toL s with
            | nil => have := toL_length s; rw [hl] at this; simp at this; omega
            | cons => rfl
          rw [this]
          rfl)
        have HV1 : Hid (numR base digits (toL s) = (numV base (toL s) : Int)) := Lib.hid (by unfold numR; rw [HV2.out]; rfl)
        rw [hall]
        clear ha hall
        go_wp2_with fail
        go_ret2
        exact ⟨ret_num HV1.out.symm HV2.out.symm, rfl⟩
  · have HV2 : Hid (numOk base digits (toL s) = false) := Lib.hid (by
      unfold numOk
      rw [toL_length]
      by_cases h0 : s.size = 0
      · rw [List.isEmpty_iff.2 (List.length_eq_zero_iff.1 (by rw [toL_length]; exact h0))]
        rfl
      · rw [decide_eq_false (by omega)]
        simp)
    have HV1 : Hid (numR base digits (toL s) = 0) := Lib.hid (by unfold numR; rw [HV2.out]; rfl)
    have hx : (s.size : Int) < 1 ∨ (1 ≤ (s.size : Int) ∧ digits < (s.size : Int)) := by omega
    clear hlen
    rcases hx with h1 | ⟨h1, h2⟩
    all_goals
      go_enter Tryz.func85, Tryz.ntmps85
      go_wp2_with fail
      go_ret2
      exact ⟨ret_num HV1.out.symm HV2.out.symm, rfl⟩
end Go.Proofs.YtblpooddamkfdaaGreatDoor.RNumber

/- Layer 4, the document's own Decimal. -/
namespace Go.Proofs.YtblpooddamkfdaaGreatDoor.RDecimal
open Go.ChangeShapes Go.WideShapes Go.ChangeAt Go.RowKit LexPure Bytes Ret LexNum RNumber
set_option maxRecDepth 20000
theorem rdecimal_any (s : ByteArray) (hs : s.size ≤ maxLen) (digits : Int) (w : World) :
    Calls Tryz.prog 70 #[.string s, .int .i64 digits] w fun e w' => e = .returned (.tuple #[.int .i64 (numR 10 (min digits 18) (toL s)), .bool (numOk 10 (min digits 18) (toL s))]) ∧ w = w' := by
  have HN := Lib.hid (rnumber_any s hs (min digits 18) 10 (.inl ⟨rfl, Int.min_le_right _ _⟩))
  clear hs
  by_cases h : 18 < digits
  · have hm : min digits 18 = 18 := by omega
    rw [hm] at HN ⊢
    go_enter Tryz.func70, Tryz.ntmps70
    go_wp2_with fail
    refine (HN.out _).mono ?_
    rintro e w' ⟨rfl, rfl⟩
    go_wp2_with fail
    go_ret2
    exact ⟨rfl, rfl⟩
  · have hm : min digits 18 = digits := by omega
    rw [hm] at HN ⊢
    go_enter Tryz.func70, Tryz.ntmps70
    go_wp2_with fail
    refine (HN.out _).mono ?_
    rintro e w' ⟨rfl, rfl⟩
    go_wp2_with fail
    go_ret2
    exact ⟨rfl, rfl⟩
end Go.Proofs.YtblpooddamkfdaaGreatDoor.RDecimal
