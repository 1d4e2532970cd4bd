/- Texts of this seat, one behind another: RMarks, RToken, RBlank, RValue, RPlainP, RNumber, RHex, RPlain, REsc, REscapes, RNormP, RNormal, R14In, R14Name, RHost, RDecimal. -/
import Derived.Lib.Hide
import Derived.Below
import Derived.Outline
import Derived.LoopTactic
import Derived.Laws.DeepStrings4
import Derived.Maps.AppendAt
import Derived.Deep.RegionHeld3
import Derived.Handy
import Derived.Test.YtcjobblhendkbaaA1
import Derived.Test.YtcjobblhendkbaaA2
/- Layer 4, the document's own Marks. -/
namespace Go.Proofs.Ytcjobblhendkbaa.RMarks
open Go.ChangeShapes Go.WideShapes Go.ChangeAt Go.RowKit LexPure Bytes Ret
set_option maxRecDepth 20000
theorem rmarks_any (c : UInt8) (w : World) :
    Calls Try.prog 46 #[.int .u8 (c.toNat : Int)] w fun e w' => e = .returned (.bool (markB c)) ∧ w = w' := by
  unfold markB
  generalize (c.toNat : Int) = c
  go_enter Try.func46, Try.ntmps46
  go_wp2_with fail
  all_goals
    go_ret
    refine ⟨ret_bool ?_, rfl⟩
    try simp only [beq_eq_false_iff_ne, beq_iff_eq, ne_eq] at *
    first
      | exact Eq.symm (decide_eq_true (p := MarkP _) (by unfold MarkP; omega))
      | exact Eq.symm (decide_eq_false (p := MarkP _) (by unfold MarkP; omega))
end Go.Proofs.Ytcjobblhendkbaa.RMarks

/- Layer 4, the document's own Token. -/
namespace Go.Proofs.Ytcjobblhendkbaa.RToken
open Go.ChangeShapes Go.WideShapes Go.ChangeAt Go.RowKit LexPure Bytes Ret RMarks
set_option maxRecDepth 20000
theorem rtoken_any (s : ByteArray) (hs : s.size ≤ maxLen) (w : World) :
    Calls Try.prog 32 #[.string s] w fun e w' => e = .returned (.bool (token (toL s))) ∧ w = w' := by
  unfold maxLen at hs
  go_enter Try.func32, Try.ntmps32
  go_wp2_with fail
  go_loop [3] (fun i => ∃ k : Nat, k ≤ s.size ∧ i = .int .i64 k ∧ Hid (((toL s).take k).all markB = true)) (fun i => s.size - (intOf i).toNat)
  case atStart => exact ⟨0, Nat.zero_le _, rfl, Lib.hid rfl⟩
  case round =>
    obtain ⟨k, hk, rfl, ha⟩ := hrel
    by_cases hlt : k < s.size
    · have hki : (k : Int) < (s.size : Int) := by omega
      have HT := Lib.hid (toL_take_succ s k hlt)
      have HG := Lib.hid (toL_get s k hlt)
      by_cases hm : markB s[k] = true
      · have HA : Hid (((toL s).take (k + 1)).all markB = true) := Lib.hid (by rw [HT.out, List.all_append, ha.out]; simp [hm])
        have HM := Lib.hid hm
        clear hm
        go_wp2_with fail
        refine (rmarks_any _ _).mono ?_
        rintro e w' ⟨rfl, rfl⟩
        rw [HM.out]
        go_wp2_with fail
        go_round
        case rel => exact ⟨k + 1, by omega, by go_num, HA⟩
        case measure => simp [intOf]; omega
      · have hm : markB s[k] = false := by simpa using hm
        have HV : Hid (token (toL s) = false) := Lib.hid (by
          unfold token
          rw [Bool.and_eq_false_iff]
          left
          rw [List.all_eq_false]
          exact ⟨s[k], List.mem_of_getElem? HG.out, by simp [hm]⟩)
        have HM := Lib.hid hm
        clear hm
        go_wp2_with fail
        refine (rmarks_any _ _).mono ?_
        rintro e w' ⟨rfl, rfl⟩
        rw [HM.out]
        go_wp2_with fail
        go_ret
        exact ⟨ret_bool HV.out.symm, rfl⟩
    · have ha' : (toL s).all markB = true := by
        have := ha.out
        rwa [toL_take_all s (by omega)] at this
      have HV : Hid (token (toL s) = decide (0 < s.size)) := Lib.hid (by
        unfold token
        rw [ha']
        have := toL_length s
        cases h : toL s with
        | nil => rw [h] at this; simp at this; simp [← this]
        | cons c r => rw [h] at this; simp at this; simp; omega)
      clear ha'
      go_wp2_with fail
      go_ret
      exact ⟨ret_bool HV.out.symm, rfl⟩
end Go.Proofs.Ytcjobblhendkbaa.RToken

/- Layer 4, the document's own Blank. -/
namespace Go.Proofs.Ytcjobblhendkbaa.RBlank
open Go.ChangeShapes Go.WideShapes Go.ChangeAt Go.RowKit LexPure Bytes Ret
set_option maxRecDepth 20000
theorem rblank_any (c : UInt8) (w : World) :
    Calls Try.prog 56 #[.int .u8 (c.toNat : Int)] w fun e w' => e = .returned (.bool (blankB c)) ∧ w = w' := by
  rw [← blank_eq]
  generalize (c.toNat : Int) = c
  go_enter Try.func56, Try.ntmps56
  go_wp2_with fail
  all_goals
    go_ret
    refine ⟨ret_bool ?_, rfl⟩
    first
      | exact Eq.symm (decide_eq_true (by omega))
      | exact Eq.symm (decide_eq_false (by omega))
      | (rw [Bool.decide_or]; rfl)
end Go.Proofs.Ytcjobblhendkbaa.RBlank

/- Layer 4, the document's own Value. -/
namespace Go.Proofs.Ytcjobblhendkbaa.RValue
open Go.ChangeShapes Go.WideShapes Go.ChangeAt Go.RowKit LexPure Bytes Ret RBlank
set_option maxRecDepth 20000
theorem plain_true {b : UInt8} (h : plainB b = true) : ((b.toNat : Int) == 127) = false ∧ (¬ (b.toNat : Int) < 32 ∨ ((b.toNat : Int) < 32 ∧ ((b.toNat : Int) != 9) = false)) := by
  have := all_bytes (p := fun b => !plainB b || decide (((b.toNat : Int) == 127) = false ∧ (¬ (b.toNat : Int) < 32 ∨ ((b.toNat : Int) < 32 ∧ ((b.toNat : Int) != 9) = false)))) (by decide +kernel) b
  simpa only [h, Bool.not_true, Bool.false_or, decide_eq_true_eq] using this
theorem plain_false {b : UInt8} (h : plainB b = false) : ((b.toNat : Int) == 127) = true ∨ (((b.toNat : Int) == 127) = false ∧ (b.toNat : Int) < 32 ∧ ((b.toNat : Int) != 9) = true) := by
  have := all_bytes (p := fun b => plainB b || decide (((b.toNat : Int) == 127) = true ∨ (((b.toNat : Int) == 127) = false ∧ (b.toNat : Int) < 32 ∧ ((b.toNat : Int) != 9) = true))) (by decide +kernel) b
  simpa only [h, Bool.false_or, decide_eq_true_eq] using this
theorem head_at (s : ByteArray) (h : 0 < s.size) : (toL s).headD 0 = s[0] := by
  have := toL_get s 0 h
  cases hl : toL s with
  | nil => rw [hl] at this; cases this
  | cons c r => rw [hl] at this; simpa using this
theorem last_of (s : ByteArray) (j : Nat) (h : s.size = j + 1) : (toL s).getLastD 0 = s[j] := by
  have := toL_get s j (by omega)
  rw [List.getLastD_eq_getLast?, List.getLast?_eq_getElem?, toL_length, show s.size - 1 = j by omega, this]
  rfl
theorem rvalue_any (s : ByteArray) (hs : s.size ≤ maxLen) (w : World) :
    Calls Try.prog 45 #[.string s] w fun e w' => e = .returned (.bool (value (toL s))) ∧ w = w' := by
  unfold maxLen at hs
  go_enter Try.func45, Try.ntmps45
  go_wp2_with fail
  go_loop [3] (fun i => ∃ k : Nat, k ≤ s.size ∧ i = .int .i64 k ∧ Hid (((toL s).take k).all plainB = true)) (fun i => s.size - (intOf i).toNat)
  case atStart => exact ⟨0, Nat.zero_le _, rfl, Lib.hid rfl⟩
  case round =>
    obtain ⟨k, hk, rfl, ha⟩ := hrel
    by_cases hlt : k < s.size
    · have hki : (k : Int) < (s.size : Int) := by omega
      have HT := Lib.hid (toL_take_succ s k hlt)
      have HG := Lib.hid (toL_get s k hlt)
      by_cases hm : plainB s[k] = true
      · have HA : Hid (((toL s).take (k + 1)).all plainB = true) := Lib.hid (by rw [HT.out, List.all_append, ha.out]; simp [hm])
        have hp := plain_true hm
        clear HT HG ha hm
        obtain ⟨h1, hp⟩ := hp
        rcases hp with h2 | ⟨h2, h3⟩
        all_goals
          go_wp2_with fail
          go_round
          case rel => exact ⟨k + 1, by omega, by go_num, HA⟩
          case measure => simp [intOf]; omega
      · have hm : plainB s[k] = false := by simpa using hm
        have HV : Hid (value (toL s) = false) := Lib.hid (by
          unfold value
          rw [Bool.and_eq_false_iff]
          left
          rw [List.all_eq_false]
          exact ⟨s[k], List.mem_of_getElem? HG.out, by simp [hm]⟩)
        have hp := plain_false hm
        clear HT HG ha hm
        rcases hp with h1 | ⟨h1, h2, h3⟩
        all_goals
          go_wp2_with fail
          go_ret
          exact ⟨ret_bool HV.out.symm, rfl⟩
    · have ha' : (toL s).all plainB = true := by
        have := ha.out
        rwa [toL_take_all s (by omega)] at this
      have hki : ¬ (k : Int) < (s.size : Int) := by omega
      by_cases h0 : s.size = 0
      · have HV : Hid (value (toL s) = true) := Lib.hid (by
          unfold value
          rw [ha', List.isEmpty_iff.2 (List.length_eq_zero_iff.1 (by rw [toL_length]; exact h0))]
          rfl)
        have hq : ((s.size : Int) == 0) = true := by rw [h0]; rfl
        clear ha' ha
        go_wp2_with fail
        go_ret
        exact ⟨ret_bool HV.out.symm, rfl⟩
      · obtain ⟨j, hj⟩ : ∃ j, s.size = j + 1 := ⟨s.size - 1, by omega⟩
        have hV : value (toL s) = (!blankB (s[0]'(by omega)) && !blankB (s[j]'(by omega))) := by
          unfold value
          rw [ha', head_at s (by omega), last_of s j hj]
          have : (toL s).isEmpty = false := by
            cases hl : toL s with
            | nil => have := toL_length s; rw [hl] at this; simp at this; omega
            | cons => rfl
          rw [this]
          simp
        have HV := Lib.hid hV
        have HJ := Lib.hid hj
        have hq : ((s.size : Int) == 0) = false := by
          rw [beq_eq_false_iff_ne]
          omega
        clear ha' ha hV
        have p0 : 0 < s.size := by omega
        by_cases hb0 : blankB (s[0]'p0) = true
        · have HB := Lib.hid hb0
          have HV2 : Hid (value (toL s) = false) := Lib.hid (by rw [HV.out, hb0]; rfl)
          clear hb0
          go_wp2_with fail
          refine (rblank_any _ _).mono ?_
          rintro e w' ⟨rfl, rfl⟩
          rw [HB.out]
          go_wp2_with fail
          go_ret
          exact ⟨ret_bool HV2.out.symm, rfl⟩
        · have hb0 : blankB (s[0]'p0) = false := by simpa using hb0
          have HB := Lib.hid hb0
          have HV2 : Hid (value (toL s) = !blankB (s[j]'(by omega))) := Lib.hid (by rw [HV.out, hb0]; rfl)
          clear hb0
          go_wp2_with fail
          refine (rblank_any _ _).mono ?_
          rintro e w' ⟨rfl, rfl⟩
          rw [HB.out]
          go_wp2_with fail
          refine (rblank_any _ _).mono ?_
          rintro e w' ⟨rfl, rfl⟩
          generalize blankB (s[j]'(by omega)) = bb at *
          go_wp2_with fail
          go_ret
          exact ⟨ret_bool HV2.out.symm, rfl⟩
end Go.Proofs.Ytcjobblhendkbaa.RValue

/- Layer 5: two hexadecimal digits. No program is named. -/
namespace Go.Proofs.Ytcjobblhendkbaa.RPlain
open LexPure Bytes LexNum PathPure
set_option maxRecDepth 20000
theorem num_two (a b : UInt8) : numOk 16 (min 2 15) [a, b] = (isHex a && isHex b) ∧ (numOk 16 (min 2 15) [a, b] = true → numR 16 (min 2 15) [a, b] = (two a b : Int)) := by
  have h1 : numOk 16 (min 2 15) [a, b] = (isHex a && isHex b) := by
    unfold numOk isHex
    simp
    intro _ _
    decide
  refine ⟨h1, fun h => ?_⟩
  unfold numR
  rw [h, if_pos rfl]
  unfold numV two
  simp
end Go.Proofs.Ytcjobblhendkbaa.RPlain

/- Layer 4, the document's own number. -/
namespace Go.Proofs.Ytcjobblhendkbaa.RNumber
open Go.ChangeShapes Go.WideShapes Go.ChangeAt Go.RowKit LexPure Bytes Ret LexNum
set_option maxRecDepth 20000
set_option maxHeartbeats 2000000 in
theorem rnumber_any (s : ByteArray) (hs : s.size ≤ maxLen) (digits : Int) (base : Nat) (hF : Fit base digits) (w : World) :
    Calls Try.prog 55 #[.string s, .int .i64 digits, .int .i64 (base : Int)] w fun e w' => e = .returned (.tuple #[.int .i64 (numR base digits (toL s)), .bool (numOk base digits (toL s))]) ∧ w = w' := by
  unfold maxLen at hs
  have HF := Lib.hid hF
  clear hF
  by_cases hlen : 1 ≤ s.size ∧ (s.size : Int) ≤ digits
  · obtain ⟨hl1, hl2⟩ := hlen
    go_enter Try.func55, Try.ntmps55
    go_wp2_with fail
    go_loop [8, 9] (fun n i => ∃ k : Nat, k ≤ s.size ∧ i = .int .i64 k ∧ n = .int .i64 (numV base ((toL s).take k) : Nat) ∧ Hid (((toL s).take k).all (fun c => decide (dig c < base)) = true)) (fun _ i => s.size - (intOf i).toNat)
    case atStart => exact ⟨0, Nat.zero_le _, rfl, rfl, Lib.hid rfl⟩
    case round =>
      obtain ⟨k, hk, rfl, rfl, ha⟩ := hrel
      by_cases hlt : k < s.size
      · have hki : (k : Int) < (s.size : Int) := by omega
        have HT := Lib.hid (toL_take_succ s k hlt)
        have HG := Lib.hid (toL_get s k hlt)
        obtain ⟨hb1, hb2⟩ := HF.out.bound (l := (toL s).take k) (by rw [List.length_take, toL_length]; omega) ha.out
        have hd := dig_at s[k]
        have hdl := dig_le s[k]
        have hub : (s[k].toNat : Int) ≤ 255 := by have := s[k].toNat_lt; omega
        have HN : Hid (numV base ((toL s).take (k + 1)) = base * numV base ((toL s).take k) + dig s[k]) := Lib.hid (by rw [HT.out, numV_snoc])
        generalize numV base ((toL s).take k) = n at *
        have hp0 : 0 ≤ (base : Int) * (n : Int) := by omega
        have hp1 : (base : Int) * (n : Int) ≤ 1152921504606846976 := by
          have : ((base * n : Nat) : Int) ≤ 1152921504606846976 := by omega
          rwa [Int.natCast_mul] at this
        clear hb1
        by_cases hdb : dig s[k] < base
        · have HA : Hid (((toL s).take (k + 1)).all (fun c => decide (dig c < base)) = true) := Lib.hid (by rw [HT.out, List.all_append, ha.out]; simp [hdb])
          have HN2 : Hid ((numV base ((toL s).take (k + 1)) : Int) = (base : Int) * n + (dig s[k] : Nat)) := Lib.hid (by rw [HN.out]; push_cast; rfl)
          clear HT HG HN ha
          rcases hd with ⟨h1, h2⟩ | ⟨h1, h2, h3⟩ | ⟨h1, h2, h3⟩ | ⟨h1, h2, h3⟩ | ⟨h1, h2, h3⟩ | ⟨h1, h2, h3⟩ | ⟨h1, h2⟩
          · omega
          · have hb : ¬ ((base : Int) ≤ (s[k].toNat : Int) - 48) := by omega
            have HN3 : Hid ((base : Int) * n + ((s[k].toNat : Int) - 48) = (numV base ((toL s).take (k + 1)) : Int)) := Lib.hid (by rw [HN2.out, h3])
            clear HN2 h3 hdl hdb
            go_wp2_with fail
            go_round
            case rel => exact ⟨k + 1, by omega, by go_num, by rw [HN3.out], HA⟩
            case measure => simp [intOf]; omega
          · omega
          · have hb : ¬ ((base : Int) ≤ (s[k].toNat : Int) - 55) := by omega
            have HN3 : Hid ((base : Int) * n + ((s[k].toNat : Int) - 55) = (numV base ((toL s).take (k + 1)) : Int)) := Lib.hid (by rw [HN2.out, h3])
            clear HN2 h3 hdl hdb
            go_wp2_with fail
            go_round
            case rel => exact ⟨k + 1, by omega, by go_num, by rw [HN3.out], HA⟩
            case measure => simp [intOf]; omega
          · omega
          · have hb : ¬ ((base : Int) ≤ (s[k].toNat : Int) - 87) := by omega
            have HN3 : Hid ((base : Int) * n + ((s[k].toNat : Int) - 87) = (numV base ((toL s).take (k + 1)) : Int)) := Lib.hid (by rw [HN2.out, h3])
            clear HN2 h3 hdl hdb
            go_wp2_with fail
            go_round
            case rel => exact ⟨k + 1, by omega, by go_num, by rw [HN3.out], HA⟩
            case measure => simp [intOf]; omega
          · omega
        · have HV2 : Hid (numOk base digits (toL s) = false) := Lib.hid (by
            unfold numOk
            rw [Bool.and_eq_false_iff]
            right
            rw [List.all_eq_false]
            exact ⟨s[k], List.mem_of_getElem? HG.out, by simpa using hdb⟩)
          have HV1 : Hid (numR base digits (toL s) = 0) := Lib.hid (by unfold numR; rw [HV2.out]; rfl)
          clear HT HG HN ha
          rcases hd with ⟨h1, h2⟩ | ⟨h1, h2, h3⟩ | ⟨h1, h2, h3⟩ | ⟨h1, h2, h3⟩ | ⟨h1, h2, h3⟩ | ⟨h1, h2, h3⟩ | ⟨h1, h2⟩
          · have hb : (base : Int) ≤ 99 := by omega
            clear h2 hdl hdb
            go_wp2_with fail
            go_ret2
            exact ⟨ret_num HV1.out.symm HV2.out.symm, rfl⟩
          · have hb : (base : Int) ≤ (s[k].toNat : Int) - 48 := by omega
            clear h3 hdl hdb
            go_wp2_with fail
            go_ret2
            exact ⟨ret_num HV1.out.symm HV2.out.symm, rfl⟩
          · have hb : (base : Int) ≤ 99 := by omega
            clear h3 hdl hdb
            go_wp2_with fail
            go_ret2
            exact ⟨ret_num HV1.out.symm HV2.out.symm, rfl⟩
          · have hb : (base : Int) ≤ (s[k].toNat : Int) - 55 := by omega
            clear h3 hdl hdb
            go_wp2_with fail
            go_ret2
            exact ⟨ret_num HV1.out.symm HV2.out.symm, rfl⟩
          · have hb : (base : Int) ≤ 99 := by omega
            clear h3 hdl hdb
            go_wp2_with fail
            go_ret2
            exact ⟨ret_num HV1.out.symm HV2.out.symm, rfl⟩
          · have hb : (base : Int) ≤ (s[k].toNat : Int) - 87 := by omega
            clear h3 hdl hdb
            go_wp2_with fail
            go_ret2
            exact ⟨ret_num HV1.out.symm HV2.out.symm, rfl⟩
          · have hb : (base : Int) ≤ 99 := by omega
            clear h2 hdl hdb
            go_wp2_with fail
            go_ret2
            exact ⟨ret_num HV1.out.symm HV2.out.symm, rfl⟩
      · have hall : (toL s).take k = toL s := toL_take_all s (by omega)
        have HV2 : Hid (numOk base digits (toL s) = true) := Lib.hid (by
          unfold numOk
          have h := ha.out
          rw [hall] at h
          rw [h, toL_length, decide_eq_true hl2]
          have : (toL s).isEmpty = false := by
            cases hl : toL s with
            | nil => have := toL_length s; rw [hl] at this; simp at this; omega
            | cons => rfl
          rw [this]
          rfl)
        have HV1 : Hid (numR base digits (toL s) = (numV base (toL s) : Int)) := Lib.hid (by unfold numR; rw [HV2.out]; rfl)
        rw [hall]
        clear ha hall
        go_wp2_with fail
        go_ret2
        exact ⟨ret_num HV1.out.symm HV2.out.symm, rfl⟩
  · have HV2 : Hid (numOk base digits (toL s) = false) := Lib.hid (by
      unfold numOk
      rw [toL_length]
      by_cases h0 : s.size = 0
      · rw [List.isEmpty_iff.2 (List.length_eq_zero_iff.1 (by rw [toL_length]; exact h0))]
        rfl
      · rw [decide_eq_false (by omega)]
        simp)
    have HV1 : Hid (numR base digits (toL s) = 0) := Lib.hid (by unfold numR; rw [HV2.out]; rfl)
    have hx : (s.size : Int) < 1 ∨ (1 ≤ (s.size : Int) ∧ digits < (s.size : Int)) := by omega
    clear hlen
    rcases hx with h1 | ⟨h1, h2⟩
    all_goals
      go_enter Try.func55, Try.ntmps55
      go_wp2_with fail
      go_ret2
      exact ⟨ret_num HV1.out.symm HV2.out.symm, rfl⟩
end Go.Proofs.Ytcjobblhendkbaa.RNumber

/- Layer 4, the document's own Hex. -/
namespace Go.Proofs.Ytcjobblhendkbaa.RHex
open Go.ChangeShapes Go.WideShapes Go.ChangeAt Go.RowKit LexPure Bytes Ret LexNum RNumber
set_option maxRecDepth 20000
theorem rhex_any (s : ByteArray) (hs : s.size ≤ maxLen) (digits : Int) (w : World) :
    Calls Try.prog 43 #[.string s, .int .i64 digits] w fun e w' => e = .returned (.tuple #[.int .i64 (numR 16 (min digits 15) (toL s)), .bool (numOk 16 (min digits 15) (toL s))]) ∧ w = w' := by
  have HN := Lib.hid (rnumber_any s hs (min digits 15) 16 (.inr ⟨rfl, Int.min_le_right _ _⟩))
  clear hs
  by_cases h : 15 < digits
  · have hm : min digits 15 = 15 := by omega
    rw [hm] at HN ⊢
    go_enter Try.func43, Try.ntmps43
    go_wp2_with fail
    refine (HN.out _).mono ?_
    rintro e w' ⟨rfl, rfl⟩
    go_wp2_with fail
    go_ret2
    exact ⟨rfl, rfl⟩
  · have hm : min digits 15 = digits := by omega
    rw [hm] at HN ⊢
    go_enter Try.func43, Try.ntmps43
    go_wp2_with fail
    refine (HN.out _).mono ?_
    rintro e w' ⟨rfl, rfl⟩
    go_wp2_with fail
    go_ret2
    exact ⟨rfl, rfl⟩
end Go.Proofs.Ytcjobblhendkbaa.RHex

/- Layer 5, the document's own Plain, hex and At. -/
namespace Go.Proofs.Ytcjobblhendkbaa.RPlain
open Go.ChangeShapes Go.WideShapes Go.ChangeAt Go.RowKit LexPure Bytes Ret LexNum RHex PathPure
set_option maxRecDepth 20000
def PlainI (c : Int) : Prop := c = 45 ∨ c = 46 ∨ c = 95 ∨ c = 126 ∨ (48 ≤ c ∧ c ≤ 57) ∨ (65 ≤ c ∧ c ≤ 90) ∨ (97 ≤ c ∧ c ≤ 122)
instance (c : Int) : Decidable (PlainI c) := by unfold PlainI; infer_instance
theorem plain_eq {n : Nat} (h : n < 256) : decide (PlainI (n : Int)) = plainP n := by
  have := all_below (p := fun n => decide (PlainI (n : Int)) == plainP n) (by decide +kernel) h
  simpa using this
theorem rplain_any (n : Nat) (h : n < 256) (w : World) :
    Calls Try.prog 27 #[.int .u8 (n : Int)] w fun e w' => e = .returned (.bool (plainP n)) ∧ w = w' := by
  rw [← plain_eq h]
  generalize (n : Int) = c
  go_enter Try.func27, Try.ntmps27
  go_wp2_with fail
  all_goals
    go_ret
    refine ⟨ret_bool ?_, rfl⟩
    try simp only [beq_eq_false_iff_ne, beq_iff_eq, ne_eq] at *
    first
      | exact Eq.symm (decide_eq_true (p := PlainI _) (by unfold PlainI; omega))
      | exact Eq.symm (decide_eq_false (p := PlainI _) (by unfold PlainI; omega))
      | (rw [Bool.eq_iff_iff]; simp only [Bool.or_eq_true, decide_eq_true_eq]; unfold PlainI; omega)
      | (rw [Bool.eq_iff_iff]; simp only [decide_eq_true_eq]; unfold PlainI; omega)
theorem hx_int {n : Nat} (h : n < 16) : ((hx n).toNat : Int) = if (n : Int) < 10 then 48 + (n : Int) else 55 + (n : Int) := by
  have : n = 0 ∨ n = 1 ∨ n = 2 ∨ n = 3 ∨ n = 4 ∨ n = 5 ∨ n = 6 ∨ n = 7 ∨ n = 8 ∨ n = 9 ∨ n = 10 ∨ n = 11 ∨ n = 12 ∨ n = 13 ∨ n = 14 ∨ n = 15 := by omega
  rcases this with h | h | h | h | h | h | h | h | h | h | h | h | h | h | h | h <;> subst h <;> decide
theorem ret_u8 {a b : Int} (h : a = b) : Ending.returned (.int .u8 a) = .returned (.int .u8 b) := by rw [h]
theorem rhexd_any (n : Nat) (h : n < 16) (w : World) :
    Calls Try.prog 28 #[.int .i64 (n : Int)] w fun e w' => e = .returned (.int .u8 ((hx n).toNat : Int)) ∧ w = w' := by
  rw [hx_int h]
  by_cases h10 : (n : Int) < 10
  · rw [if_pos h10]
    go_enter Try.func28, Try.ntmps28
    go_wp2_with fail
    go_ret
    exact ⟨rfl, rfl⟩
  · rw [if_neg h10]
    go_enter Try.func28, Try.ntmps28
    go_wp2_with fail
    go_ret
    exact ⟨rfl, rfl⟩
/-- the byte of the escape that begins here, or -1 -/
def atL : List UInt8 → Int
  | 37 :: a :: b :: _ => if isHex a && isHex b then (two a b : Int) else -1
  | _ => -1
theorem ret_i64 {a b : Int} (h : a = b) : Ending.returned (.int .i64 a) = .returned (.int .i64 b) := by rw [h]
theorem rat_any (s : ByteArray) (hs : s.size ≤ 140737488355328) (k : Nat) (hk : k < s.size) (w : World) :
    Calls Try.prog 26 #[.string s, .int .i64 (k : Int)] w fun e w' => e = .returned (.int .i64 (atL ((toL s).drop k))) ∧ w = w' := by
  have hs2 := hs
  by_cases h3 : k + 2 < s.size
  · have hd : (toL s).drop k = s[k] :: s[k + 1] :: s[k + 2] :: (toL s).drop (k + 3) := by
      rw [toL_drop s k (by omega), toL_drop s (k + 1) (by omega), toL_drop s (k + 2) (by omega)]
    have hi : ((k : Int) + 2) < (s.size : Int) := by omega
    by_cases h37 : s[k] = 37
    · have hq : ((s[k].toNat : Int) != 37) = false := by rw [h37]; rfl
      have he : toL (s.extract (k + 1) (k + 3)) = [s[k + 1], s[k + 2]] := by
        rw [toL_extract, List.drop_take]
        rw [toL_drop s (k + 1) (by omega), toL_drop s (k + 2) (by omega)]
        have : k + 3 - (k + 1) = 2 := by omega
        rw [this]
        rfl
      obtain ⟨n1, n2⟩ := num_two s[k + 1] s[k + 2]
      have hsz2 : (s.extract (k + 1) (k + 3)).size = 2 := by rw [← toL_length, he]; rfl
      have HH := Lib.hid (fun w => rhex_any (s.extract (k + 1) (k + 3)) (by rw [hsz2]; decide) 2 w)
      rw [he] at HH
      have hA : atL ((toL s).drop k) = if isHex s[k + 1] && isHex s[k + 2] then (two s[k + 1] s[k + 2] : Int) else -1 := by rw [hd, h37]; rfl
      have hki : (k : Int) < (s.size : Int) := by omega
      rw [hA]
      rw [n1] at HH n2
      clear n1 he hA hd h37 hs hsz2
      by_cases hok : (isHex s[k + 1] && isHex s[k + 2]) = true
      · rw [n2 hok, hok] at HH
        rw [if_pos hok]
        have hb1 := two_lt (a := s[k + 1]) (b := s[k + 2]) (by simp at hok; exact hok.1) (by simp at hok; exact hok.2)
        clear hok n2
        generalize two s[k + 1] s[k + 2] = n at *
        go_enter Try.func26, Try.ntmps26
        go_wp2_with fail
        refine (HH.out _).mono ?_
        rintro e w' ⟨rfl, rfl⟩
        go_wp2_with fail
        go_ret
        exact ⟨rfl, rfl⟩
      · have hok : (isHex s[k + 1] && isHex s[k + 2]) = false := by simpa using hok
        rw [hok] at HH
        rw [hok, if_neg (by decide)]
        clear hok n2
        go_enter Try.func26, Try.ntmps26
        go_wp2_with fail
        refine (HH.out _).mono ?_
        rintro e w' ⟨rfl, rfl⟩
        go_wp2_with fail
        go_ret
        exact ⟨rfl, rfl⟩
    · have hq : ((s[k].toNat : Int) != 37) = true := by
        have := all_bytes (p := fun b => (((b.toNat : Int) != 37) == (b != 37))) (by decide +kernel) s[k]
        rw [beq_iff_eq] at this
        rw [this, bne_iff_ne]
        exact h37
      have hA : atL ((toL s).drop k) = -1 := by
        rw [hd]
        unfold atL
        split
        · rename_i h
          injection h with h
          exact absurd h h37
        · rfl
      rw [hA]
      have hki : (k : Int) < (s.size : Int) := by omega
      clear hA hd h37 hs
      go_enter Try.func26, Try.ntmps26
      go_wp2_with fail
      go_ret
      exact ⟨rfl, rfl⟩
  · have hA : atL ((toL s).drop k) = -1 := by
      have hl : ((toL s).drop k).length ≤ 2 := by rw [List.length_drop, toL_length]; omega
      unfold atL
      split
      · rename_i h
        rw [h] at hl
        simp at hl
      · rfl
    rw [hA]
    have hi : ¬ ((k : Int) + 2) < (s.size : Int) := by omega
    clear hA hs
    go_enter Try.func26, Try.ntmps26
    go_wp2_with fail
    go_ret
    exact ⟨rfl, rfl⟩
end Go.Proofs.Ytcjobblhendkbaa.RPlain

/- Layer 5, the document's own Escapes and Decode: what both gather. -/
namespace Go.Proofs.Ytcjobblhendkbaa.REsc
open Go.ChangeShapes Go.WideShapes Go.ChangeAt Go.RowKit LexPure Bytes Ret PathPure RPlain Rows1
theorem infoB : (Try.prog.info? 5).map (fun i => (i.zero, i.size, i.bytes)) = some (some (.int .u8 0), 1, 1) := by kernel_rfl
/-- what is gathered behind k bytes -/
structure Got (w : World) (k : Nat) (v : Value) (G : List UInt8) (wr : World) : Prop where
  row : wr.ownsRow w.heap.size 5 1 v G.length (bvs G)
  below : Below w.heap.size w wr
  few : G.length ≤ k
theorem Got.start (w : World) : Got w 0 (.slice none 0 0) [] w := ⟨World.ownsRow_nil _ _ _ _, Below.refl _ _, Nat.le_refl _⟩
theorem atL_none {s : ByteArray} {k : Nat} (hk : k < s.size) (h : s[k] = 37) (hn : atL ((toL s).drop k) < 0) : dec ((toL s).drop k) = none ∧ esc ((toL s).drop k) = none := by
  rw [toL_drop s k hk, h] at *
  rw [dec_cons, if_pos (by decide), esc_cons, if_pos (by decide), if_pos (by decide)]
  generalize (toL s).drop (k + 1) = t at *
  match t with
  | [] => exact ⟨rfl, rfl⟩
  | [_] => exact ⟨rfl, rfl⟩
  | a :: b :: r =>
    unfold atL at hn
    simp only at hn ⊢
    split at hn
    · omega
    · rename_i hh
      rw [if_neg hh, if_neg hh]
      exact ⟨rfl, rfl⟩
theorem atL_some {s : ByteArray} {k : Nat} (hk : k < s.size) (h : s[k] = 37) (hn : ¬ atL ((toL s).drop k) < 0) : ∃ n : Nat, atL ((toL s).drop k) = (n : Int) ∧ n < 256 ∧ k + 2 < s.size ∧
    dec ((toL s).drop k) = (dec ((toL s).drop (k + 3))).map (UInt8.ofNat n :: ·) ∧ esc ((toL s).drop k) = (esc ((toL s).drop (k + 3))).map (wr n ++ ·) := by
  have hl : ((toL s).drop k).length = s.size - k := by rw [List.length_drop, toL_length]
  have hd3 : (toL s).drop (k + 3) = ((toL s).drop (k + 1)).drop 2 := by rw [List.drop_drop]
  rw [hd3]
  rw [toL_drop s k hk, h] at *
  rw [dec_cons, if_pos (by decide), esc_cons, if_pos (by decide), if_pos (by decide)]
  generalize (toL s).drop (k + 1) = t at *
  match t with
  | [] => exact absurd (by decide) hn
  | [_] => exact absurd (show (-1 : Int) < 0 by decide) hn
  | a :: b :: r =>
    unfold atL at hn ⊢
    simp only at hn ⊢
    split at hn
    · rename_i hh
      rw [if_pos hh]
      have h2 := hh
      rw [Bool.and_eq_true] at h2
      exact ⟨two a b, rfl, two_lt h2.1 h2.2, by simp at hl; omega, by rw [if_pos hh]; rfl, by rw [if_pos hh]; rfl⟩
    · omega
theorem got_push {w wr w3 : World} {k j : Nat} {v v' : Value} {G : List UInt8} {c : UInt8} {o : Obj} (I : Got w k v G wr) (h : w3.ownsRow w.heap.size 5 1 v' (G.length + 1) (bvs G ++ [bv c])) (hg : (wr.alloc o).grownBy w3 v.ownBlock) (hj : k < j) : Got w j v' (G ++ [c]) w3 :=
  ⟨by rw [List.length_append, bvs_append]; exact h, Below.grown (I.below.alloc I.below.size _) hg (by have := I.below.size; simp; omega) (fun b hb => (I.row.lt b hb).1), by rw [List.length_append]; have := I.few; simp; omega⟩
/-- whether s[k] is the sign of an escape, as a number -/
theorem sign_ne {c : UInt8} (h : ¬ c = 37) : ((c.toNat : Int) != 37) = true := by
  have := all_bytes (p := fun b => (((b.toNat : Int) != 37) == (b != 37))) (by decide +kernel) c
  rw [beq_iff_eq] at this
  rw [this, bne_iff_ne]
  exact h
end Go.Proofs.Ytcjobblhendkbaa.REsc

/- Layer 5, the document's own Escapes. -/
namespace Go.Proofs.Ytcjobblhendkbaa.REscapes
open Go.ChangeShapes Go.WideShapes Go.ChangeAt Go.RowKit LexPure Bytes Ret PathPure RPlain Rows1 REsc
set_option maxRecDepth 20000
theorem okc_true {c : UInt8} (h : okc c = true) : ¬ (c.toNat : Int) ≤ 32 ∧ ¬ 127 ≤ (c.toNat : Int) ∧ ((c.toNat : Int) == 63) = false ∧ ((c.toNat : Int) == 35) = false := by
  have := all_bytes (p := fun c => !okc c || decide (¬ (c.toNat : Int) ≤ 32 ∧ ¬ 127 ≤ (c.toNat : Int) ∧ ((c.toNat : Int) == 63) = false ∧ ((c.toNat : Int) == 35) = false)) (by decide +kernel) c
  rw [h] at this
  simpa only [Bool.not_true, Bool.false_or, decide_eq_true_eq] using this
theorem okc_false {c : UInt8} (h : okc c = false) : (c.toNat : Int) ≤ 32 ∨ (¬ (c.toNat : Int) ≤ 32 ∧ 127 ≤ (c.toNat : Int)) ∨ (¬ (c.toNat : Int) ≤ 32 ∧ ¬ 127 ≤ (c.toNat : Int) ∧ ((c.toNat : Int) == 63) = true) ∨ (¬ (c.toNat : Int) ≤ 32 ∧ ¬ 127 ≤ (c.toNat : Int) ∧ ((c.toNat : Int) == 63) = false ∧ ((c.toNat : Int) == 35) = true) := by
  have := all_bytes (p := fun c => okc c || decide ((c.toNat : Int) ≤ 32 ∨ (¬ (c.toNat : Int) ≤ 32 ∧ 127 ≤ (c.toNat : Int)) ∨ (¬ (c.toNat : Int) ≤ 32 ∧ ¬ 127 ≤ (c.toNat : Int) ∧ ((c.toNat : Int) == 63) = true) ∨ (¬ (c.toNat : Int) ≤ 32 ∧ ¬ 127 ≤ (c.toNat : Int) ∧ ((c.toNat : Int) == 63) = false ∧ ((c.toNat : Int) == 35) = true))) (by decide +kernel) c
  rw [h] at this
  simpa only [Bool.false_or, decide_eq_true_eq] using this
theorem bv_of {n : Nat} (h : n < 256) : bv (UInt8.ofNat n) = .int .u8 (n : Int) := by
  have := all_below (p := fun n => (((UInt8.ofNat n).toNat : Int) == (n : Int))) (by decide +kernel) h
  rw [beq_iff_eq] at this
  unfold bv
  rw [this]
set_option maxRecDepth 20000 in
set_option maxHeartbeats 4000000 in
theorem loop_any (s : ByteArray) (hs : s.size ≤ 140737488351232) (h0 : 0 < s.size) (hsl : s[0] = 47) (w : World) :
    Calls Try.prog 12 #[.string s] w fun e w' => e = .returned (.tuple #[.string (ofL ((esc (toL s)).getD [])), .bool (esc (toL s)).isSome]) ∧ Below w.heap.size w w' := by
  obtain ⟨i0, hi, hz0, hz1, hz2⟩ := info_parts infoB
  have hq0 : ((s.size : Int) == 0) = false := beq_eq_false_iff_ne.2 (by omega)
  have hq1 : ((s[0].toNat : Int) != 47) = false := by rw [hsl]; rfl
  clear hsl
  go_enter Try.func12, Try.ntmps12
  go_wp2_with fail
  go_loopw [4, 5] (fun v i wr => ∃ k : Nat, k ≤ s.size ∧ i = .int .i64 k ∧ Hid (∃ G, Got w k v G wr ∧ esc (toL s) = (esc ((toL s).drop k)).map (G ++ ·))) (fun _ i _ => s.size - (intOf i).toNat)
  case atStart => exact ⟨0, Nat.zero_le _, rfl, Lib.hid ⟨[], Got.start w, by simp⟩⟩
  case round =>
    obtain ⟨k, hk, rfl, HI⟩ := hrel
    obtain ⟨G, I, hd⟩ := HI.out
    have hrow := I.row
    have hbw := I.below
    have hbs := hbw.size
    have hfew := I.few
    by_cases hlt : k < s.size
    · have hki : (k : Int) < (s.size : Int) := by omega
      by_cases hok : okc s[k] = true
      · obtain ⟨o1, o2, o3, o4⟩ := okc_true hok
        by_cases h37 : s[k] = 37
        · have hq : (s[k].toNat : Int) = 37 := by rw [h37]; rfl
          clear o1 o2 o3 o4
          have HA := Lib.hid (fun w => rat_any s (by omega) k hlt w)
          by_cases hn : atL ((toL s).drop k) < 0
          · have HV : Hid (esc (toL s) = none) := Lib.hid (by rw [hd, (atL_none hlt h37 hn).2]; rfl)
            generalize atL ((toL s).drop k) = z at *
            clear hd HI I hrow h37 hok
            go_wp2_with fail
            refine (HA.out _).mono ?_
            rintro e w' ⟨rfl, rfl⟩
            go_wp2_with fail
            go_ret2
            rw [HV.out]
            exact ⟨rfl, hbw⟩
          · obtain ⟨n, hn1, hn2, hn3, _, hn4⟩ := atL_some hlt h37 hn
            have hnb : (n : Int) ≤ 255 := by omega
            have HP := Lib.hid (fun w => rplain_any n hn2 w)
            rw [hn1] at HA
            by_cases hp : plainP n = true
            · have HB := Lib.hid (bv_of hn2)
              have HD : Hid (esc (toL s) = (esc ((toL s).drop (k + 3))).map ((G ++ [UInt8.ofNat n]) ++ ·)) := Lib.hid (by
                rw [hd, hn4, Option.map_map]
                unfold PathPure.wr
                rw [hp]
                congr 1
                funext x
                simp)
              rw [hp] at HP
              have HI2 := Lib.hid I
              clear hd HI h37 hn hn1 hn2 hn4 I hok hp
              go_wp2_with fail
              refine (HA.out _).mono ?_
              rintro e w' ⟨rfl, rfl⟩
              go_wp2_with fail
              refine (HP.out _).mono ?_
              rintro e w' ⟨rfl, rfl⟩
              go_wp2_with (at_builtin; refine wpList_append_own _ rfl _ _ 64 rfl w.heap.size 5 i0 (.int .u8 0) 1 1 Try.underlying64 hi hz0 hz1 hz2 rfl (by decide) _ _ _ rfl (hrow.alloc _) ⟨wr.heap.size, 0, none⟩ 1 1 [.int .u8 (n : Int)] rfl rfl (cell_one_new _ _ _) (fun x hx => by simp at hx; subst hx; rfl) (by unfold maxLen; omega) (by omega) (by simp; omega) ?_; intro v' w3 hown' hgrow3 hnil3)
              rw [← HB.out] at hown'
              have HI3 := Lib.hid (got_push HI2.out hown' hgrow3 (j := (k + 3)) (by omega))
              clear hown' hgrow3 hnil3 HI2 hrow hbs hfew
              have hrow := HI3.out.row
              have hbs := HI3.out.below.size
              have hfew := HI3.out.few
              have hglen : (G ++ [UInt8.ofNat n]).length = G.length + 1 := by simp

              have HR : Hid (∃ G, Got w (k + 3) v' G w3 ∧ esc (toL s) = (esc ((toL s).drop (k + 3))).map (G ++ ·)) := Lib.hid ⟨_, HI3.out, HD.out⟩
              clear HI3 HD HB HA HP hrow hbs hfew
              go_wp2_with fail
              go_roundw
              case rel => exact ⟨k + 3, by omega, by go_num, HR⟩
              case measure => simp [intOf]; omega
            · have hp : plainP n = false := by simpa using hp
              have HD : Hid (esc (toL s) = (esc ((toL s).drop (k + 3))).map ((G ++ [37, hx (n / 16), hx (n % 16)]) ++ ·)) := Lib.hid (by
                rw [hd, hn4, Option.map_map]
                unfold PathPure.wr
                rw [hp]
                congr 1
                funext x
                simp)
              rw [hp] at HP
              have HI2 := Lib.hid I
              have HX1 := Lib.hid (fun w => rhexd_any (n / 16) (by omega) w)
              have HX2 := Lib.hid (fun w => rhexd_any (n % 16) (by omega) w)
              clear hd HI h37 hn hn1 hn2 hn4 I hok hp
              go_wp2_with fail
              refine (HA.out _).mono ?_
              rintro e w' ⟨rfl, rfl⟩
              go_wp2_with fail
              refine (HP.out _).mono ?_
              rintro e w' ⟨rfl, rfl⟩
              have HB1 : Hid (bv 37 = .int .u8 37) := Lib.hid rfl
              have HB2 : Hid (bv (hx (n / 16)) = .int .u8 ((hx (n / 16)).toNat : Int)) := Lib.hid rfl
              have HB3 : Hid (bv (hx (n % 16)) = .int .u8 ((hx (n % 16)).toNat : Int)) := Lib.hid rfl
              rw [show ((n / 16 : Nat) : Int) = (n : Int) / 16 by omega] at HX1
              rw [show ((n % 16 : Nat) : Int) = (n : Int) % 16 by omega] at HX2
              have hx1 : ((hx (n / 16)).toNat : Int) ≤ 255 := by have := (hx (n / 16)).toNat_lt; omega
              have hx2 : ((hx (n % 16)).toNat : Int) ≤ 255 := by have := (hx (n % 16)).toNat_lt; omega
              go_wp2_with (at_builtin; refine wpList_append_own _ rfl _ _ 64 rfl w.heap.size 5 i0 (.int .u8 0) 1 1 Try.underlying64 hi hz0 hz1 hz2 rfl (by decide) _ _ _ rfl (hrow.alloc _) ⟨wr.heap.size, 0, none⟩ 1 1 [.int .u8 37] rfl rfl (cell_one_new _ _ _) (fun x hx => by simp at hx; subst hx; rfl) (by unfold maxLen; omega) (by omega) (by simp; omega) ?_; intro va wa hown' hgrow3 hnil3)
              rw [← HB1.out] at hown'
              replace HI2 := Lib.hid (got_push HI2.out hown' hgrow3 (j := (k + 1)) (by omega))
              clear hown' hgrow3 hnil3 hrow hbs hfew
              have hrow := HI2.out.row
              have hbs := HI2.out.below.size
              have hfew := HI2.out.few
              go_wp2_with fail
              refine (HX1.out _).mono ?_
              rintro e w' ⟨rfl, rfl⟩
              go_wp2_with (at_builtin; refine wpList_append_own _ rfl _ _ 64 rfl w.heap.size 5 i0 (.int .u8 0) 1 1 Try.underlying64 hi hz0 hz1 hz2 rfl (by decide) _ _ _ rfl (hrow.alloc _) ⟨wa.heap.size, 0, none⟩ 1 1 [.int .u8 ((hx (n / 16)).toNat : Int)] rfl rfl (cell_one_new _ _ _) (fun x hx => by simp at hx; subst hx; rfl) (by unfold maxLen; omega) (by omega) (by simp; omega) ?_; intro vb wb hown' hgrow3 hnil3)
              rw [← HB2.out] at hown'
              replace HI2 := Lib.hid (got_push HI2.out hown' hgrow3 (j := (k + 2)) (by omega))
              clear hown' hgrow3 hnil3 hrow hbs hfew
              have hrow := HI2.out.row
              have hbs := HI2.out.below.size
              have hfew := HI2.out.few
              go_wp2_with fail
              refine (HX2.out _).mono ?_
              rintro e w' ⟨rfl, rfl⟩
              go_wp2_with (at_builtin; refine wpList_append_own _ rfl _ _ 64 rfl w.heap.size 5 i0 (.int .u8 0) 1 1 Try.underlying64 hi hz0 hz1 hz2 rfl (by decide) _ _ _ rfl (hrow.alloc _) ⟨wb.heap.size, 0, none⟩ 1 1 [.int .u8 ((hx (n % 16)).toNat : Int)] rfl rfl (cell_one_new _ _ _) (fun x hx => by simp at hx; subst hx; rfl) (by unfold maxLen; omega) (by omega) (by simp; omega) ?_; intro vc wc hown' hgrow3 hnil3)
              rw [← HB3.out] at hown'
              replace HI2 := Lib.hid (got_push HI2.out hown' hgrow3 (j := (k + 3)) (by omega))
              clear hown' hgrow3 hnil3 hrow hbs hfew
              have hrow := HI2.out.row
              have hbs := HI2.out.below.size
              have hfew := HI2.out.few
              have HR : Hid (∃ G, Got w (k + 3) vc G wc ∧ esc (toL s) = (esc ((toL s).drop (k + 3))).map (G ++ ·)) := Lib.hid ⟨_, HI2.out, by have := HD.out; simpa using this⟩
              clear HI2 HD HA HP HX1 HX2 HB1 HB2 HB3 hrow hbs hfew
              go_wp2_with fail
              go_roundw
              case rel => exact ⟨k + 3, by omega, by go_num, HR⟩
              case measure => simp [intOf]; omega

        · have hq := sign_ne h37
          have HD : Hid (esc (toL s) = (esc ((toL s).drop (k + 1))).map ((G ++ [s[k]]) ++ ·)) := Lib.hid (by
            rw [hd, toL_drop s k hlt, esc_cons, if_pos hok, if_neg (by simpa using h37), Option.map_map]
            congr 1
            funext x
            simp)
          have HB : Hid (bv s[k] = .int .u8 (s[k].toNat : Int)) := Lib.hid rfl
          have HI2 := Lib.hid I
          clear hd HI h37 I hok
          go_wp2_with (at_builtin; refine wpList_append_own _ rfl _ _ 64 rfl w.heap.size 5 i0 (.int .u8 0) 1 1 Try.underlying64 hi hz0 hz1 hz2 rfl (by decide) _ _ _ rfl (hrow.alloc _) ⟨wr.heap.size, 0, none⟩ 1 1 [.int .u8 (s[k].toNat : Int)] rfl rfl (cell_one_new _ _ _) (fun x hx => by simp at hx; subst hx; rfl) (by unfold maxLen; omega) (by omega) (by simp; omega) ?_; intro v' w3 hown' hgrow3 hnil3)
          rw [← HB.out] at hown'
          have HI3 := Lib.hid (got_push HI2.out hown' hgrow3 (j := (k + 1)) (by omega))
          clear hown' hgrow3 hnil3 HI2 hrow hbs hfew
          have hrow := HI3.out.row
          have hbs := HI3.out.below.size
          have hfew := HI3.out.few
          have hglen : (G ++ [s[k]]).length = G.length + 1 := by simp

          have HR : Hid (∃ G, Got w (k + 1) v' G w3 ∧ esc (toL s) = (esc ((toL s).drop (k + 1))).map (G ++ ·)) := Lib.hid ⟨_, HI3.out, HD.out⟩
          clear HI3 HD HB hrow hbs hfew
          go_wp2_with fail
          go_roundw
          case rel => exact ⟨k + 1, by omega, by go_num, HR⟩
          case measure => simp [intOf]; omega
      · have hok : okc s[k] = false := by simpa using hok
        have HV : Hid (esc (toL s) = none) := Lib.hid (by rw [hd, toL_drop s k hlt, esc_cons, if_neg (by simp [hok])]; rfl)
        have ho := okc_false hok
        clear hd HI I hrow hok
        rcases ho with o1 | ⟨o1, o2⟩ | ⟨o1, o2, o3⟩ | ⟨o1, o2, o3, o4⟩
        all_goals
          go_wp2_with fail
          go_ret2
          rw [HV.out]
          exact ⟨rfl, hbw⟩
    · have HC := own_string (P := Try.prog) hrow 64 9 Try.underlying64 Try.underlying5 Try.underlying9
      have HV : Hid (esc (toL s) = some G) := Lib.hid (by
        rw [hd, List.drop_eq_nil_of_le (by rw [toL_length]; omega)]
        show some (G ++ []) = _
        rw [List.append_nil])
      clear hd HI I hrow
      go_wp2_with fail
      go_ret2
      rw [HV.out]
      exact ⟨rfl, hbw⟩
theorem slash_ne {c : UInt8} (h : ¬ c = 47) : ((c.toNat : Int) != 47) = true := by
  have := all_bytes (p := fun b => (((b.toNat : Int) != 47) == (b != 47))) (by decide +kernel) c
  rw [beq_iff_eq] at this
  rw [this, bne_iff_ne]
  exact h
theorem rescapes_any (s : ByteArray) (hs : s.size ≤ 140737488351232) (w : World) :
    Calls Try.prog 12 #[.string s] w fun e w' => e = .returned (.tuple #[.string (ofL ((escapes (toL s)).getD [])), .bool (escapes (toL s)).isSome]) ∧ Below w.heap.size w w' := by
  by_cases h0 : s.size = 0
  · have hnil : toL s = [] := List.length_eq_zero_iff.1 (by rw [toL_length]; exact h0)
    have hn : escapes (toL s) = none := by rw [hnil]; rfl
    have hq : ((s.size : Int) == 0) = true := by rw [h0]; rfl
    rw [hn]
    clear hn hnil
    go_enter Try.func12, Try.ntmps12
    go_wp2_with fail
    go_ret2
    exact ⟨rfl, Below.refl _ _⟩
  · have hpos : 0 < s.size := by omega
    have hd : toL s = s[0] :: (toL s).drop 1 := by
      have := toL_drop s 0 hpos
      simpa using this
    by_cases hsl : s[0] = 47
    · have he : escapes (toL s) = esc (toL s) := by
        rw [hd]
        show (if (s[0] == 47) = true then esc (s[0] :: (toL s).drop 1) else none) = _
        rw [if_pos (by rw [hsl]; rfl)]
      rw [he]
      exact loop_any s hs hpos hsl w
    · have hn : escapes (toL s) = none := by
        rw [hd]
        show (if (s[0] == 47) = true then esc (s[0] :: (toL s).drop 1) else none) = _
        rw [if_neg (by simpa using hsl)]
      have hq : ((s.size : Int) == 0) = false := beq_eq_false_iff_ne.2 (by omega)
      have hq2 := slash_ne hsl
      rw [hn]
      clear hn hd hsl h0
      go_enter Try.func12, Try.ntmps12
      go_wp2_with fail
      go_ret2
      exact ⟨rfl, Below.refl _ _⟩
end Go.Proofs.Ytcjobblhendkbaa.REscapes

/- Layer 5: what Normal answers, and how long it is. No program is named. -/
namespace Go.Proofs.Ytcjobblhendkbaa.RNormal
open LexPure Bytes Ret PathPure PathForm
set_option maxRecDepth 20000
theorem ret_norm {a b : ByteArray} {n : Int} (h : a = b) : Ending.returned (.tuple #[.string a, .int .i64 n]) = .returned (.tuple #[.string b, .int .i64 n]) := by rw [h]
/-- the text that Normal answers, and the error -/
def normS (s : List UInt8) : ByteArray := ofL ((normal s).getD [])
def normE (s : List UInt8) : Int := if (normal s).isSome then 0 else 50
theorem norm_none {s : List UInt8} (h : normal s = none) : normS s = ⟨#[]⟩ ∧ normE s = 50 := by
  unfold normS normE
  rw [h]
  exact ⟨rfl, rfl⟩
theorem norm_some {s t : List UInt8} (h : normal s = some t) : normS s = ofL t ∧ normE s = 0 := by
  unfold normS normE
  rw [h]
  exact ⟨rfl, rfl⟩
theorem wr_len (n : Nat) : (PathPure.wr n).length ≤ 3 := by
  unfold PathPure.wr
  split <;> simp
theorem esc_len : ∀ (n : Nat) {s t : List UInt8}, s.length ≤ n → esc s = some t → t.length ≤ s.length
  | _, [], t, _, h => by
    simp only [esc, Option.some.injEq] at h
    subst h
    exact Nat.le_refl _
  | 0, c :: s, t, hn, _ => by simp at hn
  | n + 1, c :: s, t, hn, h => by
    rw [esc_cons] at h
    split at h
    · split at h
      · split at h
        · rename_i a b r
          split at h
          · obtain ⟨u, hu, rfl⟩ := Option.map_eq_some_iff.1 h
            have ih := esc_len n (s := r) (by simp at hn; omega) hu
            have := wr_len (two a b)
            simp
            omega
          · cases h
        · cases h
      · obtain ⟨u, hu, rfl⟩ := Option.map_eq_some_iff.1 h
        have ih := esc_len n (s := s) (by simp at hn; omega) hu
        simp
        omega
    · cases h
theorem escapes_esc {s t : List UInt8} (h : escapes s = some t) : esc s = some t ∧ ∃ r, s = 47 :: r := by
  cases s with
  | nil => cases h
  | cons c r =>
    have h : (if (c == 47) = true then esc (c :: r) else none) = some t := h
    by_cases hc : (c == 47) = true
    · rw [if_pos hc] at h
      exact ⟨h, r, by rw [show c = 47 by simpa using hc]⟩
    · rw [if_neg hc] at h
      cases h
theorem escapes_len {s t : List UInt8} (h : escapes s = some t) : t.length ≤ s.length := esc_len _ (Nat.le_refl _) (escapes_esc h).1
theorem escapes_pos {s t : List UInt8} (h : escapes s = some t) : 1 ≤ t.length := by
  obtain ⟨he, r, rfl⟩ := escapes_esc h
  rw [esc_cons, if_pos (by decide), if_neg (by decide)] at he
  obtain ⟨u, _, rfl⟩ := Option.map_eq_some_iff.1 he
  simp
theorem join_len {n : Nat} : ∀ {G : List (List UInt8)}, (∀ e ∈ G, e.length ≤ n) → (join G).length ≤ G.length * (n + 1)
  | [], _ => by simp [join]
  | e :: G, h => by
    have h0 := h e (by simp)
    have h1 := join_len (G := G) (fun x hx => h x (by simp [hx]))
    show ((47 :: e) ++ join G).length ≤ _
    rw [List.length_append, List.length_cons, List.length_cons, Nat.add_mul, Nat.one_mul]
    omega
theorem join_nil {G : List (List UInt8)} : (join G).isEmpty = G.isEmpty := by
  cases G <;> rfl
theorem join_snoc (G : List (List UInt8)) (e : List UInt8) : join (G ++ [e]) = join G ++ 47 :: e := by simp [join]
theorem keeps_up {G ps : List (List UInt8)} {X : List UInt8} (h1 : isDot X = false) (h2 : isUp X = true) : keeps G (X :: ps) = if G.isEmpty then none else keeps G.dropLast ps := by
  rw [keeps, if_neg (by simp [h1]), if_pos h2]
theorem keeps_in {G ps : List (List UInt8)} {X : List UInt8} (h1 : isDot X = false) (h2 : isUp X = false) : keeps G (X :: ps) = keeps (G ++ [X]) ps := by
  rw [keeps, if_neg (by simp [h1]), if_neg (by simp [h2])]
end Go.Proofs.Ytcjobblhendkbaa.RNormal

/- Layer 5, the document's own Normal. -/
namespace Go.Proofs.Ytcjobblhendkbaa.RNormal
open Go.ChangeShapes Go.WideShapes Go.ChangeAt Go.RowKit LexPure Bytes Ret PathPure RPlain Rows1 REsc REscapes Texts PathForm
set_option maxRecDepth 20000
def rest (s : ByteArray) (f : Nat) : List (List UInt8) := if f ≤ s.size then cuts ((toL s).drop f) else []
/-- behind k bytes of the path, the last slash ahead of f; G: what is kept, l: the last piece -/
structure NInv (w : World) (s : ByteArray) (k f : Nat) (v : Value) (G : List (List UInt8)) (l : List UInt8) (wr : World) : Prop where
  row : wr.ownsRow w.heap.size 9 1 v G.length (Texts.strs G)
  below : Below w.heap.size w wr
  all_ : keeps [] (cuts (toL s).tail) = keeps G (rest s f)
  le : f ≤ k
  pos : 1 ≤ f
  in_ : k ≤ s.size → f ≤ s.size
  out_ : s.size < k → s.size < f
  no : noSlash (((toL s).drop f).take (k - f)) = true
  few : G.length ≤ k
  last : s.size < f → (cuts (toL s).tail).getLastD [] = l
  pre : ∃ D, cuts (toL s).tail = D ++ rest s f
  short : ∀ e ∈ G, e.length ≤ s.size
theorem rest_end {s : ByteArray} {f : Nat} (hf : f ≤ s.size) (h : noSlash (((toL s).drop f).take (s.size - f)) = true) : rest s f = [((toL s).drop f).take (s.size - f)] := by
  unfold rest
  have e : ((toL s).drop f).take (s.size - f) = (toL s).drop f := List.take_of_length_le (by rw [List.length_drop, toL_length]; omega)
  rw [if_pos hf]
  rw [e] at h ⊢
  exact cuts_plain h
theorem rest_cut {s : ByteArray} {f k : Nat} (hf : f ≤ k) (hk : k < s.size) (h : noSlash (((toL s).drop f).take (k - f)) = true) (hc : s[k] = 47) : rest s f = ((toL s).drop f).take (k - f) :: rest s (k + 1) := by
  unfold rest
  rw [if_pos (by omega), if_pos (by omega)]
  have e : (toL s).drop f = ((toL s).drop f).take (k - f) ++ 47 :: (toL s).drop (k + 1) := by
    have h1 := List.take_append_drop (k - f) ((toL s).drop f)
    rw [List.drop_drop, show f + (k - f) = k by omega, toL_drop s k hk, hc] at h1
    exact h1.symm
  conv => lhs; rw [e]
  exact cuts_cut h
theorem rest_none {s : ByteArray} {f : Nat} (h : s.size < f) : rest s f = [] := by unfold rest; rw [if_neg (by omega)]
/-- one piece has been read: X; what follows begins at k + 1 -/
theorem NInv.step {w wr : World} {s : ByteArray} {k f : Nat} {v : Value} {G : List (List UInt8)} {l : List UInt8} (I : NInv w s k f v G l wr) (hk : k ≤ s.size) (hcut : k = s.size ∨ (∃ h : k < s.size, s[k] = 47)) :
    rest s f = ((toL s).drop f).take (k - f) :: rest s (k + 1) := by
  rcases hcut with h | ⟨h, hc⟩
  · subst h
    rw [rest_end (I.in_ hk) I.no, rest_none (by omega)]
  · exact rest_cut I.le h I.no hc
theorem NInv.next {w wr w' : World} {s : ByteArray} {k f : Nat} {v v' : Value} {G G' : List (List UInt8)} {l : List UInt8} (I : NInv w s k f v G l wr) (hk : k ≤ s.size) (hcut : k = s.size ∨ (∃ h : k < s.size, s[k] = 47))
    (hr : w'.ownsRow w.heap.size 9 1 v' G'.length (Texts.strs G')) (hb : Below w.heap.size w w') (hg : keeps G (((toL s).drop f).take (k - f) :: rest s (k + 1)) = keeps G' (rest s (k + 1))) (hl : G'.length ≤ G.length + 1) (hs : ∀ e ∈ G', e.length ≤ s.size) :
    NInv w s (k + 1) (k + 1) v' G' (((toL s).drop f).take (k - f)) w' := by
  have hst := I.step hk hcut
  obtain ⟨D, hD⟩ := I.pre
  refine ⟨hr, hb, by rw [I.all_, hst, hg], Nat.le_refl _, by omega, fun h => h, fun h => h, by rw [Nat.sub_self]; rfl, by have := I.few; omega, fun h => ?_, ⟨D ++ [((toL s).drop f).take (k - f)], by rw [hD, hst, List.append_assoc]; rfl⟩, hs⟩
  rw [hD, hst, rest_none h, List.getLastD_eq_getLast?, List.getLast?_append]
  rfl
set_option maxHeartbeats 4000000 in
theorem rnormal_any (s : ByteArray) (hs : s.size ≤ 1048576) (w : World) :
    Calls Try.prog 7 #[.string s] w fun e w' => e = .returned (.tuple #[.string (normS (toL s)), .int .i64 (normE (toL s))]) ∧ Below w.heap.size w w' := by
  obtain ⟨i0, hi, hz0, hz1, hz2⟩ := info_parts infoS
  have HE := Lib.hid (fun w => rescapes_any s (by omega) w)
  cases hesc : escapes (toL s) with
  | none =>
    have hn : normal (toL s) = none := by unfold normal; rw [hesc]
    rw [(norm_none hn).1, (norm_none hn).2]
    rw [hesc] at HE
    clear hn hesc
    go_enter Try.func7, Try.ntmps7
    go_wp2_with fail
    refine (HE.out _).mono ?_
    rintro e w1 ⟨rfl, hb1⟩
    go_wp2_with fail
    go_ret2
    exact ⟨rfl, hb1⟩
  | some u =>
    have hul : u.length ≤ s.size := by
      have := escapes_len hesc
      rwa [toL_length] at this
    have hu1 : 1 ≤ u.length := escapes_pos hesc
    have hn : normal (toL s) = (keeps [] (cuts u.tail)).map (fun kept => finish kept (cuts u.tail)) := by
      unfold normal
      rw [hesc]
      simp only
      cases keeps [] (cuts u.tail) <;> rfl
    rw [hesc] at HE
    have HNM := Lib.hid hn
    clear hn hesc
    obtain ⟨p, hp⟩ : ∃ p, p = ofL u := ⟨_, rfl⟩
    have hpu : toL p = u := by rw [hp, toL_ofL]
    have hps : p.size = u.length := by rw [hp, ofL_size]
    have hpl : p.size ≤ 1048576 := by omega
    have hp1 : 1 ≤ p.size := by omega
    rw [show (some u).getD [] = u from rfl, ← hp] at HE
    clear hul hu1 hps hp
    rw [← hpu] at HNM
    clear hpu
    go_enter Try.func7, Try.ntmps7
    go_wp2_with fail
    refine (HE.out _).mono ?_
    rintro e w1 ⟨rfl, hb1⟩
    go_wp2_with fail
    have I0 : Hid (∃ G, NInv w p 1 1 (.slice none 0 0) G [] w1) := Lib.hid ⟨[], World.ownsRow_nil _ _ _ _, hb1, by unfold rest; rw [if_pos hp1, List.drop_one], Nat.le_refl _, Nat.le_refl _, fun _ => hp1, fun h => h, by rw [Nat.sub_self]; rfl, Nat.zero_le _, fun h => by omega, ⟨[], by unfold rest; rw [if_pos hp1, List.drop_one]; rfl⟩, fun e he => by simp at he⟩
    clear hb1 HE hs
    go_loopw [6, 7, 8, 9] (fun kv lv fv i wr => ∃ k : Nat, k ≤ p.size + 1 ∧ i = .int .i64 k ∧ ∃ f : Nat, fv = .int .i64 f ∧ ∃ l : List UInt8, lv = .string (ofL l) ∧ Hid (∃ G, NInv w p k f kv G l wr)) (fun _ _ _ i _ => p.size + 1 - (intOf i).toNat)
    case atStart => exact ⟨1, by omega, rfl, 1, rfl, [], rfl, I0⟩
    case round =>
      obtain ⟨k, hk, rfl, f, rfl, l, rfl, HI⟩ := hrel
      obtain ⟨G, I⟩ := HI.out
      clear HI I0
      have hfk := I.le
      have hbs := I.below.size
      by_cases hle : k ≤ p.size
      · have hki : (k : Int) ≤ (p.size : Int) := by omega
        have hfs := I.in_ hle
        by_cases hcut : k = p.size ∨ (∃ h : k < p.size, p[k] = 47)
        · have hfi : (f : Int) ≤ (k : Int) := by omega
          have hx : (¬ (k : Int) < (p.size : Int)) ∨ (∃ h : k < p.size, (k : Int) < (p.size : Int) ∧ ((p[k].toNat : Int) != 47) = false) := by
            rcases hcut with h | ⟨h, hc⟩
            · exact .inl (by omega)
            · exact .inr ⟨h, by omega, by rw [hc]; rfl⟩
          have hXE : p.extract f k = ofL (((toL p).drop f).take (k - f)) := by
            refine toL_inj ?_
            rw [toL_extract, toL_ofL, List.drop_take]
          have HX := Lib.hid hXE
          have HST := Lib.hid (I.step hle hcut)
          have HN := Lib.hid (fun G' v' w' => I.next (G' := G') (v' := v') (w' := w') hle hcut)
          have hXl : (((toL p).drop f).take (k - f)).length ≤ p.size := by rw [List.length_take, List.length_drop, toL_length]; omega
          generalize ((toL p).drop f).take (k - f) = X at *
          have hET : (p.extract f k).toList = X := by rw [ByteArray.toList_eq, HX.out]; exact toL_ofL X
          obtain ⟨pp, cap, rfl, hcap, _⟩ := row_cells I.row
          have hrow := I.row
          have hbw := I.below
          have hfew := I.few
          have HS := Lib.hid I.short
          have HALL := Lib.hid I.all_
          clear I hcut hXE
          by_cases hdot : isDot X = true
          · have hk2 : keeps G (X :: rest p (k + 1)) = keeps G (rest p (k + 1)) := by rw [keeps, if_pos hdot]
            have HR : Hid (∃ G', NInv w p (k + 1) (k + 1) (.slice pp G.length cap) G' X wr) := Lib.hid ⟨G, HN.out G _ wr hrow hbw hk2 (by omega) HS.out⟩
            have hd : X = [] ∨ X = [46] := by
              unfold isDot at hdot
              rw [Bool.or_eq_true, List.isEmpty_iff, beq_iff_eq] at hdot
              exact hdot
            clear HN HS HALL HST hk2 hrow hbw hdot
            rcases hd with rfl | rfl
            all_goals
              rcases hx with hq | ⟨hlt, hq, hc⟩
              all_goals
                go_wp2_with fail
                go_roundw
                case rel => exact ⟨k + 1, by omega, by go_num, k + 1, by go_num, _, by rw [HX.out], HR⟩
                case measure => simp [intOf]; omega
          · have hdot : isDot X = false := by simpa using hdot
            by_cases hup : isUp X = true
            · have hX2 : X = [46, 46] := by
                unfold isUp at hup
                rwa [beq_iff_eq] at hup
              by_cases hG : G = []
              · have hnone : keeps [] (cuts (toL p).tail) = none := by
                  rw [HALL.out, HST.out, keeps_up hdot hup, hG]
                  rfl
                have hgl : ((G.length : Int) == 0) = true := by rw [hG]; rfl
                rw [hX2] at hET
                have HNONE := Lib.hid (norm_none (by rw [HNM.out, hnone]; rfl))
                clear HN HS HALL HST hrow hdot hup hnone
                rcases hx with hq | ⟨hlt, hq, hc⟩
                all_goals
                  go_wp2_with fail
                  go_ret2
                  rw [HNONE.out.1, HNONE.out.2]
                  exact ⟨rfl, hbw⟩
              · have hgl : ((G.length : Int) == 0) = false := beq_eq_false_iff_ne.2 (fun h => hG (List.length_eq_zero_iff.1 (by omega)))
                have hg0 : 1 ≤ G.length := by
                  cases G with
                  | nil => exact absurd rfl hG
                  | cons => simp
                have hk2 : keeps G (X :: rest p (k + 1)) = keeps G.dropLast (rest p (k + 1)) := by
                  rw [keeps_up hdot hup, if_neg (by simpa using hG)]
                have hcutr := row_cut hrow (m := G.length - 1) (by omega)
                have hstr : (Texts.strs G).take (G.length - 1) = Texts.strs G.dropLast := by
                  unfold Texts.strs
                  rw [← List.map_take, List.dropLast_eq_take]
                rw [hstr] at hcutr
                have HR : Hid (∃ G', NInv w p (k + 1) (k + 1) (.slice pp (G.length - 1) cap) G' X wr) := Lib.hid ⟨G.dropLast, HN.out _ _ wr (by rw [List.length_dropLast]; exact hcutr) hbw hk2 (by rw [List.length_dropLast]; omega) (fun e he => HS.out e ((List.dropLast_sublist G).subset he))⟩
                rw [hX2] at hET
                clear HN HS HALL HST hrow hdot hup hk2 hcutr hstr hbw hG
                rcases hx with hq | ⟨hlt, hq, hc⟩
                all_goals
                  go_wp2_with fail
                  go_roundw
                  case rel => exact ⟨k + 1, by omega, by go_num, k + 1, by go_num, X, by rw [HX.out], HR⟩
                  case measure => simp [intOf]; omega
            · have hup : isUp X = false := by simpa using hup
              have hk2 : keeps G (X :: rest p (k + 1)) = keeps (G ++ [X]) (rest p (k + 1)) := keeps_in hdot hup
              have hd : (p.extract f k).toList.isEmpty = false ∧ ((p.extract f k).toList == [46]) = false := by
                rw [hET]
                unfold isDot at hdot
                rw [Bool.or_eq_false_iff] at hdot
                exact hdot
              have hu : ((p.extract f k).toList == [46, 46]) = false := by
                rw [hET]
                exact hup
              have hne : ¬ (p.extract f k).toList = [] := fun h => by rw [h] at hd; exact absurd hd.1 (by decide)
              have HNF : Hid (∀ v' w', w'.ownsRow w.heap.size 9 1 v' (G.length + 1) (Texts.strs G ++ [.string (ofL X)]) → Below w.heap.size w w' → Hid (∃ G', NInv w p (k + 1) (k + 1) v' G' X w')) := Lib.hid (fun v' w' h1 h2 => Lib.hid ⟨G ++ [X], HN.out _ v' w' (by rw [List.length_append, Texts.strs_append]; exact h1) h2 hk2 (by rw [List.length_append]; simp) (fun e he => by
                rw [List.mem_append, List.mem_singleton] at he
                rcases he with he | rfl
                · exact HS.out e he
                · exact hXl)⟩)
              obtain ⟨hd1, hd2⟩ := hd
              clear HN HS HALL HST hdot hup hk2 hET
              rcases hx with hq | ⟨hlt, hq, hc⟩
              all_goals
                go_wp2_with (at_builtin; refine wpList_append_own _ rfl _ _ 44 rfl w.heap.size 9 i0 (.string ByteArray.empty) 1 16 Try.underlying44 hi hz0 hz1 hz2 rfl (by decide) _ _ _ rfl (hrow.alloc _) ⟨wr.heap.size, 0, none⟩ 1 1 [.string (p.extract f k)] rfl rfl (cell_one_new _ _ _) (fun x hx => by simp at hx; subst hx; rfl) (by unfold maxLen; omega) (by omega) (by simp; omega) ?_; intro v' w3 hown' hgrow3 hnil3)
                have HR := HNF.out v' w3 (by have h := hown'; rw [HX.out] at h; exact h) (Below.grown (hbw.alloc hbw.size _) hgrow3 (by simp; omega) (fun j hj => (hrow.lt _ hj).1))
                clear hown' hgrow3 hnil3 HNF hrow hbw
                go_wp2_with fail
                go_roundw
                case rel => exact ⟨k + 1, by omega, by go_num, k + 1, by go_num, X, by rw [HX.out], HR⟩
                case measure => simp [intOf]; omega
        · have hlt : k < p.size := by
            rcases Nat.lt_or_ge k p.size with h | h
            · exact h
            · exact absurd (.inl (by omega)) hcut
          have hki2 : (k : Int) < (p.size : Int) := by omega
          have h47 : ¬ p[k] = 47 := fun h => hcut (.inr ⟨hlt, h⟩)
          have hq := slash_ne h47
          have HR : Hid (∃ G, NInv w p (k + 1) f u6 G l wr) := Lib.hid ⟨G, I.row, I.below, I.all_, by omega, I.pos, fun _ => hfs, fun h => by omega, by
            rw [show k + 1 - f = k - f + 1 by omega, List.take_add_one, List.getElem?_drop, show f + (k - f) = k by omega, toL_get p k hlt]
            have := I.no
            unfold noSlash at *
            rw [List.all_append, this]
            simp [bne, h47], by have := I.few; omega, I.last, I.pre, I.short⟩
          clear I hcut h47
          go_wp2_with fail
          go_roundw
          case rel => exact ⟨k + 1, by omega, by go_num, f, rfl, l, rfl, HR⟩
          case measure => simp [intOf]; omega
      · have hkeep : keeps [] (cuts (toL p).tail) = some G := by
          rw [I.all_, rest_none (I.out_ (by omega))]
          rfl
        have hlast := I.last (I.out_ (by omega))
        have hki : ¬ (k : Int) ≤ (p.size : Int) := by omega
        have HV := Lib.hid (norm_some (by rw [HNM.out, hkeep]; rfl))
        have hfin : endsOpen (cuts (toL p).tail) = (isDot l || isUp l) := by unfold endsOpen; rw [hlast]
        have HFN : Hid (finish G (cuts (toL p).tail) = if G.isEmpty || (isDot l || isUp l) then join G ++ [47] else join G) := Lib.hid (by unfold finish; rw [hfin])
        have HSH := Lib.hid I.short
        have hfew := I.few
        have HT := Lib.hid (texts_of I.row)
        have hb0 := I.below
        obtain ⟨pp, cap, rfl, _, _⟩ := row_cells I.row
        have J0 : Hid (Texts wr (.slice pp G.length cap) G) := HT
        clear hkeep hlast hfin HNM I
        go_wp2_with fail
        go_loopw [10, 11] (fun ov i w2 => ∃ j : Nat, j ≤ G.length ∧ i = .int .i64 j ∧ ov = .string (ofL (join (G.take j))) ∧ Hid (∃ m, w2 = wr.drewN m)) (fun _ i _ => G.length - (intOf i).toNat)
        case atStart => exact ⟨0, Nat.zero_le _, rfl, rfl, Lib.hid ⟨0, rfl⟩⟩
        case round =>
          obtain ⟨j, hj, rfl, rfl, hw⟩ := hrel
          obtain ⟨m, rfl⟩ := hw.out
          have hJl : (ofL (join (G.take j))).size ≤ 1099513724929 := by
            rw [ofL_size]
            have h1 := join_len (n := 1048576) (G := G.take j) (fun e he => by have := HSH.out e (List.mem_of_mem_take he); omega)
            have h2 : (G.take j).length * (1048576 + 1) ≤ 1048577 * (1048576 + 1) := Nat.mul_le_mul_right _ (by rw [List.length_take]; omega)
            omega
          by_cases hlt : j < G.length
          · have hji : (j : Int) < (G.length : Int) := by omega
            obtain ⟨p', cap', hv, _, hc⟩ := HT.out
            injection hv with hv1 hv2 hv3
            subst hv1
            subst hv3
            obtain ⟨g, o, rfl, hg, hcell⟩ := hc (by omega)
            have cx := hcell j hlt
            have hEl : (ofL G[j]).size ≤ 1048576 := by
              rw [ofL_size]
              have := HSH.out G[j] (List.getElem_mem hlt)
              omega
            have HJ : Hid ((ofL (join (G.take j)) ++ ⟨#[47]⟩) ++ ofL G[j] = ofL (join (G.take (j + 1)))) := Lib.hid (by
              rw [List.take_add_one, List.getElem?_eq_getElem hlt]
              show _ = ofL (join (G.take j ++ [G[j]]))
              rw [join_snoc]
              refine toL_inj ?_
              rw [toL_append, toL_append, toL_ofL, toL_ofL, toL_ofL]
              show (join (G.take j) ++ [47]) ++ G[j] = _
              simp)
            clear hc hcell
            generalize ofL G[j] = E at *
            generalize ofL (join (G.take j)) = F at *
            go_wp2_with fail
            go_roundw
            case rel => exact ⟨j + 1, by omega, by go_num, by rw [HJ.out], Lib.hid ⟨m, rfl⟩⟩
            case measure => simp [intOf]; omega
          · have hz : join (G.take j) = join G := by rw [List.take_of_length_le (by omega)]
            rw [hz] at hJl ⊢
            have hF : (ofL (join G)).toList.isEmpty = G.isEmpty := by
              rw [ByteArray.toList_eq, show (ofL (join G)).data.toList = join G from toL_ofL _, join_nil]
            have hL : (ofL l).toList = l := by
              rw [ByteArray.toList_eq]
              exact toL_ofL l
            have HJ : Hid (ofL (join G) ++ ⟨#[47]⟩ = ofL (join G ++ [47])) := Lib.hid (by
              refine toL_inj ?_
              rw [toL_append, toL_ofL, toL_ofL])
            have hbm : Below w.heap.size w (wr.drewN m) := ⟨hb0.os, hb0.tape, hb0.output, hb0.size, hb0.block⟩
            clear hz HT J0 hb0 hw
            generalize (wr.drewN m) = w5 at *
            by_cases hG : G.isEmpty = true
            · have hFe : (ofL (join G)).toList = [] := by rw [hG] at hF; exact List.isEmpty_iff.1 hF
              have HO : Hid (finish G (cuts (toL p).tail) = join G ++ [47]) := Lib.hid (by rw [HFN.out, hG]; rfl)
              clear HFN hF hG HSH
              generalize ofL (join G) = F at *
              generalize ofL l = L at *
              go_wp2_with fail
              all_goals
                go_ret2
                rw [HV.out.1, HV.out.2, HO.out, HJ.out]
                exact ⟨rfl, hbm⟩
            · have hG : G.isEmpty = false := by simpa using hG
              rw [hG] at hF
              have hFe : ¬ (ofL (join G)).toList = [] := fun h => by rw [h] at hF; exact absurd hF (by decide)
              by_cases hl1 : l = [] ∨ l = [46] ∨ l = [46, 46]
              · have HO : Hid (finish G (cuts (toL p).tail) = join G ++ [47]) := Lib.hid (by
                  rw [HFN.out]
                  rcases hl1 with h | h | h <;> subst h <;> simp [isDot, isUp])
                clear HFN hG HSH
                generalize ofL (join G) = F at *
                rcases hl1 with h | h | h
                · have t2 : (ofL l).toList.isEmpty = true := by rw [hL, h]; rfl
                  have t3 : ((ofL l).toList == [46]) = false := by rw [hL, h]; rfl
                  have t4 : ((ofL l).toList == [46, 46]) = false := by rw [hL, h]; rfl
                  have t5 :  (ofL l).toList = [] := by rw [hL, h]; try rfl
                  clear h hL
                  generalize ofL l = L at *
                  go_wp2_with fail
                  go_ret2
                  rw [HV.out.1, HV.out.2, HO.out, HJ.out]
                  exact ⟨rfl, hbm⟩
                · have t2 : (ofL l).toList.isEmpty = false := by rw [hL, h]; rfl
                  have t3 : ((ofL l).toList == [46]) = true := by rw [hL, h]; rfl
                  have t4 : ((ofL l).toList == [46, 46]) = false := by rw [hL, h]; rfl
                  have t5 : ¬ (ofL l).toList = [] := by rw [hL, h]; decide
                  clear h hL
                  generalize ofL l = L at *
                  go_wp2_with fail
                  go_ret2
                  rw [HV.out.1, HV.out.2, HO.out, HJ.out]
                  exact ⟨rfl, hbm⟩
                · have t2 : (ofL l).toList.isEmpty = false := by rw [hL, h]; rfl
                  have t3 : ((ofL l).toList == [46]) = false := by rw [hL, h]; rfl
                  have t4 : ((ofL l).toList == [46, 46]) = true := by rw [hL, h]; rfl
                  have t5 : ¬ (ofL l).toList = [] := by rw [hL, h]; decide
                  clear h hL
                  generalize ofL l = L at *
                  go_wp2_with fail
                  go_ret2
                  rw [HV.out.1, HV.out.2, HO.out, HJ.out]
                  exact ⟨rfl, hbm⟩
              · have h1 : (ofL l).toList.isEmpty = false := by
                  rw [hL]
                  cases l with
                  | nil => exact absurd (.inl rfl) hl1
                  | cons => rfl
                have h1' : ¬ (ofL l).toList = [] := fun h => by rw [h] at h1; exact absurd h1 (by decide)
                have h2 : ((ofL l).toList == [46]) = false := by rw [hL, beq_eq_false_iff_ne]; exact fun h => hl1 (.inr (.inl h))
                have h3 : ((ofL l).toList == [46, 46]) = false := by rw [hL, beq_eq_false_iff_ne]; exact fun h => hl1 (.inr (.inr h))
                have HO : Hid (ofL (finish G (cuts (toL p).tail)) = ofL (join G)) := Lib.hid (by
                  rw [HFN.out, hG]
                  rw [hL] at h1 h2 h3
                  unfold isDot isUp
                  rw [h1, h2, h3]
                  rfl)
                clear HFN hG HSH hL hl1
                generalize ofL (join G) = F at *
                generalize ofL l = L at *
                go_wp2_with fail
                go_ret2
                rw [HV.out.1, HV.out.2, HO.out]
                exact ⟨rfl, hbm⟩
end Go.Proofs.Ytcjobblhendkbaa.RNormal

/- Layer 14, the document's own in, Token, Text, Normal. -/
namespace Go.Proofs.Ytcjobblhendkbaa.R14In
open Go.ChangeShapes Go.WideShapes Go.ChangeAt Go.RowKit Bytes LexPure ConfPure Ret RNormal
set_option maxRecDepth 100000
set_option linter.unusedSimpArgs false
set_option linter.unusedVariables false
theorem rin_any (n a b : Int) (w : World) :
    Calls Try.prog 29 #[.int .i64 n, .int .i64 a, .int .i64 b] w fun e w' => e = .returned (.bool (inB n a b)) ∧ w = w' := by
  unfold inB
  by_cases h1 : a ≤ n
  · by_cases h2 : n ≤ b
    · rw [decide_eq_true h1, decide_eq_true h2]
      go_enter Try.func29, Try.ntmps29
      go_wp2_with fail
      go_ret
      exact ⟨rfl, rfl⟩
    · rw [decide_eq_true h1, decide_eq_false h2]
      go_enter Try.func29, Try.ntmps29
      go_wp2_with fail
      go_ret
      exact ⟨rfl, rfl⟩
  · rw [decide_eq_false h1]
    go_enter Try.func29, Try.ntmps29
    go_wp2_with fail
    go_ret
    exact ⟨rfl, rfl⟩
theorem rtok_any (s : ByteArray) (hs : s.size ≤ 1048576) (m : Nat) (hm : m ≤ 1000) (w : World) :
    Calls Try.prog 15 #[.string s, .int .i64 m] w fun e w' => e = .returned (.bool (tokenB (toL s) m)) ∧ w = w' := by
  have HT := Lib.hid (RToken.rtoken_any s (by unfold maxLen; omega) w)
  unfold tokenB
  rw [toL_length]
  generalize token (toL s) = t at HT ⊢
  by_cases h2 : s.size ≤ m
  · have h3 : decide ((s.size : Int) ≤ (m : Int)) = true := decide_eq_true (by omega)
    have h4 : decide (s.size ≤ m) = true := decide_eq_true h2
    rw [h4]
    clear hs h2 hm
    go_enter Try.func15, Try.ntmps15
    go_wp2_with fail
    refine HT.out.mono ?_
    rintro e w1 ⟨rfl, rfl⟩
    cases t with
    | false =>
      go_wp2_with fail
      go_ret
      exact ⟨rfl, rfl⟩
    | true =>
      go_wp2_with fail
      go_ret
      exact ⟨rfl, rfl⟩
  · have h3 : decide ((s.size : Int) ≤ (m : Int)) = false := decide_eq_false (by omega)
    have h4 : decide (s.size ≤ m) = false := decide_eq_false h2
    rw [h4]
    clear hs h2 hm
    go_enter Try.func15, Try.ntmps15
    go_wp2_with fail
    refine HT.out.mono ?_
    rintro e w1 ⟨rfl, rfl⟩
    cases t with
    | false =>
      go_wp2_with fail
      go_ret
      exact ⟨rfl, rfl⟩
    | true =>
      go_wp2_with fail
      go_ret
      exact ⟨rfl, rfl⟩
theorem rtext_any (s : ByteArray) (hs : s.size ≤ 1048576) (w : World) :
    Calls Try.prog 31 #[.string s] w fun e w' => e = .returned (.bool (textB (toL s))) ∧ w = w' := by
  have HT := Lib.hid (RValue.rvalue_any s (by unfold maxLen; omega) w)
  unfold textB
  rw [toL_length]
  generalize LexPure.value (toL s) = t at HT ⊢
  by_cases h2 : s.size ≤ 256
  · have h3 : decide ((s.size : Int) ≤ (256 : Int)) = true := decide_eq_true (by omega)
    have h4 : decide (s.size ≤ 256) = true := decide_eq_true h2
    rw [h4]
    clear hs h2
    go_enter Try.func31, Try.ntmps31
    go_wp2_with fail
    refine HT.out.mono ?_
    rintro e w1 ⟨rfl, rfl⟩
    cases t with
    | false =>
      go_wp2_with fail
      go_ret
      exact ⟨rfl, rfl⟩
    | true =>
      go_wp2_with fail
      go_ret
      exact ⟨rfl, rfl⟩
  · have h3 : decide ((s.size : Int) ≤ (256 : Int)) = false := decide_eq_false (by omega)
    have h4 : decide (s.size ≤ 256) = false := decide_eq_false h2
    rw [h4]
    clear hs h2
    go_enter Try.func31, Try.ntmps31
    go_wp2_with fail
    refine HT.out.mono ?_
    rintro e w1 ⟨rfl, rfl⟩
    cases t with
    | false =>
      go_wp2_with fail
      go_ret
      exact ⟨rfl, rfl⟩
    | true =>
      go_wp2_with fail
      go_ret
      exact ⟨rfl, rfl⟩
theorem rnorm_any (s : ByteArray) (hs : s.size ≤ 1048576) (w : World) :
    Calls Try.prog 50 #[.string s] w fun e w' => e = .returned (.bool (normalB (toL s))) ∧ Below w.heap.size w w' := by
  have HN := Lib.hid (RNormal.rnormal_any s hs w)
  unfold normalB
  cases hn : PathPure.normal (toL s) with
  | none =>
    obtain ⟨e1, e2⟩ := norm_none hn
    rw [e1, e2] at HN
    clear hs hn e1 e2
    go_enter Try.func50, Try.ntmps50
    go_wp2_with fail
    refine HN.out.mono ?_
    rintro e w1 ⟨rfl, hb⟩
    go_wp2_with fail
    go_ret
    exact ⟨rfl, hb⟩
  | some t =>
    obtain ⟨e1, e2⟩ := norm_some hn
    rw [e1, e2] at HN
    have hq : ((ofL t).toList == s.toList) = (some t == some (toL s)) := by
      rw [ByteArray.toList_eq, ByteArray.toList_eq]
      show (toL (ofL t) == toL s) = (t == toL s)
      rw [toL_ofL]
    obtain ⟨b, hb2⟩ : ∃ b, b = (some t == some (toL s)) := ⟨_, rfl⟩
    rw [← hb2] at hq ⊢
    clear hs hn e1 e2 hb2
    go_enter Try.func50, Try.ntmps50
    go_wp2_with fail
    refine HN.out.mono ?_
    rintro e w1 ⟨rfl, hb⟩
    go_wp2_with fail
    go_ret
    exact ⟨rfl, hb⟩
end Go.Proofs.Ytcjobblhendkbaa.R14In

/- Layer 14, the document's own Name. -/
namespace Go.Proofs.Ytcjobblhendkbaa.R14Name
open Go.ChangeShapes Go.WideShapes Go.ChangeAt Go.RowKit Bytes LexPure ConfPure Ret Mem R14In
set_option maxRecDepth 100000
set_option linter.unusedVariables false
def ownCs : Array Value := (owns.map (fun l => Value.string (ofL l))).toArray
theorem below_drew {B : Nat} {w wr : World} (h : Below B w wr) : Below B w wr.drew := ⟨h.os, h.tape, h.output, h.size, h.block⟩
theorem text_eq (a b : L) : ((ofL a).toList == (ofL b).toList) = (a == b) := by
  rw [ByteArray.toList_eq, ByteArray.toList_eq]
  show (toL (ofL a) == toL (ofL b)) = _
  rw [toL_ofL, toL_ofL]
def NotYet (x : L) (k : Nat) : Prop := ∀ j (h : j < owns.length), j < k → (x == owns[j]) = false
theorem NotYet.all {x : L} (h : NotYet x 12) : owns.contains x = false := by
  rw [List.contains_eq_any_beq, List.any_eq_false]
  intro y hy
  obtain ⟨j, hj, rfl⟩ := List.getElem_of_mem hy
  have := h j hj (by have : owns.length = 12 := rfl; omega)
  simpa using this
set_option maxHeartbeats 1600000 in
theorem rname_any (s : ByteArray) (hs : s.size ≤ 1048576) (w : World) :
    Calls Try.prog 30 #[.string s] w fun e w' => e = .returned (.bool (nameB (toL s))) ∧ Below w.heap.size w w' := by
  have HL := Lib.hid (fun w => RLower.rlower_any s (by omega) w)
  have HT := Lib.hid (fun w => rtok_any s hs 32 (by decide) w)
  obtain ⟨x, hx⟩ : ∃ x, x = lower (toL s) := ⟨_, rfl⟩
  rw [← hx] at HL
  have HX := Lib.hid hx
  have HO : Hid (Has (w.alloc (.cells ownCs 74)) w.heap.size 74 ownCs) := Lib.hid (Has.new w _ _)
  have HB := Lib.hid ((Below.refl w.heap.size w).alloc (Nat.le_refl _) (.cells ownCs 74))
  clear hs hx
  go_enter Try.func30, Try.ntmps30
  go_wp2_with fail
  go_loopw [4] (fun i wr => ∃ k : Nat, k ≤ 12 ∧ i = .int .i64 k ∧ Hid (NotYet x k ∧ Has wr w.heap.size 74 ownCs ∧ Below w.heap.size w wr)) (fun i _ => 12 - (intOf i).toNat)
  case atStart => exact ⟨0, Nat.zero_le _, rfl, Lib.hid ⟨fun j _ h => absurd h (by omega), HO.out, HB.out⟩⟩
  case round =>
    obtain ⟨k, hk, rfl, HJ⟩ := hrel
    clear HO HB
    by_cases hlt : k < 12
    · have hki : (k : Int) < 12 := by omega
      have hk0 : (0 : Int) ≤ (k : Int) := by omega
      have hlen : k < owns.length := hlt
      obtain ⟨y, hy⟩ : ∃ y, y = owns[k] := ⟨_, rfl⟩
      have hcell : ∀ W, Has W w.heap.size 74 ownCs → W.cell? ⟨w.heap.size, k, none⟩ = some (.string (ofL y)) := fun W hW => by
        rw [hW.cell k, hy]
        unfold ownCs
        simp [List.getElem?_eq_getElem hlen]
      have HCell := Lib.hid hcell
      have te := text_eq x y
      obtain ⟨b, hb⟩ : ∃ b, b = (x == y) := ⟨_, rfl⟩
      rw [← hb] at te
      have HY := Lib.hid (And.intro hb hy)
      have HDr : Hid (Has wr.drew w.heap.size 74 ownCs) := Lib.hid HJ.out.2.1.drew
      have c1 := HCell.out _ HDr.out
      clear hcell hb hy
      go_wp2_with fail
      go_region_held3 (fun w' => w'.cell? ⟨w.heap.size, k, none⟩ = some (.string (ofL y))) (first | exact c2 | exact c1)
        (first
          | (go_at_call 44; refine (HL.out _).mono ?_; rintro e w5 ⟨rfl, hb5⟩
             have H5 := HDr.out.below hb5 HDr.out.lt
             have c2 := HCell.out _ H5))
      have HB5 := Lib.hid (below_chain (below_drew HJ.out.2.2) hb5)
      have HH5 := Lib.hid H5
      cases b with
      | true =>
        have HV : Hid (nameB (toL s) = false) := Lib.hid (by
          obtain ⟨e1, e2⟩ := HY.out
          unfold nameB
          rw [← HX.out]
          have : owns.contains x = true := by
            rw [List.contains_eq_any_beq, List.any_eq_true]
            exact ⟨owns[k], List.getElem_mem _, by rw [← e2]; exact e1.symm⟩
          rw [this]
          rfl)
        clear hb5 H5 c1 c2 HJ HDr
        go_wp2_with fail
        go_ret
        exact ⟨ret_bool HV.out.symm, HB5.out⟩
      | false =>
        have HK : Hid (NotYet x (k + 1) ∧ Has w5 w.heap.size 74 ownCs ∧ Below w.heap.size w w5) := Lib.hid ⟨fun j hj hjk => by
          rcases Nat.lt_or_ge j k with h | h
          · exact HJ.out.1 j hj h
          · obtain rfl : j = k := by omega
            obtain ⟨e1, e2⟩ := HY.out
            rw [← e2]
            exact e1.symm, H5, HB5.out⟩
        clear hb5 H5 c1 c2 HJ HDr HB5 HH5
        go_wp2_with fail
        go_roundw
        case rel => exact ⟨k + 1, by omega, by go_num, HK⟩
        case measure => simp [intOf]; omega
    · have hk12 : k = 12 := by omega
      subst hk12
      have HV : Hid (nameB (toL s) = tokenB (toL s) 32) := Lib.hid (by
        unfold nameB
        rw [← HX.out, HJ.out.1.all]
        rfl)
      have HB := Lib.hid HJ.out.2.2
      clear HJ hlt HL
      go_wp2_with fail
      refine (HT.out _).mono ?_
      rintro e w5 ⟨rfl, rfl⟩
      rw [← HV.out]
      go_wp2_with fail
      go_ret
      exact ⟨rfl, HB.out⟩
end Go.Proofs.Ytcjobblhendkbaa.R14Name

/- Layer 6, the document's own alnum, Host. -/
namespace Go.Proofs.Ytcjobblhendkbaa.RHost
open Go.ChangeShapes Go.WideShapes Go.ChangeAt Go.RowKit LexPure Bytes Ret HostPure RHostPure
set_option maxRecDepth 20000
theorem ral_cases (b : UInt8) : ral b = decide ((97 ≤ (b.toNat : Int) ∧ (b.toNat : Int) ≤ 122) ∨ (48 ≤ (b.toNat : Int) ∧ (b.toNat : Int) ≤ 57)) := by
  have := all_bytes (p := fun b => ral b == decide ((97 ≤ (b.toNat : Int) ∧ (b.toNat : Int) ≤ 122) ∨ (48 ≤ (b.toNat : Int) ∧ (b.toNat : Int) ≤ 57))) (by decide +kernel) b
  simpa only [beq_iff_eq] using this
theorem ralnum_any (b : UInt8) (w : World) :
    Calls Try.prog 58 #[.int .u8 (b.toNat : Int)] w fun e w' => e = .returned (.bool (ral b)) ∧ w = w' := by
  rw [ral_cases]
  generalize (b.toNat : Int) = c
  go_enter Try.func58, Try.ntmps58
  go_wp2_with fail
  all_goals
    go_ret
    refine ⟨ret_bool ?_, rfl⟩
  all_goals first
    | rfl
    | exact Eq.symm (decide_eq_true (by omega))
    | exact Eq.symm (decide_eq_false (by omega))
    | (rw [Bool.eq_iff_iff]; simp only [Bool.or_eq_true, Bool.and_eq_true, decide_eq_true_eq]; omega)
    | (rw [Bool.eq_iff_iff]; simp only [Bool.or_eq_true, Bool.and_eq_true, decide_eq_true_eq, Bool.false_eq_true, false_iff]; omega)
    | trace_state
theorem mark_cases (b : UInt8) : (b = 45 ∧ ((b.toNat : Int) != 45) = false ∧ ((b.toNat : Int) == 46) = false ∧ ((b.toNat : Int) != 46) = true) ∨ (b = 46 ∧ ((b.toNat : Int) != 45) = true ∧ ((b.toNat : Int) == 46) = true ∧ ((b.toNat : Int) != 46) = false) ∨ (b ≠ 45 ∧ b ≠ 46 ∧ ((b.toNat : Int) != 45) = true ∧ ((b.toNat : Int) == 46) = false ∧ ((b.toNat : Int) != 46) = true) := by
  have := all_bytes (p := fun b => decide ((b = 45 ∧ ((b.toNat : Int) != 45) = false ∧ ((b.toNat : Int) == 46) = false ∧ ((b.toNat : Int) != 46) = true) ∨ (b = 46 ∧ ((b.toNat : Int) != 45) = true ∧ ((b.toNat : Int) == 46) = true ∧ ((b.toNat : Int) != 46) = false) ∨ (b ≠ 45 ∧ b ≠ 46 ∧ ((b.toNat : Int) != 45) = true ∧ ((b.toNat : Int) == 46) = false ∧ ((b.toNat : Int) != 46) = true))) (by decide +kernel) b
  exact of_decide_eq_true this
set_option maxHeartbeats 1600000 in
theorem rhost_any (s : ByteArray) (hs : s.size ≤ 140737488351232) (w : World) :
    Calls Try.prog 49 #[.string s] w fun e w' => e = .returned (.bool (rhost (toL s))) ∧ w = w' := by
  by_cases hlen : 1 ≤ s.size ∧ s.size ≤ 64
  rotate_left
  · have hv : rhost (toL s) = false := by
      cases h : rhost (toL s) with
      | false => rfl
      | true =>
        have := (rhost_iff _).1 h
        rw [toL_length] at this
        exact absurd ⟨this.1, this.2.1⟩ hlen
    rw [hv]
    rcases (show (s.size : Int) < 1 ∨ (1 ≤ (s.size : Int) ∧ 64 < (s.size : Int)) by omega) with h | ⟨h, h2⟩
    all_goals
      clear hv hlen
      go_enter Try.func49, Try.ntmps49
      go_wp2_with fail
      go_ret
      exact ⟨rfl, rfl⟩
  obtain ⟨hl1, hl2⟩ := hlen
  have i1 : ¬ (s.size : Int) < 1 := by omega
  have i2 : ¬ 64 < (s.size : Int) := by omega
  go_enter Try.func49, Try.ntmps49
  go_wp2_with fail
  go_loop [3] (fun i => ∃ k : Nat, k ≤ s.size ∧ i = .int .i64 k ∧ Hid (∀ j, j < k → RHostPure.Good (toL s) j)) (fun i => s.size - (intOf i).toNat)
  case atStart => exact ⟨0, Nat.zero_le _, rfl, Lib.hid (fun j hj => by omega)⟩
  case round =>
    obtain ⟨k, hk, rfl, ha⟩ := hrel
    by_cases hlt : k < s.size
    · have hki : (k : Int) < (s.size : Int) := by omega
      have HG := Lib.hid (toL_get s k hlt)
      have HC := Lib.hid (fun w => ralnum_any s[k] w)
      have HN : RHostPure.Good (toL s) k → Hid (∀ j, j < k + 1 → RHostPure.Good (toL s) j) := fun hg => Lib.hid (fun j hj => by
        rcases Nat.lt_or_ge j k with h | h
        · exact ha.out j h
        · obtain rfl : j = k := by omega
          exact hg)
      have HF : ¬ RHostPure.Good (toL s) k → Hid (rhost (toL s) = false) := fun hg => Lib.hid (rhost_not (by rw [toL_length]; exact hlt) hg)
      have hpos : (k = 0 ∧ Hid (k = 0) ∧ ((k : Int) == 0) = true) ∨ (Hid (k ≠ 0 ∧ k + 1 = s.size) ∧ ((k : Int) == 0) = false ∧ ∃ eb : Bool, Hid (eb = true) ∧ ((k : Int) == (s.size : Int) - 1) = eb) ∨ (Hid (k ≠ 0 ∧ k + 1 ≠ s.size) ∧ ((k : Int) == 0) = false ∧ ((k : Int) == (s.size : Int) - 1) = false) := by
        by_cases h0 : k = 0
        · exact .inl ⟨h0, Lib.hid h0, by rw [h0]; rfl⟩
        · have e0 : ((k : Int) == 0) = false := beq_eq_false_iff_ne.2 (by omega)
          by_cases h1 : k + 1 = s.size
          · exact .inr (.inl ⟨Lib.hid ⟨h0, h1⟩, e0, true, Lib.hid rfl, by rw [beq_iff_eq]; omega⟩)
          · exact .inr (.inr ⟨Lib.hid ⟨h0, h1⟩, e0, beq_eq_false_iff_ne.2 (by omega)⟩)
      by_cases hr : ral s[k] = true
      · have HA := HN ⟨s[k], HG.out, .inl hr⟩
        rw [hr] at HC
        clear hr HG HN HF ha
        rcases hpos with ⟨rfl, _, e0⟩ | ⟨_, e0, eb, heb, e1⟩ | ⟨_, e0, e1⟩
        · clear e0
          go_wp2_with fail
          refine (HC.out _).mono ?_
          rintro e w' ⟨rfl, rfl⟩
          go_wp2_with fail
          go_round
          case rel => exact ⟨1, by omega, by go_num, HA⟩
          case measure => simp [intOf]; omega
        · go_wp2_with fail
          clear e1
          obtain rfl := heb.out
          refine (HC.out _).mono ?_
          rintro e w' ⟨rfl, rfl⟩
          go_wp2_with fail
          go_round
          case rel => exact ⟨k + 1, by omega, by go_num, HA⟩
          case measure => simp [intOf]; omega
        · go_wp2_with fail
          refine (HC.out _).mono ?_
          rintro e w' ⟨rfl, rfl⟩
          go_wp2_with fail
          go_round
          case rel => exact ⟨k + 1, by omega, by go_num, HA⟩
          case measure => simp [intOf]; omega
      · have hrf : ral s[k] = false := by simpa using hr
        rcases hpos with ⟨rfl, h0, e0⟩ | ⟨h0, e0, eb, heb, e1⟩ | ⟨h0, e0, e1⟩
        · have HV := HF (by
            rintro ⟨c, hc, h | ⟨h, _⟩⟩
            · rw [HG.out] at hc; exact hr (by rw [Option.some.inj hc]; exact h)
            · exact h h0.out)
          rw [hrf] at HC
          clear hr hrf HG HN HF ha h0
          clear e0
          go_wp2_with (refine (HC.out _).mono ?_; rintro e w' ⟨rfl, rfl⟩)
          go_ret
          exact ⟨ret_bool HV.out.symm, rfl⟩
        · have HV := HF (by
            rintro ⟨c, hc, h | ⟨_, h, _⟩⟩
            · rw [HG.out] at hc; exact hr (by rw [Option.some.inj hc]; exact h)
            · exact h (by rw [toL_length]; exact h0.out.2))
          rw [hrf] at HC
          clear hr hrf HG HN HF ha h0
          go_wp2_with fail
          clear e1
          obtain rfl := heb.out
          refine (HC.out _).mono ?_
          rintro e w' ⟨rfl, rfl⟩
          go_wp2_with fail
          go_ret
          exact ⟨ret_bool HV.out.symm, rfl⟩
        · rcases mark_cases s[k] with ⟨m0, m1, m2, m3⟩ | ⟨m0, m1, m2, m3⟩ | ⟨m0, m4, m1, m2, m3⟩
          · have HA := HN ⟨s[k], HG.out, .inr ⟨h0.out.1, by rw [toL_length]; exact h0.out.2, .inl m0⟩⟩
            rw [hrf] at HC
            clear hr hrf HG HN HF ha h0 m0
            go_wp2_with (refine (HC.out _).mono ?_; rintro e w' ⟨rfl, rfl⟩)
            go_round
            case rel => exact ⟨k + 1, by omega, by go_num, HA⟩
            case measure => simp [intOf]; omega
          · obtain ⟨j, rfl⟩ : ∃ j, k = j + 1 := ⟨k - 1, by have := h0.out.1; omega⟩
            have hj : j < s.size := by omega
            have hji : (j : Int) < (s.size : Int) := by omega
            have GJ := Lib.hid (toL_get s j hj)
            have e2 : ((j : Int) + 1 == 0) = false := beq_eq_false_iff_ne.2 (by omega)
            have e3 : ((j : Int) + 1 == (s.size : Int) - 1) = false := beq_eq_false_iff_ne.2 (fun h => h0.out.2 (by omega))
            have e4 : (j : Int) + 1 < (s.size : Int) := by omega
            have e5 : (0 : Int) ≤ (j : Int) + 1 := by omega
            clear e0 e1 hki
            rcases (show ((s[j].toNat : Int) == 46) = true ∧ s[j] = 46 ∨ ((s[j].toNat : Int) == 46) = false ∧ s[j] ≠ 46 by
              rcases mark_cases s[j] with ⟨n0, _, n2, _⟩ | ⟨n0, _, n2, _⟩ | ⟨_, n0, _, n2, _⟩
              · exact .inr ⟨n2, by rw [n0]; decide⟩
              · exact .inl ⟨n2, n0⟩
              · exact .inr ⟨n2, n0⟩) with ⟨n1, n2⟩ | ⟨n1, n2⟩
            · have HV := HF (by
                rintro ⟨c, hc, h | ⟨_, _, h | ⟨_, h⟩⟩⟩
                · rw [HG.out] at hc; exact hr (by rw [Option.some.inj hc]; exact h)
                · rw [HG.out, m0] at hc
                  rw [← Option.some.inj hc] at h
                  exact absurd h (by decide)
                · exact h (by rw [Nat.add_sub_cancel, GJ.out, n2]))
              rw [hrf] at HC
              clear hr hrf HG HN HF ha h0 m0 n2 GJ
              go_wp2_with (refine (HC.out _).mono ?_; rintro e w' ⟨rfl, rfl⟩)
              go_ret
              exact ⟨ret_bool HV.out.symm, rfl⟩
            · have HA := HN ⟨s[j + 1], HG.out, .inr ⟨h0.out.1, by rw [toL_length]; exact h0.out.2, .inr ⟨m0, by rw [Nat.add_sub_cancel, GJ.out]; exact fun e => n2 (Option.some.inj e)⟩⟩⟩
              rw [hrf] at HC
              clear hr hrf HG HN HF ha h0 m0 n2 GJ
              go_wp2_with (refine (HC.out _).mono ?_; rintro e w' ⟨rfl, rfl⟩)
              go_round
              case rel => exact ⟨j + 1 + 1, by omega, by go_num, HA⟩
              case measure => simp [intOf]; omega
          · have HV := HF (by
              rintro ⟨c, hc, h | ⟨_, _, h | ⟨h, _⟩⟩⟩
              · rw [HG.out] at hc; exact hr (by rw [Option.some.inj hc]; exact h)
              · rw [HG.out] at hc; exact m0 (by rw [Option.some.inj hc]; exact h)
              · rw [HG.out] at hc; exact m4 (by rw [Option.some.inj hc]; exact h))
            rw [hrf] at HC
            clear hr hrf HG HN HF ha h0 m0 m4
            go_wp2_with (refine (HC.out _).mono ?_; rintro e w' ⟨rfl, rfl⟩)
            go_ret
            exact ⟨ret_bool HV.out.symm, rfl⟩
    · have HV : Hid (rhost (toL s) = true) := Lib.hid ((rhost_iff _).2 ⟨by rw [toL_length]; omega, by rw [toL_length]; omega, fun j hj => ha.out j (by rw [toL_length] at hj; omega)⟩)
      clear ha
      go_wp2_with fail
      go_ret
      exact ⟨ret_bool HV.out.symm, rfl⟩
end Go.Proofs.Ytcjobblhendkbaa.RHost

/- Layer 4, the document's own Decimal. -/
namespace Go.Proofs.Ytcjobblhendkbaa.RDecimal
open Go.ChangeShapes Go.WideShapes Go.ChangeAt Go.RowKit LexPure Bytes Ret LexNum RNumber
set_option maxRecDepth 20000
theorem rdecimal_any (s : ByteArray) (hs : s.size ≤ maxLen) (digits : Int) (w : World) :
    Calls Try.prog 57 #[.string s, .int .i64 digits] w fun e w' => e = .returned (.tuple #[.int .i64 (numR 10 (min digits 18) (toL s)), .bool (numOk 10 (min digits 18) (toL s))]) ∧ w = w' := by
  have HN := Lib.hid (rnumber_any s hs (min digits 18) 10 (.inl ⟨rfl, Int.min_le_right _ _⟩))
  clear hs
  by_cases h : 18 < digits
  · have hm : min digits 18 = 18 := by omega
    rw [hm] at HN ⊢
    go_enter Try.func57, Try.ntmps57
    go_wp2_with fail
    refine (HN.out _).mono ?_
    rintro e w' ⟨rfl, rfl⟩
    go_wp2_with fail
    go_ret2
    exact ⟨rfl, rfl⟩
  · have hm : min digits 18 = digits := by omega
    rw [hm] at HN ⊢
    go_enter Try.func57, Try.ntmps57
    go_wp2_with fail
    refine (HN.out _).mono ?_
    rintro e w' ⟨rfl, rfl⟩
    go_wp2_with fail
    go_ret2
    exact ⟨rfl, rfl⟩
end Go.Proofs.Ytcjobblhendkbaa.RDecimal
