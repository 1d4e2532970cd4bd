/- Texts of this seat, one behind another: PDigit, PCount, PHex, RPlainP, LexLays, PathLays, PBytes5, PCur, PDecode, BRow, POneForm, PCfgW, POfValue, LexSplit, Texts, PLibT, PToken, PTrim, PText, PLsmall, PLower, PUnder, RNormP, JoinLays, PResolved, PSettled, PathMore, PathObj, CutLays, THost, PCutLib, PDecimal, TAuth. -/
import Derived.Lib.Hide
import Derived.Outline
import Derived.LoopTactic
import Derived.Handy
import Derived.Shelf.Strings.SlTrimAscii
import Derived.Shelf.Strings.Split
import Derived.Shelf.Small.Strs
import Derived.Test.YtfihehobkbfmiaaGreatDoorProg
import Derived.Shelf.Strings.Prefix
import Derived.Laws.DeepStrings4
import Derived.Laws.IdiomStrings
import Derived.Below
import Derived.Laws.NewBlocks
import Derived.RegionTactic
import Derived.ChangeAlike
import Derived.BigRegion
import Derived.Laws.BitsAllLaws
import Derived.Maps.AppendAt
import Derived.Deep.RegionHeld3
import Derived.Lib.SlTrimSet
import Derived.Lib.SplitLaws
import Derived.Lib.Bytealg
import Derived.Deep.Draws
import Derived.Shelf.Vars
import Derived.Deep.QuietTactic
import Derived.BigQuiet
import Derived.OwnWalk
import Derived.Shelf.Strings.OnBuilder
import Derived.Shelf.Strings.Search2
import Derived.Shelf.Strings.Search3
import Derived.Lib.IndexBytes
import Derived.Test.YtfihehobkbfmiaaGreatDoorA1
/- Layer 4 of the program: digit. -/
namespace Go.Proofs.YtfihehobkbfmiaaGreatDoor.PDigit
open Go.ChangeShapes Go.WideShapes Go.ChangeAt Go.RowKit LexPure Bytes Ret LexNum
set_option maxRecDepth 20000
/-- what the program counts a byte as: 16 where the document's is no digit -/
def digP (b : UInt8) : Nat := if dig b ≤ 15 then dig b else 16
theorem digP_cases (b : UInt8) : ((b.toNat : Int) < 48 ∧ digP b = 16) ∨ (48 ≤ (b.toNat : Int) ∧ (b.toNat : Int) ≤ 57 ∧ (digP b : Int) = (b.toNat : Int) - 48) ∨ (57 < (b.toNat : Int) ∧ (b.toNat : Int) < 65 ∧ digP b = 16) ∨
    (65 ≤ (b.toNat : Int) ∧ (b.toNat : Int) ≤ 70 ∧ (digP b : Int) = (b.toNat : Int) - 65 + 10) ∨ (70 < (b.toNat : Int) ∧ (b.toNat : Int) < 97 ∧ digP b = 16) ∨ (97 ≤ (b.toNat : Int) ∧ (b.toNat : Int) ≤ 102 ∧ (digP b : Int) = (b.toNat : Int) - 97 + 10) ∨ (102 < (b.toNat : Int) ∧ digP b = 16) := by
  have := all_bytes (p := fun b => decide (((b.toNat : Int) < 48 ∧ digP b = 16) ∨ (48 ≤ (b.toNat : Int) ∧ (b.toNat : Int) ≤ 57 ∧ (digP b : Int) = (b.toNat : Int) - 48) ∨ (57 < (b.toNat : Int) ∧ (b.toNat : Int) < 65 ∧ digP b = 16) ∨
    (65 ≤ (b.toNat : Int) ∧ (b.toNat : Int) ≤ 70 ∧ (digP b : Int) = (b.toNat : Int) - 65 + 10) ∨ (70 < (b.toNat : Int) ∧ (b.toNat : Int) < 97 ∧ digP b = 16) ∨ (97 ≤ (b.toNat : Int) ∧ (b.toNat : Int) ≤ 102 ∧ (digP b : Int) = (b.toNat : Int) - 97 + 10) ∨ (102 < (b.toNat : Int) ∧ digP b = 16))) (by decide +kernel) b
  simpa only [decide_eq_true_eq] using this
theorem pdigit_any (b : UInt8) (w : World) :
    Calls Tryz.prog 171 #[.int .u8 (b.toNat : Int)] w fun e w' => e = .returned (.int .i64 (digP b : Int)) ∧ w = w' := by
  have hub : (b.toNat : Int) ≤ 255 := by have := b.toNat_lt; omega
  rcases digP_cases b with ⟨h1, h2⟩ | ⟨h1, h2, h3⟩ | ⟨h1, h2, h3⟩ | ⟨h1, h2, h3⟩ | ⟨h1, h2, h3⟩ | ⟨h1, h2, h3⟩ | ⟨h1, h2⟩
  · rw [h2]
    clear h2
    generalize (b.toNat : Int) = c at *
    go_enter Tryz.func171, Tryz.ntmps171
    go_wp2_with fail
    go_ret
    exact ⟨rfl, rfl⟩
  · rw [h3]
    clear h3
    generalize (b.toNat : Int) = c at *
    go_enter Tryz.func171, Tryz.ntmps171
    go_wp2_with fail
    go_ret
    exact ⟨rfl, rfl⟩
  · rw [h3]
    clear h3
    generalize (b.toNat : Int) = c at *
    go_enter Tryz.func171, Tryz.ntmps171
    go_wp2_with fail
    go_ret
    exact ⟨rfl, rfl⟩
  · rw [h3]
    clear h3
    generalize (b.toNat : Int) = c at *
    go_enter Tryz.func171, Tryz.ntmps171
    go_wp2_with fail
    go_ret
    exact ⟨rfl, rfl⟩
  · rw [h3]
    clear h3
    generalize (b.toNat : Int) = c at *
    go_enter Tryz.func171, Tryz.ntmps171
    go_wp2_with fail
    go_ret
    exact ⟨rfl, rfl⟩
  · rw [h3]
    clear h3
    generalize (b.toNat : Int) = c at *
    go_enter Tryz.func171, Tryz.ntmps171
    go_wp2_with fail
    go_ret
    exact ⟨rfl, rfl⟩
  · rw [h2]
    clear h2
    generalize (b.toNat : Int) = c at *
    go_enter Tryz.func171, Tryz.ntmps171
    go_wp2_with fail
    go_ret
    exact ⟨rfl, rfl⟩
end Go.Proofs.YtfihehobkbfmiaaGreatDoor.PDigit

/- Layer 4 of the program: number. -/
namespace Go.Proofs.YtfihehobkbfmiaaGreatDoor.PCount
open Go.ChangeShapes Go.WideShapes Go.ChangeAt Go.RowKit LexPure Bytes Ret LexNum PDigit
set_option maxRecDepth 20000
theorem digP_lt {b : UInt8} {base : Nat} (hb : base ≤ 16) (h : dig b < base) : digP b = dig b := by
  unfold digP
  rw [if_pos (by omega)]
theorem digP_ge {b : UInt8} {base : Nat} (hb : base ≤ 16) (h : ¬ dig b < base) : base ≤ digP b := by
  unfold digP
  split <;> omega
set_option maxHeartbeats 2000000 in
theorem pnumber_any (s : ByteArray) (hs : s.size ≤ maxLen) (digits : Int) (base : Nat) (hF : Fit base digits) (w : World) :
    Calls Tryz.prog 149 #[.string s, .int .i64 digits, .int .i64 (base : Int)] w fun e w' => e = .returned (.tuple #[.int .i64 (numR base digits (toL s)), .bool (numOk base digits (toL s))]) ∧ w = w' := by
  unfold maxLen at hs
  have HF := Lib.hid hF
  have hb16 : base ≤ 16 := by rcases hF with ⟨h, _⟩ | ⟨h, _⟩ <;> omega
  clear hF
  by_cases hlen : 1 ≤ s.size ∧ (s.size : Int) ≤ digits
  · obtain ⟨hl1, hl2⟩ := hlen
    have h1 : ¬ s.toList = [] := fun h => by
      rw [ByteArray.toList_eq] at h
      have h2 := toL_length s
      rw [show toL s = [] from h] at h2
      simp at h2
      omega
    have h2 : s.toList.isEmpty = false := by
      cases h : s.toList with
      | nil => exact absurd h h1
      | cons => rfl
    go_enter Tryz.func149, Tryz.ntmps149
    go_wp2_with fail
    go_loop [8, 21] (fun n i => ∃ k : Nat, k ≤ s.size ∧ i = .int .i64 k ∧ n = .int .i64 (numV base ((toL s).take k) : Nat) ∧ Hid (((toL s).take k).all (fun c => decide (dig c < base)) = true)) (fun _ i => s.size - (intOf i).toNat)
    case atStart => exact ⟨0, Nat.zero_le _, rfl, rfl, Lib.hid rfl⟩
    case round =>
      obtain ⟨k, hk, rfl, rfl, ha⟩ := hrel
      by_cases hlt : k < s.size
      · have hki : (k : Int) < (s.size : Int) := by omega
        have HT := Lib.hid (toL_take_succ s k hlt)
        have HG := Lib.hid (toL_get s k hlt)
        obtain ⟨hb1, hb2⟩ := HF.out.bound (l := (toL s).take k) (by rw [List.length_take, toL_length]; omega) ha.out
        have HN : Hid (numV base ((toL s).take (k + 1)) = base * numV base ((toL s).take k) + dig s[k]) := Lib.hid (by rw [HT.out, numV_snoc])
        have HC := Lib.hid (fun w => pdigit_any s[k] w)
        generalize numV base ((toL s).take k) = n at *
        have hcomm : (base : Int) * (n : Int) = (n : Int) * (base : Int) := Int.mul_comm _ _
        have hp0 : 0 ≤ (n : Int) * (base : Int) := by omega
        have hp1 : (n : Int) * (base : Int) ≤ 1152921504606846976 := by
          have : ((base * n : Nat) : Int) ≤ 1152921504606846976 := by omega
          rw [Int.natCast_mul] at this
          omega
        clear hb1
        by_cases hdb : dig s[k] < base
        · have HA : Hid (((toL s).take (k + 1)).all (fun c => decide (dig c < base)) = true) := Lib.hid (by rw [HT.out, List.all_append, ha.out]; simp [hdb])
          have HN2 : Hid ((n : Int) * (base : Int) + (dig s[k] : Nat) = (numV base ((toL s).take (k + 1)) : Int)) := Lib.hid (by rw [HN.out, ← hcomm]; push_cast; rfl)
          rw [digP_lt hb16 hdb] at HC
          have hdn : ¬ ((base : Int) ≤ (dig s[k] : Int)) := by omega
          have hdm : (dig s[k] : Int) ≤ 16 := by omega
          clear HT HG HN ha hdb hcomm hb16
          generalize dig s[k] = d at *
          go_wp2_with (refine (HC.out _).mono ?_; rintro e w' ⟨rfl, rfl⟩)
          go_round
          case rel => exact ⟨k + 1, by omega, by go_num, by rw [HN2.out], HA⟩
          case measure => simp [intOf]; omega
        · have HV2 : Hid (numOk base digits (toL s) = false) := Lib.hid (by
            unfold numOk
            rw [Bool.and_eq_false_iff]
            right
            rw [List.all_eq_false]
            exact ⟨s[k], List.mem_of_getElem? HG.out, by simpa using hdb⟩)
          have HV1 : Hid (numR base digits (toL s) = 0) := Lib.hid (by unfold numR; rw [HV2.out]; rfl)
          have hdn : (base : Int) ≤ (digP s[k] : Int) := by have := digP_ge hb16 hdb; omega
          clear HT HG HN ha hdb hcomm hb16
          generalize digP s[k] = d at *
          go_wp2_with (refine (HC.out _).mono ?_; rintro e w' ⟨rfl, rfl⟩)
          go_ret2
          exact ⟨ret_num HV1.out.symm HV2.out.symm, rfl⟩
      · have hall : (toL s).take k = toL s := toL_take_all s (by omega)
        have HV2 : Hid (numOk base digits (toL s) = true) := Lib.hid (by
          unfold numOk
          have h := ha.out
          rw [hall] at h
          rw [h, toL_length, decide_eq_true hl2]
          have : (toL s).isEmpty = false := by
            cases hl : toL s with
            | nil => have := toL_length s; rw [hl] at this; simp at this; omega
            | cons => rfl
          rw [this]
          rfl)
        have HV1 : Hid (numR base digits (toL s) = (numV base (toL s) : Int)) := Lib.hid (by unfold numR; rw [HV2.out]; rfl)
        rw [hall]
        clear ha hall hb16
        go_wp2_with fail
        go_ret2
        exact ⟨ret_num HV1.out.symm HV2.out.symm, rfl⟩
  · have HV2 : Hid (numOk base digits (toL s) = false) := Lib.hid (by
      unfold numOk
      rw [toL_length]
      by_cases h0 : s.size = 0
      · rw [List.isEmpty_iff.2 (List.length_eq_zero_iff.1 (by rw [toL_length]; exact h0))]
        rfl
      · rw [decide_eq_false (by omega)]
        simp)
    have HV1 : Hid (numR base digits (toL s) = 0) := Lib.hid (by unfold numR; rw [HV2.out]; rfl)
    clear hb16
    by_cases h0 : s.size = 0
    · have h1 : s.toList = [] := by
        rw [ByteArray.toList_eq]
        exact List.length_eq_zero_iff.1 (by rw [← h0]; exact toL_length s)
      have h2 : s.toList.isEmpty = true := by rw [h1]; rfl
      clear hlen
      go_enter Tryz.func149, Tryz.ntmps149
      go_wp2_with fail
      go_ret2
      exact ⟨ret_num HV1.out.symm HV2.out.symm, rfl⟩
    · have hx : digits < (s.size : Int) := by omega
      have h1 : ¬ s.toList = [] := fun h => by
        rw [ByteArray.toList_eq] at h
        have h2 := toL_length s
        rw [show toL s = [] from h] at h2
        simp at h2
        omega
      have h2 : s.toList.isEmpty = false := by
        cases h : s.toList with
        | nil => exact absurd h h1
        | cons => rfl
      clear hlen
      go_enter Tryz.func149, Tryz.ntmps149
      go_wp2_with fail
      go_ret2
      exact ⟨ret_num HV1.out.symm HV2.out.symm, rfl⟩
end Go.Proofs.YtfihehobkbfmiaaGreatDoor.PCount

/- Layer 4 of the program: Hex. -/
namespace Go.Proofs.YtfihehobkbfmiaaGreatDoor.PHex
open Go.ChangeShapes Go.WideShapes Go.ChangeAt Go.RowKit LexPure Bytes Ret LexNum PCount
set_option maxRecDepth 20000
theorem phex_any (s : ByteArray) (hs : s.size ≤ maxLen) (digits : Int) (w : World) :
    Calls Tryz.prog 177 #[.string s, .int .i64 digits] w fun e w' => e = .returned (.tuple #[.int .i64 (numR 16 (min digits 15) (toL s)), .bool (numOk 16 (min digits 15) (toL s))]) ∧ w = w' := by
  have HN := Lib.hid (pnumber_any s hs (min digits 15) 16 (.inr ⟨rfl, Int.min_le_right _ _⟩))
  clear hs
  rcases (show digits < 15 ∨ digits = 15 ∨ 15 < digits by omega) with h | h | h
  · have hm : min digits 15 = digits := by omega
    rw [hm] at HN ⊢
    go_enter Tryz.func177, Tryz.ntmps177
    go_wp2_with fail
    refine (HN.out _).mono ?_
    rintro e w' ⟨rfl, rfl⟩
    go_wp2_with fail
    go_ret2
    exact ⟨rfl, rfl⟩
  · subst h
    have hm : min 15 15 = (15 : Int) := rfl
    rw [hm] at HN ⊢
    go_enter Tryz.func177, Tryz.ntmps177
    go_wp2_with fail
    refine (HN.out _).mono ?_
    rintro e w' ⟨rfl, rfl⟩
    go_wp2_with fail
    go_ret2
    exact ⟨rfl, rfl⟩
  · have hm : min digits 15 = 15 := by omega
    rw [hm] at HN ⊢
    go_enter Tryz.func177, Tryz.ntmps177
    go_wp2_with fail
    refine (HN.out _).mono ?_
    rintro e w' ⟨rfl, rfl⟩
    go_wp2_with fail
    go_ret2
    exact ⟨rfl, rfl⟩
end Go.Proofs.YtfihehobkbfmiaaGreatDoor.PHex

/- Layer 5: two hexadecimal digits. No program is named. -/
namespace Go.Proofs.YtfihehobkbfmiaaGreatDoor.RPlain
open LexPure Bytes LexNum PathPure
set_option maxRecDepth 20000
theorem num_two (a b : UInt8) : numOk 16 (min 2 15) [a, b] = (isHex a && isHex b) ∧ (numOk 16 (min 2 15) [a, b] = true → numR 16 (min 2 15) [a, b] = (two a b : Int)) := by
  have h1 : numOk 16 (min 2 15) [a, b] = (isHex a && isHex b) := by
    unfold numOk isHex
    simp
    intro _ _
    decide
  refine ⟨h1, fun h => ?_⟩
  unfold numR
  rw [h, if_pos rfl]
  unfold numV two
  simp
end Go.Proofs.YtfihehobkbfmiaaGreatDoor.RPlain

/-
  DERIVED: THE SHELF's CONTRACTS AT THIS DUMP, IN PLAIN WORDS (tools/lay-plain.mjs out of 'YtfihehobkbfmiaaGreatDoorLexLaysT.lean', which tools/lay-shelf.mjs wrote): THE SAME DECLARATIONS UNDER THE SAME NAMES: 'import', 'namespace', 'open', 'def', 'theorem' AND NOTHING ELSE: no command of the shelf's: FOR A HAND-IN. Each laying: the table of numbers ('.._ren') and one theorem, a field a fact of the dump's own or the kernel's comparison; each contract: ONE APPLICATION.
-/
namespace Go.Proofs
open Go.Shelf
def Tryz.lays137_ren : Go.Shelf.Ren := ⟨fun | 137 => 133 | 217 => 145 | 266 => 169 | n => n, fun | 9 => 9 | 5 => 5 | 3 => 3 | n => n, fun | n => n⟩
theorem Tryz.lays137 : Go.Proofs.Lays.n137 Tryz.prog Tryz.lays137_ren := {
  mixed := by kernel_rfl
  f137 := Tryz.func133.trans (congrArg some (by kernel_rfl))
  f217 := Tryz.func145.trans (congrArg some (by kernel_rfl))
  f266 := Tryz.func169.trans (congrArg some (by kernel_rfl))
  t3 := Tryz.underlying3
  a3 := Tryz.isAgg3
  z3 := Tryz.sizeOf3
  v3 := Tryz.zeroValue3
  t5 := Tryz.underlying5
  a5 := Tryz.isAgg5
  z5 := Tryz.sizeOf5
  v5 := Tryz.zeroValue5
  t9 := Tryz.underlying9
  a9 := Tryz.isAgg9
  z9 := Tryz.sizeOf9
  v9 := Tryz.zeroValue9 }
def Tryz.lays160_ren : Go.Shelf.Ren := ⟨fun | 160 => 132 | 232 => 152 | 231 => 151 | 227 => 153 | 234 => 155 | 233 => 154 | 236 => 157 | 235 => 156 | 228 => 172 | 271 => 175 | 151 => 174 | 197 => 173 | 120 => 184 | 152 => 183 | 260 => 182 | 137 => 133 | 119 => 187 | 224 => 147 | 225 => 146 | 217 => 145 | 266 => 169 | n => n, fun | 9 => 9 | 4 => 4 | 3 => 3 | 5 => 5 | 117 => 144 | 116 => 143 | 0 => 0 | 124 => 147 | 21 => 21 | 105 => 160 | 46 => 83 | 119 => 169 | 139 => 172 | 138 => 171 | n => n, fun | 3 => 4 | 4 => 5 | n => n⟩
theorem Tryz.lays160 : Go.Proofs.Lays.n160 Tryz.prog Tryz.lays160_ren := {
  mixed := by kernel_rfl
  f119 := Tryz.func187.trans (congrArg some (by kernel_rfl))
  f120 := Tryz.func184.trans (congrArg some (by kernel_rfl))
  f137 := Tryz.func133.trans (congrArg some (by kernel_rfl))
  f151 := Tryz.func174.trans (congrArg some (by kernel_rfl))
  f152 := Tryz.func183.trans (congrArg some (by kernel_rfl))
  f160 := Tryz.func132.trans (congrArg some (by kernel_rfl))
  f197 := Tryz.func173.trans (congrArg some (by kernel_rfl))
  f217 := Tryz.func145.trans (congrArg some (by kernel_rfl))
  f224 := Tryz.func147.trans (congrArg some (by kernel_rfl))
  f225 := Tryz.func146.trans (congrArg some (by kernel_rfl))
  f227 := Tryz.func153.trans (congrArg some (by kernel_rfl))
  f228 := Tryz.func172.trans (congrArg some (by kernel_rfl))
  f231 := Tryz.func151.trans (congrArg some (by kernel_rfl))
  f232 := Tryz.func152.trans (congrArg some (by kernel_rfl))
  f233 := Tryz.func154.trans (congrArg some (by kernel_rfl))
  f234 := Tryz.func155.trans (congrArg some (by kernel_rfl))
  f235 := Tryz.func156.trans (congrArg some (by kernel_rfl))
  f236 := Tryz.func157.trans (congrArg some (by kernel_rfl))
  f260 := Tryz.func182.trans (congrArg some (by kernel_rfl))
  f266 := Tryz.func169.trans (congrArg some (by kernel_rfl))
  f271 := Tryz.func175.trans (congrArg some (by kernel_rfl))
  t0 := Tryz.underlying0
  a0 := Tryz.isAgg0
  z0 := Tryz.sizeOf0
  v0 := Tryz.zeroValue0
  t3 := Tryz.underlying3
  a3 := Tryz.isAgg3
  z3 := Tryz.sizeOf3
  v3 := Tryz.zeroValue3
  t4 := Tryz.underlying4
  a4 := Tryz.isAgg4
  z4 := Tryz.sizeOf4
  v4 := Tryz.zeroValue4
  t5 := Tryz.underlying5
  a5 := Tryz.isAgg5
  z5 := Tryz.sizeOf5
  v5 := Tryz.zeroValue5
  t9 := Tryz.underlying9
  a9 := Tryz.isAgg9
  z9 := Tryz.sizeOf9
  v9 := Tryz.zeroValue9
  t21 := Tryz.underlying21
  a21 := Tryz.isAgg21
  z21 := Tryz.sizeOf21
  v21 := Tryz.zeroValue21
  t46 := Tryz.underlying83
  a46 := Tryz.isAgg83
  z46 := Tryz.sizeOf83
  v46 := Tryz.zeroValue83
  t105 := Tryz.underlying160
  a105 := Tryz.isAgg160
  z105 := Tryz.sizeOf160
  v105 := Tryz.zeroValue160
  t116 := Tryz.underlying143
  a116 := Tryz.isAgg143
  z116 := Tryz.sizeOf143
  t117 := Tryz.underlying144
  a117 := Tryz.isAgg144
  z117 := Tryz.sizeOf144
  v117 := Tryz.zeroValue144
  t119 := Tryz.underlying169
  a119 := Tryz.isAgg169
  z119 := Tryz.sizeOf169
  t124 := Tryz.underlying147
  a124 := Tryz.isAgg147
  z124 := Tryz.sizeOf147
  v124 := Tryz.zeroValue147
  t138 := Tryz.underlying171
  a138 := Tryz.isAgg171
  z138 := Tryz.sizeOf171
  v138 := Tryz.zeroValue171
  t139 := Tryz.underlying172
  a139 := Tryz.isAgg172
  z139 := Tryz.sizeOf172
  v139 := Tryz.zeroValue172
  g3 := by kernel_rfl
  g4 := by kernel_rfl }
def Tryz.lays146_ren : Go.Shelf.Ren := ⟨fun | 146 => 163 | 221 => 179 | 268 => 185 | 138 => 186 | 143 => 176 | 195 => 188 | 197 => 173 | 218 => 189 | 219 => 128 | 260 => 182 | 217 => 145 | 225 => 146 | 224 => 147 | 267 => 148 | 266 => 169 | 314 => 170 | n => n, fun | 9 => 9 | 31 => 36 | 3 => 3 | 4 => 4 | 0 => 0 | 105 => 160 | 21 => 21 | 5 => 5 | 46 => 83 | 119 => 169 | 139 => 172 | 138 => 171 | 146 => 157 | 51 => 154 | n => n, fun | 1 => 0 | 3 => 4 | 4 => 5 | n => n⟩
theorem Tryz.lays146 : Go.Proofs.Lays.n146 Tryz.prog Tryz.lays146_ren := {
  mixed := by kernel_rfl
  f138 := Tryz.func186.trans (congrArg some (by kernel_rfl))
  f143 := Tryz.func176.trans (congrArg some (by kernel_rfl))
  f146 := Tryz.func163.trans (congrArg some (by kernel_rfl))
  f195 := Tryz.func188.trans (congrArg some (by kernel_rfl))
  f197 := Tryz.func173.trans (congrArg some (by kernel_rfl))
  f217 := Tryz.func145.trans (congrArg some (by kernel_rfl))
  f218 := Tryz.func189.trans (congrArg some (by kernel_rfl))
  f219 := Tryz.func128.trans (congrArg some (by kernel_rfl))
  f221 := Tryz.func179.trans (congrArg some (by kernel_rfl))
  f224 := Tryz.func147.trans (congrArg some (by kernel_rfl))
  f225 := Tryz.func146.trans (congrArg some (by kernel_rfl))
  f260 := Tryz.func182.trans (congrArg some (by kernel_rfl))
  f266 := Tryz.func169.trans (congrArg some (by kernel_rfl))
  f267 := Tryz.func148.trans (congrArg some (by kernel_rfl))
  f268 := Tryz.func185.trans (congrArg some (by kernel_rfl))
  f314 := Tryz.func170.trans (congrArg some (by kernel_rfl))
  t0 := Tryz.underlying0
  a0 := Tryz.isAgg0
  z0 := Tryz.sizeOf0
  v0 := Tryz.zeroValue0
  t3 := Tryz.underlying3
  a3 := Tryz.isAgg3
  z3 := Tryz.sizeOf3
  v3 := Tryz.zeroValue3
  t4 := Tryz.underlying4
  a4 := Tryz.isAgg4
  z4 := Tryz.sizeOf4
  v4 := Tryz.zeroValue4
  t5 := Tryz.underlying5
  a5 := Tryz.isAgg5
  z5 := Tryz.sizeOf5
  v5 := Tryz.zeroValue5
  t9 := Tryz.underlying9
  a9 := Tryz.isAgg9
  z9 := Tryz.sizeOf9
  v9 := Tryz.zeroValue9
  t21 := Tryz.underlying21
  a21 := Tryz.isAgg21
  z21 := Tryz.sizeOf21
  v21 := Tryz.zeroValue21
  t31 := Tryz.underlying36
  a31 := Tryz.isAgg36
  z31 := Tryz.sizeOf36
  v31 := Tryz.zeroValue36
  t46 := Tryz.underlying83
  a46 := Tryz.isAgg83
  z46 := Tryz.sizeOf83
  v46 := Tryz.zeroValue83
  t51 := Tryz.underlying154
  a51 := Tryz.isAgg154
  z51 := Tryz.sizeOf154
  v51 := Tryz.zeroValue154
  t105 := Tryz.underlying160
  a105 := Tryz.isAgg160
  z105 := Tryz.sizeOf160
  v105 := Tryz.zeroValue160
  t119 := Tryz.underlying169
  a119 := Tryz.isAgg169
  z119 := Tryz.sizeOf169
  t138 := Tryz.underlying171
  a138 := Tryz.isAgg171
  z138 := Tryz.sizeOf171
  v138 := Tryz.zeroValue171
  t139 := Tryz.underlying172
  a139 := Tryz.isAgg172
  z139 := Tryz.sizeOf172
  v139 := Tryz.zeroValue172
  t146 := Tryz.underlying157
  a146 := Tryz.isAgg157
  z146 := Tryz.sizeOf157
  v146 := Tryz.zeroValue157
  g1 := by kernel_rfl
  g3 := by kernel_rfl
  g4 := by kernel_rfl }
end Go.Proofs

/-
  DERIVED: THE SHELF's CONTRACTS AT THIS DUMP, IN PLAIN WORDS (tools/lay-plain.mjs out of 'YtfihehobkbfmiaaGreatDoorPathLaysT.lean', which tools/lay-shelf.mjs wrote): THE SAME DECLARATIONS UNDER THE SAME NAMES: 'import', 'namespace', 'open', 'def', 'theorem' AND NOTHING ELSE: no command of the shelf's: FOR A HAND-IN. Each laying: the table of numbers ('.._ren') and one theorem, a field a fact of the dump's own or the kernel's comparison; each contract: ONE APPLICATION.
-/
namespace Go.Proofs
open Go.Shelf
def Tryz.lays99_ren : Go.Shelf.Ren := ⟨fun | 99 => 137 | 206 => 136 | n => n, fun | 9 => 9 | 4 => 4 | 3 => 3 | n => n, fun | n => n⟩
theorem Tryz.lays99 : Go.Proofs.Lays.n99 Tryz.prog Tryz.lays99_ren := {
  mixed := by kernel_rfl
  f99 := Tryz.func137.trans (congrArg some (by kernel_rfl))
  f206 := Tryz.func136.trans (congrArg some (by kernel_rfl))
  t3 := Tryz.underlying3
  a3 := Tryz.isAgg3
  z3 := Tryz.sizeOf3
  v3 := Tryz.zeroValue3
  t4 := Tryz.underlying4
  a4 := Tryz.isAgg4
  z4 := Tryz.sizeOf4
  v4 := Tryz.zeroValue4
  t9 := Tryz.underlying9
  a9 := Tryz.isAgg9
  z9 := Tryz.sizeOf9
  v9 := Tryz.zeroValue9 }
def Tryz.lays101_ren : Go.Shelf.Ren := ⟨fun | 101 => 90 | 208 => 122 | 206 => 136 | n => n, fun | 9 => 9 | 4 => 4 | 3 => 3 | n => n, fun | n => n⟩
theorem Tryz.lays101 : Go.Proofs.Lays.n101 Tryz.prog Tryz.lays101_ren := {
  mixed := by kernel_rfl
  f101 := Tryz.func90.trans (congrArg some (by kernel_rfl))
  f206 := Tryz.func136.trans (congrArg some (by kernel_rfl))
  f208 := Tryz.func122.trans (congrArg some (by kernel_rfl))
  t3 := Tryz.underlying3
  a3 := Tryz.isAgg3
  z3 := Tryz.sizeOf3
  v3 := Tryz.zeroValue3
  t4 := Tryz.underlying4
  a4 := Tryz.isAgg4
  z4 := Tryz.sizeOf4
  v4 := Tryz.zeroValue4
  t9 := Tryz.underlying9
  a9 := Tryz.isAgg9
  z9 := Tryz.sizeOf9
  v9 := Tryz.zeroValue9 }
end Go.Proofs

/- Layer 5 of the program: what its functions of one byte and of one escape answer (ofPath, plain, escaped). -/
namespace Go.Proofs.YtfihehobkbfmiaaGreatDoor.PBytes5
open Go.ChangeShapes Go.WideShapes Go.ChangeAt Go.RowKit LexPure Bytes Ret LexNum PathPure PEsc CutsSplit PHex
set_option maxRecDepth 20000
theorem lib_plain (b : UInt8) (w : World) :
    Calls Tryz.prog 133 #[.string plainA, .int .u8 (b.toNat : Int)] w fun e w' => e = .returned (.int .i64 (plainI b)) ∧ w' = w := by
  have h := Any.strings_IndexByte Tryz.lays137 plainA (b.toNat : Int) w
  rw [show ((b.toNat : Int)).toNat.toUInt8 = b from by simp] at h
  exact h
theorem pofpath_any (b : UInt8) (w : World) :
    Calls Tryz.prog 160 #[.int .u8 (b.toNat : Int)] w fun e w' => e = .returned (.bool (okc b)) ∧ w = w' := by
  rw [okc_cases]
  generalize (b.toNat : Int) = c
  go_enter Tryz.func160, Tryz.ntmps160
  go_wp2_with fail
  all_goals
    go_ret
    refine ⟨ret_bool ?_, rfl⟩
    try simp only [beq_eq_false_iff_ne, beq_iff_eq, ne_eq] at *
    first
      | exact Eq.symm (decide_eq_true (by omega))
      | exact Eq.symm (decide_eq_false (by omega))
      | (by_cases e1 : c = 63 <;> by_cases e2 : c = 35 <;> by_cases e3 : 32 < c <;> by_cases e4 : c < 127 <;> first | (exfalso; omega) | simp [e1, e2, e3, e4] | (subst e1; decide) | (subst e2; decide))
theorem pplain_any (b : UInt8) (w : World) :
    Calls Tryz.prog 178 #[.int .u8 (b.toNat : Int)] w fun e w' => e = .returned (.bool (plainP b.toNat)) ∧ w = w' := by
  have HM := Lib.hid (lib_plain b w)
  rw [plain_cases]
  unfold plainA at HM
  generalize plainI b = i at *
  generalize (b.toNat : Int) = c at *
  go_enter Tryz.func178, Tryz.ntmps178
  go_wp2_with (refine HM.out.mono ?_; rintro e w' ⟨rfl, rfl⟩)
  all_goals
    go_ret
    refine ⟨ret_bool ?_, rfl⟩
  all_goals first
    | rfl
    | exact Eq.symm (decide_eq_true (by omega))
    | exact Eq.symm (by rw [decide_eq_true (show 48 ≤ c ∧ c ≤ 57 by omega)]; rfl)
    | exact Eq.symm (by rw [decide_eq_true (show 65 ≤ c ∧ c ≤ 90 by omega), Bool.or_true]; rfl)
    | exact Eq.symm (by rw [decide_eq_true (show 97 ≤ c ∧ c ≤ 122 by omega), Bool.or_true]; rfl)
    | (rw [decide_eq_false (show ¬ (48 ≤ c ∧ c ≤ 57) by omega), decide_eq_false (show ¬ (65 ≤ c ∧ c ≤ 90) by omega), decide_eq_false (show ¬ (97 ≤ c ∧ c ≤ 122) by omega)]; first | (simp; done) | (simp; intro h; omega))
theorem ret_esc {a b : Int} {p q : Bool} (h : a = b) (k : p = q) : Ending.returned (.tuple #[.int .u8 a, .bool p]) = .returned (.tuple #[.int .u8 b, .bool q]) := by rw [h, k]
theorem pescaped_any (s : ByteArray) (hs : s.size ≤ 140737488355328) (w : World) :
    Calls Tryz.prog 161 #[.string s] w fun e w' => e = .returned (.tuple #[.int .u8 (escN (toL s) : Int), .bool (escO (toL s))]) ∧ w = w' := by
  by_cases h3 : s.size < 3
  · have h3i : (s.size : Int) < 3 := by omega
    have hv : escO (toL s) = false ∧ escN (toL s) = 0 := by
      have hl := toL_length s
      match hm : toL s with
      | [] => exact ⟨rfl, rfl⟩
      | [_] => exact ⟨rfl, rfl⟩
      | [_, _] => exact ⟨rfl, rfl⟩
      | _ :: _ :: _ :: _ => rw [hm] at hl; simp at hl; omega
    rw [hv.1, hv.2]
    clear hv h3
    go_enter Tryz.func161, Tryz.ntmps161
    go_wp2_with fail
    go_ret2
    exact ⟨rfl, rfl⟩
  · have h3i : ¬ (s.size : Int) < 3 := by omega
    have h3j : 3 ≤ (s.size : Int) := by omega
    obtain ⟨c, a, b, r, hl⟩ : ∃ c a b r, toL s = c :: a :: b :: r := by
      have hl := toL_length s
      match hm : toL s with
      | [] => rw [hm] at hl; simp at hl; omega
      | [_] => rw [hm] at hl; simp at hl; omega
      | [_, _] => rw [hm] at hl; simp at hl; omega
      | c :: a :: b :: r => exact ⟨c, a, b, r, rfl⟩
    have hx : toL (s.extract 1 3) = [a, b] := by rw [toL_extract, hl]; rfl
    have HC := Lib.hid (phex_any (s.extract 1 3) (by rw [ByteArray.size_extract]; unfold maxLen; omega) 2)
    rw [hx] at HC
    obtain ⟨n1, n2⟩ := RPlain.num_two a b
    have HO : Hid (numOk 16 (min 2 15) [a, b] = escO (toL s)) := Lib.hid (by rw [n1, hl]; rfl)
    have HN : Hid (numR 16 (min 2 15) [a, b] = (escN (toL s) : Int)) := Lib.hid (by
      rw [hl]
      unfold escN
      simp only
      by_cases hh : numOk 16 (min 2 15) [a, b] = true
      · rw [n2 hh, if_pos (by rw [← n1]; exact hh)]
      · rw [if_neg (by rw [← n1]; exact hh)]
        unfold numR
        rw [if_neg hh]
        rfl)
    have hlt := escN_lt (toL s)
    rw [HO.out, HN.out] at HC
    have h0 : (0 : Int) ≤ (escN (toL s) : Int) := by omega
    have h1 : (escN (toL s) : Int) ≤ 255 := by omega
    clear hx hl n1 n2 HO HN hlt h3
    generalize (escN (toL s) : Int) = v at *
    generalize escO (toL s) = o at *
    go_enter Tryz.func161, Tryz.ntmps161
    go_wp2_with fail
    refine (HC.out _).mono ?_
    rintro e w' ⟨rfl, rfl⟩
    go_wp2_with fail
    go_ret2
    exact ⟨ret_esc (by omega) rfl, rfl⟩
end Go.Proofs.YtfihehobkbfmiaaGreatDoor.PBytes5

/- Layer 5 of the program: a text whose front is taken off, byte by byte. -/
namespace Go.Proofs.YtfihehobkbfmiaaGreatDoor.PCur
open Go.ChangeShapes Go.WideShapes Go.ChangeAt Go.RowKit LexPure Bytes Ret PathPure PEsc PBytes5 PBuildT PBuild
def sizeOfS : Value → Nat | .string s => s.size | _ => 0
theorem empty_no {s : ByteArray} (h : 0 < s.size) : ¬ s.toList = [] ∧ s.toList.isEmpty = false := by
  have h1 : ¬ s.toList = [] := fun e => by
    rw [ByteArray.toList_eq] at e
    have := toL_length s
    rw [show toL s = [] from e] at this
    simp at this
    omega
  refine ⟨h1, ?_⟩
  cases h2 : s.toList with
  | nil => exact absurd h2 h1
  | cons => rfl
theorem empty_yes {s : ByteArray} (h : ¬ 0 < s.size) : s.toList = [] ∧ s.toList.isEmpty = true := by
  have h1 : s.toList = [] := by
    rw [ByteArray.toList_eq]
    exact List.length_eq_zero_iff.1 (by have := toL_length s; unfold toL at this; omega)
  exact ⟨h1, by rw [h1]; rfl⟩
theorem sign_cases (c : UInt8) : (c = 37 ∧ ((c.toNat : Int) != 37) = false) ∨ (¬ c = 37 ∧ ((c.toNat : Int) != 37) = true) := by
  have := all_bytes (p := fun c => (c == 37 && (((c.toNat : Int) != 37) == false)) || (!(c == 37) && (((c.toNat : Int) != 37) == true))) (by decide +kernel) c
  simpa using this
theorem cut_one (s : ByteArray) (h : 0 < s.size) : toL s = s[0] :: toL (s.extract 1 s.size) ∧ (s.extract 1 s.size).size + 1 = s.size := by
  constructor
  · have h1 := toL_drop s 0 h
    rw [List.drop_zero] at h1
    rw [h1, toL_extract, List.take_of_length_le (by rw [toL_length]; exact Nat.le_refl _)]
  · rw [ByteArray.size_extract]; omega
theorem cut_three (s : ByteArray) : toL (s.extract 3 s.size) = (toL s).drop 3 ∧ (s.extract 3 s.size).size = s.size - 3 := by
  constructor
  · rw [toL_extract, List.take_of_length_le (by rw [toL_length]; exact Nat.le_refl _)]
  · rw [ByteArray.size_extract]; omega
theorem ret_dec {a b : ByteArray} {p q : Bool} (h : a = b) (k : p = q) : Ending.returned (.tuple #[.string a, .bool p]) = .returned (.tuple #[.string b, .bool q]) := by rw [h, k]
end Go.Proofs.YtfihehobkbfmiaaGreatDoor.PCur

/- Layer 5 of the program: Decode: escapes undone, round by round. -/
namespace Go.Proofs.YtfihehobkbfmiaaGreatDoor.PDecode
open Go.ChangeShapes Go.WideShapes Go.ChangeAt Go.RowKit LexPure Bytes Ret PathPure PEsc PBytes5 PBuildT PBuild PCur
set_option maxRecDepth 20000
set_option maxHeartbeats 1600000 in
theorem pdecode_any (s : ByteArray) (hs : s.size ≤ 140737488351232) (w : World) :
    Calls Tryz.prog 150 #[.string s] w fun e w' => e = .returned (.tuple #[.string (ofL ((dec (toL s)).getD [])), .bool (dec (toL s)).isSome]) ∧ Below w.heap.size w w' := by
  have HB := Lib.hid (Bld.start w)
  go_enter Tryz.func150, Tryz.ntmps150
  go_wp2_with fail
  go_loopw [0] (fun v wr => ∃ cur acc, v = .string cur ∧ acc.length + cur.size ≤ s.size ∧ Hid (Bld w w.heap.size acc wr) ∧ Hid (dec (toL s) = (dec (toL cur)).map (acc ++ ·))) (fun v _ => sizeOfS v)
  case atStart => exact ⟨s, [], rfl, by simp, HB, Lib.hid (by simp)⟩
  case round =>
    clear HB
    obtain ⟨cur, acc, rfl, hlen, HI, HD⟩ := hrel
    by_cases hpos : 0 < cur.size
    · obtain ⟨m1, m2⟩ := empty_no hpos
      obtain ⟨hc1, hc2⟩ := cut_one cur hpos
      have hC1 := Lib.hid hc1
      have hpi : (0 : Int) < (cur.size : Int) := by omega
      have hcs : (cur.size : Int) ≤ 140737488351232 := by omega
      clear hc1
      rcases sign_cases cur[0] with ⟨h37, hq⟩ | ⟨h37, hq⟩
      · have HE := Lib.hid (fun w => pescaped_any cur (by omega) w)
        obtain ⟨hd1, hd2⟩ := cut_three cur
        have hlt := escN_lt (toL cur)
        by_cases ho : escO (toL cur) = true
        · have h3 := esc_three ho
          rw [toL_length] at h3
          have HD2 : Hid (dec (toL s) = (dec (toL (cur.extract 3 cur.size))).map ((acc ++ [UInt8.ofNat (escN (toL cur))]) ++ ·)) := Lib.hid (by
            rw [HD.out, hd1, ← map_cons, hC1.out, h37]
            rw [hC1.out, h37] at ho
            rw [dec_yes ho])
          rw [ho] at HE
          have HN := Lib.hid (fun wr' (h : Bld w w.heap.size acc wr') => bld_num h (escN (toL cur)) hlt (by omega))
          have h3i : 3 ≤ (cur.size : Int) := by omega
          clear HD ho hC1 hd1 h37
          generalize escN (toL cur) = n at *
          go_wp2_with fail
          refine (HE.out _).mono ?_
          rintro e w' ⟨rfl, rfl⟩
          go_wp2_with fail
          refine (HN.out _ HI.out).mono ?_
          rintro e w2 ⟨rfl, hb2⟩
          have HB2 := Lib.hid hb2
          clear hb2 HI
          go_wp2_with fail
          go_roundw
          case rel => exact ⟨_, _, rfl, by rw [hd2]; simp; omega, HB2, HD2⟩
          case measure => simp [sizeOfS]; omega
        · have hof : escO (toL cur) = false := by simpa using ho
          have HV : Hid (dec (toL s) = none) := Lib.hid (by
            rw [HD.out, hC1.out, h37, dec_no (by rw [← h37, ← hC1.out]; exact hof)]
            rfl)
          rw [hof] at HE
          clear HD ho hof hC1 hd1 h37 hd2 hlt
          generalize escN (toL cur) = n at *
          go_wp2_with fail
          refine (HE.out _).mono ?_
          rintro e w' ⟨rfl, rfl⟩
          go_wp2_with fail
          go_ret2
          exact ⟨ret_dec (by rw [HV.out]; rfl) (by rw [HV.out]; rfl), HI.out.2⟩
      · have HD2 : Hid (dec (toL s) = (dec (toL (cur.extract 1 cur.size))).map ((acc ++ [cur[0]]) ++ ·)) := Lib.hid (by
          rw [HD.out, ← map_cons, ← dec_other h37, ← hC1.out])
        have HN := Lib.hid (fun wr' (h : Bld w w.heap.size acc wr') => bld_byte h cur[0] (by omega))
        clear HD hC1 h37
        go_wp2_with fail
        refine (HN.out _ HI.out).mono ?_
        rintro e w2 ⟨rfl, hb2⟩
        have HB2 := Lib.hid hb2
        clear hb2 HI
        go_wp2_with fail
        go_roundw
        case rel => exact ⟨_, _, rfl, by simp; omega, HB2, HD2⟩
        case measure => simp [sizeOfS]; omega
    · obtain ⟨m1, m2⟩ := empty_yes hpos
      have HV : Hid (dec (toL s) = some acc) := Lib.hid (by
        rw [HD.out, show toL cur = [] from (ByteArray.toList_eq cur).symm.trans m1]
        simp [dec])
      have HN := Lib.hid (fun wr' (h : Bld w w.heap.size acc wr') => bld_out h)
      clear HD hpos
      go_wp2_with fail
      refine (HN.out _ HI.out).mono ?_
      rintro e w2 ⟨rfl, hb2⟩
      have HB2 := Lib.hid hb2
      clear hb2 HI
      go_wp2_with fail
      go_ret2
      exact ⟨ret_dec (by rw [HV.out]; rfl) (by rw [HV.out, Option.isSome_some]), HB2.out⟩
end Go.Proofs.YtfihehobkbfmiaaGreatDoor.PDecode

/- A row of bytes behind '[]byte(s)': its cells, a store into it, the text out of it. No program is named. -/
namespace Go.Proofs.YtfihehobkbfmiaaGreatDoor.BRow
open Bytes Rows1 Go.RowKit
variable {P : Program}
structure BRow (w : World) (g : Nat) (l : List UInt8) : Prop where
  cell : ∀ j (hj : j < l.length), w.cell? ⟨g, j, none⟩ = some (.int .u8 (l[j].toNat : Int))
  free : ∀ j, j < l.length → w.frozen? ⟨g, j, none⟩ = false
theorem BRow.set {w : World} {g : Nat} {l : List UInt8} (h : BRow w g l) (k : Nat) (hk : k < l.length) (c : UInt8) : BRow (w.setCell ⟨g, k, none⟩ (.int .u8 (c.toNat : Int))) g (l.set k c) := by
  refine ⟨fun j hj => ?_, fun j hj => ?_⟩
  · rw [List.length_set] at hj
    rw [List.getElem_set]
    by_cases e : k = j
    · subst e
      rw [if_pos rfl]
      exact World.cell?_setCell_same _ _ _ (h.cell k hk)
    · rw [if_neg e, World.cell?_setCell_other _ _ _ _ (by intro h2; injection h2 with _ h3; exact e h3)]
      exact h.cell j hj
  · rw [List.length_set] at hj
    rw [World.frozen?_setCell]
    exact h.free j hj
theorem BRow.below {w w' : World} {g : Nat} {l : List UInt8} (h : BRow w g l) (hg : g < w.heap.size) (hb : Below w.heap.size w w') : BRow w' g l :=
  ⟨fun j hj => (hb.cell (p := ⟨g, j, none⟩) hg).trans (h.cell j hj), fun j hj => (hb.frozen (p := ⟨g, j, none⟩) hg).trans (h.free j hj)⟩
/-- '[]byte(s)' -/
theorem bytes_of (w : World) (src dst e : TypeId) (s : ByteArray) (hs : P.underlying src = some .string) (hd : P.underlying dst = some (.slice e)) (he : P.underlying e = some (.int .u8)) :
    ∃ cap w1, (Go.convert src dst (.string s)).run P w = .ok (.slice (some ⟨w.heap.size, 0, none⟩) s.size cap) w1 ∧ BRow w1 w.heap.size (toL s) ∧ Below w.heap.size w w1 ∧ w.heap.size < w1.heap.size := by
  refine ⟨_, _, run_bytes_of_string w src dst e s hs hd he, ⟨fun j hj => ?_, fun j hj => ?_⟩, ((Below.refl _ w).drew).alloc (Nat.le_refl _) _, by simp⟩
  · have hj' : j < s.size := by rwa [toL_length] at hj
    have hC : (bytesRow s (grownCap w s.size 0 e))[j]? = some (.int .u8 ((toL s)[j].toNat : Int)) := by
      unfold bytesRow
      rw [Array.getElem?_append_left (by rw [Array.size_map]; exact hj'), Array.getElem?_map]
      have : s.data[j]? = some (toL s)[j] := by
        rw [← Array.getElem?_toList]
        exact List.getElem?_eq_getElem hj
      rw [this]
      rfl
    generalize bytesRow s (grownCap w s.size 0 e) = C at *
    have h : (w.drew.alloc (.cells C e (C.size, C.size + 1))).heap[w.heap.size]? = some (.cells C e (C.size, C.size + 1)) := by
      show (w.heap.push _)[w.heap.size]? = _
      simp
    simp only [World.cell?, h]
    exact hC
  · have hj' : j < s.size := by rwa [toL_length] at hj
    have hsz : j < (bytesRow s (grownCap w s.size 0 e)).size := by
      unfold bytesRow
      rw [Array.size_append, Array.size_map]
      have : s.data.size = s.size := rfl
      omega
    generalize bytesRow s (grownCap w s.size 0 e) = C at *
    have h : (w.drew.alloc (.cells C e (C.size, C.size + 1))).heap[w.heap.size]? = some (.cells C e (C.size, C.size + 1)) := by
      show (w.heap.push _)[w.heap.size]? = _
      simp
    unfold World.frozen?
    rw [h]
    simp
    omega
/-- 'string(b)' -/
theorem BRow.text {w : World} {g cap : Nat} {l : List UInt8} (h : BRow w g l) (src dst e : TypeId) (hs : P.underlying src = some (.slice e)) (he : P.underlying e = some (.int .u8)) (hd : P.underlying dst = some .string) :
    (Go.convert src dst (.slice (some ⟨g, 0, none⟩) l.length cap)).run P w = .ok (.string (ofL l)) w :=
  run_convert_bytes_back w src dst e ⟨g, 0, none⟩ cap l hs he hd (fun j hj => by
    have e : (⟨g, 0, none⟩ : Addr).add j = ⟨g, j, none⟩ := by unfold Addr.add; split <;> simp_all
    rw [e]
    exact h.cell j hj)
end Go.Proofs.YtfihehobkbfmiaaGreatDoor.BRow

/- Layer 5 of the program: oneForm: how a byte that was escaped is written. -/
namespace Go.Proofs.YtfihehobkbfmiaaGreatDoor.POneForm
open Go.ChangeShapes Go.WideShapes Go.ChangeAt Go.RowKit LexPure Bytes Ret PathPure PEsc PBytes5 BRow
set_option maxRecDepth 20000
/-- string([]byte{..}) -/
theorem text_at (W : World) (g : Nat) (l : List UInt8) (cs : Array Value) (fr : Nat × Nat) (cap : Nat) (hg : W.heap[g]? = some (.cells cs 5 fr)) (hc : ∀ j (h : j < l.length), cs[j]? = some (.int .u8 (l[j].toNat : Int))) :
    (Go.convert 61 9 (.slice (some ⟨g, 0, none⟩) l.length cap)).run Tryz.prog W = .ok (.string (ofL l)) W :=
  run_convert_bytes_back _ 61 9 5 ⟨g, 0, none⟩ cap l Tryz.underlying61 Tryz.underlying5 Tryz.underlying9 (fun j hj => by
    have e : (⟨g, 0, none⟩ : Addr).add j = ⟨g, j, none⟩ := by unfold Addr.add; split <;> simp_all
    rw [e]
    simp only [World.cell?, hg]
    exact hc j hj)
theorem heap_new (w : World) (o : Obj) : (w.alloc o).heap[w.heap.size]? = some o := by
  show (w.heap.push _)[w.heap.size]? = _
  simp
def digs : ByteArray := ⟨#[48, 49, 50, 51, 52, 53, 54, 55, 56, 57, 65, 66, 67, 68, 69, 70]⟩
theorem digs_hx (n : Nat) (h : n < digs.size) : digs[n] = hx n := by
  have : n = 0 ∨ n = 1 ∨ n = 2 ∨ n = 3 ∨ n = 4 ∨ n = 5 ∨ n = 6 ∨ n = 7 ∨ n = 8 ∨ n = 9 ∨ n = 10 ∨ n = 11 ∨ n = 12 ∨ n = 13 ∨ n = 14 ∨ n = 15 := by
    have : digs.size = 16 := rfl
    omega
  rcases this with h | h | h | h | h | h | h | h | h | h | h | h | h | h | h | h <;> subst h <;> rfl
theorem poneform_any (b : UInt8) (w : World) :
    Calls Tryz.prog 162 #[.int .u8 (b.toNat : Int)] w fun e w' => e = .returned (.string (ofL (wr b.toNat))) ∧ Below w.heap.size w w' := by
  have HP := Lib.hid (fun w => pplain_any b w)
  have hlt : (b.toNat : Int) ≤ 255 := by have := b.toNat_lt; omega
  by_cases hp : plainP b.toNat = true
  · have HW : Hid (wr b.toNat = [b]) := Lib.hid (by unfold wr; rw [if_pos hp]; simp)
    rw [hp] at HP
    have hconv : (Go.convert 61 9 (.slice (some ⟨w.heap.size, 0, none⟩) 1 1)).run Tryz.prog (w.alloc (.cells #[.int .u8 (b.toNat : Int)] 5)) = .ok (.string (ofL [b])) (w.alloc (.cells #[.int .u8 (b.toNat : Int)] 5)) :=
      text_at _ _ [b] _ _ 1 (heap_new w _) (by intro j hj; match j, hj with | 0, _ => rfl)
    clear hp
    go_enter Tryz.func162, Tryz.ntmps162
    go_wp2_with fail
    refine (HP.out _).mono ?_
    rintro e w' ⟨rfl, rfl⟩
    go_wp2_with fail
    go_ret
    rw [HW.out]
    exact ⟨rfl, (Below.refl _ _).alloc (Nat.le_refl _) _⟩
  · have hpf : plainP b.toNat = false := by simpa using hp
    have HW : Hid (ofL (wr b.toNat) = ofL [37, hx (b.toNat / 16), hx (b.toNat % 16)]) := Lib.hid (by unfold wr; rw [hpf]; rfl)
    have k1 : (0 : Int) ≤ (b.toNat : Int) / 16 := by omega
    have k2 : (b.toNat : Int) / 16 < 16 := by omega
    have k3 : (0 : Int) ≤ (b.toNat : Int) % 16 := by omega
    have k4 : (b.toNat : Int) % 16 < 16 := by omega
    rw [hpf] at HP
    have hconv : ∀ p q : UInt8, (Go.convert 61 9 (.slice (some ⟨w.heap.size, 0, none⟩) 3 3)).run Tryz.prog (w.alloc (.cells #[.int .u8 37, .int .u8 (p.toNat : Int), .int .u8 (q.toNat : Int)] 5)).drew = .ok (.string (ofL [37, p, q])) (w.alloc (.cells #[.int .u8 37, .int .u8 (p.toNat : Int), .int .u8 (q.toNat : Int)] 5)).drew := fun p q =>
      text_at (w.alloc _).drew _ [37, p, q] _ _ 3 (heap_new w _) (by intro j hj; match j, hj with | 0, _ => rfl | 1, _ => rfl | 2, _ => rfl)
    clear hp hpf
    go_enter Tryz.func162, Tryz.ntmps162
    go_wp2_with fail
    refine (HP.out _).mono ?_
    rintro e w' ⟨rfl, rfl⟩
    go_wp2_with fail
    go_region
    go_wp2_with fail
    go_ret
    refine ⟨ret_string ?_, ((Below.refl _ _).alloc (Nat.le_refl _) _).drew⟩
    rw [HW.out]
    have s16 : digs.size = 16 := rfl
    have e1 := digs_hx (b.toNat / 16) (by omega)
    have e2 := digs_hx (b.toNat % 16) (by omega)
    rw [← e1, ← e2]
    rfl
end Go.Proofs.YtfihehobkbfmiaaGreatDoor.POneForm

/- Layer 14 of the program: Word, Unword. -/
namespace Go.Proofs.YtfihehobkbfmiaaGreatDoor.PCfgW
open Go.ChangeShapes Go.WideShapes Go.ChangeAt Go.RowKit Bytes LexPure PathPure ConfPure ConfProg Ret Mem Step InEmb PBuildT PBuild POneForm PDecode
set_option maxRecDepth 100000
set_option linter.unusedVariables false
set_option linter.unusedSimpArgs false
theorem spotB : Spot 63 0 2 := ⟨by kernel_rfl, by decide, by decide⟩
theorem below_of_step {w w1 w2 : World} {b : Nat} {B : Nat} (h : Below B w w1) (hs : Step w1 w2 (fun k => k = b) (fun k => k = b)) (hb : B ≤ b) (hB : B ≤ w1.heap.size) : Below B w w2 :=
  ⟨hs.os.trans h.os, hs.tape.trans h.tape, hs.output.trans h.output, Nat.le_trans h.size hs.size, fun k hk => (hs.block k (Nat.lt_of_lt_of_le hk hB) (fun e => by omega)).trans (h.block k hk)⟩
set_option maxHeartbeats 3200000 in
theorem bld_write {w wr : World} {b : Nat} {acc : L} (h : Bld w b acc wr) (g : Nat) (bs : L) (hg : Has wr g 5 (Lib.byteCells bs).toArray) (hl : acc.length + bs.length ≤ 140737488355328) :
    Calls Tryz.prog 45 #[.pointer (some ⟨b, 0, none⟩), .slice (some ⟨g, 0, none⟩) bs.length bs.length] wr fun e w' => e = .returned (.tuple #[.int .i64 bs.length, .nilIface]) ∧ Bld w b (acc ++ bs) w' := by
  obtain ⟨hB, hbw⟩ := h
  obtain ⟨p, hp, hlo, v, hat, hown, hne⟩ : ∃ p, (p = .pointer none ∨ p = selfP b 0) ∧ w.heap.size ≤ b ∧ ∃ v, wr.heap[b]? = some (.cells #[p, v] 63 (0, 0)) ∧ wr.ownsRow w.heap.size 5 1 v (Lib.byteCells acc).length (Lib.byteCells acc) ∧ v.ownBlock ≠ some b := by
    rcases hB with ⟨a1, v, a2, a3, a4⟩ | ⟨a1, v, a2, a3, a4⟩
    · exact ⟨_, .inl rfl, a1, v, a2, a3, a4⟩
    · exact ⟨_, .inr rfl, a1, v, a2, a3, a4⟩
  rw [Lib.byteCells_length] at hown
  have hH : Has wr b 63 #[p, v] := ⟨hat⟩
  have hE : Emb wr b 0 63 #[p, v] p v acc := ⟨hH, rfl, rfl, hp, by
    have h0 : wr.ownsRowF w.heap.size 5 1 v acc.length (Lib.byteCells acc) := World.ownsRowF_of hown
    exact ⟨h0.1, h0.2.imp id (fun ⟨a, c, d, f, x1, x2, x3⟩ => ⟨a, c, d, f, x1, Nat.zero_le _, x3⟩)⟩⟩
  have HC := Lib.hid (emb_check spotB rfl hE)
  have hgb : g ≠ b := fun e => by subst e; exact absurd (hg.ne_ hH (by decide)) (fun k => k rfl)
  have HO := Lib.hid hown
  have HG := Lib.hid hg
  have HBw := Lib.hid hbw
  have hbs : (bs.length : Int) ≤ 140737488355328 := by omega
  obtain ⟨i0, hi, hz0, hz1, hz2⟩ := info_parts extra166.infoByte
  clear hE hat hH hp hB hbw hg hown
  go_enter Tryz.func45, Tryz.ntmps45
  go_wp2_with fail
  refine HC.out.mono ?_
  rintro e w1 ⟨rfl, hu, hs⟩
  have c1 : w1.cell? ⟨b, 1, none⟩ = some v := (hu.has.cell 1).trans hu.c1
  have z1 := hu.has.free 1
  have HO1 := hs.row HO.out (fun k hk e => hne (by rw [hk, e]))
  have HG1 := hs.has HG.out (fun e => hgb e)
  have hN : ∀ (j : Nat) (u : Value), (Lib.byteCells bs)[j]? = some u → w1.cell? ((⟨g, 0, none⟩ : Addr).add j) = some u := fun j u hj => by
    rw [show (⟨g, 0, none⟩ : Addr).add j = ⟨g, j, none⟩ by unfold Addr.add; split <;> simp_all]
    rw [HG1.cell j]
    simpa using hj
  have hsz : w.heap.size ≤ w1.heap.size := Nat.le_trans HBw.out.size hs.size
  have HS := Lib.hid hs
  have HU := Lib.hid hu
  clear HC hs hu
  go_wp2_with (at_builtin; refine wpList_append_own_at _ rfl (.tmp 12) (.tmp 13) 61 rfl w.heap.size 5 i0 _ 1 1 Tryz.underlying61 hi hz0 hz1 hz2 rfl (by decide) _ _ _ rfl HO1 ⟨g, 0, none⟩ bs.length bs.length (Lib.byteCells bs) rfl (by simp [Lib.byteCells]) hN (fun x hx => by simp [Lib.byteCells] at hx; obtain ⟨y, _, rfl⟩ := hx; rfl) (by unfold maxLen; omega) (by omega) hsz ?_; intro v4 w4 hown4 hg4 _ hat4; obtain ⟨p4, cap4, hv4, _⟩ := Rows1.row_form hown4; subst hv4; have hg5 : w1.grownBy w4 v.ownBlock := hg4; have hat5 : (Value.slice p4 (acc.length + bs.length) cap4).ownBlock = v.ownBlock ∨ (Value.slice p4 (acc.length + bs.length) cap4).ownBlock = some w1.heap.size := hat4; have hH4 := HU.out.has.grown hg5 (Ne.symm hne); have c4 : w4.cell? ⟨b, 1, none⟩ = some v := (hH4.cell 1).trans HU.out.c1; have z4 := hH4.free 1; have HO4 := Lib.hid hown4; have HG4 := Lib.hid hg5; have HA4 := Lib.hid hat5; clear hown4 hg4 hat4 hg5 hat5 hH4 c1 z1 HO1 HG1 hN)
  go_wp2_with fail
  go_ret2
  have hb1 : b < w1.heap.size := HU.out.has.lt
  have hH4 := HU.out.has.grown HG4.out (Ne.symm hne)
  have hne4 : (Value.slice p4 (acc.length + bs.length) cap4).ownBlock ≠ some b := by
    rcases HA4.out with h | h
    · rw [h]; exact hne
    · rw [h]; intro e; injection e with e; omega
  refine ⟨rfl, .inr ⟨hlo, .slice p4 (acc.length + bs.length) cap4, (hH4.set_ 1 _).at_, ?_, hne4⟩, ?_⟩
  · rw [Lib.byteCells_length, List.length_append, Lib.byteCells_append]
    exact HO4.out.kept (row := some b) ⟨rfl, rfl, rfl, by simp [World.setCell], fun k _ hk => Below.heap_setCell w4 _ _ k (fun e => hk (by rw [e]))⟩ (.inr hne4)
  · exact (Below.grown (below_of_step HBw.out HS.out hlo HBw.out.size) HG4.out hsz (fun k hk => (HO.out.lt k hk).1)).setCell (p := ⟨b, 1, none⟩) hlo _
theorem below_drew {B : Nat} {w wr : World} (h : Below B w wr) : Below B w wr.drew := ⟨h.os, h.tape, h.output, h.size, h.block⟩
theorem flat_step (f : UInt8 → L) (l : L) (k : Nat) (h : k < l.length) : (l.take (k + 1)).flatMap f = (l.take k).flatMap f ++ f l[k] := by
  rw [List.take_succ_eq_append_getElem h, List.flatMap_append]
  simp
theorem wordC_len (c : UInt8) : (wordC c).length ≤ 3 := by unfold wordC; split <;> simp
theorem words_len (l : L) : (l.flatMap wordC).length ≤ 3 * l.length := by
  induction l with
  | nil => simp
  | cons c l ih =>
    rw [List.flatMap_cons, List.length_append, List.length_cons]
    have := wordC_len c
    omega
theorem word_len (l : L) : (word l).length ≤ 3 * l.length + 1 := by
  unfold word
  split
  · simp
  split
  · rename_i h; rw [h]; simp
  · have := words_len l; omega
set_option maxHeartbeats 3200000 in
theorem pword_any (s : ByteArray) (hs : s.size ≤ 35184372088832) (w : World) :
    Calls Tryz.prog 19 #[.string s] w fun e w' => e = .returned (.string (ofL (word (toL s)))) ∧ Below w.heap.size w w' := by
  have q1 : (s.toList == []) = (toL s == []) := by rw [ByteArray.toList_eq]
  have q1' : s.toList.isEmpty = (toL s == []) := by
    rw [ByteArray.toList_eq]
    show (toL s).isEmpty = _
    cases toL s <;> rfl
  have q2 : (s.toList == [45]) = (toL s == [45]) := by rw [ByteArray.toList_eq]
  by_cases h1 : toL s = []
  · have hw : word (toL s) = [45] := by unfold word; rw [if_pos h1]
    rw [hw]
    rw [h1] at q1 q1' q2
    clear h1 hw hs
    replace q1 : (s.toList == []) = true := q1
    replace q1' : s.toList.isEmpty = true := q1'
    go_enter Tryz.func19, Tryz.ntmps19
    go_wp2_with fail
    go_ret
    exact ⟨rfl, Below.refl _ _⟩
  · have b1 : (toL s == []) = false := beq_false_of_ne h1
    rw [b1] at q1 q1'
    by_cases h2 : toL s = [45]
    · have hw : word (toL s) = [37, 50, 68] := by unfold word; rw [if_neg h1, if_pos h2]
      rw [hw]
      rw [h2] at q2
      replace q2 : (s.toList == [45]) = true := q2
      clear h1 h2 hw hs b1
      go_enter Tryz.func19, Tryz.ntmps19
      go_wp2_with fail
      go_ret
      exact ⟨rfl, Below.refl _ _⟩
    · have hw : word (toL s) = (toL s).flatMap wordC := by unfold word; rw [if_neg h1, if_neg h2]
      rw [hw]
      rw [beq_false_of_ne h2] at q2
      have HB0 := Lib.hid (Bld.start w)
      have hsi : (s.size : Int) ≤ 35184372088832 := by omega
      have HS := Lib.hid hs
      clear h1 h2 hw b1 hs
      go_enter Tryz.func19, Tryz.ntmps19
      go_wp2_with fail
      go_loopw [13] (fun i wr => ∃ k : Nat, k ≤ s.size ∧ i = .int .i64 k ∧ Hid (Bld w w.heap.size (((toL s).take k).flatMap wordC) wr)) (fun i _ => s.size - (intOf i).toNat)
      case atStart => exact ⟨0, Nat.zero_le _, rfl, HB0⟩
      case round =>
        obtain ⟨k, hk, rfl, HJ⟩ := hrel
        clear HB0
        by_cases hlt : k < s.size
        · have hki : (k : Int) < (s.size : Int) := by omega
          have hk0 : (0 : Int) ≤ (k : Int) := by omega
          have hll : k < (toL s).length := by rw [toL_length]; exact hlt
          have HSt := Lib.hid (flat_step wordC (toL s) k hll)
          have hlen : (((toL s).take k).flatMap wordC).length + 3 ≤ 140737488355328 := by
            have h3 := words_len ((toL s).take k)
            rw [List.length_take, toL_length] at h3
            have := HS.out
            omega
          have HL := Lib.hid hlen
          have hcl : (toL s)[k] = s[k] := rfl
          rw [hcl] at HSt
          have hcb : (s[k].toNat : Int) ≤ 255 := by have := s[k].toNat_lt; omega
          have hcn : (0 : Int) ≤ (s[k].toNat : Int) := by omega
          clear hcl hlen
          by_cases hp : 32 < s[k].toNat ∧ s[k].toNat < 127 ∧ s[k] ≠ 37
          · have HW : Hid (wordC s[k] = [s[k]]) := Lib.hid (by unfold wordC; rw [if_pos hp])
            have f1 : decide ((32 : Int) < (s[k].toNat : Int)) = true := decide_eq_true (by omega)
            have f2 : decide ((s[k].toNat : Int) < 127) = true := decide_eq_true (by omega)
            have f3 : ((s[k].toNat : Int) == 37) = false := beq_false_of_ne (fun e => hp.2.2 (UInt8.toNat_inj.1 (by show s[k].toNat = 37; omega)))
            have f4 : ((s[k].toNat : Int) != 37) = true := by rw [bne, f3]; rfl
            have HWr := Lib.hid (bld_byte HJ.out s[k] (by have := HL.out; omega))
            rw [← HW.out, ← HSt.out] at HWr
            clear hp HJ HL hcb hcn
            go_wp2_with fail
            refine HWr.out.mono ?_
            rintro e w2 ⟨rfl, hb⟩
            have HJ2 := Lib.hid hb
            clear hb HWr f1 f2 f3 f4
            go_wp2_with fail
            go_roundw
            case rel => exact ⟨k + 1, by omega, by go_num, HJ2⟩
            case measure => simp [intOf]; omega
          · have HW : Hid (wordC s[k] = [37, hx (s[k].toNat / 16), hx (s[k].toNat % 16)]) := Lib.hid (by unfold wordC; rw [if_neg hp])
            have HWr : Hid (∀ (W : World) (x y : UInt8), Bld w w.heap.size (((toL s).take k).flatMap wordC) W → Has W wr.heap.size 5 #[.int .u8 37, .int .u8 (x.toNat : Int), .int .u8 (y.toNat : Int)] →
                Calls Tryz.prog 45 #[.pointer (some ⟨w.heap.size, 0, none⟩), .slice (some ⟨wr.heap.size, 0, none⟩) 3 3] W fun e w' => e = .returned (.tuple #[.int .i64 3, .nilIface]) ∧ Bld w w.heap.size (((toL s).take k).flatMap wordC ++ [37, x, y]) w') := Lib.hid (fun W x y hb hW => bld_write hb wr.heap.size [37, x, y] hW (by have := HL.out; exact this))
            have HBk := Lib.hid (fun W hW => Bld.keep HJ.out (w' := W) hW)
            have hq : (32 < s[k].toNat ∧ s[k].toNat < 127 ∧ s[k].toNat = 37) ∨ (32 < s[k].toNat ∧ ¬ s[k].toNat < 127) ∨ ¬ 32 < s[k].toNat := by
              by_cases a1 : 32 < s[k].toNat
              · by_cases a2 : s[k].toNat < 127
                · exact .inl ⟨a1, a2, Classical.byContradiction (fun e => hp ⟨a1, a2, fun h => e (by rw [h]; rfl)⟩)⟩
                · exact .inr (.inl ⟨a1, a2⟩)
              · exact .inr (.inr a1)
            have k1 : (0 : Int) ≤ (s[k].toNat : Int) / 16 := by omega
            have k2 : (s[k].toNat : Int) / 16 < 16 := by omega
            have k3 : (0 : Int) ≤ (s[k].toNat : Int) % 16 := by omega
            have k4 : (s[k].toNat : Int) % 16 < 16 := by omega
            have hbit : bits BinOp.and IntKind.u8 (s[k].toNat : Int) 15 = (s[k].toNat : Int) % 16 := by
              rw [show (15 : Int) = ((15 : Nat) : Int) from rfl, u8_and_nat _ _ s[k].toNat_lt (by decide), Nat.and_two_pow_sub_one_eq_mod _ 4]
              rfl
            clear hp HJ HL
            rcases hq with ⟨a1, a2, a3⟩ | ⟨a1, a2⟩ | a1
            · have f1 : decide ((32 : Int) < (s[k].toNat : Int)) = true := decide_eq_true (by omega)
              have f2 : decide ((s[k].toNat : Int) < 127) = true := decide_eq_true (by omega)
              have f3 : ((s[k].toNat : Int) == 37) = true := by rw [a3]; rfl
              have f4 : ((s[k].toNat : Int) != 37) = false := by rw [bne, f3]; rfl
              clear a1 a2 a3
              go_wp2_with fail
              clear f1 f2 f3 f4
              go_region_held3 (fun w' => True) (exact trivial)
                (first
                  | (go_at_call 45; refine (HWr.out _ _ _ (HBk.out _ (below_drew ((Below.refl _ _).alloc (Nat.le_refl _) _))) (Has.new wr _ _).drew).mono ?_; rintro e w6 ⟨rfl, hb6⟩))
              all_goals
                have HJ2 : Hid (Bld w w.heap.size (((toL s).take (k + 1)).flatMap wordC) w6) := Lib.hid (by
                  rw [HSt.out, HW.out]
                  have e1 := (digs_hx ((s[k].toNat : Int) / 16).toNat (by show _ < 16; omega)).trans (congrArg hx (show ((s[k].toNat : Int) / 16).toNat = s[k].toNat / 16 by omega))
                  have e2 := (digs_hx ((s[k].toNat : Int) % 16).toNat (by show _ < 16; omega)).trans (congrArg hx (show ((s[k].toNat : Int) % 16).toNat = s[k].toNat % 16 by omega))
                  rw [← e1, ← e2]
                  exact hb6)
                clear hb6 HWr HBk HW HSt hbit
                first
                  | exact ⟨⟨k + 1, by omega, by simp, HJ2⟩, by simp [intOf]; omega⟩
                  | (go_wp2_with fail
                     exact ⟨⟨k + 1, by omega, by simp, HJ2⟩, by simp [intOf]; omega⟩)
            · have f1 : decide ((32 : Int) < (s[k].toNat : Int)) = true := decide_eq_true (by omega)
              have f2 : decide ((s[k].toNat : Int) < 127) = false := decide_eq_false (by omega)
              clear a1 a2
              go_wp2_with fail
              clear f1 f2
              go_region_held3 (fun w' => True) (exact trivial)
                (first
                  | (go_at_call 45; refine (HWr.out _ _ _ (HBk.out _ (below_drew ((Below.refl _ _).alloc (Nat.le_refl _) _))) (Has.new wr _ _).drew).mono ?_; rintro e w6 ⟨rfl, hb6⟩))
              all_goals
                have HJ2 : Hid (Bld w w.heap.size (((toL s).take (k + 1)).flatMap wordC) w6) := Lib.hid (by
                  rw [HSt.out, HW.out]
                  have e1 := (digs_hx ((s[k].toNat : Int) / 16).toNat (by show _ < 16; omega)).trans (congrArg hx (show ((s[k].toNat : Int) / 16).toNat = s[k].toNat / 16 by omega))
                  have e2 := (digs_hx ((s[k].toNat : Int) % 16).toNat (by show _ < 16; omega)).trans (congrArg hx (show ((s[k].toNat : Int) % 16).toNat = s[k].toNat % 16 by omega))
                  rw [← e1, ← e2]
                  exact hb6)
                clear hb6 HWr HBk HW HSt hbit
                first
                  | exact ⟨⟨k + 1, by omega, by simp, HJ2⟩, by simp [intOf]; omega⟩
                  | (go_wp2_with fail
                     exact ⟨⟨k + 1, by omega, by simp, HJ2⟩, by simp [intOf]; omega⟩)
            · have f1 : decide ((32 : Int) < (s[k].toNat : Int)) = false := decide_eq_false (by omega)
              clear a1
              go_wp2_with fail
              clear f1
              go_region_held3 (fun w' => True) (exact trivial)
                (first
                  | (go_at_call 45; refine (HWr.out _ _ _ (HBk.out _ (below_drew ((Below.refl _ _).alloc (Nat.le_refl _) _))) (Has.new wr _ _).drew).mono ?_; rintro e w6 ⟨rfl, hb6⟩))
              all_goals
                have HJ2 : Hid (Bld w w.heap.size (((toL s).take (k + 1)).flatMap wordC) w6) := Lib.hid (by
                  rw [HSt.out, HW.out]
                  have e1 := (digs_hx ((s[k].toNat : Int) / 16).toNat (by show _ < 16; omega)).trans (congrArg hx (show ((s[k].toNat : Int) / 16).toNat = s[k].toNat / 16 by omega))
                  have e2 := (digs_hx ((s[k].toNat : Int) % 16).toNat (by show _ < 16; omega)).trans (congrArg hx (show ((s[k].toNat : Int) % 16).toNat = s[k].toNat % 16 by omega))
                  rw [← e1, ← e2]
                  exact hb6)
                clear hb6 HWr HBk HW HSt hbit
                first
                  | exact ⟨⟨k + 1, by omega, by simp, HJ2⟩, by simp [intOf]; omega⟩
                  | (go_wp2_with fail
                     exact ⟨⟨k + 1, by omega, by simp, HJ2⟩, by simp [intOf]; omega⟩)
        · have hki : ¬ (k : Int) < (s.size : Int) := by omega
          obtain rfl : k = s.size := by omega
          have HE : Hid (Bld w w.heap.size ((toL s).flatMap wordC) wr) := Lib.hid (by
            have := HJ.out
            rwa [List.take_of_length_le (by rw [toL_length]; exact Nat.le_refl _)] at this)
          clear HJ
          have HO := Lib.hid (bld_out HE.out)
          go_wp2_with fail
          refine HO.out.mono ?_
          rintro e w2 ⟨rfl, hb⟩
          go_wp2_with fail
          go_ret
          exact ⟨rfl, hb⟩
theorem punword_any (s : ByteArray) (hs : s.size ≤ 35184372088832) (w : World) :
    Calls Tryz.prog 130 #[.string s] w fun e w' => e = .returned (.tuple #[.string (ofL (textV (toL s))), .bool (unword (toL s)).isSome]) ∧ Below w.heap.size w w' := by
  have q2 : (s.toList == [45]) = (toL s == [45]) := by rw [ByteArray.toList_eq]
  have HD := Lib.hid (fun w => pdecode_any s (by omega) w)
  unfold textV
  rw [unword_prog]
  by_cases h1 : toL s = [45]
  · rw [if_pos h1]
    rw [h1] at q2
    replace q2 : (s.toList == [45]) = true := q2
    clear h1 hs HD
    go_enter Tryz.func130, Tryz.ntmps130
    go_wp2_with fail
    go_ret2
    exact ⟨rfl, Below.refl _ _⟩
  · rw [if_neg h1]
    rw [beq_false_of_ne h1] at q2
    cases hd : dec (toL s) with
    | none =>
      rw [hd] at HD
      clear h1 hs hd
      go_enter Tryz.func130, Tryz.ntmps130
      go_wp2_with fail
      refine (HD.out _).mono ?_
      rintro e w1 ⟨rfl, hb⟩
      go_wp2_with fail
      go_ret2
      exact ⟨rfl, hb⟩
    | some t =>
      rw [hd] at HD
      have htl := dec_len _ _ t (Nat.le_refl _) hd
      rw [toL_length] at htl
      have HW := Lib.hid (fun w => pword_any (ofL t) (by rw [ofL_size]; omega) w)
      rw [toL_ofL] at HW
      have q3 : ((ofL (word t)).toList == s.toList) = decide (word t = toL s) := by
        rw [ByteArray.toList_eq, ByteArray.toList_eq]
        show (toL (ofL (word t)) == toL s) = _
        rw [toL_ofL]
        by_cases h : word t = toL s
        · rw [h, beq_self_eq_true, decide_eq_true rfl]
        · rw [beq_false_of_ne h, decide_eq_false h]
      have q4 : ((ofL (word t)).toList != s.toList) = !decide (word t = toL s) := by rw [bne, q3]
      dsimp only [Option.getD_some, Option.isSome_some] at HD ⊢
      by_cases h2 : word t = toL s
      · rw [if_pos h2]
        rw [decide_eq_true h2] at q3 q4
        clear h1 hs hd htl h2
        generalize ofL (word t) = X at *
        dsimp only [Option.getD_some, Option.isSome_some]
        generalize ofL t = Y at *
        go_enter Tryz.func130, Tryz.ntmps130
        go_wp2_with fail
        refine (HD.out _).mono ?_
        rintro e w1 ⟨rfl, hb⟩
        have HB := Lib.hid hb
        clear hb HD
        go_wp2_with fail
        refine (HW.out _).mono ?_
        rintro e w2 ⟨rfl, hb⟩
        have HB2 := Lib.hid (below_chain HB.out hb)
        clear hb HW HB
        go_wp2_with fail
        go_ret2
        exact ⟨rfl, HB2.out⟩
      · rw [if_neg h2]
        rw [decide_eq_false h2] at q3 q4
        clear h1 hs hd htl h2
        generalize ofL (word t) = X at *
        generalize ofL t = Y at *
        go_enter Tryz.func130, Tryz.ntmps130
        go_wp2_with fail
        refine (HD.out _).mono ?_
        rintro e w1 ⟨rfl, hb⟩
        have HB := Lib.hid hb
        clear hb HD
        go_wp2_with fail
        refine (HW.out _).mono ?_
        rintro e w2 ⟨rfl, hb⟩
        have HB2 := Lib.hid (below_chain HB.out hb)
        clear hb HW HB
        go_wp2_with fail
        go_ret2
        exact ⟨rfl, HB2.out⟩
end Go.Proofs.YtfihehobkbfmiaaGreatDoor.PCfgW

/- Layer 4 of the program: what its function of one byte of a value answers (ofValue). -/
namespace Go.Proofs.YtfihehobkbfmiaaGreatDoor.POfValue
open Go.ChangeShapes Go.WideShapes Go.ChangeAt Go.RowKit LexPure Bytes Ret LexNum
set_option maxRecDepth 20000
theorem plain_cases (b : UInt8) : plainB b = decide ((b.toNat : Int) = 9 ∨ (32 ≤ (b.toNat : Int) ∧ ¬ (b.toNat : Int) = 127)) := by
  have := all_bytes (p := fun b => plainB b == decide ((b.toNat : Int) = 9 ∨ (32 ≤ (b.toNat : Int) ∧ ¬ (b.toNat : Int) = 127))) (by decide +kernel) b
  simpa using this
theorem pofvalue_any (b : UInt8) (w : World) :
    Calls Tryz.prog 115 #[.int .u8 (b.toNat : Int)] w fun e w' => e = .returned (.bool (plainB b)) ∧ w = w' := by
  rw [plain_cases]
  generalize (b.toNat : Int) = c
  go_enter Tryz.func115, Tryz.ntmps115
  go_wp2_with fail
  all_goals
    go_ret
    refine ⟨ret_bool ?_, rfl⟩
    try simp only [beq_eq_false_iff_ne, beq_iff_eq, ne_eq] at *
    first
      | exact Eq.symm (decide_eq_true (by omega))
      | exact Eq.symm (decide_eq_false (by omega))
      | (by_cases e1 : c = 9 <;> by_cases e2 : c = 127 <;> by_cases e3 : 32 ≤ c <;> first | (exfalso; omega) | simp [e1, e2, e3] | (subst e1; decide) | (subst e2; decide))
end Go.Proofs.YtfihehobkbfmiaaGreatDoor.POfValue

/- The shelf's words for strings.Trim, strings.Split and strings.IndexByte, and the grammar's: they say one thing. No program is named. -/
namespace Go.Proofs.YtfihehobkbfmiaaGreatDoor.LexSplit
open LexPure Bytes LexList
/-! ### Trim -/
def rdrop (s : List UInt8) : List UInt8 := (s.reverse.dropWhile blankB).reverse
theorem rdrop_cons (c : UInt8) (r : List UInt8) : rdrop (c :: r) = if (rdrop r).isEmpty then (if blankB c then [] else [c]) else c :: rdrop r := by
  unfold rdrop
  rw [List.reverse_cons, List.dropWhile_append]
  cases h : (r.reverse.dropWhile blankB).isEmpty with
  | true =>
    have h2 : r.reverse.dropWhile blankB = [] := List.isEmpty_iff.1 h
    rw [h2]
    cases hb : blankB c <;> simp [hb]
  | false =>
    have h2 : ((r.reverse.dropWhile blankB).reverse).isEmpty = false := by
      cases hx : r.reverse.dropWhile blankB with
      | nil => rw [hx] at h; cases h
      | cons a t => simp
    rw [h2]
    simp
theorem drop_rdrop : ∀ s : List UInt8, (rdrop s).dropWhile blankB = rdrop (s.dropWhile blankB)
  | [] => rfl
  | c :: r => by
    cases hb : blankB c with
    | true =>
      rw [List.dropWhile_cons, if_pos hb, rdrop_cons, ← drop_rdrop r]
      cases h : (rdrop r).isEmpty with
      | true => rw [List.isEmpty_iff.1 h]; simp [hb]
      | false => simp [hb]
    | false =>
      rw [List.dropWhile_cons, hb]
      simp only [Bool.false_eq_true, if_false]
      rw [rdrop_cons]
      cases h : (rdrop r).isEmpty <;> simp [hb]
theorem blank_set (b : UInt8) : ([32, 9] : List UInt8).contains b = blankB b := by
  have := all_bytes (p := fun b => ([32, 9] : List UInt8).contains b == blankB b) (by decide +kernel) b
  simpa using this
theorem trim_shelf (s : List UInt8) : Go.Lib.trimS s [32, 9] = trim s := by
  have e : (fun b => ([32, 9] : List UInt8).contains b) = blankB := funext blank_set
  unfold Go.Lib.trimS Go.Lib.trimLeftS Go.Lib.trimRightS
  rw [e]
  exact drop_rdrop s
/-! ### Split -/
theorem index_cons (c : UInt8) (l : List UInt8) (h : (c == 44) = false) : Go.Lib.index (c :: l) [44] = if Go.Lib.index l [44] == -1 then -1 else Go.Lib.index l [44] + 1 := by
  have hp : ([44] : List UInt8).isPrefixOf (c :: l) = false := by
    have : ¬ (44 : UInt8) = c := fun e => by rw [← e] at h; cases h
    simp [List.isPrefixOf, this]
  rw [Go.Lib.index, hp]
  rfl
theorem split_pieces : ∀ s : List UInt8, Go.Lib.splitK [44] 0 (s.count 44) s = pieces s
  | [] => rfl
  | c :: l => by
    by_cases hc : c = 44
    · subst hc
      have hix : Go.Lib.index (44 :: l) [44] = 0 := by rw [Go.Lib.index]; simp [List.isPrefixOf]
      rw [List.count_cons_self, Go.Lib.splitK, hix, if_neg (by decide), pieces, if_pos (by decide), ← split_pieces l]
      rfl
    · have hq : (c == 44) = false := by simpa using hc
      have ih := split_pieces l
      rw [List.count_cons_of_ne (by simpa using hc), pieces, if_neg (by simp [hq]), ← ih]
      cases hk : l.count 44 with
      | zero => rfl
      | succ k =>
        unfold Go.Lib.splitK
        rw [index_cons c l hq]
        by_cases hm : Go.Lib.index l [44] = -1
        · rw [hm]; rfl
        · have hge := Go.Lib.index_ge l [44]
          obtain ⟨i, hi⟩ : ∃ i : Nat, Go.Lib.index l [44] = i := ⟨(Go.Lib.index l [44]).toNat, by omega⟩
          rw [hi]
          have h1 : ((i : Int) == -1) = false := beq_eq_false_iff_ne.2 (by omega)
          have h2 : (((i : Int) + 1) == -1) = false := beq_eq_false_iff_ne.2 (by omega)
          have h3 : ((i : Int) + 1).toNat = i + 1 := by omega
          have h4 : ((i : Int)).toNat = i := by omega
          simp [h1, h2, h3, h4]
/-- the marks of a token -/
def marksA : ByteArray := ⟨#[33, 35, 36, 37, 38, 39, 42, 43, 45, 46, 94, 95, 124, 126, 96]⟩
def markI (b : UInt8) : Int := Go.Lib.indexByte marksA.data.toList b
theorem mark_cases (b : UInt8) : markB b = (decide (48 ≤ (b.toNat : Int) ∧ (b.toNat : Int) ≤ 57) || decide (65 ≤ (b.toNat : Int) ∧ (b.toNat : Int) ≤ 90) || decide (97 ≤ (b.toNat : Int) ∧ (b.toNat : Int) ≤ 122) || decide (0 ≤ markI b)) := by
  have := all_bytes (p := fun b => markB b == (decide (48 ≤ (b.toNat : Int) ∧ (b.toNat : Int) ≤ 57) || decide (65 ≤ (b.toNat : Int) ∧ (b.toNat : Int) ≤ 90) || decide (97 ≤ (b.toNat : Int) ∧ (b.toNat : Int) ≤ 122) || decide (0 ≤ markI b))) (by decide +kernel) b
  simpa using this
end Go.Proofs.YtfihehobkbfmiaaGreatDoor.LexSplit

/- Lists of texts: how they lie in memory. -/
namespace Go.Proofs.YtfihehobkbfmiaaGreatDoor.Texts
open Go.ChangeShapes Go.WideShapes Go.ChangeAt Go.RowKit LexPure Bytes Ret Rows1
theorem infoS : (Tryz.prog.info? 9).map (fun i => (i.zero, i.size, i.bytes)) = some (some (.string ByteArray.empty), 1, 16) := by kernel_rfl
def strs (G : List (List UInt8)) : List Value := G.map (fun e => .string (ofL e))
theorem strs_append (G H : List (List UInt8)) : strs (G ++ H) = strs G ++ strs H := by simp [strs]
/-- a list of texts: how it looks and its cells -/
def Texts (w : World) (v : Value) (G : List (List UInt8)) : Prop := ∃ p cap, v = .slice p G.length cap ∧ G.length ≤ 9223372036854775807 ∧ (0 < G.length → ∃ g o, p = some ⟨g, o, none⟩ ∧ g < w.heap.size ∧ ∀ j (hj : j < G.length), w.cell? ⟨g, o + j, none⟩ = some (.string (ofL G[j])))
theorem texts_of {w : World} {base : Nat} {v : Value} {G : List (List UInt8)} (h : w.ownsRow base 9 1 v G.length (Texts.strs G)) : Texts w v G := by
  obtain ⟨p, cap, hv, hle, hc⟩ := row_cells h
  have hcap : cap ≤ maxLen := by
    rcases h.2 with ⟨h1, _⟩ | ⟨_, c2, _, h1, _, _, _, h2, _⟩
    · rw [hv] at h1; injection h1 with _ _ h1; rw [h1]; exact Nat.zero_le _
    · rw [hv] at h1; injection h1 with _ _ h1; rw [h1]; exact h2
  unfold maxLen at hcap
  refine ⟨p, cap, hv, by omega, fun h0 => ?_⟩
  obtain ⟨g, hp, _, hlt, _, hcell⟩ := hc h0
  exact ⟨g, 0, hp, hlt, fun j hj => by rw [Nat.zero_add, hcell j hj]; simp [Texts.strs, List.getElem?_eq_getElem hj]⟩
theorem Texts.below {w w' : World} {v : Value} {G : List (List UInt8)} (h : Texts w v G) (hb : Below w.heap.size w w') : Texts w' v G := by
  obtain ⟨p, cap, hv, hn, hc⟩ := h
  refine ⟨p, cap, hv, hn, fun h0 => ?_⟩
  obtain ⟨g, o, hp, hlt, hcell⟩ := hc h0
  exact ⟨g, o, hp, Nat.lt_of_lt_of_le hlt hb.size, fun j hj => (hb.cell (p := ⟨g, o + j, none⟩) hlt).trans (hcell j hj)⟩
theorem Texts.drewN {w : World} {v : Value} {G : List (List UInt8)} (h : Texts w v G) (m : Nat) : Texts (w.drewN m) v G := h
theorem take_ext {G H : List (List UInt8)} {k : Nat} (hk : k < G.length) (hk2 : k < H.length) (h : G.take k = H.take k) (he : G[k] = H[k]) : G.take (k + 1) = H.take (k + 1) := by
  rw [List.take_add_one, List.take_add_one, h, List.getElem?_eq_getElem hk, List.getElem?_eq_getElem hk2, he]
end Go.Proofs.YtfihehobkbfmiaaGreatDoor.Texts

/- Layer 4 of the program: what the library's calls answer it (strings.Trim at blanks, strings.IndexByte at the marks), off the shelf's contracts. -/
namespace Go.Proofs.YtfihehobkbfmiaaGreatDoor.PLibT
open Go.ChangeShapes Go.WideShapes Go.ChangeAt Go.RowKit LexPure Bytes Ret LexSplit Texts Rows1
theorem lib_trim (s : ByteArray) (hs : s.size ≤ maxLen) (w : World) :
    Calls Tryz.prog 132 #[.string s, .string ⟨#[32, 9]⟩] w fun e w' => e = .returned (.string (ofL (trim (toL s)))) ∧ Below w.heap.size w w' := by
  have h := Any.strings_Trim_laid Tryz.lays160 (by kernel_rfl) s ⟨#[32, 9]⟩ w (by unfold maxLen at hs; omega) (by decide) (ascii_of_all (by decide))
  rw [show (⟨#[32, 9]⟩ : ByteArray).data.toList = [32, 9] from rfl, trim_shelf] at h
  exact h
theorem lib_mark (b : UInt8) (w : World) :
    Calls Tryz.prog 133 #[.string marksA, .int .u8 (b.toNat : Int)] w fun e w' => e = .returned (.int .i64 (markI b)) ∧ w' = w := by
  have h := Any.strings_IndexByte Tryz.lays137 marksA (b.toNat : Int) w
  rw [show ((b.toNat : Int)).toNat.toUInt8 = b from by simp] at h
  exact h
end Go.Proofs.YtfihehobkbfmiaaGreatDoor.PLibT

/- Layer 4 of the program: Token. -/
namespace Go.Proofs.YtfihehobkbfmiaaGreatDoor.PToken
open Go.ChangeShapes Go.WideShapes Go.ChangeAt Go.RowKit LexPure Bytes Ret LexSplit PLibT POfValue
set_option maxRecDepth 20000
theorem toList_eq' (s : ByteArray) : s.toList = toL s := ByteArray.toList_eq s
theorem poftoken_any (b : UInt8) (w : World) :
    Calls Tryz.prog 117 #[.int .u8 (b.toNat : Int)] w fun e w' => e = .returned (.bool (markB b)) ∧ w = w' := by
  have HM := Lib.hid (lib_mark b w)
  rw [mark_cases]
  unfold marksA at HM
  generalize markI b = i at *
  generalize (b.toNat : Int) = c at *
  go_enter Tryz.func117, Tryz.ntmps117
  go_wp2_with (refine HM.out.mono ?_; rintro e w' ⟨rfl, rfl⟩)
  all_goals
    go_ret
    refine ⟨ret_bool ?_, rfl⟩
  all_goals first
    | rfl
    | exact Eq.symm (decide_eq_true (by omega))
    | exact Eq.symm (by rw [decide_eq_true (show 48 ≤ c ∧ c ≤ 57 by omega)]; rfl)
    | exact Eq.symm (by rw [decide_eq_true (show 65 ≤ c ∧ c ≤ 90 by omega), Bool.or_true]; rfl)
    | exact Eq.symm (by rw [decide_eq_true (show 97 ≤ c ∧ c ≤ 122 by omega), Bool.or_true]; rfl)
    | (rw [decide_eq_false (show ¬ (48 ≤ c ∧ c ≤ 57) by omega), decide_eq_false (show ¬ (65 ≤ c ∧ c ≤ 90) by omega), decide_eq_false (show ¬ (97 ≤ c ∧ c ≤ 122) by omega)]; first | (simp; done) | (simp; intro h; omega))
theorem ptoken_any (s : ByteArray) (hs : s.size ≤ maxLen) (w : World) :
    Calls Tryz.prog 83 #[.string s] w fun e w' => e = .returned (.bool (token (toL s))) ∧ w = w' := by
  unfold maxLen at hs
  go_enter Tryz.func83, Tryz.ntmps83
  go_wp2_with fail
  go_loop [6] (fun i => ∃ k : Nat, k ≤ s.size ∧ i = .int .i64 k ∧ Hid (((toL s).take k).all markB = true)) (fun i => s.size - (intOf i).toNat)
  case atStart => exact ⟨0, Nat.zero_le _, rfl, Lib.hid rfl⟩
  case round =>
    obtain ⟨k, hk, rfl, ha⟩ := hrel
    by_cases hlt : k < s.size
    · have hki : (k : Int) < (s.size : Int) := by omega
      have HT := Lib.hid (toL_take_succ s k hlt)
      have HG := Lib.hid (toL_get s k hlt)
      have HC := Lib.hid (fun w => poftoken_any s[k] w)
      by_cases hm : markB s[k] = true
      · have HA : Hid (((toL s).take (k + 1)).all markB = true) := Lib.hid (by rw [HT.out, List.all_append, ha.out]; simp [hm])
        rw [hm] at HC
        clear hm HT HG
        go_wp2_with (refine (HC.out _).mono ?_; rintro e w' ⟨rfl, rfl⟩)
        go_round
        case rel => exact ⟨k + 1, by omega, by go_num, HA⟩
        case measure => simp [intOf]; omega
      · have hmf : markB s[k] = false := by simpa using hm
        have HV : Hid (token (toL s) = false) := Lib.hid (by
          unfold token
          rw [Bool.and_eq_false_iff]
          left
          rw [List.all_eq_false]
          exact ⟨s[k], List.mem_of_getElem? HG.out, hm⟩)
        rw [hmf] at HC
        clear hm HT HG hmf
        go_wp2_with (refine (HC.out _).mono ?_; rintro e w' ⟨rfl, rfl⟩)
        go_ret
        exact ⟨by rw [HV.out]; rfl, rfl⟩
    · have hall : (toL s).take k = toL s := toL_take_all s (by omega)
      have HA : Hid ((toL s).all markB = true) := Lib.hid (by rw [← hall]; exact ha.out)
      clear ha hall
      by_cases h0 : s.size = 0
      · have h1 : s.toList = [] := by
          rw [ByteArray.toList_eq]
          exact List.length_eq_zero_iff.1 (by rw [← h0]; exact toL_length s)
        have h2 : s.toList.isEmpty = true := by rw [h1]; rfl
        have HV : Hid (token (toL s) = false) := Lib.hid (by
          unfold token
          rw [show toL s = [] from List.length_eq_zero_iff.1 (by rw [← h0]; exact toL_length s)]
          rfl)
        go_wp2_with fail
        go_ret
        exact ⟨by rw [HV.out]; rfl, rfl⟩
      · have h1 : ¬ s.toList = [] := fun h => by
          rw [ByteArray.toList_eq] at h
          have h2 := toL_length s
          rw [show toL s = [] from h] at h2
          simp at h2
          omega
        have h2 : s.toList.isEmpty = false := by
          cases h : s.toList with
          | nil => exact absurd h h1
          | cons => rfl
        have HV : Hid (token (toL s) = true) := Lib.hid (by
          unfold token
          rw [HA.out, ← toList_eq', h2]
          rfl)
        go_wp2_with fail
        go_ret
        exact ⟨by rw [HV.out]; rfl, rfl⟩
end Go.Proofs.YtfihehobkbfmiaaGreatDoor.PToken

/- Layer 4 of the program: Trim. -/
namespace Go.Proofs.YtfihehobkbfmiaaGreatDoor.PTrim
open Go.ChangeShapes Go.WideShapes Go.ChangeAt Go.RowKit LexPure Bytes Ret LexSplit PLibT
set_option maxRecDepth 20000
theorem ptrim_any (s : ByteArray) (hs : s.size ≤ maxLen) (w : World) :
    Calls Tryz.prog 116 #[.string s] w fun e w' => e = .returned (.string (ofL (trim (toL s)))) ∧ Below w.heap.size w w' := by
  have H := Lib.hid (lib_trim s hs w)
  clear hs
  go_enter Tryz.func116, Tryz.ntmps116
  go_wp2_with fail
  refine H.out.mono ?_
  rintro e w1 ⟨rfl, hb1⟩
  go_wp2_with fail
  go_ret
  exact ⟨rfl, hb1⟩
end Go.Proofs.YtfihehobkbfmiaaGreatDoor.PTrim

/- Layer 4 of the program: Value. -/
namespace Go.Proofs.YtfihehobkbfmiaaGreatDoor.PText
open Go.ChangeShapes Go.WideShapes Go.ChangeAt Go.RowKit LexPure Bytes Ret LexSplit PLibT PTrim POfValue
set_option maxRecDepth 20000
/-- a value, as the program asks it -/
theorem value_trim (s : List UInt8) : value s = (s.all plainB && decide (trim s = s)) := by
  unfold value
  cases h : s.all plainB with
  | false => rfl
  | true =>
    rw [Bool.true_and, Bool.true_and]
    cases hs : s with
    | nil => rfl
    | cons c r =>
      have h2 : (c :: r).getLastD 0 = ((c :: r).reverse).headD 0 := by
        rw [List.headD_eq_head?_getD, List.head?_reverse, List.getLastD_eq_getLast?]
      rw [h2]
      rw [Bool.eq_iff_iff]
      simp only [List.isEmpty_cons, Bool.false_or, Bool.and_eq_true, Bool.not_eq_true', List.headD_cons, decide_eq_true_eq]
      constructor
      · rintro ⟨h1, h3⟩
        refine trim_id (fun a t e => ?_) (fun a t e => ?_)
        · injection e with e1 e2
          rw [← e1]; exact h1
        · rw [e] at h3; exact h3
      · intro e
        refine ⟨trim_head (s := c :: r) c r e, ?_⟩
        cases hr : (c :: r).reverse with
        | nil => simp at hr
        | cons a t => exact trim_last (s := c :: r) a t (by rw [e]; exact hr)
theorem pvalue_any (s : ByteArray) (hs : s.size ≤ maxLen) (w : World) :
    Calls Tryz.prog 82 #[.string s] w fun e w' => e = .returned (.bool (value (toL s))) ∧ Below w.heap.size w w' := by
  have HT := Lib.hid (fun w => ptrim_any s hs w)
  unfold maxLen at hs
  go_enter Tryz.func82, Tryz.ntmps82
  go_wp2_with fail
  go_loop [6] (fun i => ∃ k : Nat, k ≤ s.size ∧ i = .int .i64 k ∧ Hid (((toL s).take k).all plainB = true)) (fun i => s.size - (intOf i).toNat)
  case atStart => exact ⟨0, Nat.zero_le _, rfl, Lib.hid rfl⟩
  case round =>
    obtain ⟨k, hk, rfl, ha⟩ := hrel
    by_cases hlt : k < s.size
    · have hki : (k : Int) < (s.size : Int) := by omega
      have HS := Lib.hid (toL_take_succ s k hlt)
      have HG := Lib.hid (toL_get s k hlt)
      have HC := Lib.hid (fun w => pofvalue_any s[k] w)
      clear HT
      by_cases hm : plainB s[k] = true
      · have HA : Hid (((toL s).take (k + 1)).all plainB = true) := Lib.hid (by rw [HS.out, List.all_append, ha.out]; simp [hm])
        rw [hm] at HC
        clear hm HS HG
        go_wp2_with (refine (HC.out _).mono ?_; rintro e w' ⟨rfl, rfl⟩)
        go_round
        case rel => exact ⟨k + 1, by omega, by go_num, HA⟩
        case measure => simp [intOf]; omega
      · have hmf : plainB s[k] = false := by simpa using hm
        have HV : Hid (value (toL s) = false) := Lib.hid (by
          unfold value
          rw [Bool.and_eq_false_iff]
          left
          rw [List.all_eq_false]
          exact ⟨s[k], List.mem_of_getElem? HG.out, hm⟩)
        rw [hmf] at HC
        clear hm HS HG hmf
        go_wp2_with (refine (HC.out _).mono ?_; rintro e w' ⟨rfl, rfl⟩)
        go_ret
        exact ⟨by rw [HV.out]; rfl, Below.refl _ _⟩
    · have hall : (toL s).take k = toL s := toL_take_all s (by omega)
      have HQ : Hid (value (toL s) = ((ofL (trim (toL s))).toList == s.toList)) := Lib.hid (by
        rw [value_trim, ← hall, ha.out, hall, Bool.true_and, ByteArray.toList_eq, ByteArray.toList_eq, show (ofL (trim (toL s))).data.toList = trim (toL s) from toL_ofL _]
        by_cases h : trim (toL s) = toL s
        · rw [decide_eq_true h, h]; exact (beq_self_eq_true _).symm
        · rw [decide_eq_false h]; exact (beq_eq_false_iff_ne.2 h).symm)
      clear ha hall
      go_wp2_with fail
      refine (HT.out _).mono ?_
      rintro e w1 ⟨rfl, hb1⟩
      go_wp2_with fail
      go_ret
      exact ⟨by rw [HQ.out]; rfl, hb1⟩
end Go.Proofs.YtfihehobkbfmiaaGreatDoor.PText

/- Layer 4 of the program: small. -/
namespace Go.Proofs.YtfihehobkbfmiaaGreatDoor.PLsmall
open Go.ChangeShapes Go.WideShapes Go.ChangeAt Go.RowKit LexPure Bytes Ret
set_option maxRecDepth 20000
theorem small_cases (b : UInt8) : (65 ≤ (b.toNat : Int) ∧ (b.toNat : Int) ≤ 90 ∧ ((small b).toNat : Int) = (b.toNat : Int) - 65 + 97) ∨ (((b.toNat : Int) < 65 ∨ (65 ≤ (b.toNat : Int) ∧ 90 < (b.toNat : Int))) ∧ small b = b) := by
  have := all_bytes (p := fun b => decide ((65 ≤ (b.toNat : Int) ∧ (b.toNat : Int) ≤ 90 ∧ ((small b).toNat : Int) = (b.toNat : Int) - 65 + 97) ∨ (((b.toNat : Int) < 65 ∨ (65 ≤ (b.toNat : Int) ∧ 90 < (b.toNat : Int))) ∧ small b = b))) (by decide +kernel) b
  simpa only [decide_eq_true_eq] using this
theorem psmall_any (b : UInt8) (w : World) :
    Calls Tryz.prog 114 #[.int .u8 (b.toNat : Int)] w fun e w' => e = .returned (.int .u8 ((small b).toNat : Int)) ∧ w = w' := by
  have hub : (b.toNat : Int) ≤ 255 := by have := b.toNat_lt; omega
  rcases small_cases b with ⟨h1, h2, h3⟩ | ⟨h1 | ⟨h1, h2⟩, h3⟩
  · have H3 := Lib.hid h3
    clear h3
    generalize (b.toNat : Int) = c at *
    go_enter Tryz.func114, Tryz.ntmps114
    go_wp2_with fail
    go_ret
    exact ⟨by rw [H3.out]; rfl, rfl⟩
  · rw [h3]
    generalize (b.toNat : Int) = c at *
    go_enter Tryz.func114, Tryz.ntmps114
    go_wp2_with fail
    go_ret
    exact ⟨rfl, rfl⟩
  · rw [h3]
    generalize (b.toNat : Int) = c at *
    go_enter Tryz.func114, Tryz.ntmps114
    go_wp2_with fail
    go_ret
    exact ⟨rfl, rfl⟩
theorem psmall_same (b : UInt8) (w : World) :
    Calls Tryz.prog 114 #[.int .u8 (b.toNat : Int)] w fun e w' => e = .returned (.int .u8 ((small b).toNat : Int)) ∧ w' = w :=
  (psmall_any b w).mono fun _ _ ⟨h, k⟩ => ⟨h, k.symm⟩
end Go.Proofs.YtfihehobkbfmiaaGreatDoor.PLsmall

/- Layer 4 of the program: Lower, Alike. -/
namespace Go.Proofs.YtfihehobkbfmiaaGreatDoor.PLower
open Go.ChangeShapes Go.WideShapes Go.ChangeAt Go.RowKit LexPure Bytes Ret PLsmall Rows1 BRow Mem
set_option maxRecDepth 20000
/-- ahead of a round: the first k bytes are small -/
structure LInv (w : World) (s : ByteArray) (k : Nat) (wr : World) : Prop where
  row : BRow wr w.heap.size (lower ((toL s).take k) ++ (toL s).drop k)
  below : Below w.heap.size w wr
  lt : w.heap.size < wr.heap.size
theorem plower_any (s : ByteArray) (hs : s.size ≤ maxLen) (w : World) :
    Calls Tryz.prog 81 #[.string s] w fun e w' => e = .returned (.string (ofL (lower (toL s)))) ∧ Below w.heap.size w w' := by
  go_enter Tryz.func81, Tryz.ntmps81
  unfold maxLen at hs
  obtain ⟨cap, w1, HC, hR, hb, hg⟩ := bytes_of (P := Tryz.prog) w 9 61 5 s Tryz.underlying9 Tryz.underlying61 Tryz.underlying5
  have HR0 : Hid (LInv w s 0 w1) := Lib.hid ⟨by rw [List.take_zero, List.drop_zero]; exact hR, hb, hg⟩
  clear hR hb hg
  go_wp2_with fail
  generalize hgq : w.heap.size = g at *
  go_loopw [10] (fun i wr => ∃ k : Nat, k ≤ s.size ∧ i = .int .i64 k ∧ Hid (LInv w s k wr)) (fun i _ => s.size - (intOf i).toNat)
  case atStart => exact ⟨0, Nat.zero_le _, rfl, HR0⟩
  case round =>
    obtain ⟨k, hk, rfl, HI⟩ := hrel
    clear HR0
    by_cases hlt : k < s.size
    · have hki : (k : Int) < (s.size : Int) := by omega
      have hlen : (lower ((toL s).take k) ++ (toL s).drop k).length = s.size := by
        rw [List.length_append, lower_length, List.length_take, List.length_drop, toL_length]; omega
      have hkl : k < (lower ((toL s).take k) ++ (toL s).drop k).length := by omega
      have hc := HI.out.row.cell k hkl
      have hget : (lower ((toL s).take k) ++ (toL s).drop k)[k] = s[k] := by
        have h1 : (lower ((toL s).take k) ++ (toL s).drop k)[k]? = some s[k] := by
          rw [List.getElem?_append_right (by rw [lower_length, List.length_take, toL_length]; omega), lower_length, List.length_take, toL_length, List.getElem?_drop, ← toL_get s k hlt]
          congr 1
          omega
        rw [List.getElem?_eq_getElem hkl] at h1
        exact Option.some.inj h1
      rw [hget, hgq] at hc
      have hf := HI.out.row.free k hkl
      rw [hgq] at hf
      have HC := Lib.hid (fun w => psmall_same s[k] w)
      have HN : Hid (LInv w s (k + 1) (wr.setCell ⟨g, k, none⟩ (.int .u8 ((small s[k]).toNat : Int)))) := Lib.hid ⟨by
          have h := HI.out.row.set k hkl (small s[k])
          rw [hgq] at h ⊢
          have e : (lower ((toL s).take k) ++ (toL s).drop k).set k (small s[k]) = lower ((toL s).take (k + 1)) ++ (toL s).drop (k + 1) := by
            rw [toL_take_succ s k hlt, toL_drop s k hlt]
            unfold lower
            rw [List.map_append, List.set_append_right _ _ (by rw [List.length_map, List.length_take, toL_length]; omega), List.length_map, List.length_take, toL_length, show k - min k s.size = 0 by omega]
            simp
          rwa [e] at h,
        HI.out.below.setCell (by rw [hgq]; exact Nat.le_refl _) _, by
          have := HI.out.lt
          rw [World.size_setCell]; exact this⟩
      clear hlen hkl hget HI
      go_wp2_with fail
      refine (HC.out _).mono ?_
      rintro e w' ⟨rfl, rfl⟩
      go_wp2_with fail
      go_roundw
      case rel => exact ⟨k + 1, by omega, by go_num, HN⟩
      case measure => simp [intOf]; omega
    · have hall : (toL s).take k = toL s := toL_take_all s (by omega)
      have HF : Hid (BRow wr g (lower (toL s))) := Lib.hid (by
        have h := HI.out.row
        rw [hall, hgq] at h
        rwa [List.drop_of_length_le (by rw [toL_length]; omega), List.append_nil] at h)
      have HT := HF.out.text (P := Tryz.prog) (cap := cap) 61 9 5 Tryz.underlying61 Tryz.underlying5 Tryz.underlying9
      rw [lower_length, toL_length] at HT
      have HB := Lib.hid HI.out.below
      clear hall HF HI
      go_wp2_with fail
      go_ret
      exact ⟨rfl, HB.out⟩
end Go.Proofs.YtfihehobkbfmiaaGreatDoor.PLower

/- Layer 5 of the program: the pieces about a question mark, and how a text begins and ends. -/
namespace Go.Proofs.YtfihehobkbfmiaaGreatDoor.PUnder
open Go.ChangeShapes Go.WideShapes Go.ChangeAt Go.RowKit LexPure Bytes Ret PathPure
/-- internal/bytealg.MaxLen holds an int -/
def MaxInt (w : World) : Prop := ∃ m, w.cell? ⟨0, 0, none⟩ = some (.int .i64 m)
theorem MaxInt.of_shape {w : World} (h : w.ShapedOpen Tryz.prog) : MaxInt w :=
  cell_of_shapedOpen_int (t := 3) (zero := #[.int .i64 0]) h (of_decide_eq_true (by kernel_rfl)) (by kernel_rfl) rfl (by kernel_rfl) (by kernel_rfl) Tryz.underlying3
theorem MaxInt.below {w w' : World} (h : MaxInt w) (hb : Below w.heap.size w w') : MaxInt w' := by
  obtain ⟨m, hm⟩ := h
  exact ⟨m, (hb.cell (p := ⟨0, 0, none⟩) (World.block_lt_of_cell? _ _ hm)).trans hm⟩
def cutA (s : List UInt8) : List UInt8 := s.takeWhile (fun c => c != 63)
def cutB (s : List UInt8) : List UInt8 := (s.dropWhile (fun c => c != 63)).tail
def cutQ (s : List UInt8) : Bool := s.any (fun c => c == 63)
theorem lib_has (s p : ByteArray) (w : World) :
    Calls Tryz.prog 137 #[.string s, .string p] w fun e w' => e = .returned (.bool ((toL p).isPrefixOf (toL s))) ∧ w' = w :=
  Any.strings_HasPrefix Tryz.lays99 s p w
theorem starts_one (s : List UInt8) (c : UInt8) : ([c] : List UInt8).isPrefixOf s = (s.head? == some c) := by
  cases s with
  | nil => rfl
  | cons a t =>
    rw [Bool.eq_iff_iff]
    simp only [List.isPrefixOf, List.head?_cons, Bool.and_true, beq_iff_eq, Option.some.injEq]
    exact eq_comm
theorem ends_one (s : List UInt8) (c : UInt8) : ([c] : List UInt8).isSuffixOf s = (s.getLast? == some c) := by
  unfold List.isSuffixOf
  rw [List.reverse_singleton, starts_one, List.head?_reverse]
end Go.Proofs.YtfihehobkbfmiaaGreatDoor.PUnder

/- Layer 5: what Normal answers, and how long it is. No program is named. -/
namespace Go.Proofs.YtfihehobkbfmiaaGreatDoor.RNormal
open LexPure Bytes Ret PathPure PathForm
set_option maxRecDepth 20000
theorem ret_norm {a b : ByteArray} {n : Int} (h : a = b) : Ending.returned (.tuple #[.string a, .int .i64 n]) = .returned (.tuple #[.string b, .int .i64 n]) := by rw [h]
/-- the text that Normal answers, and the error -/
def normS (s : List UInt8) : ByteArray := ofL ((normal s).getD [])
def normE (s : List UInt8) : Int := if (normal s).isSome then 0 else 50
theorem norm_none {s : List UInt8} (h : normal s = none) : normS s = ⟨#[]⟩ ∧ normE s = 50 := by
  unfold normS normE
  rw [h]
  exact ⟨rfl, rfl⟩
theorem norm_some {s t : List UInt8} (h : normal s = some t) : normS s = ofL t ∧ normE s = 0 := by
  unfold normS normE
  rw [h]
  exact ⟨rfl, rfl⟩
theorem wr_len (n : Nat) : (PathPure.wr n).length ≤ 3 := by
  unfold PathPure.wr
  split <;> simp
theorem esc_len : ∀ (n : Nat) {s t : List UInt8}, s.length ≤ n → esc s = some t → t.length ≤ s.length
  | _, [], t, _, h => by
    simp only [esc, Option.some.injEq] at h
    subst h
    exact Nat.le_refl _
  | 0, c :: s, t, hn, _ => by simp at hn
  | n + 1, c :: s, t, hn, h => by
    rw [esc_cons] at h
    split at h
    · split at h
      · split at h
        · rename_i a b r
          split at h
          · obtain ⟨u, hu, rfl⟩ := Option.map_eq_some_iff.1 h
            have ih := esc_len n (s := r) (by simp at hn; omega) hu
            have := wr_len (two a b)
            simp
            omega
          · cases h
        · cases h
      · obtain ⟨u, hu, rfl⟩ := Option.map_eq_some_iff.1 h
        have ih := esc_len n (s := s) (by simp at hn; omega) hu
        simp
        omega
    · cases h
theorem escapes_esc {s t : List UInt8} (h : escapes s = some t) : esc s = some t ∧ ∃ r, s = 47 :: r := by
  cases s with
  | nil => cases h
  | cons c r =>
    have h : (if (c == 47) = true then esc (c :: r) else none) = some t := h
    by_cases hc : (c == 47) = true
    · rw [if_pos hc] at h
      exact ⟨h, r, by rw [show c = 47 by simpa using hc]⟩
    · rw [if_neg hc] at h
      cases h
theorem escapes_len {s t : List UInt8} (h : escapes s = some t) : t.length ≤ s.length := esc_len _ (Nat.le_refl _) (escapes_esc h).1
theorem escapes_pos {s t : List UInt8} (h : escapes s = some t) : 1 ≤ t.length := by
  obtain ⟨he, r, rfl⟩ := escapes_esc h
  rw [esc_cons, if_pos (by decide), if_neg (by decide)] at he
  obtain ⟨u, _, rfl⟩ := Option.map_eq_some_iff.1 he
  simp
theorem join_len {n : Nat} : ∀ {G : List (List UInt8)}, (∀ e ∈ G, e.length ≤ n) → (join G).length ≤ G.length * (n + 1)
  | [], _ => by simp [join]
  | e :: G, h => by
    have h0 := h e (by simp)
    have h1 := join_len (G := G) (fun x hx => h x (by simp [hx]))
    show ((47 :: e) ++ join G).length ≤ _
    rw [List.length_append, List.length_cons, List.length_cons, Nat.add_mul, Nat.one_mul]
    omega
theorem join_nil {G : List (List UInt8)} : (join G).isEmpty = G.isEmpty := by
  cases G <;> rfl
theorem join_snoc (G : List (List UInt8)) (e : List UInt8) : join (G ++ [e]) = join G ++ 47 :: e := by simp [join]
theorem keeps_up {G ps : List (List UInt8)} {X : List UInt8} (h1 : isDot X = false) (h2 : isUp X = true) : keeps G (X :: ps) = if G.isEmpty then none else keeps G.dropLast ps := by
  rw [keeps, if_neg (by simp [h1]), if_pos h2]
theorem keeps_in {G ps : List (List UInt8)} {X : List UInt8} (h1 : isDot X = false) (h2 : isUp X = false) : keeps G (X :: ps) = keeps (G ++ [X]) ps := by
  rw [keeps, if_neg (by simp [h1]), if_neg (by simp [h2])]
end Go.Proofs.YtfihehobkbfmiaaGreatDoor.RNormal

/-
  DERIVED: THE SHELF's CONTRACTS AT THIS DUMP, IN PLAIN WORDS (tools/lay-plain.mjs out of 'YtfihehobkbfmiaaGreatDoorJoinLaysT.lean', which tools/lay-shelf.mjs wrote): THE SAME DECLARATIONS UNDER THE SAME NAMES: 'import', 'namespace', 'open', 'def', 'theorem' AND NOTHING ELSE: no command of the shelf's: FOR A HAND-IN. Each laying: the table of numbers ('.._ren') and one theorem, a field a fact of the dump's own or the kernel's comparison; each contract: ONE APPLICATION.
-/
namespace Go.Proofs
open Go.Shelf
def Tryz.lays156_ren : Go.Shelf.Ren := ⟨fun | 156 => 68 | 165 => 103 | 166 => 29 | 169 => 34 | 240 => 67 | 241 => 126 | 276 => 102 | 277 => 140 | n => n, fun | 31 => 36 | 9 => 9 | 3 => 3 | 4 => 4 | 0 => 0 | 20 => 20 | 72 => 63 | 76 => 66 | 70 => 60 | 37 => 61 | 75 => 65 | 127 => 94 | 164 => 109 | 5 => 5 | 80 => 72 | n => n, fun | n => n⟩
theorem Tryz.lays156 : Go.Proofs.Lays.n156 Tryz.prog Tryz.lays156_ren := {
  mixed := by kernel_rfl
  f156 := Tryz.func68.trans (congrArg some (by kernel_rfl))
  f165 := Tryz.func103.trans (congrArg some (by kernel_rfl))
  f166 := Tryz.func29.trans (congrArg some (by kernel_rfl))
  f169 := Tryz.func34.trans (congrArg some (by kernel_rfl))
  f240 := Tryz.func67.trans (congrArg some (by kernel_rfl))
  f241 := Tryz.func126.trans (congrArg some (by kernel_rfl))
  f276 := Tryz.func102.trans (congrArg some (by kernel_rfl))
  f277 := Tryz.func140.trans (congrArg some (by kernel_rfl))
  t0 := Tryz.underlying0
  a0 := Tryz.isAgg0
  z0 := Tryz.sizeOf0
  v0 := Tryz.zeroValue0
  t3 := Tryz.underlying3
  a3 := Tryz.isAgg3
  z3 := Tryz.sizeOf3
  v3 := Tryz.zeroValue3
  t4 := Tryz.underlying4
  a4 := Tryz.isAgg4
  z4 := Tryz.sizeOf4
  v4 := Tryz.zeroValue4
  t9 := Tryz.underlying9
  a9 := Tryz.isAgg9
  z9 := Tryz.sizeOf9
  v9 := Tryz.zeroValue9
  t20 := Tryz.underlying20
  a20 := Tryz.isAgg20
  z20 := Tryz.sizeOf20
  v20 := Tryz.zeroValue20
  t31 := Tryz.underlying36
  a31 := Tryz.isAgg36
  z31 := Tryz.sizeOf36
  v31 := Tryz.zeroValue36
  t37 := Tryz.underlying61
  a37 := Tryz.isAgg61
  z37 := Tryz.sizeOf61
  v37 := Tryz.zeroValue61
  t70 := Tryz.underlying60
  a70 := Tryz.isAgg60
  z70 := Tryz.sizeOf60
  v70 := Tryz.zeroValue60
  t72 := Tryz.underlying63
  a72 := Tryz.isAgg63
  z72 := Tryz.sizeOf63
  v72 := Tryz.zeroValue63
  t75 := Tryz.underlying65
  a75 := Tryz.isAgg65
  z75 := Tryz.sizeOf65
  v75 := Tryz.zeroValue65
  t76 := Tryz.underlying66
  a76 := Tryz.isAgg66
  z76 := Tryz.sizeOf66
  v76 := Tryz.zeroValue66
  t127 := Tryz.underlying94
  a127 := Tryz.isAgg94
  z127 := Tryz.sizeOf94
  v127 := Tryz.zeroValue94
  t164 := Tryz.underlying109
  a164 := Tryz.isAgg109
  z164 := Tryz.sizeOf109
  v164 := Tryz.zeroValue109 }
end Go.Proofs

/- Layer 5 of the program: resolved: dots resolved, piece by piece. -/
namespace Go.Proofs.YtfihehobkbfmiaaGreatDoor.PResolved
open Go.ChangeShapes Go.WideShapes Go.ChangeAt Go.RowKit LexPure Bytes Ret PathPure PathForm Rows1 Texts RNormal CutsSplit PUnder Mem
set_option maxRecDepth 20000
theorem extra156 : Builder.Extra Tryz.prog Tryz.lays156_ren := {
  sizeBuilder := by kernel_rfl
  liesBuilder := by kernel_rfl
  t5 := Tryz.underlying5
  a5 := Tryz.isAgg5
  z5 := Tryz.sizeOf5
  v5 := Tryz.zeroValue5
  infoByte := by kernel_rfl
  cellsByte := by kernel_rfl
  sizeByte := by kernel_rfl
  neB5 := by decide }
theorem join_say (G : List (List UInt8)) : Lib.join G [47] = (join G).drop 1 := by
  cases G with
  | nil => rfl
  | cons x r =>
    rw [Lib.join_cons]
    have : Lib.joinTail [47] r = join r := by
      unfold Lib.joinTail join
      rw [List.flatMap_def]
      rfl
    rw [this]
    simp [join]
theorem map_ofL (G : List (List UInt8)) : (G.map ofL).map (·.data.toList) = G := by
  rw [List.map_map]
  conv => rhs; rw [← List.map_id G]
  exact List.map_congr_left (fun x _ => toL_ofL x)
theorem lib_join {w : World} {base : Nat} {v : Value} {G : List (List UInt8)} (h : w.ownsRow base 9 1 v G.length (Texts.strs G)) (hl : (join G).length ≤ 140737488355328) (hn : G.length ≤ 140737488355328) :
    Calls Tryz.prog 68 #[v, .string ⟨#[47]⟩] w fun e w' => e = .returned (.string (ofL ((join G).drop 1))) ∧ Below w.heap.size w w' := by
  obtain ⟨p, cap, hv, hcap, hc⟩ := row_cells h
  subst hv
  by_cases h0 : 0 < G.length
  · obtain ⟨g, rfl, _, hg, _, hcell⟩ := hc h0
    have H := Any.strings_Join Tryz.lays156 extra156 g 0 cap (G.map ofL) ⟨#[47]⟩ w (fun j x hx => by
      rw [List.getElem?_map] at hx
      cases hj : G[j]? with
      | none => rw [hj] at hx; cases hx
      | some y =>
        rw [hj] at hx
        have hx' : ofL y = x := by simpa using hx
        have hlt : j < G.length := (List.getElem?_eq_some_iff.1 hj).1
        rw [Nat.zero_add, hcell j hlt]
        simp [Texts.strs, hj, hx']) hg (by rw [List.length_map]; exact hn) (by rw [List.length_map]; exact hcap) (by
      rw [map_ofL, show (⟨#[47]⟩ : ByteArray).data.toList = [47] from rfl, join_say, List.length_drop]; omega)
    rw [map_ofL, show (⟨#[47]⟩ : ByteArray).data.toList = [47] from rfl, join_say, List.length_map] at H
    exact H
  · have hG : G = [] := List.length_eq_zero_iff.1 (by omega)
    subst hG
    refine (Any.strings_Join_none Tryz.lays156 extra156 p cap ⟨#[47]⟩ w).mono ?_
    rintro e w' ⟨rfl, rfl⟩
    exact ⟨rfl, Below.refl _ _⟩
theorem lib_cuts (s : ByteArray) (hs : s.size < 4294967281) (w : World) (hm : MaxInt w) :
    Calls Tryz.prog 163 #[.string s, .string ⟨#[47]⟩] w fun e w' => ∃ cap, e = .returned (.slice (some ⟨w.heap.size, 0, none⟩) (cuts (toL s)).length cap) ∧ (cuts (toL s)).length = cap ∧ w.heap.size < w'.heap.size ∧ (∀ j (hj : j < (cuts (toL s)).length), w'.cell? ⟨w.heap.size, j, none⟩ = some (.string (ofL (cuts (toL s))[j]))) ∧ Below w.heap.size w w' := by
  obtain ⟨m, hm⟩ := hm
  refine (Any.strings_Split Tryz.lays146 (by kernel_rfl) s ⟨#[47]⟩ m w hs hm (by decide)).mono ?_
  rintro e w' ⟨rfl, rfl⟩
  have hl : (Go.Lib.splitB ⟨#[47]⟩ 0 (Go.Lib.countB s ⟨#[47]⟩) s).map (·.data.toList) = cuts (toL s) := by
    rw [Go.Lib.splitB_data, show Go.Lib.countB s ⟨#[47]⟩ = s.data.toList.count 47 from Go.Lib.count_one 47 _]
    exact split_cuts _
  have hn : (cuts (toL s)).length = Go.Lib.countB s ⟨#[47]⟩ + 1 := by
    rw [← hl, List.length_map]
    exact Go.Lib.splitB_all ⟨#[47]⟩ (by decide) 0 _ s rfl
  generalize Go.Lib.splitB ⟨#[47]⟩ 0 (Go.Lib.countB s ⟨#[47]⟩) s = B at *
  refine ⟨_, by rw [hn], hn, by simp, fun j hj => ?_, (Below.refl _ _).alloc (Nat.le_refl _) _⟩
  have hB : (cuts (toL s))[j]? = (B[j]?).map (·.data.toList) := by rw [← hl, List.getElem?_map]
  rw [List.getElem?_eq_getElem hj] at hB
  cases hx : B[j]? with
  | none => rw [hx] at hB; cases hB
  | some x =>
    rw [hx] at hB
    have hq : (cuts (toL s))[j] = x.data.toList := by simpa using hB
    rw [World.cell?_alloc_at _ _ _ _ (by simp)]
    rw [hq, show ofL x.data.toList = x from toL_inj (toL_ofL _)]
    simp [hx]
theorem cuts_ne : ∀ s : List UInt8, cuts s ≠ []
  | [] => by simp [cuts]
  | c :: s => by
    rw [cuts_cons]
    split
    · simp
    · split <;> simp
theorem cuts_count (s : List UInt8) : (cuts s).length ≤ s.length + 1 := by
  induction s with
  | nil => simp [cuts]
  | cons c s ih =>
    rw [cuts_cons]
    split
    · simp only [List.length_cons]; omega
    · split
      · simp
      · rename_i h
        rw [h] at ih
        simp only [List.length_cons] at ih ⊢; omega
theorem cuts_short (s : List UInt8) : ∀ p ∈ cuts s, p.length ≤ s.length := by
  induction s with
  | nil => intro p hp; simp [cuts] at hp; subst hp; simp
  | cons c s ih =>
    intro p hp
    rw [cuts_cons] at hp
    split at hp
    · rcases List.mem_cons.1 hp with rfl | hp
      · simp
      · have := ih p hp; simp only [List.length_cons]; omega
    · split at hp
      · rcases List.mem_cons.1 hp with rfl | hp
        · simp
        · cases hp
      · rename_i q qs h
        rcases List.mem_cons.1 hp with rfl | hp
        · have := ih q (by rw [h]; exact List.mem_cons_self ..)
          simp only [List.length_cons]; omega
        · have := ih p (by rw [h]; exact List.mem_cons_of_mem _ hp)
          simp only [List.length_cons]; omega
/-- behind the first k pieces: G is kept -/
structure PI (w : World) (L : List (List UInt8)) (n k : Nat) (v : Value) (G : List (List UInt8)) (wr : World) : Prop where
  row : wr.ownsRow w.heap.size 9 1 v G.length (Texts.strs G)
  below : Below w.heap.size w wr
  all_ : keeps [] L = keeps G (L.drop k)
  few : G.length ≤ k
  short : ∀ e ∈ G, e.length ≤ n
/-- whether the piece that came last was not kept -/
def flag (L : List (List UInt8)) (k : Nat) : Bool := decide (0 < k) && endsOpen (L.take k)
theorem flag_next {L : List (List UInt8)} {k : Nat} (h : k < L.length) : flag L (k + 1) = (isDot L[k] || isUp L[k]) := by
  unfold flag endsOpen
  rw [List.take_add_one, List.getElem?_eq_getElem h, List.getLastD_eq_getLast?, List.getLast?_append]
  simp
theorem flag_all {L : List (List UInt8)} (h : L ≠ []) : flag L L.length = endsOpen L := by
  unfold flag
  rw [List.take_length, decide_eq_true (by cases L with | nil => exact absurd rfl h | cons => simp)]
  rfl
theorem four (X : List UInt8) : X = [] ∨ X = [46] ∨ X = [46, 46] ∨ (isDot X = false ∧ isUp X = false) := by
  by_cases h1 : X = []
  · exact .inl h1
  · by_cases h2 : X = [46]
    · exact .inr (.inl h2)
    · by_cases h3 : X = [46, 46]
      · exact .inr (.inr (.inl h3))
      · refine .inr (.inr (.inr ⟨?_, ?_⟩))
        · unfold isDot
          rw [Bool.or_eq_false_iff, beq_eq_false_iff_ne, Bool.eq_false_iff, ne_eq, List.isEmpty_iff]
          exact ⟨h1, h2⟩
        · unfold isUp
          rw [beq_eq_false_iff_ne]
          exact h3
def resS (L : List (List UInt8)) : ByteArray := match keeps [] L with
  | none => ⟨#[]⟩
  | some G => ofL (finish G L)
def resE (L : List (List UInt8)) : Int := if (keeps [] L).isSome then 0 else 50
theorem ret_norm2 {a b : ByteArray} {n m : Int} (h : a = b) (k : n = m) : Ending.returned (.tuple #[.string a, .int .i64 n]) = .returned (.tuple #[.string b, .int .i64 m]) := by rw [h, k]
set_option maxHeartbeats 4000000 in
theorem presolved_any (s : ByteArray) (hs : s.size ≤ 4194304) (t : List UInt8) (ht : toL s = 47 :: t) (w : World) (hm : MaxInt w) :
    Calls Tryz.prog 139 #[.string s] w fun e w' => e = .returned (.tuple #[.string (resS (cuts t)), .int .i64 (resE (cuts t))]) ∧ Below w.heap.size w w' := by
  obtain ⟨i0, hi, hz0, hz1, hz2⟩ := info_parts infoS
  have HSp := Lib.hid (lib_cuts s (by omega) w hm)
  have htl : t.length ≤ 4194304 := by
    have := toL_length s
    rw [ht] at this
    simp at this
    omega
  have hcc := cuts_count t
  have HSH := Lib.hid (cuts_short t)
  have HNE := Lib.hid (cuts_ne t)
  have hL0 : 1 ≤ (cuts t).length := by
    cases h : cuts t with
    | nil => exact absurd h (cuts_ne t)
    | cons => simp
  rw [ht, show cuts (47 :: t) = [] :: cuts t by rw [cuts_cons, if_pos (by decide)]] at HSp
  generalize cuts t = L at *
  clear ht hm
  go_enter Tryz.func139, Tryz.ntmps139
  go_wp2_with fail
  refine HSp.out.mono ?_
  rintro e w1 ⟨cap, rfl, hcap, hlt1, hcells, hb⟩
  have HCE := Lib.hid (fun j (hj : j < L.length) => hcells (j + 1) (by simp; omega))
  have hcp : L.length + 1 = cap := hcap
  clear HSp hcells hcap
  subst hcp
  have hI0 : Hid (∃ G, PI w1 L t.length 0 (.slice none 0 0) G w1) := Lib.hid ⟨[], World.ownsRow_nil _ _ _ _, Below.refl _ _, rfl, Nat.le_refl _, fun e he => by simp at he⟩
  have HBW := Lib.hid hb
  clear hb
  go_wp2_with fail
  go_loopw [4, 5, 13] (fun v o i wr => ∃ k : Nat, k ≤ L.length ∧ i = .int .i64 k ∧ o = .bool (flag L k) ∧ Hid (∃ G, PI w1 L t.length k v G wr)) (fun _ _ i _ => L.length - (intOf i).toNat)
  case atStart => exact ⟨0, Nat.zero_le _, rfl, rfl, hI0⟩
  case round =>
    clear hI0
    obtain ⟨k, hk, rfl, rfl, HI⟩ := hrel
    obtain ⟨G, I⟩ := HI.out
    clear HI
    have hbw := I.below
    have hfew := I.few
    have hrow := I.row
    have hs1 := hbw.size
    obtain ⟨pp, cap, rfl, hcap, _⟩ := row_cells I.row
    by_cases hlt : k < L.length
    · have hki : (k : Int) < (L.length : Int) := by omega
      have cx := (hbw.cell (p := ⟨w.heap.size, k + 1, none⟩) hlt1).trans (HCE.out k hlt)
      rw [show ([] :: L)[k + 1]'(by simp; omega) = L[k] from rfl, Nat.add_comm k 1] at cx
      have hXs : L[k].length ≤ t.length := HSH.out _ (List.getElem_mem hlt)
      have HFL := Lib.hid (flag_next hlt)
      have hdrop : L.drop k = L[k] :: L.drop (k + 1) := List.drop_eq_getElem_cons hlt
      have hall := I.all_
      rw [hdrop] at hall
      have HALL := Lib.hid hall
      have HSHO := Lib.hid I.short
      clear I hdrop hall
      generalize hX : L[k] = X at *
      clear hX
      have hET : (ofL X).toList = X := by rw [ByteArray.toList_eq]; exact toL_ofL X
      rcases four X with rfl | rfl | rfl | ⟨hd, hu⟩
      · have HF : Hid (flag L (k + 1) = true) := Lib.hid (by rw [HFL.out]; rfl)
        have HR : Hid (∃ G', PI w1 L t.length (k + 1) (.slice pp G.length cap) G' wr) := Lib.hid ⟨G, hrow, hbw, by rw [HALL.out, keeps, if_pos (by decide)], by omega, HSHO.out⟩
        have hEe : (ofL []).toList.isEmpty = true := by rw [hET]; rfl
        clear HALL HFL hrow hbw
        generalize ofL [] = E at *
        go_wp2_with fail
        go_roundw
        case rel => exact ⟨k + 1, by omega, by go_num, by rw [HF.out], HR⟩
        case measure => simp [intOf]; omega
      · have HF : Hid (flag L (k + 1) = true) := Lib.hid (by rw [HFL.out]; rfl)
        have HR : Hid (∃ G', PI w1 L t.length (k + 1) (.slice pp G.length cap) G' wr) := Lib.hid ⟨G, hrow, hbw, by rw [HALL.out, keeps, if_pos (by decide)], by omega, HSHO.out⟩
        clear HALL HFL hrow hbw
        generalize ofL [46] = E at *
        go_wp2_with fail
        go_roundw
        case rel => exact ⟨k + 1, by omega, by go_num, by rw [HF.out], HR⟩
        case measure => simp [intOf]; omega
      · have HF : Hid (flag L (k + 1) = true) := Lib.hid (by rw [HFL.out]; rfl)
        by_cases hG : G = []
        · have HNO : Hid (keeps [] L = none) := Lib.hid (by rw [HALL.out, keeps_up (by decide) (by decide), hG]; rfl)
          have hgl : ((G.length : Int) == 0) = true := by rw [hG]; rfl
          have HB : Hid (Below w.heap.size w wr) := Lib.hid (below_chain HBW.out hbw)
          clear HALL HFL hrow hbw
          generalize ofL [46, 46] = E at *
          go_wp2_with fail
          go_ret2
          refine ⟨ret_norm2 ?_ ?_, HB.out⟩
          · unfold resS; rw [HNO.out]
          · unfold resE; rw [HNO.out]; rfl
        · have hgl : ((G.length : Int) == 0) = false := beq_eq_false_iff_ne.2 (fun h => hG (List.length_eq_zero_iff.1 (by omega)))
          have hg0 : 1 ≤ G.length := by
            cases G with
            | nil => exact absurd rfl hG
            | cons => simp
          have hcutr := row_cut hrow (m := G.length - 1) (by omega)
          have hstr : (Texts.strs G).take (G.length - 1) = Texts.strs G.dropLast := by
            unfold Texts.strs
            rw [← List.map_take, List.dropLast_eq_take]
          rw [hstr] at hcutr
          have HR : Hid (∃ G', PI w1 L t.length (k + 1) (.slice pp (G.length - 1) cap) G' wr) := Lib.hid ⟨G.dropLast, by rw [List.length_dropLast]; exact hcutr, hbw, by rw [HALL.out, keeps_up (by decide) (by decide), if_neg (by simpa using hG)], by rw [List.length_dropLast]; omega, fun e he => HSHO.out e ((List.dropLast_sublist G).subset he)⟩
          clear HALL HFL hrow hbw hcutr hstr hG
          generalize ofL [46, 46] = E at *
          go_wp2_with fail
          go_roundw
          case rel => exact ⟨k + 1, by omega, by go_num, by rw [HF.out], HR⟩
          case measure => simp [intOf]; omega
      · have HF : Hid (flag L (k + 1) = false) := Lib.hid (by rw [HFL.out, hd, hu]; rfl)
        have HR : Hid (∀ v' w3, w3.ownsRow w1.heap.size 9 1 v' (G.length + 1) (Texts.strs G ++ [.string (ofL X)]) → Below w1.heap.size w1 w3 → ∃ G', PI w1 L t.length (k + 1) v' G' w3) := Lib.hid (fun v' w3 h1 h2 => ⟨G ++ [X], by rw [List.length_append, Texts.strs_append]; exact h1, h2, by rw [HALL.out, keeps_in hd hu], by rw [List.length_append]; simp; omega, fun e he => by
          rw [List.mem_append, List.mem_singleton] at he
          rcases he with he | rfl
          · exact HSHO.out e he
          · exact hXs⟩)
        have hd1 : (ofL X).toList.isEmpty = false ∧ ((ofL X).toList == [46]) = false := by
          rw [hET]
          unfold isDot at hd
          rw [Bool.or_eq_false_iff] at hd
          exact hd
        have hu1 : ((ofL X).toList == [46, 46]) = false := by
          rw [hET]
          exact hu
        have hne : ¬ (ofL X).toList = [] := fun h => by rw [h] at hd1; exact absurd hd1.1 (by decide)
        obtain ⟨hd1, hd2⟩ := hd1
        have hG9 : G.length ≤ 4194305 := by omega
        clear HALL HFL hd hu hET
        generalize ofL X = E at *
        go_wp2_with (at_builtin; refine wpList_append_own _ rfl _ _ 36 rfl w1.heap.size 9 i0 (.string ByteArray.empty) 1 16 Tryz.underlying36 hi hz0 hz1 hz2 rfl (by decide) _ _ _ rfl (hrow.alloc _) ⟨wr.heap.size, 0, none⟩ 1 1 [.string E] rfl rfl (cell_one_new _ _ _) (fun x hx => by simp at hx; subst hx; rfl) (by unfold maxLen; omega) (by omega) (by simp; omega) ?_; intro v' w3 hown' hgrow3 hnil3)
        have HR2 := Lib.hid (HR.out v' w3 hown' (Below.grown (hbw.alloc (by omega) _) hgrow3 (by simp; omega) (fun j hj => (hrow.lt _ hj).1)))
        clear hown' hgrow3 hnil3 HR hrow hbw
        go_wp2_with fail
        go_roundw
        case rel => exact ⟨k + 1, by omega, by go_num, by rw [HF.out], HR2⟩
        case measure => simp [intOf]; omega
    · have hkeep : keeps [] L = some G := by
        rw [I.all_, List.drop_of_length_le (by omega)]
        rfl
      have hkl : k = L.length := by omega
      subst hkl
      have HFA : Hid (flag L L.length = endsOpen L) := Lib.hid (flag_all HNE.out)
      have hjl := join_len I.short
      have hJ : (join G).length ≤ 17592202821632 := by
        have h1 : G.length * (t.length + 1) ≤ 4194305 * 4194305 := Nat.mul_le_mul (by omega) (by omega)
        omega
      have HJ := Lib.hid (fun (w2 : World) (h : w2.ownsRow w1.heap.size 9 1 (.slice pp G.length cap) G.length (Texts.strs G)) => lib_join h (by omega) (by omega))
      have HB : Hid (Below w.heap.size w wr) := Lib.hid (below_chain HBW.out hbw)
      have HRW := Lib.hid hrow
      have hsz : (ofL ((join G).drop 1)).size ≤ 17592202821632 := by rw [ofL_size, List.length_drop]; omega
      have HS1 : Hid (resS L = ofL (finish G L)) := Lib.hid (by unfold resS; rw [hkeep])
      have HS2 : Hid (resE L = 0) := Lib.hid (by unfold resE; rw [hkeep]; rfl)
      clear I hkeep hjl hrow hbw
      have hGl : G.length ≤ 4194305 := by omega
      by_cases hG : G = []
      · have hgl : ¬ (0 : Int) < (G.length : Int) := by rw [hG]; simp
        have HF1 : Hid (ofL (finish G L) = ⟨#[47]⟩ ++ ofL ((join G).drop 1)) := Lib.hid (by rw [hG]; rfl)
        rw [HFA.out]
        cases endsOpen L
        all_goals
          clear HFA hG hJ
          generalize ofL ((join G).drop 1) = E at *
          go_wp2_with fail
          refine (HJ.out _ HRW.out).mono ?_
          rintro e w2 ⟨rfl, hb2⟩
          have HB2 := Lib.hid (below_chain HB.out hb2)
          clear hb2 HJ HRW
          go_wp2_with fail
          go_ret2
          exact ⟨ret_norm2 (by rw [HS1.out, HF1.out]) HS2.out.symm, HB2.out⟩
      · have hg0 : 1 ≤ G.length := by
          cases G with
          | nil => exact absurd rfl hG
          | cons => simp
        have hgl : (0 : Int) < (G.length : Int) := by omega
        have hJJ : join G = 47 :: (join G).drop 1 := by
          cases G with
          | nil => exact absurd rfl hG
          | cons x r => simp [join]
        have HF1 : Hid (ofL (finish G L) = if endsOpen L then ⟨#[47]⟩ ++ ofL ((join G).drop 1) ++ ⟨#[47]⟩ else ⟨#[47]⟩ ++ ofL ((join G).drop 1)) := Lib.hid (by
          have he : G.isEmpty = false := by simpa using hG
          refine toL_inj ?_
          unfold finish
          rw [he, Bool.false_or]
          cases endsOpen L
          · simp only [Bool.false_eq_true, if_false, toL_append, toL_ofL]
            exact hJJ
          · simp only [if_true, toL_append, toL_ofL]
            conv => lhs; rw [hJJ]
            rfl)
        have hE2 : (ByteArray.mk #[47] ++ ofL ((join G).drop 1)).size ≤ 17592202821640 := by
          rw [ByteArray.size_append]
          have : (ByteArray.mk #[47]).size = 1 := rfl
          omega
        rw [HFA.out]
        cases ho : endsOpen L
        all_goals
          rw [ho] at HF1
          clear HFA hG hJ ho hJJ
          generalize ofL ((join G).drop 1) = E at *
          go_wp2_with fail
          refine (HJ.out _ HRW.out).mono ?_
          rintro e w2 ⟨rfl, hb2⟩
          have HB2 := Lib.hid (below_chain HB.out hb2)
          clear hb2 HJ HRW
          go_wp2_with fail
          go_ret2
          exact ⟨ret_norm2 (by rw [HS1.out, HF1.out]; rfl) HS2.out.symm, HB2.out⟩
end Go.Proofs.YtfihehobkbfmiaaGreatDoor.PResolved

/- Layer 5 of the program: settled: escapes in their one form, round by round. -/
namespace Go.Proofs.YtfihehobkbfmiaaGreatDoor.PSettled
open Go.ChangeShapes Go.WideShapes Go.ChangeAt Go.RowKit LexPure Bytes Ret PathPure PEsc PBytes5 PBuildT PBuild POneForm PCur
set_option maxRecDepth 20000
set_option maxHeartbeats 1600000 in
theorem psettled_any (s : ByteArray) (hs : s.size ≤ 140737488351232) (w : World) :
    Calls Tryz.prog 138 #[.string s] w fun e w' => e = .returned (.tuple #[.string (ofL ((esc (toL s)).getD [])), .bool (esc (toL s)).isSome]) ∧ Below w.heap.size w w' := by
  have HB := Lib.hid (Bld.start w)
  go_enter Tryz.func138, Tryz.ntmps138
  go_wp2_with fail
  go_loopw [0] (fun v wr => ∃ cur acc, v = .string cur ∧ acc.length + cur.size ≤ s.size ∧ Hid (Bld w w.heap.size acc wr) ∧ Hid (esc (toL s) = (esc (toL cur)).map (acc ++ ·))) (fun v _ => sizeOfS v)
  case atStart => exact ⟨s, [], rfl, by simp, HB, Lib.hid (by simp)⟩
  case round =>
    clear HB
    obtain ⟨cur, acc, rfl, hlen, HI, HD⟩ := hrel
    by_cases hpos : 0 < cur.size
    · obtain ⟨m1, m2⟩ := empty_no hpos
      obtain ⟨hc1, hc2⟩ := cut_one cur hpos
      have hC1 := Lib.hid hc1
      have hpi : (0 : Int) < (cur.size : Int) := by omega
      have hcs : (cur.size : Int) ≤ 140737488351232 := by omega
      clear hc1
      have HK := Lib.hid (fun w => pofpath_any cur[0] w)
      by_cases hk : okc cur[0] = true
      rotate_left
      · have hkf : okc cur[0] = false := by simpa using hk
        have HV : Hid (esc (toL s) = none) := Lib.hid (by
          rw [HD.out, hC1.out, esc_bad hkf]
          rfl)
        rw [hkf] at HK
        clear HD hk hkf hC1
        go_wp2_with fail
        refine (HK.out _).mono ?_
        rintro e w' ⟨rfl, rfl⟩
        go_wp2_with fail
        go_ret2
        exact ⟨ret_dec (by rw [HV.out]; rfl) (by rw [HV.out]; rfl), HI.out.2⟩
      rw [hk] at HK
      rcases sign_cases cur[0] with ⟨h37, hq⟩ | ⟨h37, hq⟩
      · have HE := Lib.hid (fun w => pescaped_any cur (by omega) w)
        obtain ⟨hd1, hd2⟩ := cut_three cur
        have hlt := escN_lt (toL cur)
        by_cases ho : escO (toL cur) = true
        · have h3 := esc_three ho
          rw [toL_length] at h3
          have HD2 : Hid (esc (toL s) = (esc (toL (cur.extract 3 cur.size))).map ((acc ++ PathPure.wr (escN (toL cur))) ++ ·)) := Lib.hid (by
            rw [HD.out, hd1, ← map_map, hC1.out, h37]
            rw [hC1.out, h37] at ho
            rw [esc_yes ho])
          rw [ho] at HE
          have hwl := wr_le (escN (toL cur))
          have HN := Lib.hid (fun wr' (h : Bld w w.heap.size acc wr') => bld_text h (ofL (PathPure.wr (escN (toL cur)))) (by rw [ofL_size]; omega))
          have HF := Lib.hid (fun w => poneform_any (UInt8.ofNat (escN (toL cur))) w)
          rw [UInt8.toNat_ofNat_of_lt' hlt] at HF
          rw [toL_ofL] at HN
          have h3i : 3 ≤ (cur.size : Int) := by omega
          clear HD ho hC1 hd1 h37
          generalize escN (toL cur) = n at *
          generalize ofL (PathPure.wr n) = X at *
          go_wp2_with fail
          refine (HK.out _).mono ?_
          rintro e w' ⟨rfl, rfl⟩
          go_wp2_with fail
          refine (HE.out _).mono ?_
          rintro e w' ⟨rfl, rfl⟩
          go_wp2_with fail
          refine (HF.out _).mono ?_
          rintro e w3 ⟨rfl, hb3⟩
          have HI3 := Lib.hid (HI.out.keep hb3)
          clear hb3 HI
          go_wp2_with fail
          refine (HN.out _ HI3.out).mono ?_
          rintro e w2 ⟨rfl, hb2⟩
          have HB2 := Lib.hid hb2
          clear hb2 HI3
          go_wp2_with fail
          go_roundw
          case rel => exact ⟨_, _, rfl, by rw [hd2, List.length_append]; omega, HB2, HD2⟩
          case measure => simp [sizeOfS]; omega
        · have hof : escO (toL cur) = false := by simpa using ho
          have HV : Hid (esc (toL s) = none) := Lib.hid (by
            rw [HD.out, hC1.out, h37, esc_no (by rw [← h37, ← hC1.out]; exact hof)]
            rfl)
          rw [hof] at HE
          clear HD ho hof hC1 hd1 h37 hd2 hlt
          generalize escN (toL cur) = n at *
          go_wp2_with fail
          refine (HK.out _).mono ?_
          rintro e w' ⟨rfl, rfl⟩
          go_wp2_with fail
          refine (HE.out _).mono ?_
          rintro e w' ⟨rfl, rfl⟩
          go_wp2_with fail
          go_ret2
          exact ⟨ret_dec (by rw [HV.out]; rfl) (by rw [HV.out]; rfl), HI.out.2⟩
      · have HD2 : Hid (esc (toL s) = (esc (toL (cur.extract 1 cur.size))).map ((acc ++ [cur[0]]) ++ ·)) := Lib.hid (by
          rw [HD.out, ← map_cons, ← esc_other hk h37, ← hC1.out])
        have HN := Lib.hid (fun wr' (h : Bld w w.heap.size acc wr') => bld_byte h cur[0] (by omega))
        clear HD hC1 h37
        go_wp2_with fail
        refine (HK.out _).mono ?_
        rintro e w' ⟨rfl, rfl⟩
        go_wp2_with fail
        refine (HN.out _ HI.out).mono ?_
        rintro e w2 ⟨rfl, hb2⟩
        have HB2 := Lib.hid hb2
        clear hb2 HI
        go_wp2_with fail
        go_roundw
        case rel => exact ⟨_, _, rfl, by simp; omega, HB2, HD2⟩
        case measure => simp [sizeOfS]; omega
    · obtain ⟨m1, m2⟩ := empty_yes hpos
      have HV : Hid (esc (toL s) = some acc) := Lib.hid (by
        rw [HD.out, show toL cur = [] from (ByteArray.toList_eq cur).symm.trans m1]
        simp [esc])
      have HN := Lib.hid (fun wr' (h : Bld w w.heap.size acc wr') => bld_out h)
      clear HD hpos
      go_wp2_with fail
      refine (HN.out _ HI.out).mono ?_
      rintro e w2 ⟨rfl, hb2⟩
      have HB2 := Lib.hid hb2
      clear hb2 HI
      go_wp2_with fail
      go_ret2
      exact ⟨ret_dec (by rw [HV.out]; rfl) (by rw [HV.out, Option.isSome_some]), HB2.out⟩
end Go.Proofs.YtfihehobkbfmiaaGreatDoor.PSettled

/- Paths: what a normal form means, steps in it, what lies under what. No program is named. -/
namespace Go.Proofs.YtfihehobkbfmiaaGreatDoor.PathMore
open LexPure Bytes PathPure PathForm

theorem dec_wr {n : Nat} (h : n < 256) (r : List UInt8) : dec (wr n ++ r) = (dec r).map (UInt8.ofNat n :: ·) := by
  unfold wr
  by_cases hp : plainP n = true
  · rw [if_pos hp]
    have := plain_okc h hp
    show dec (UInt8.ofNat n :: r) = _
    rw [dec_cons, if_neg (by simp [this.2.1])]
  · rw [if_neg hp]
    have hd := hx_dig h
    show dec (37 :: hx (n / 16) :: hx (n % 16) :: r) = _
    rw [dec_cons, if_pos (by decide)]
    simp only [hd.1, hd.2.1, Bool.and_self, if_true, hd.2.2]
/-- undoing plain escapes changes nothing of what is meant -/
theorem dec_esc : ∀ (n : Nat) {s t : List UInt8}, s.length ≤ n → esc s = some t → dec s = dec t ∧ ∃ u, dec s = some u
  | _, [], t, _, h => by
    simp only [esc, Option.some.injEq] at h
    subst h
    exact ⟨rfl, [], rfl⟩
  | 0, c :: s, t, hn, _ => by simp at hn
  | n + 1, c :: s, t, hn, h => by
    rw [esc_cons] at h
    split at h
    · rename_i hc
      split at h
      · rename_i h37
        split at h
        · rename_i a b r
          split at h
          · rename_i hab
            obtain ⟨u, hu, rfl⟩ := Option.map_eq_some_iff.1 h
            obtain ⟨ih, v, hv⟩ := dec_esc n (s := r) (by simp at hn; omega) hu
            have hab2 := hab
            rw [Bool.and_eq_true] at hab2
            rw [dec_wr (two_lt hab2.1 hab2.2), ← ih, dec_cons, if_pos h37]
            simp only [hab, if_true, hv]
            exact ⟨trivial, _, rfl⟩
          · cases h
        · cases h
      · rename_i h37
        obtain ⟨u, hu, rfl⟩ := Option.map_eq_some_iff.1 h
        obtain ⟨ih, v, hv⟩ := dec_esc n (s := s) (by simp at hn; omega) hu
        rw [dec_cons, if_neg h37, dec_cons, if_neg h37, ← ih, hv]
        exact ⟨rfl, _, rfl⟩
    · cases h
/-- an escape in what is escaped once hides no plain byte -/
theorem enc_at {p : List UInt8} (h : Enc p) : ∀ i, p[i]? = some 37 → ∃ n r, n < 256 ∧ plainP n = false ∧ p.drop i = 37 :: hx (n / 16) :: hx (n % 16) :: r := by
  induction h with
  | nil => intro i hi; simp at hi
  | one c r hc h37 _ ih =>
    intro i hi
    cases i with
    | zero => simp at hi; simp [hi] at h37
    | succ i => simp at hi; exact ih i hi
  | tri n r hn hp _ ih =>
    intro i hi
    have hk := hx_okc hn
    match i with
    | 0 => exact ⟨n, r, hn, hp, rfl⟩
    | 1 => simp at hi; simp [hi] at hk
    | 2 => simp at hi; simp [hi] at hk
    | i + 3 => simp at hi; exact ih i hi
/-- a letter -/
def small26 (c : UInt8) : Bool := decide (97 ≤ c.toNat) && decide (c.toNat ≤ 122)
theorem small26_ok {c : UInt8} (h : small26 c = true) : okc c = true ∧ (c == 37) = false ∧ (c == 47) = false ∧ (c == 46) = false := by
  have := all_bytes (p := fun c => !small26 c || (okc c && !(c == 37) && !(c == 47) && !(c == 46))) (by decide +kernel) c
  rw [h] at this
  simp only [Bool.not_true, Bool.false_or, Bool.and_eq_true, Bool.not_eq_true'] at this
  exact ⟨this.1.1.1, this.1.1.2, this.1.2, this.2⟩
theorem letters_enc : ∀ {w : List UInt8}, w.all small26 = true → Enc w ∧ noSlash w = true
  | [], _ => ⟨Enc.nil, rfl⟩
  | c :: w, h => by
    rw [List.all_cons, Bool.and_eq_true] at h
    have hc := small26_ok h.1
    have ih := letters_enc h.2
    refine ⟨Enc.one c w hc.1 hc.2.1 ih.1, ?_⟩
    unfold noSlash
    rw [List.all_cons]
    have := ih.2
    unfold noSlash at this
    rw [this]
    simp [bne, hc.2.2.1]
theorem letters_clean {w : List UInt8} (h : w.all small26 = true) : CleanP (120 :: w) := by
  have hw : (120 :: w).all small26 = true := by rw [List.all_cons, h]; decide
  have := letters_enc hw
  exact ⟨by simp [isDot], by simp [isUp], this.2, this.1⟩
theorem finish_open (kept ps : List (List UInt8)) (h : endsOpen ps = true) : finish kept ps = form kept true := by
  unfold finish form
  rw [h, Bool.or_true]
theorem normal_of {s t : List UInt8} {kept : List (List UInt8)} (h1 : escapes s = some t) (h2 : keeps [] (cuts t.tail) = some kept) : normal s = some (finish kept (cuts t.tail)) := by
  unfold normal
  rw [h1]
  simp only
  rw [h2]
section
variable {kept : List (List UInt8)} {tr : Bool} (hf : kept = [] → tr = true) (hc : ∀ p ∈ kept, CleanP p)
include hf hc
/-- a step that stays -/
theorem step_stay : normal (form kept tr ++ [47, 46]) = some (form kept true) := by
  have h1 := escapes_more hf hc (r := [47, 46]) (u := [47, 46]) (by decide)
  have e : cuts (form kept tr ++ [47, 46]).tail = (kept ++ (if tr then [[]] else [])) ++ [[46]] := cuts_more kept tr hf hc [46]
  have h2 : keeps [] (cuts (form kept tr ++ [47, 46]).tail) = some kept := by
    rw [e, keeps_append, keeps_trail kept tr hc]
    simp [keeps, isDot]
  rw [normal_of h1 h2, finish_open]
  rw [e]
  simp [endsOpen, isDot]
/-- a step into a piece and out again -/
theorem step_out {w : List UInt8} (hw : w.all small26 = true) : normal (form kept tr ++ 47 :: ((120 :: w) ++ [47, 46, 46])) = some (form kept true) := by
  have hx := letters_clean hw
  have he : esc (47 :: ((120 :: w) ++ [47, 46, 46])) = some (47 :: ((120 :: w) ++ [47, 46, 46])) := enc_esc (enc_slash (enc_append hx.enc (enc_slash (Enc.one 46 _ (by decide) (by decide) (Enc.one 46 _ (by decide) (by decide) Enc.nil)))))
  have h1 := escapes_more hf hc he
  have e : cuts (form kept tr ++ 47 :: ((120 :: w) ++ [47, 46, 46])).tail = (kept ++ (if tr then [[]] else [])) ++ [120 :: w, [46, 46]] := by
    rw [cuts_more kept tr hf hc, cuts_cut hx.no]
    rfl
  have h2 : keeps [] (cuts (form kept tr ++ 47 :: ((120 :: w) ++ [47, 46, 46])).tail) = some kept := by
    rw [e, keeps_append, keeps_trail kept tr hc]
    show keeps kept [120 :: w, [46, 46]] = _
    rw [keeps, if_neg (by simp [hx.dot]), if_neg (by simp [hx.up]), keeps, if_neg (by decide), if_pos (by decide)]
    simp [keeps]
  rw [normal_of h1 h2, finish_open]
  rw [e]
  simp [endsOpen, isUp]
/-- a slash, a step that stays, and a piece -/
theorem step_in {w : List UInt8} (hw : w.all small26 = true) : normal (form kept tr ++ ([47, 47, 37, 50, 101, 47, 120] ++ w)) = some (form kept true ++ 120 :: w) := by
  have hx := letters_clean hw
  have he0 : esc [47, 47, 37, 50, 101] = some [47, 47, 46] := by decide
  have he1 := esc_append _ (47 :: 120 :: w) (Nat.le_refl _) he0
  rw [enc_esc (enc_slash hx.enc)] at he1
  have he : esc ([47, 47, 37, 50, 101, 47, 120] ++ w) = some (47 :: [47, 46, 47, 120] ++ w) := he1
  have h1 := escapes_more hf hc he
  have ez : form kept tr ++ (47 :: [47, 46, 47, 120] ++ w) = form kept tr ++ 47 :: ([47, 46] ++ 47 :: (120 :: w)) := rfl
  rw [ez] at h1
  have e : cuts (form kept tr ++ 47 :: ([47, 46] ++ 47 :: (120 :: w))).tail = (kept ++ (if tr then [[]] else [])) ++ [[], [46], 120 :: w] := by
    rw [cuts_more kept tr hf hc, cuts_append, cuts_plain (p := 120 :: w) hx.no]
    rfl
  have h2 : keeps [] (cuts (form kept tr ++ 47 :: ([47, 46] ++ 47 :: (120 :: w))).tail) = some (kept ++ [120 :: w]) := by
    rw [e, keeps_append, keeps_trail kept tr hc]
    show keeps kept [[], [46], 120 :: w] = _
    rw [keeps, if_pos (by decide), keeps, if_pos (by decide), keeps, if_neg (by simp [hx.dot]), if_neg (by simp [hx.up]), keeps]
  rw [normal_of h1 h2]
  congr 1
  rw [e]
  have he : endsOpen (kept ++ (if tr then [[]] else []) ++ [[], [46], 120 :: w]) = false := by
    have hl : (kept ++ (if tr then [[]] else []) ++ [[], [46], 120 :: w]).getLastD [] = 120 :: w := by
      rw [List.getLastD_eq_getLast?]
      simp
    unfold endsOpen
    rw [hl, hx.dot, hx.up]
    rfl
  unfold finish form
  rw [he]
  simp [join]
end
/-! ### what lies under what -/
theorem under_self (p : List UInt8) : under p p = true := by simp [under]
theorem under_trans {a b c : List UInt8} (h1 : under a b = true) (h2 : under b c = true) : under a c = true := by
  unfold under at *
  simp only [Bool.and_eq_true, Bool.or_eq_true, beq_iff_eq] at *
  obtain ⟨e1, k1⟩ := h1
  obtain ⟨e2, k2⟩ := h2
  have hl1 : b.length ≤ a.length := by
    have := congrArg List.length e1
    rw [List.length_take] at this
    omega
  have hl2 : c.length ≤ b.length := by
    have := congrArg List.length e2
    rw [List.length_take] at this
    omega
  have e3 : a.take c.length = c := by
    rw [← e1, List.take_take, Nat.min_eq_left hl2] at e2
    exact e2
  refine ⟨e3, ?_⟩
  rcases k2 with (k2 | k2) | k2
  · have : b = c := by rw [← e2, List.take_of_length_le (by omega)]
    rw [← this]
    exact k1
  · have hlt : c.length < b.length := by
      rcases Nat.lt_or_ge c.length b.length with h | h
      · exact h
      · rw [List.getElem?_eq_none h] at k2
        cases k2
    refine .inl (.inr ?_)
    rw [← e1, List.getElem?_take, if_pos hlt] at k2
    exact k2
  · exact .inr k2
end Go.Proofs.YtfihehobkbfmiaaGreatDoor.PathMore

/- Layer 5: what each call of the program's answers. -/
namespace Go.Proofs.YtfihehobkbfmiaaGreatDoor.PathObj
open Go.ChangeShapes Go.WideShapes Go.ChangeAt Go.RowKit LexPure Bytes Ret PathPure PathForm RNormal PSettled PUnder PResolved Mem
set_option maxRecDepth 20000
theorem esc_head {t u : List UInt8} (h : esc (47 :: t) = some u) : ∃ v, u = 47 :: v := by
  rw [esc_cons, if_pos (by decide), if_neg (by decide)] at h
  obtain ⟨v, _, rfl⟩ := Option.map_eq_some_iff.1 h
  exact ⟨v, rfl⟩
theorem head_cases (s : List UInt8) : (([47] : List UInt8).isPrefixOf s = false ∧ escapes s = none) ∨ (∃ t, s = 47 :: t ∧ ([47] : List UInt8).isPrefixOf s = true ∧ escapes s = esc s) := by
  rw [starts_one]
  cases s with
  | nil => exact .inl ⟨rfl, rfl⟩
  | cons c t =>
    by_cases h : c = 47
    · subst h
      exact .inr ⟨t, rfl, by simp, by unfold escapes; simp⟩
    · have hq : (c == 47) = false := by simpa using h
      exact .inl ⟨by simp [h], by unfold escapes; simp [hq]⟩
theorem normal_any (s : ByteArray) (hs : s.size ≤ 4194304) (w : World) (hm : MaxInt w) :
    Calls Tryz.prog 124 #[.string s] w fun e w' => e = .returned (.tuple #[.string (normS (toL s)), .int .i64 (normE (toL s))]) ∧ Below w.heap.size w w' := by
  have HP := Lib.hid (fun w => lib_has s ⟨#[47]⟩ w)
  rw [show toL ⟨#[47]⟩ = [47] from rfl] at HP
  rcases head_cases (toL s) with ⟨h1, h2⟩ | ⟨t, h0, h1, h2⟩
  · have hn : normal (toL s) = none := by unfold normal; rw [h2]
    rw [(norm_none hn).1, (norm_none hn).2]
    rw [h1] at HP
    clear h1 h2 hn hm
    go_enter Tryz.func124, Tryz.ntmps124
    go_wp2_with fail
    refine (HP.out _).mono ?_
    rintro e w' ⟨rfl, rfl⟩
    go_wp2_with fail
    go_ret2
    exact ⟨rfl, Below.refl _ _⟩
  · rw [h1] at HP
    have HS := Lib.hid (fun w => psettled_any s (by omega) w)
    cases hesc : esc (toL s) with
    | none =>
      have hn : normal (toL s) = none := by unfold normal; rw [h2, hesc]
      rw [(norm_none hn).1, (norm_none hn).2]
      rw [hesc] at HS
      clear h1 h2 hn hm h0 hesc
      go_enter Tryz.func124, Tryz.ntmps124
      go_wp2_with fail
      refine (HP.out _).mono ?_
      rintro e w' ⟨rfl, rfl⟩
      go_wp2_with fail
      refine (HS.out _).mono ?_
      rintro e w1 ⟨rfl, hb1⟩
      go_wp2_with fail
      go_ret2
      exact ⟨rfl, hb1⟩
    | some u =>
      obtain ⟨v, rfl⟩ := esc_head (by rw [← h0]; exact hesc)
      have hul := esc_len _ (Nat.le_refl _) hesc
      rw [toL_length] at hul
      have HR := Lib.hid (fun w hm => presolved_any (ofL (47 :: v)) (by rw [ofL_size]; omega) v (toL_ofL _) w hm)
      have hn : normS (toL s) = resS (cuts v) ∧ normE (toL s) = resE (cuts v) := by
        cases hk : keeps [] (cuts v) with
        | none =>
          have hnn : normal (toL s) = none := by unfold normal; rw [h2, hesc]; simp only [List.tail_cons, hk]
          exact ⟨(norm_none hnn).1.trans (by unfold resS; rw [hk]), (norm_none hnn).2.trans (by unfold resE; rw [hk]; rfl)⟩
        | some G =>
          have hnn : normal (toL s) = some (finish G (cuts v)) := by unfold normal; rw [h2, hesc]; simp only [List.tail_cons, hk]
          exact ⟨(norm_some hnn).1.trans (by unfold resS; rw [hk]), (norm_some hnn).2.trans (by unfold resE; rw [hk]; rfl)⟩
      rw [hn.1, hn.2]
      rw [hesc, show (some (47 :: v)).getD [] = 47 :: v from rfl] at HS
      have HM := Lib.hid hm
      clear h1 h2 hn hm h0 hesc hul
      generalize ofL (47 :: v) = E at *
      generalize resS (cuts v) = x at *
      generalize resE (cuts v) = y at *
      go_enter Tryz.func124, Tryz.ntmps124
      go_wp2_with fail
      refine (HP.out _).mono ?_
      rintro e w' ⟨rfl, rfl⟩
      go_wp2_with fail
      refine (HS.out _).mono ?_
      rintro e w1 ⟨rfl, hb1⟩
      have HM1 := Lib.hid (HM.out.below hb1)
      clear HM
      go_wp2_with fail
      refine (HR.out _ HM1.out).mono ?_
      rintro e w2 ⟨rfl, hb2⟩
      have HB := Lib.hid (below_chain hb1 hb2)
      clear hb1 hb2 HM1
      go_wp2_with fail
      go_ret2
      exact ⟨rfl, HB.out⟩
end Go.Proofs.YtfihehobkbfmiaaGreatDoor.PathObj

/-
  DERIVED: THE SHELF's CONTRACTS AT THIS DUMP, IN PLAIN WORDS (tools/lay-plain.mjs out of 'YtfihehobkbfmiaaGreatDoorCutLaysT.lean', which tools/lay-shelf.mjs wrote): THE SAME DECLARATIONS UNDER THE SAME NAMES: 'import', 'namespace', 'open', 'def', 'theorem' AND NOTHING ELSE: no command of the shelf's: FOR A HAND-IN. Each laying: the table of numbers ('.._ren') and one theorem, a field a fact of the dump's own or the kernel's comparison; each contract: ONE APPLICATION.
-/
namespace Go.Proofs
open Go.Shelf
def Tryz.lays219_ren : Go.Shelf.Ren := ⟨fun | 219 => 128 | 217 => 145 | 225 => 146 | 224 => 147 | 267 => 148 | 266 => 169 | 314 => 170 | n => n, fun | 9 => 9 | 3 => 3 | 4 => 4 | 5 => 5 | 46 => 83 | 146 => 157 | 51 => 154 | n => n, fun | 1 => 0 | n => n⟩
theorem Tryz.lays219 : Go.Proofs.Lays.n219 Tryz.prog Tryz.lays219_ren := {
  mixed := by kernel_rfl
  f217 := Tryz.func145.trans (congrArg some (by kernel_rfl))
  f219 := Tryz.func128.trans (congrArg some (by kernel_rfl))
  f224 := Tryz.func147.trans (congrArg some (by kernel_rfl))
  f225 := Tryz.func146.trans (congrArg some (by kernel_rfl))
  f266 := Tryz.func169.trans (congrArg some (by kernel_rfl))
  f267 := Tryz.func148.trans (congrArg some (by kernel_rfl))
  f314 := Tryz.func170.trans (congrArg some (by kernel_rfl))
  t3 := Tryz.underlying3
  a3 := Tryz.isAgg3
  z3 := Tryz.sizeOf3
  v3 := Tryz.zeroValue3
  t4 := Tryz.underlying4
  a4 := Tryz.isAgg4
  z4 := Tryz.sizeOf4
  v4 := Tryz.zeroValue4
  t5 := Tryz.underlying5
  a5 := Tryz.isAgg5
  z5 := Tryz.sizeOf5
  v5 := Tryz.zeroValue5
  t9 := Tryz.underlying9
  a9 := Tryz.isAgg9
  z9 := Tryz.sizeOf9
  v9 := Tryz.zeroValue9
  t46 := Tryz.underlying83
  a46 := Tryz.isAgg83
  z46 := Tryz.sizeOf83
  v46 := Tryz.zeroValue83
  t51 := Tryz.underlying154
  a51 := Tryz.isAgg154
  z51 := Tryz.sizeOf154
  v51 := Tryz.zeroValue154
  t146 := Tryz.underlying157
  a146 := Tryz.isAgg157
  z146 := Tryz.sizeOf157
  v146 := Tryz.zeroValue157
  g1 := by kernel_rfl }
def Tryz.lays144_ren : Go.Shelf.Ren := ⟨fun | 144 => 158 | 143 => 176 | 219 => 128 | 217 => 145 | 225 => 146 | 224 => 147 | 267 => 148 | 266 => 169 | 314 => 170 | n => n, fun | 9 => 9 | 4 => 4 | 3 => 3 | 5 => 5 | 46 => 83 | 146 => 157 | 51 => 154 | n => n, fun | 1 => 0 | n => n⟩
theorem Tryz.lays144 : Go.Proofs.Lays.n144 Tryz.prog Tryz.lays144_ren := {
  mixed := by kernel_rfl
  f143 := Tryz.func176.trans (congrArg some (by kernel_rfl))
  f144 := Tryz.func158.trans (congrArg some (by kernel_rfl))
  f217 := Tryz.func145.trans (congrArg some (by kernel_rfl))
  f219 := Tryz.func128.trans (congrArg some (by kernel_rfl))
  f224 := Tryz.func147.trans (congrArg some (by kernel_rfl))
  f225 := Tryz.func146.trans (congrArg some (by kernel_rfl))
  f266 := Tryz.func169.trans (congrArg some (by kernel_rfl))
  f267 := Tryz.func148.trans (congrArg some (by kernel_rfl))
  f314 := Tryz.func170.trans (congrArg some (by kernel_rfl))
  t3 := Tryz.underlying3
  a3 := Tryz.isAgg3
  z3 := Tryz.sizeOf3
  v3 := Tryz.zeroValue3
  t4 := Tryz.underlying4
  a4 := Tryz.isAgg4
  z4 := Tryz.sizeOf4
  v4 := Tryz.zeroValue4
  t5 := Tryz.underlying5
  a5 := Tryz.isAgg5
  z5 := Tryz.sizeOf5
  v5 := Tryz.zeroValue5
  t9 := Tryz.underlying9
  a9 := Tryz.isAgg9
  z9 := Tryz.sizeOf9
  v9 := Tryz.zeroValue9
  t46 := Tryz.underlying83
  a46 := Tryz.isAgg83
  z46 := Tryz.sizeOf83
  v46 := Tryz.zeroValue83
  t51 := Tryz.underlying154
  a51 := Tryz.isAgg154
  z51 := Tryz.sizeOf154
  v51 := Tryz.zeroValue154
  t146 := Tryz.underlying157
  a146 := Tryz.isAgg157
  z146 := Tryz.sizeOf157
  v146 := Tryz.zeroValue157
  g1 := by kernel_rfl }
end Go.Proofs

/- Layer 6 of the program: isLetterOrDigit, isHost. -/
namespace Go.Proofs.YtfihehobkbfmiaaGreatDoor.THost
open Go.ChangeShapes Go.WideShapes Go.ChangeAt Go.RowKit LexPure Bytes Ret HostPure PUnder
set_option maxRecDepth 20000
theorem alnum_cases (b : UInt8) : alnum b = decide ((48 ≤ (b.toNat : Int) ∧ (b.toNat : Int) ≤ 57) ∨ (65 ≤ (b.toNat : Int) ∧ (b.toNat : Int) ≤ 90) ∨ (97 ≤ (b.toNat : Int) ∧ (b.toNat : Int) ≤ 122)) := by
  have := all_bytes (p := fun b => alnum b == decide ((48 ≤ (b.toNat : Int) ∧ (b.toNat : Int) ≤ 57) ∨ (65 ≤ (b.toNat : Int) ∧ (b.toNat : Int) ≤ 90) ∨ (97 ≤ (b.toNat : Int) ∧ (b.toNat : Int) ≤ 122))) (by decide +kernel) b
  simpa only [beq_iff_eq] using this
theorem talnum_any (b : UInt8) (w : World) :
    Calls Tryz.prog 159 #[.int .u8 (b.toNat : Int)] w fun e w' => e = .returned (.bool (alnum b)) ∧ w = w' := by
  rw [alnum_cases]
  generalize (b.toNat : Int) = c
  go_enter Tryz.func159, Tryz.ntmps159
  go_wp2_with fail
  all_goals
    go_ret
    refine ⟨ret_bool ?_, rfl⟩
  all_goals first
    | rfl
    | exact Eq.symm (decide_eq_true (by omega))
    | exact Eq.symm (decide_eq_false (by omega))
    | (rw [Bool.eq_iff_iff]; simp only [Bool.or_eq_true, Bool.and_eq_true, decide_eq_true_eq]; omega)
    | (rw [Bool.eq_iff_iff]; simp only [Bool.or_eq_true, Bool.and_eq_true, decide_eq_true_eq, Bool.false_eq_true, false_iff]; omega)
    | trace_state
theorem dots_say : ∀ s : List UInt8, Go.Lib.contains s [46, 46] = dotted s
  | [] => by unfold Go.Lib.contains; decide
  | [a] => by
    unfold Go.Lib.contains Go.Lib.index
    simp [Go.Lib.index, List.isPrefixOf, dotted]
  | a :: b :: s => by
    have ih := dots_say (b :: s)
    rw [dotted, ← ih]
    unfold Go.Lib.contains
    rw [Go.Lib.index]
    have hge := Go.Lib.index_ge (b :: s) [46, 46]
    have hp : ([46, 46] : List UInt8).isPrefixOf (a :: b :: s) = (a == 46 && b == 46) := by
      simp only [List.isPrefixOf, Bool.and_true]
      rw [show ((46 : UInt8) == a) = (a == 46) by rw [Bool.eq_iff_iff]; simp only [beq_iff_eq]; exact eq_comm, show ((46 : UInt8) == b) = (b == 46) by rw [Bool.eq_iff_iff]; simp only [beq_iff_eq]; exact eq_comm]
    rw [hp]
    cases hq : (a == 46 && b == 46)
    · rw [Bool.false_or]
      simp only [Bool.false_eq_true, if_false]
      by_cases hm : Go.Lib.index (b :: s) [46, 46] = -1
      · rw [hm]; rfl
      · have : ((Go.Lib.index (b :: s) [46, 46]) == -1) = false := beq_eq_false_iff_ne.2 hm
        rw [this]
        simp only [Bool.false_eq_true, if_false]
        rw [decide_eq_decide]
        omega
    · rfl
theorem lib_dots (s : ByteArray) (hs : s.size < 4294967281) (w : World) (hm : MaxInt w) :
    Calls Tryz.prog 158 #[.string s, .string ⟨#[46, 46]⟩] w fun e w' => e = .returned (.bool (dotted (toL s))) ∧ w' = w := by
  obtain ⟨m, hm⟩ := hm
  have h := Any.strings_Contains Tryz.lays144 s ⟨#[46, 46]⟩ m w hs hm
  rw [show (⟨#[46, 46]⟩ : ByteArray).data.toList = [46, 46] from rfl, dots_say] at h
  exact h
theorem hostC_cases (b : UInt8) : (hostC b = true ∧ alnum b = true) ∨ (hostC b = true ∧ alnum b = false ∧ ((b.toNat : Int) != 45) = false) ∨ (hostC b = true ∧ alnum b = false ∧ ((b.toNat : Int) != 45) = true ∧ ((b.toNat : Int) != 46) = false) ∨ (hostC b = false ∧ alnum b = false ∧ ((b.toNat : Int) != 45) = true ∧ ((b.toNat : Int) != 46) = true) := by
  have := all_bytes (p := fun b => decide ((hostC b = true ∧ alnum b = true) ∨ (hostC b = true ∧ alnum b = false ∧ ((b.toNat : Int) != 45) = false) ∨ (hostC b = true ∧ alnum b = false ∧ ((b.toNat : Int) != 45) = true ∧ ((b.toNat : Int) != 46) = false) ∨ (hostC b = false ∧ alnum b = false ∧ ((b.toNat : Int) != 45) = true ∧ ((b.toNat : Int) != 46) = true))) (by decide +kernel) b
  exact of_decide_eq_true this
theorem head_at (s : ByteArray) (h : 0 < s.size) : (toL s).headD 0 = s[0] := by
  have := toL_get s 0 h
  rw [List.headD_eq_head?_getD, List.head?_eq_getElem?, this]
  rfl
theorem last_at (s : ByteArray) (h : 0 < s.size) : (toL s).getLastD 0 = s[s.size - 1] := by
  have := toL_get s (s.size - 1) (by omega)
  rw [List.getLastD_eq_getLast?, List.getLast?_eq_getElem?, toL_length, this]
  rfl
set_option maxHeartbeats 1600000 in
theorem thost_any (s : ByteArray) (hs : s.size ≤ 140737488351232) (w : World) (hm : MaxInt w) :
    Calls Tryz.prog 134 #[.string s] w fun e w' => e = .returned (.bool (host (toL s))) ∧ w = w' := by
  by_cases h0 : 0 < s.size
  rotate_left
  · have hv : host (toL s) = false := by
      have : toL s = [] := List.length_eq_zero_iff.1 (by rw [toL_length]; omega)
      rw [this]; rfl
    have e1 : s.toList = [] := by
      rw [ByteArray.toList_eq]
      exact List.length_eq_zero_iff.1 (by have := toL_length s; unfold toL at this; omega)
    have e2 : s.toList.isEmpty = true := by rw [e1]; rfl
    rw [hv]
    clear hm hv h0
    go_enter Tryz.func134, Tryz.ntmps134
    go_wp2_with fail
    go_ret
    exact ⟨rfl, rfl⟩
  have e1 : ¬ s.toList = [] := fun e => by
    rw [ByteArray.toList_eq] at e
    have := toL_length s
    rw [show toL s = [] from e] at this
    simp at this
    omega
  have e2 : s.toList.isEmpty = false := by
    cases h2 : s.toList with
    | nil => exact absurd h2 e1
    | cons => rfl
  have hne : (toL s).isEmpty = false := by
    cases h2 : toL s with
    | nil => have := toL_length s; rw [h2] at this; simp at this; omega
    | cons => rfl
  by_cases h64 : s.size ≤ 64
  rotate_left
  · have hv : host (toL s) = false := by
      unfold host
      rw [decide_eq_false (p := (toL s).length ≤ 64) (by rw [toL_length]; exact h64)]
      simp
    have hi : (64 : Int) < (s.size : Int) := by omega
    rw [hv]
    clear hm hv h0 h64 hne
    go_enter Tryz.func134, Tryz.ntmps134
    go_wp2_with fail
    go_ret
    exact ⟨rfl, rfl⟩
  have hi : ¬ (64 : Int) < (s.size : Int) := by omega
  have HD := Lib.hid (lib_dots s (by omega) w hm)
  clear hm
  by_cases hd : dotted (toL s) = true
  · have hv : host (toL s) = false := by unfold host; rw [hd]; simp
    rw [hd] at HD
    rw [hv]
    clear hv h0 h64 hne hd
    go_enter Tryz.func134, Tryz.ntmps134
    go_wp2_with fail
    refine HD.out.mono ?_
    rintro e w' ⟨rfl, rfl⟩
    go_wp2_with fail
    go_ret
    exact ⟨rfl, rfl⟩
  have hdf : dotted (toL s) = false := by simpa using hd
  have HV := Lib.hid (show host (toL s) = ((toL s).all hostC && alnum s[0] && alnum s[s.size - 1]) by
    unfold host
    rw [hne, hdf, decide_eq_true (p := (toL s).length ≤ 64) (by rw [toL_length]; exact h64), head_at s h0, last_at s h0]
    rfl)
  rw [hdf] at HD
  clear hd hdf hne
  go_enter Tryz.func134, Tryz.ntmps134
  go_wp2_with fail
  refine HD.out.mono ?_
  rintro e w' ⟨rfl, rfl⟩
  clear HD
  go_wp2_with fail
  go_loop [17] (fun i => ∃ k : Nat, k ≤ s.size ∧ i = .int .i64 k ∧ Hid (((toL s).take k).all hostC = true)) (fun i => s.size - (intOf i).toNat)
  case atStart => exact ⟨0, Nat.zero_le _, rfl, Lib.hid rfl⟩
  case round =>
    obtain ⟨k, hk, rfl, ha⟩ := hrel
    by_cases hlt : k < s.size
    · have hki : (k : Int) < (s.size : Int) := by omega
      have HS := Lib.hid (toL_take_succ s k hlt)
      have HG := Lib.hid (toL_get s k hlt)
      have HC := Lib.hid (fun w => talnum_any s[k] w)
      have HN : hostC s[k] = true → Hid (((toL s).take (k + 1)).all hostC = true) := fun hh => Lib.hid (by rw [HS.out, List.all_append, ha.out]; simp [hh])
      rcases hostC_cases s[k] with ⟨hh, h1⟩ | ⟨hh, h1, h2⟩ | ⟨hh, h1, h2, h3⟩ | ⟨hh, h1, h2, h3⟩
      · have HA := HN hh
        rw [h1] at HC
        clear hh h1 HS HG HN HV ha
        go_wp2_with (refine (HC.out _).mono ?_; rintro e w' ⟨rfl, rfl⟩)
        go_round
        case rel => exact ⟨k + 1, by omega, by go_num, HA⟩
        case measure => simp [intOf]; omega
      · have HA := HN hh
        rw [h1] at HC
        clear hh h1 HS HG HN HV ha
        go_wp2_with (refine (HC.out _).mono ?_; rintro e w' ⟨rfl, rfl⟩)
        go_round
        case rel => exact ⟨k + 1, by omega, by go_num, HA⟩
        case measure => simp [intOf]; omega
      · have HA := HN hh
        rw [h1] at HC
        clear hh h1 HS HG HN HV ha
        go_wp2_with (refine (HC.out _).mono ?_; rintro e w' ⟨rfl, rfl⟩)
        go_round
        case rel => exact ⟨k + 1, by omega, by go_num, HA⟩
        case measure => simp [intOf]; omega
      · have HV2 : Hid (host (toL s) = false) := Lib.hid (by
          rw [HV.out]
          have : (toL s).all hostC = false := by
            rw [List.all_eq_false]
            exact ⟨s[k], List.mem_of_getElem? HG.out, by simpa using hh⟩
          rw [this]
          rfl)
        rw [h1] at HC
        clear hh h1 HS HG HN HV ha
        go_wp2_with (refine (HC.out _).mono ?_; rintro e w' ⟨rfl, rfl⟩)
        go_ret
        exact ⟨ret_bool HV2.out.symm, rfl⟩
    · have hall : (toL s).take k = toL s := toL_take_all s (by omega)
      have HV2 : Hid (host (toL s) = (alnum s[0] && alnum s[s.size - 1])) := Lib.hid (by
        have h := ha.out
        rw [hall] at h
        rw [HV.out, h]
        rfl)
      clear hall HV ha
      obtain ⟨j, hj⟩ : ∃ j, s.size = j + 1 := ⟨s.size - 1, by omega⟩
      have hjl : j < s.size := by omega
      have hgj : s[s.size - 1] = s[j] := by congr 1; omega
      rw [hgj] at HV2
      clear hgj
      have H0 := Lib.hid (fun w => talnum_any s[0] w)
      have H1 := Lib.hid (fun w => talnum_any s[j] w)
      have hz : (0 : Int) < (s.size : Int) := by omega
      have hz1 : (0 : Int) < (j : Int) + 1 := by omega
      have hz2 : (j : Int) < (j : Int) + 1 := by omega
      cases ha0 : alnum s[0]
      · rw [ha0] at HV2 H0
        clear ha0 H1
        go_wp2_with fail
        refine (H0.out _).mono ?_
        rintro e w' ⟨rfl, rfl⟩
        go_wp2_with fail
        go_ret
        exact ⟨ret_bool HV2.out.symm, rfl⟩
      · rw [ha0] at HV2 H0
        clear ha0
        go_wp2_with fail
        refine (H0.out _).mono ?_
        rintro e w' ⟨rfl, rfl⟩
        go_wp2_with fail
        refine (H1.out _).mono ?_
        rintro e w' ⟨rfl, rfl⟩
        go_wp2_with fail
        go_ret
        exact ⟨ret_bool HV2.out.symm, rfl⟩
end Go.Proofs.YtfihehobkbfmiaaGreatDoor.THost

/- strings.Cut at a piece of one byte, at whatever size. -/
namespace Go.Proofs.YtfihehobkbfmiaaGreatDoor.PCutLib
open Go.ChangeShapes Go.WideShapes Go.ChangeAt Go.RowKit Bytes Ret CutAt
set_option maxRecDepth 20000
theorem lib_at (x : UInt8) (s : ByteArray) (w : World) :
    Calls Tryz.prog 128 #[.string s, .string ⟨#[x]⟩] w fun e w' => e = .returned (.int .i64 (Lib.index (toL s) [x])) ∧ w' = w := by
  have h := Any.stringslite_Index_one Tryz.lays219 s x w
  rw [← Lib.index_one] at h
  exact h
theorem ret_cut {a b c d : ByteArray} {p q : Bool} (h : a = c) (k : b = d) (l : p = q) : Ending.returned (.tuple #[.string a, .string b, .bool p]) = .returned (.tuple #[.string c, .string d, .bool q]) := by rw [h, k, l]
theorem lite_cut (x : UInt8) (s : ByteArray) (hs : s.size ≤ 140737488351232) (w : World) :
    Calls Tryz.prog 105 #[.string s, .string ⟨#[x]⟩] w fun e w' => e = .returned (.tuple #[.string (ofL (aheadOf x (toL s))), .string (ofL (behind x (toL s))), .bool (hasB x (toL s))]) ∧ Below w.heap.size w w' := by
  have HI := Lib.hid (fun w => lib_at x s w)
  obtain ⟨h1, h2, h3⟩ := cut_say x (toL s)
  unfold Lib.cut at h1 h2 h3
  have hge := Lib.index_ge (toL s) [x]
  have hle := Lib.index_le (toL s) [x]
  by_cases hm : Lib.index (toL s) [x] = -1
  · rw [hm] at h1 h2 h3 HI
    have HA : Hid (s = ofL (aheadOf x (toL s))) := Lib.hid (by rw [← h1]; exact (ofL_toL s).symm)
    have HB : Hid ((⟨#[]⟩ : ByteArray) = ofL (behind x (toL s))) := Lib.hid (by rw [← h2]; rfl)
    have HQ : Hid (false = hasB x (toL s)) := Lib.hid (by rw [← h3]; rfl)
    clear h1 h2 h3 hge hle hm
    go_enter Tryz.func105, Tryz.ntmps105
    go_wp2_with fail
    refine (HI.out _).mono ?_
    rintro e w' ⟨rfl, rfl⟩
    go_wp2_with fail
    go_ret3
    exact ⟨ret_cut HA.out HB.out HQ.out, Below.refl _ _⟩
  · obtain ⟨i, hi⟩ : ∃ i : Nat, Lib.index (toL s) [x] = i := ⟨(Lib.index (toL s) [x]).toNat, by omega⟩
    rw [hi] at h1 h2 h3 HI
    have hp : (0 : Int) ≤ (i : Int) := by omega
    simp only [hp, if_true, Int.toNat_natCast, List.length_singleton] at h1 h2 h3
    have hlt : i < s.size := by
      rcases Nat.lt_or_ge i (toL s).length with h | h
      · rwa [toL_length] at h
      · exfalso
        have e1 : aheadOf x (toL s) = toL s := by rw [← h1, List.take_of_length_le h]
        have e2 : hasB x (toL s) = true := h3.symm
        unfold aheadOf at e1
        unfold hasB at e2
        rw [List.any_eq_true] at e2
        obtain ⟨c, hc, hq⟩ := e2
        have hall : (toL s).all (fun c => c != x) = true := by
          rw [← e1]
          exact List.all_takeWhile
        have := List.all_eq_true.1 hall c hc
        simp only [bne_iff_ne, ne_eq, beq_iff_eq] at this hq
        exact this hq
    have HA : Hid (s.extract 0 i = ofL (aheadOf x (toL s))) := Lib.hid (toL_inj (by rw [toL_extract, toL_ofL, ← h1, List.drop_zero]))
    have HB : Hid (s.extract (i + 1) s.size = ofL (behind x (toL s))) := Lib.hid (toL_inj (by rw [toL_extract, toL_ofL, ← h2, List.take_of_length_le (by rw [toL_length]; exact Nat.le_refl _)]))
    have HQ : Hid (true = hasB x (toL s)) := Lib.hid h3
    have c1 : (i : Int) ≤ (s.size : Int) := by omega
    have c2 : (i : Int) + 1 ≤ (s.size : Int) := by omega
    have c3 : (0 : Int) ≤ (i : Int) + 1 := by omega
    have c4 : (s.size : Int) ≤ 140737488351232 := by omega
    clear h1 h2 h3 hge hle hm hi hlt
    go_enter Tryz.func105, Tryz.ntmps105
    go_wp2_with fail
    refine (HI.out _).mono ?_
    rintro e w' ⟨rfl, rfl⟩
    go_wp2_with fail
    go_region
    go_wp2_with fail
    go_ret3
    exact ⟨ret_cut HA.out HB.out HQ.out, ⟨rfl, rfl, rfl, Nat.le_refl _, fun _ _ => rfl⟩⟩
theorem full_cut (x : UInt8) (s : ByteArray) (hs : s.size ≤ 140737488351232) (w : World) :
    Calls Tryz.prog 71 #[.string s, .string ⟨#[x]⟩] w fun e w' => e = .returned (.tuple #[.string (ofL (aheadOf x (toL s))), .string (ofL (behind x (toL s))), .bool (hasB x (toL s))]) ∧ Below w.heap.size w w' := by
  have H := Lib.hid (lite_cut x s hs)
  clear hs
  go_enter Tryz.func71, Tryz.ntmps71
  go_wp2_with fail
  refine (H.out _).mono ?_
  rintro e w' ⟨rfl, hb⟩
  go_wp2_with fail
  go_ret3
  exact ⟨rfl, hb⟩
end Go.Proofs.YtfihehobkbfmiaaGreatDoor.PCutLib

/- Layer 4 of the program: Decimal. -/
namespace Go.Proofs.YtfihehobkbfmiaaGreatDoor.PDecimal
open Go.ChangeShapes Go.WideShapes Go.ChangeAt Go.RowKit LexPure Bytes Ret LexNum PCount
set_option maxRecDepth 20000
theorem pdecimal_any (s : ByteArray) (hs : s.size ≤ maxLen) (digits : Int) (w : World) :
    Calls Tryz.prog 129 #[.string s, .int .i64 digits] w fun e w' => e = .returned (.tuple #[.int .i64 (numR 10 (min digits 18) (toL s)), .bool (numOk 10 (min digits 18) (toL s))]) ∧ w = w' := by
  have HN := Lib.hid (pnumber_any s hs (min digits 18) 10 (.inl ⟨rfl, Int.min_le_right _ _⟩))
  clear hs
  rcases (show digits < 18 ∨ digits = 18 ∨ 18 < digits by omega) with h | h | h
  · have hm : min digits 18 = digits := by omega
    rw [hm] at HN ⊢
    go_enter Tryz.func129, Tryz.ntmps129
    go_wp2_with fail
    refine (HN.out _).mono ?_
    rintro e w' ⟨rfl, rfl⟩
    go_wp2_with fail
    go_ret2
    exact ⟨rfl, rfl⟩
  · subst h
    have hm : min 18 18 = (18 : Int) := rfl
    rw [hm] at HN ⊢
    go_enter Tryz.func129, Tryz.ntmps129
    go_wp2_with fail
    refine (HN.out _).mono ?_
    rintro e w' ⟨rfl, rfl⟩
    go_wp2_with fail
    go_ret2
    exact ⟨rfl, rfl⟩
  · have hm : min digits 18 = 18 := by omega
    rw [hm] at HN ⊢
    go_enter Tryz.func129, Tryz.ntmps129
    go_wp2_with fail
    refine (HN.out _).mono ?_
    rintro e w' ⟨rfl, rfl⟩
    go_wp2_with fail
    go_ret2
    exact ⟨rfl, rfl⟩
end Go.Proofs.YtfihehobkbfmiaaGreatDoor.PDecimal

/- Layer 6 of the program: Authority. -/
namespace Go.Proofs.YtfihehobkbfmiaaGreatDoor.TAuth
open Go.ChangeShapes Go.WideShapes Go.ChangeAt Go.RowKit LexPure Bytes Ret CutAt HostPure PUnder PCutLib PLower PDecimal THost Mem
set_option maxRecDepth 20000
theorem ahead_len (x : UInt8) (s : List UInt8) : (aheadOf x s).length ≤ s.length := by
  unfold aheadOf
  exact (List.takeWhile_prefix _).length_le
theorem behind_len (x : UInt8) (s : List UInt8) : (behind x s).length ≤ s.length := by
  unfold behind
  rw [List.length_tail]
  have := (List.dropWhile_suffix (l := s) (fun c => c != x)).length_le
  omega
theorem ret_auth {a b : ByteArray} {p q r t : Int} (h : a = b) (k : p = q) (l : r = t) : Ending.returned (.tuple #[.string a, .int .i64 p, .int .i64 r]) = .returned (.tuple #[.string b, .int .i64 q, .int .i64 t]) := by rw [h, k, l]
set_option maxHeartbeats 1600000 in
theorem tauth_any (s : ByteArray) (hs : s.size ≤ 140737488351232) (w : World) (hm : MaxInt w) :
    Calls Tryz.prog 119 #[.string s] w fun e w' => e = .returned (.tuple #[.string (ofL (authH (toL s))), .int .i64 (authP (toL s)), .int .i64 (authE (toL s))]) ∧ Below w.heap.size w w' := by
  have HC := Lib.hid (fun w => full_cut 58 s hs w)
  have hl1 := ahead_len 58 (toL s)
  have hl2 := behind_len 58 (toL s)
  rw [toL_length] at hl1 hl2
  have HH := Lib.hid (fun w hm => thost_any (ofL (aheadOf 58 (toL s))) (by rw [ofL_size]; omega) w hm)
  have HL := Lib.hid (fun w => plower_any (ofL (aheadOf 58 (toL s))) (by rw [ofL_size]; unfold maxLen; omega) w)
  have HD := Lib.hid (fun w => pdecimal_any (ofL (behind 58 (toL s))) (by rw [ofL_size]; unfold maxLen; omega) 5 w)
  rw [toL_ofL] at HH HL HD
  rw [show min (5 : Int) 18 = 5 from rfl] at HD
  have HM := Lib.hid hm
  clear hm hl1 hl2 hs
  by_cases hh : host (aheadOf 58 (toL s)) = true
  rotate_left
  · have hf : host (aheadOf 58 (toL s)) = false := by simpa using hh
    have hn : authO (toL s) = none := by unfold authO; rw [if_neg hh]
    obtain ⟨v1, v2, v3⟩ := auth_none hn
    rw [v1, v2, v3]
    rw [hf] at HH
    clear hf hn v1 v2 v3 hh HL HD
    generalize ofL (aheadOf 58 (toL s)) = A at *
    generalize ofL (behind 58 (toL s)) = B at *
    generalize hasB 58 (toL s) = q at *
    go_enter Tryz.func119, Tryz.ntmps119
    go_wp2_with fail
    refine (HC.out _).mono ?_
    rintro e w1 ⟨rfl, hb1⟩
    go_wp2_with fail
    refine (HH.out _ (HM.out.below hb1)).mono ?_
    rintro e w2 ⟨rfl, rfl⟩
    go_wp2_with fail
    go_ret3
    exact ⟨rfl, hb1⟩
  rw [hh] at HH
  cases hq : hasB 58 (toL s)
  · have hn : authO (toL s) = some (lower (aheadOf 58 (toL s)), 0) := by unfold authO; rw [if_pos hh, hq]; rfl
    obtain ⟨v1, v2, v3⟩ := auth_some hn
    rw [v1, v2, v3]
    rw [hq] at HC
    clear hn v1 v2 v3 hh hq HD
    generalize ofL (lower (aheadOf 58 (toL s))) = L at *
    generalize ofL (aheadOf 58 (toL s)) = A at *
    generalize ofL (behind 58 (toL s)) = B at *
    go_enter Tryz.func119, Tryz.ntmps119
    go_wp2_with fail
    refine (HC.out _).mono ?_
    rintro e w1 ⟨rfl, hb1⟩
    go_wp2_with fail
    refine (HH.out _ (HM.out.below hb1)).mono ?_
    rintro e w2 ⟨rfl, rfl⟩
    go_wp2_with fail
    refine (HL.out _).mono ?_
    rintro e w2 ⟨rfl, hb2⟩
    have HB := Lib.hid (below_chain hb1 hb2)
    clear hb1 hb2
    go_wp2_with fail
    go_ret3
    exact ⟨rfl, HB.out⟩
  · rw [hq] at HC
    by_cases hp : portOk (behind 58 (toL s)) = true
    · have hn : authO (toL s) = some (lower (aheadOf 58 (toL s)), numR 10 5 (behind 58 (toL s))) := by unfold authO; rw [if_pos hh, hq, if_pos rfl, if_pos hp]
      obtain ⟨v1, v2, v3⟩ := auth_some hn
      rw [v1, v2, v3]
      unfold portOk at hp
      simp only [Bool.and_eq_true, decide_eq_true_eq] at hp
      obtain ⟨⟨p1, p2⟩, p3⟩ := hp
      rw [p1] at HD
      clear hn v1 v2 v3 hh hq p1
      generalize ofL (lower (aheadOf 58 (toL s))) = L at *
      generalize ofL (aheadOf 58 (toL s)) = A at *
      generalize numR 10 5 (behind 58 (toL s)) = n at *
      generalize ofL (behind 58 (toL s)) = B at *
      go_enter Tryz.func119, Tryz.ntmps119
      go_wp2_with fail
      refine (HC.out _).mono ?_
      rintro e w1 ⟨rfl, hb1⟩
      go_wp2_with fail
      refine (HH.out _ (HM.out.below hb1)).mono ?_
      rintro e w2 ⟨rfl, rfl⟩
      go_wp2_with fail
      refine (HD.out _).mono ?_
      rintro e w2 ⟨rfl, rfl⟩
      go_wp2_with fail
      refine (HL.out _).mono ?_
      rintro e w2 ⟨rfl, hb2⟩
      have HB := Lib.hid (below_chain hb1 hb2)
      clear hb1 hb2
      go_wp2_with fail
      go_ret3
      exact ⟨rfl, HB.out⟩
    · have hn : authO (toL s) = none := by unfold authO; rw [if_pos hh, hq, if_pos rfl, if_neg hp]
      obtain ⟨v1, v2, v3⟩ := auth_none hn
      rw [v1, v2, v3]
      have hc : numOk 10 5 (behind 58 (toL s)) = false ∨ (numOk 10 5 (behind 58 (toL s)) = true ∧ numR 10 5 (behind 58 (toL s)) < 1) ∨ (numOk 10 5 (behind 58 (toL s)) = true ∧ 1 ≤ numR 10 5 (behind 58 (toL s)) ∧ 65535 < numR 10 5 (behind 58 (toL s))) := by
        unfold portOk at hp
        simp only [Bool.and_eq_true, decide_eq_true_eq] at hp
        cases h : numOk 10 5 (behind 58 (toL s))
        · exact .inl rfl
        · right
          rcases Int.lt_or_le (numR 10 5 (behind 58 (toL s))) 1 with h2 | h2
          · exact .inl ⟨rfl, h2⟩
          · rcases Int.lt_or_le 65535 (numR 10 5 (behind 58 (toL s))) with h3 | h3
            · exact .inr ⟨rfl, h2, h3⟩
            · exact absurd ⟨⟨h, h2⟩, h3⟩ hp
      clear hn v1 v2 v3 hh hq hp HL
      rcases hc with h1 | ⟨h1, h2⟩ | ⟨h1, h2, h3⟩
      all_goals
        rw [h1] at HD
        clear h1
        generalize ofL (aheadOf 58 (toL s)) = A at *
        generalize numR 10 5 (behind 58 (toL s)) = n at *
        generalize ofL (behind 58 (toL s)) = B at *
        go_enter Tryz.func119, Tryz.ntmps119
        go_wp2_with fail
        refine (HC.out _).mono ?_
        rintro e w1 ⟨rfl, hb1⟩
        go_wp2_with fail
        refine (HH.out _ (HM.out.below hb1)).mono ?_
        rintro e w2 ⟨rfl, rfl⟩
        go_wp2_with fail
        refine (HD.out _).mono ?_
        rintro e w2 ⟨rfl, rfl⟩
        go_wp2_with fail
        go_ret3
        exact ⟨rfl, hb1⟩
end Go.Proofs.YtfihehobkbfmiaaGreatDoor.TAuth
