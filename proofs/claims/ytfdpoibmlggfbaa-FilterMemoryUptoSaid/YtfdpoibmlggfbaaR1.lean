/- Texts of this seat, one behind another: R14Eq, RMarks, RToken, RBlank, RValue, RPlainP, RNumber, RHex, RPlain, REsc, REscapes, PathForm, RNormP, RNormal, R14In, R14Name. -/
import Derived.Laws.StructEq
import Derived.Lib.Hide
import Derived.Below
import Derived.Outline
import Derived.LoopTactic
import Derived.Laws.DeepStrings4
import Derived.Maps.AppendAt
import Derived.Deep.RegionHeld3
import Derived.Test.YtfdpoibmlggfbaaA1
import Derived.Test.YtfdpoibmlggfbaaA2
/- Layer 14: two filters held against each other. -/
namespace Go.Proofs.Ytfdpoibmlggfbaa.R14Eq
open Go.ChangeShapes Go.WideShapes Go.ChangeAt Go.RowKit LexPure Bytes ConfPure ConfMem Mem
set_option maxRecDepth 20000
set_option linter.unusedSimpArgs false
abbrev FT : TypeId := 29
def fcs (k : Int) (a b : ByteArray) (n m j : Int) : Array Value := #[.int .i64 k, .string a, .string b, .int .i64 n, .int .i64 m, .int .i64 j]
set_option maxHeartbeats 6400000 in
theorem eqF (k k' n n' m m' j j' : Int) (a a' b b' : ByteArray) (w : World) : (binOp .eql 29 (.agg #[.int .i64 k, .string a, .string b, .int .i64 n, .int .i64 m, .int .i64 j]) (.agg #[.int .i64 k', .string a', .string b', .int .i64 n', .int .i64 m', .int .i64 j'])).run Try.prog w =
    .ok (.bool (k == k' && (a.toList == a'.toList && (b.toList == b'.toList && (n == n' && (m == m' && j == j')))))) w := by
  have u3 := Try.underlying3
  have a3 := Try.isAgg3
  have z3 := Try.sizeOf3
  have u9 := Try.underlying9
  have a9 := Try.isAgg9
  have z9 := Try.sizeOf9
  have hS : Try.prog.underlying 29 = some (.struct (Try.prog.fieldsOf 29)) := by kernel_rfl
  have hp : Try.prog.stoodInHeld 29 = false := by kernel_rfl
  obtain ⟨e1, h1⟩ : ∃ e1, (k == k') = e1 := ⟨_, rfl⟩
  obtain ⟨e2, h2⟩ : ∃ e2, (a.toList == a'.toList) = e2 := ⟨_, rfl⟩
  obtain ⟨e3, h3⟩ : ∃ e3, (b.toList == b'.toList) = e3 := ⟨_, rfl⟩
  obtain ⟨e4, h4⟩ : ∃ e4, (n == n') = e4 := ⟨_, rfl⟩
  obtain ⟨e5, h5⟩ : ∃ e5, (m == m') = e5 := ⟨_, rfl⟩
  obtain ⟨e6, h6⟩ : ∃ e6, (j == j') = e6 := ⟨_, rfl⟩
  rw [h1, h2, h3, h4, h5, h6]
  rw [run_eql_struct, show (10000 : Nat) = 9999 + 1 from rfl, run_equalIn_agg w 9999 29 _ _ hS hp]
  simp only [Program.fieldsOf, Try.underlying29]
  cases e1 <;> cases e2 <;> cases e3 <;> cases e4 <;> cases e5 <;> cases e6 <;> go_simp
end Go.Proofs.Ytfdpoibmlggfbaa.R14Eq

/- Layer 4, the document's own Marks. -/
namespace Go.Proofs.Ytfdpoibmlggfbaa.RMarks
open Go.ChangeShapes Go.WideShapes Go.ChangeAt Go.RowKit LexPure Bytes Ret
set_option maxRecDepth 20000
theorem rmarks_any (c : UInt8) (w : World) :
    Calls Try.prog 54 #[.int .u8 (c.toNat : Int)] w fun e w' => e = .returned (.bool (markB c)) ∧ w = w' := by
  unfold markB
  generalize (c.toNat : Int) = c
  go_enter Try.func54, Try.ntmps54
  go_wp2_with fail
  all_goals
    go_ret
    refine ⟨ret_bool ?_, rfl⟩
    try simp only [beq_eq_false_iff_ne, beq_iff_eq, ne_eq] at *
    first
      | exact Eq.symm (decide_eq_true (p := MarkP _) (by unfold MarkP; omega))
      | exact Eq.symm (decide_eq_false (p := MarkP _) (by unfold MarkP; omega))
end Go.Proofs.Ytfdpoibmlggfbaa.RMarks

/- Layer 4, the document's own Token. -/
namespace Go.Proofs.Ytfdpoibmlggfbaa.RToken
open Go.ChangeShapes Go.WideShapes Go.ChangeAt Go.RowKit LexPure Bytes Ret RMarks
set_option maxRecDepth 20000
theorem rtoken_any (s : ByteArray) (hs : s.size ≤ maxLen) (w : World) :
    Calls Try.prog 51 #[.string s] w fun e w' => e = .returned (.bool (token (toL s))) ∧ w = w' := by
  unfold maxLen at hs
  go_enter Try.func51, Try.ntmps51
  go_wp2_with fail
  go_loop [3] (fun i => ∃ k : Nat, k ≤ s.size ∧ i = .int .i64 k ∧ Hid (((toL s).take k).all markB = true)) (fun i => s.size - (intOf i).toNat)
  case atStart => exact ⟨0, Nat.zero_le _, rfl, Lib.hid rfl⟩
  case round =>
    obtain ⟨k, hk, rfl, ha⟩ := hrel
    by_cases hlt : k < s.size
    · have hki : (k : Int) < (s.size : Int) := by omega
      have HT := Lib.hid (toL_take_succ s k hlt)
      have HG := Lib.hid (toL_get s k hlt)
      by_cases hm : markB s[k] = true
      · have HA : Hid (((toL s).take (k + 1)).all markB = true) := Lib.hid (by rw [HT.out, List.all_append, ha.out]; simp [hm])
        have HM := Lib.hid hm
        clear hm
        go_wp2_with fail
        refine (rmarks_any _ _).mono ?_
        rintro e w' ⟨rfl, rfl⟩
        rw [HM.out]
        go_wp2_with fail
        go_round
        case rel => exact ⟨k + 1, by omega, by go_num, HA⟩
        case measure => simp [intOf]; omega
      · have hm : markB s[k] = false := by simpa using hm
        have HV : Hid (token (toL s) = false) := Lib.hid (by
          unfold token
          rw [Bool.and_eq_false_iff]
          left
          rw [List.all_eq_false]
          exact ⟨s[k], List.mem_of_getElem? HG.out, by simp [hm]⟩)
        have HM := Lib.hid hm
        clear hm
        go_wp2_with fail
        refine (rmarks_any _ _).mono ?_
        rintro e w' ⟨rfl, rfl⟩
        rw [HM.out]
        go_wp2_with fail
        go_ret
        exact ⟨ret_bool HV.out.symm, rfl⟩
    · have ha' : (toL s).all markB = true := by
        have := ha.out
        rwa [toL_take_all s (by omega)] at this
      have HV : Hid (token (toL s) = decide (0 < s.size)) := Lib.hid (by
        unfold token
        rw [ha']
        have := toL_length s
        cases h : toL s with
        | nil => rw [h] at this; simp at this; simp [← this]
        | cons c r => rw [h] at this; simp at this; simp; omega)
      clear ha'
      go_wp2_with fail
      go_ret
      exact ⟨ret_bool HV.out.symm, rfl⟩
end Go.Proofs.Ytfdpoibmlggfbaa.RToken

/- Layer 4, the document's own Blank. -/
namespace Go.Proofs.Ytfdpoibmlggfbaa.RBlank
open Go.ChangeShapes Go.WideShapes Go.ChangeAt Go.RowKit LexPure Bytes Ret
set_option maxRecDepth 20000
theorem rblank_any (c : UInt8) (w : World) :
    Calls Try.prog 52 #[.int .u8 (c.toNat : Int)] w fun e w' => e = .returned (.bool (blankB c)) ∧ w = w' := by
  rw [← blank_eq]
  generalize (c.toNat : Int) = c
  go_enter Try.func52, Try.ntmps52
  go_wp2_with fail
  all_goals
    go_ret
    refine ⟨ret_bool ?_, rfl⟩
    first
      | exact Eq.symm (decide_eq_true (by omega))
      | exact Eq.symm (decide_eq_false (by omega))
      | (rw [Bool.decide_or]; rfl)
end Go.Proofs.Ytfdpoibmlggfbaa.RBlank

/- Layer 4, the document's own Value. -/
namespace Go.Proofs.Ytfdpoibmlggfbaa.RValue
open Go.ChangeShapes Go.WideShapes Go.ChangeAt Go.RowKit LexPure Bytes Ret RBlank
set_option maxRecDepth 20000
theorem plain_true {b : UInt8} (h : plainB b = true) : ((b.toNat : Int) == 127) = false ∧ (¬ (b.toNat : Int) < 32 ∨ ((b.toNat : Int) < 32 ∧ ((b.toNat : Int) != 9) = false)) := by
  have := all_bytes (p := fun b => !plainB b || decide (((b.toNat : Int) == 127) = false ∧ (¬ (b.toNat : Int) < 32 ∨ ((b.toNat : Int) < 32 ∧ ((b.toNat : Int) != 9) = false)))) (by decide +kernel) b
  simpa only [h, Bool.not_true, Bool.false_or, decide_eq_true_eq] using this
theorem plain_false {b : UInt8} (h : plainB b = false) : ((b.toNat : Int) == 127) = true ∨ (((b.toNat : Int) == 127) = false ∧ (b.toNat : Int) < 32 ∧ ((b.toNat : Int) != 9) = true) := by
  have := all_bytes (p := fun b => plainB b || decide (((b.toNat : Int) == 127) = true ∨ (((b.toNat : Int) == 127) = false ∧ (b.toNat : Int) < 32 ∧ ((b.toNat : Int) != 9) = true))) (by decide +kernel) b
  simpa only [h, Bool.false_or, decide_eq_true_eq] using this
theorem head_at (s : ByteArray) (h : 0 < s.size) : (toL s).headD 0 = s[0] := by
  have := toL_get s 0 h
  cases hl : toL s with
  | nil => rw [hl] at this; cases this
  | cons c r => rw [hl] at this; simpa using this
theorem last_of (s : ByteArray) (j : Nat) (h : s.size = j + 1) : (toL s).getLastD 0 = s[j] := by
  have := toL_get s j (by omega)
  rw [List.getLastD_eq_getLast?, List.getLast?_eq_getElem?, toL_length, show s.size - 1 = j by omega, this]
  rfl
theorem rvalue_any (s : ByteArray) (hs : s.size ≤ maxLen) (w : World) :
    Calls Try.prog 45 #[.string s] w fun e w' => e = .returned (.bool (value (toL s))) ∧ w = w' := by
  unfold maxLen at hs
  go_enter Try.func45, Try.ntmps45
  go_wp2_with fail
  go_loop [3] (fun i => ∃ k : Nat, k ≤ s.size ∧ i = .int .i64 k ∧ Hid (((toL s).take k).all plainB = true)) (fun i => s.size - (intOf i).toNat)
  case atStart => exact ⟨0, Nat.zero_le _, rfl, Lib.hid rfl⟩
  case round =>
    obtain ⟨k, hk, rfl, ha⟩ := hrel
    by_cases hlt : k < s.size
    · have hki : (k : Int) < (s.size : Int) := by omega
      have HT := Lib.hid (toL_take_succ s k hlt)
      have HG := Lib.hid (toL_get s k hlt)
      by_cases hm : plainB s[k] = true
      · have HA : Hid (((toL s).take (k + 1)).all plainB = true) := Lib.hid (by rw [HT.out, List.all_append, ha.out]; simp [hm])
        have hp := plain_true hm
        clear HT HG ha hm
        obtain ⟨h1, hp⟩ := hp
        rcases hp with h2 | ⟨h2, h3⟩
        all_goals
          go_wp2_with fail
          go_round
          case rel => exact ⟨k + 1, by omega, by go_num, HA⟩
          case measure => simp [intOf]; omega
      · have hm : plainB s[k] = false := by simpa using hm
        have HV : Hid (value (toL s) = false) := Lib.hid (by
          unfold value
          rw [Bool.and_eq_false_iff]
          left
          rw [List.all_eq_false]
          exact ⟨s[k], List.mem_of_getElem? HG.out, by simp [hm]⟩)
        have hp := plain_false hm
        clear HT HG ha hm
        rcases hp with h1 | ⟨h1, h2, h3⟩
        all_goals
          go_wp2_with fail
          go_ret
          exact ⟨ret_bool HV.out.symm, rfl⟩
    · have ha' : (toL s).all plainB = true := by
        have := ha.out
        rwa [toL_take_all s (by omega)] at this
      have hki : ¬ (k : Int) < (s.size : Int) := by omega
      by_cases h0 : s.size = 0
      · have HV : Hid (value (toL s) = true) := Lib.hid (by
          unfold value
          rw [ha', List.isEmpty_iff.2 (List.length_eq_zero_iff.1 (by rw [toL_length]; exact h0))]
          rfl)
        have hq : ((s.size : Int) == 0) = true := by rw [h0]; rfl
        clear ha' ha
        go_wp2_with fail
        go_ret
        exact ⟨ret_bool HV.out.symm, rfl⟩
      · obtain ⟨j, hj⟩ : ∃ j, s.size = j + 1 := ⟨s.size - 1, by omega⟩
        have hV : value (toL s) = (!blankB (s[0]'(by omega)) && !blankB (s[j]'(by omega))) := by
          unfold value
          rw [ha', head_at s (by omega), last_of s j hj]
          have : (toL s).isEmpty = false := by
            cases hl : toL s with
            | nil => have := toL_length s; rw [hl] at this; simp at this; omega
            | cons => rfl
          rw [this]
          simp
        have HV := Lib.hid hV
        have HJ := Lib.hid hj
        have hq : ((s.size : Int) == 0) = false := by
          rw [beq_eq_false_iff_ne]
          omega
        clear ha' ha hV
        have p0 : 0 < s.size := by omega
        by_cases hb0 : blankB (s[0]'p0) = true
        · have HB := Lib.hid hb0
          have HV2 : Hid (value (toL s) = false) := Lib.hid (by rw [HV.out, hb0]; rfl)
          clear hb0
          go_wp2_with fail
          refine (rblank_any _ _).mono ?_
          rintro e w' ⟨rfl, rfl⟩
          rw [HB.out]
          go_wp2_with fail
          go_ret
          exact ⟨ret_bool HV2.out.symm, rfl⟩
        · have hb0 : blankB (s[0]'p0) = false := by simpa using hb0
          have HB := Lib.hid hb0
          have HV2 : Hid (value (toL s) = !blankB (s[j]'(by omega))) := Lib.hid (by rw [HV.out, hb0]; rfl)
          clear hb0
          go_wp2_with fail
          refine (rblank_any _ _).mono ?_
          rintro e w' ⟨rfl, rfl⟩
          rw [HB.out]
          go_wp2_with fail
          refine (rblank_any _ _).mono ?_
          rintro e w' ⟨rfl, rfl⟩
          generalize blankB (s[j]'(by omega)) = bb at *
          go_wp2_with fail
          go_ret
          exact ⟨ret_bool HV2.out.symm, rfl⟩
end Go.Proofs.Ytfdpoibmlggfbaa.RValue

/- Layer 5: two hexadecimal digits. No program is named. -/
namespace Go.Proofs.Ytfdpoibmlggfbaa.RPlain
open LexPure Bytes LexNum PathPure
set_option maxRecDepth 20000
theorem num_two (a b : UInt8) : numOk 16 (min 2 15) [a, b] = (isHex a && isHex b) ∧ (numOk 16 (min 2 15) [a, b] = true → numR 16 (min 2 15) [a, b] = (two a b : Int)) := by
  have h1 : numOk 16 (min 2 15) [a, b] = (isHex a && isHex b) := by
    unfold numOk isHex
    simp
    intro _ _
    decide
  refine ⟨h1, fun h => ?_⟩
  unfold numR
  rw [h, if_pos rfl]
  unfold numV two
  simp
end Go.Proofs.Ytfdpoibmlggfbaa.RPlain

/- Layer 4, the document's own number. -/
namespace Go.Proofs.Ytfdpoibmlggfbaa.RNumber
open Go.ChangeShapes Go.WideShapes Go.ChangeAt Go.RowKit LexPure Bytes Ret LexNum
set_option maxRecDepth 20000
end Go.Proofs.Ytfdpoibmlggfbaa.RNumber

/- Layer 4, the document's own Hex. -/
namespace Go.Proofs.Ytfdpoibmlggfbaa.RHex
open Go.ChangeShapes Go.WideShapes Go.ChangeAt Go.RowKit LexPure Bytes Ret LexNum RNumber
set_option maxRecDepth 20000
end Go.Proofs.Ytfdpoibmlggfbaa.RHex

/- Layer 5, the document's own Plain, hex and At. -/
namespace Go.Proofs.Ytfdpoibmlggfbaa.RPlain
open Go.ChangeShapes Go.WideShapes Go.ChangeAt Go.RowKit LexPure Bytes Ret LexNum RHex PathPure
set_option maxRecDepth 20000
def PlainI (c : Int) : Prop := c = 45 ∨ c = 46 ∨ c = 95 ∨ c = 126 ∨ (48 ≤ c ∧ c ≤ 57) ∨ (65 ≤ c ∧ c ≤ 90) ∨ (97 ≤ c ∧ c ≤ 122)
instance (c : Int) : Decidable (PlainI c) := by unfold PlainI; infer_instance
theorem plain_eq {n : Nat} (h : n < 256) : decide (PlainI (n : Int)) = plainP n := by
  have := all_below (p := fun n => decide (PlainI (n : Int)) == plainP n) (by decide +kernel) h
  simpa using this
theorem hx_int {n : Nat} (h : n < 16) : ((hx n).toNat : Int) = if (n : Int) < 10 then 48 + (n : Int) else 55 + (n : Int) := by
  have : n = 0 ∨ n = 1 ∨ n = 2 ∨ n = 3 ∨ n = 4 ∨ n = 5 ∨ n = 6 ∨ n = 7 ∨ n = 8 ∨ n = 9 ∨ n = 10 ∨ n = 11 ∨ n = 12 ∨ n = 13 ∨ n = 14 ∨ n = 15 := by omega
  rcases this with h | h | h | h | h | h | h | h | h | h | h | h | h | h | h | h <;> subst h <;> decide
theorem ret_u8 {a b : Int} (h : a = b) : Ending.returned (.int .u8 a) = .returned (.int .u8 b) := by rw [h]
/-- the byte of the escape that begins here, or -1 -/
def atL : List UInt8 → Int
  | 37 :: a :: b :: _ => if isHex a && isHex b then (two a b : Int) else -1
  | _ => -1
theorem ret_i64 {a b : Int} (h : a = b) : Ending.returned (.int .i64 a) = .returned (.int .i64 b) := by rw [h]
end Go.Proofs.Ytfdpoibmlggfbaa.RPlain

/- Layer 5, the document's own Escapes and Decode: what both gather. -/
namespace Go.Proofs.Ytfdpoibmlggfbaa.REsc
open Go.ChangeShapes Go.WideShapes Go.ChangeAt Go.RowKit LexPure Bytes Ret PathPure RPlain Rows1
theorem infoB : (Try.prog.info? 5).map (fun i => (i.zero, i.size, i.bytes)) = some (some (.int .u8 0), 1, 1) := by kernel_rfl
/-- what is gathered behind k bytes -/
structure Got (w : World) (k : Nat) (v : Value) (G : List UInt8) (wr : World) : Prop where
  row : wr.ownsRow w.heap.size 5 1 v G.length (bvs G)
  below : Below w.heap.size w wr
  few : G.length ≤ k
theorem Got.start (w : World) : Got w 0 (.slice none 0 0) [] w := ⟨World.ownsRow_nil _ _ _ _, Below.refl _ _, Nat.le_refl _⟩
theorem atL_none {s : ByteArray} {k : Nat} (hk : k < s.size) (h : s[k] = 37) (hn : atL ((toL s).drop k) < 0) : dec ((toL s).drop k) = none ∧ esc ((toL s).drop k) = none := by
  rw [toL_drop s k hk, h] at *
  rw [dec_cons, if_pos (by decide), esc_cons, if_pos (by decide), if_pos (by decide)]
  generalize (toL s).drop (k + 1) = t at *
  match t with
  | [] => exact ⟨rfl, rfl⟩
  | [_] => exact ⟨rfl, rfl⟩
  | a :: b :: r =>
    unfold atL at hn
    simp only at hn ⊢
    split at hn
    · omega
    · rename_i hh
      rw [if_neg hh, if_neg hh]
      exact ⟨rfl, rfl⟩
theorem atL_some {s : ByteArray} {k : Nat} (hk : k < s.size) (h : s[k] = 37) (hn : ¬ atL ((toL s).drop k) < 0) : ∃ n : Nat, atL ((toL s).drop k) = (n : Int) ∧ n < 256 ∧ k + 2 < s.size ∧
    dec ((toL s).drop k) = (dec ((toL s).drop (k + 3))).map (UInt8.ofNat n :: ·) ∧ esc ((toL s).drop k) = (esc ((toL s).drop (k + 3))).map (wr n ++ ·) := by
  have hl : ((toL s).drop k).length = s.size - k := by rw [List.length_drop, toL_length]
  have hd3 : (toL s).drop (k + 3) = ((toL s).drop (k + 1)).drop 2 := by rw [List.drop_drop]
  rw [hd3]
  rw [toL_drop s k hk, h] at *
  rw [dec_cons, if_pos (by decide), esc_cons, if_pos (by decide), if_pos (by decide)]
  generalize (toL s).drop (k + 1) = t at *
  match t with
  | [] => exact absurd (by decide) hn
  | [_] => exact absurd (show (-1 : Int) < 0 by decide) hn
  | a :: b :: r =>
    unfold atL at hn ⊢
    simp only at hn ⊢
    split at hn
    · rename_i hh
      rw [if_pos hh]
      have h2 := hh
      rw [Bool.and_eq_true] at h2
      exact ⟨two a b, rfl, two_lt h2.1 h2.2, by simp at hl; omega, by rw [if_pos hh]; rfl, by rw [if_pos hh]; rfl⟩
    · omega
theorem got_push {w wr w3 : World} {k j : Nat} {v v' : Value} {G : List UInt8} {c : UInt8} {o : Obj} (I : Got w k v G wr) (h : w3.ownsRow w.heap.size 5 1 v' (G.length + 1) (bvs G ++ [bv c])) (hg : (wr.alloc o).grownBy w3 v.ownBlock) (hj : k < j) : Got w j v' (G ++ [c]) w3 :=
  ⟨by rw [List.length_append, bvs_append]; exact h, Below.grown (I.below.alloc I.below.size _) hg (by have := I.below.size; simp; omega) (fun b hb => (I.row.lt b hb).1), by rw [List.length_append]; have := I.few; simp; omega⟩
/-- whether s[k] is the sign of an escape, as a number -/
theorem sign_ne {c : UInt8} (h : ¬ c = 37) : ((c.toNat : Int) != 37) = true := by
  have := all_bytes (p := fun b => (((b.toNat : Int) != 37) == (b != 37))) (by decide +kernel) c
  rw [beq_iff_eq] at this
  rw [this, bne_iff_ne]
  exact h
end Go.Proofs.Ytfdpoibmlggfbaa.REsc

/- Layer 5, the document's own Escapes. -/
namespace Go.Proofs.Ytfdpoibmlggfbaa.REscapes
open Go.ChangeShapes Go.WideShapes Go.ChangeAt Go.RowKit LexPure Bytes Ret PathPure RPlain Rows1 REsc
set_option maxRecDepth 20000
theorem okc_true {c : UInt8} (h : okc c = true) : ¬ (c.toNat : Int) ≤ 32 ∧ ¬ 127 ≤ (c.toNat : Int) ∧ ((c.toNat : Int) == 63) = false ∧ ((c.toNat : Int) == 35) = false := by
  have := all_bytes (p := fun c => !okc c || decide (¬ (c.toNat : Int) ≤ 32 ∧ ¬ 127 ≤ (c.toNat : Int) ∧ ((c.toNat : Int) == 63) = false ∧ ((c.toNat : Int) == 35) = false)) (by decide +kernel) c
  rw [h] at this
  simpa only [Bool.not_true, Bool.false_or, decide_eq_true_eq] using this
theorem okc_false {c : UInt8} (h : okc c = false) : (c.toNat : Int) ≤ 32 ∨ (¬ (c.toNat : Int) ≤ 32 ∧ 127 ≤ (c.toNat : Int)) ∨ (¬ (c.toNat : Int) ≤ 32 ∧ ¬ 127 ≤ (c.toNat : Int) ∧ ((c.toNat : Int) == 63) = true) ∨ (¬ (c.toNat : Int) ≤ 32 ∧ ¬ 127 ≤ (c.toNat : Int) ∧ ((c.toNat : Int) == 63) = false ∧ ((c.toNat : Int) == 35) = true) := by
  have := all_bytes (p := fun c => okc c || decide ((c.toNat : Int) ≤ 32 ∨ (¬ (c.toNat : Int) ≤ 32 ∧ 127 ≤ (c.toNat : Int)) ∨ (¬ (c.toNat : Int) ≤ 32 ∧ ¬ 127 ≤ (c.toNat : Int) ∧ ((c.toNat : Int) == 63) = true) ∨ (¬ (c.toNat : Int) ≤ 32 ∧ ¬ 127 ≤ (c.toNat : Int) ∧ ((c.toNat : Int) == 63) = false ∧ ((c.toNat : Int) == 35) = true))) (by decide +kernel) c
  rw [h] at this
  simpa only [Bool.false_or, decide_eq_true_eq] using this
theorem bv_of {n : Nat} (h : n < 256) : bv (UInt8.ofNat n) = .int .u8 (n : Int) := by
  have := all_below (p := fun n => (((UInt8.ofNat n).toNat : Int) == (n : Int))) (by decide +kernel) h
  rw [beq_iff_eq] at this
  unfold bv
  rw [this]
theorem slash_ne {c : UInt8} (h : ¬ c = 47) : ((c.toNat : Int) != 47) = true := by
  have := all_bytes (p := fun b => (((b.toNat : Int) != 47) == (b != 47))) (by decide +kernel) c
  rw [beq_iff_eq] at this
  rw [this, bne_iff_ne]
  exact h
end Go.Proofs.Ytfdpoibmlggfbaa.REscapes

/- The normal form of a path: it is its own, and how it goes on. No program is named. -/
namespace Go.Proofs.Ytfdpoibmlggfbaa.PathForm
open LexPure Bytes PathPure

/-- a piece that may be kept -/
structure CleanP (p : List UInt8) : Prop where
  dot : isDot p = false
  up : isUp p = false
  no : noSlash p = true
  enc : Enc p
/-- the text of kept pieces, with a slash behind or not -/
def form (kept : List (List UInt8)) (tr : Bool) : List UInt8 := if tr then join kept ++ [47] else join kept
theorem keeps_append : ∀ (ps qs kept : List (List UInt8)), keeps kept (ps ++ qs) = (keeps kept ps).bind (fun k => keeps k qs)
  | [], qs, kept => rfl
  | p :: ps, qs, kept => by
    show keeps kept (p :: (ps ++ qs)) = _
    rw [keeps, keeps]
    split
    · exact keeps_append ps qs kept
    · split
      · split
        · rfl
        · exact keeps_append ps qs _
      · exact keeps_append ps qs _
theorem keeps_clean : ∀ (ps kept : List (List UInt8)), (∀ p ∈ ps, CleanP p) → keeps kept ps = some (kept ++ ps)
  | [], kept, _ => by simp [keeps]
  | p :: ps, kept, h => by
    have hp := h p (by simp)
    rw [keeps, if_neg (by simp [hp.dot]), if_neg (by simp [hp.up]), keeps_clean ps _ (fun q hq => h q (by simp [hq]))]
    simp
theorem keeps_kept : ∀ (ps kept out : List (List UInt8)), (∀ p ∈ kept, CleanP p) → (∀ p ∈ ps, Enc p ∧ noSlash p = true) → keeps kept ps = some out → ∀ p ∈ out, CleanP p
  | [], kept, out, hk, _, h => by
    simp only [keeps, Option.some.injEq] at h
    subst h
    exact hk
  | p :: ps, kept, out, hk, hp, h => by
    have hps : ∀ q ∈ ps, Enc q ∧ noSlash q = true := fun q hq => hp q (by simp [hq])
    rw [keeps] at h
    split at h
    · exact keeps_kept ps kept out hk hps h
    · rename_i h1
      split at h
      · split at h
        · cases h
        · exact keeps_kept ps _ out (fun q hq => hk q ((List.dropLast_sublist kept).subset hq)) hps h
      · rename_i h2
        refine keeps_kept ps _ out (fun q hq => ?_) hps h
        rw [List.mem_append, List.mem_singleton] at hq
        rcases hq with hq | rfl
        · exact hk q hq
        · have := hp q (by simp)
          exact ⟨by simpa using h1, by simpa using h2, this.2, this.1⟩
theorem enc_slash {r : List UInt8} (h : Enc r) : Enc (47 :: r) := Enc.one 47 r (by decide) (by decide) h
theorem join_enc : ∀ {kept : List (List UInt8)}, (∀ p ∈ kept, CleanP p) → Enc (join kept)
  | [], _ => Enc.nil
  | p :: ps, h => by
    show Enc ((47 :: p) ++ join ps)
    exact enc_append (enc_slash (h p (by simp)).enc) (join_enc (fun q hq => h q (by simp [hq])))
theorem form_enc {kept : List (List UInt8)} {tr : Bool} (h : ∀ p ∈ kept, CleanP p) : Enc (form kept tr) := by
  unfold form
  split
  · exact enc_append (join_enc h) (enc_slash Enc.nil)
  · exact join_enc h
/-- a form with something behind -/
theorem cuts_join : ∀ (kept : List (List UInt8)) (r : List UInt8), (∀ p ∈ kept, CleanP p) → cuts (join kept ++ 47 :: r).tail = kept ++ cuts r
  | [], r, _ => rfl
  | p :: ps, r, h => by
    have hp := h p (by simp)
    have ih := cuts_join ps r (fun q hq => h q (by simp [hq]))
    have e : (join (p :: ps) ++ 47 :: r).tail = p ++ (join ps ++ 47 :: r) := by
      show (((47 :: p) ++ join ps) ++ 47 :: r).tail = _
      simp
    rw [e]
    obtain ⟨t, ht⟩ : ∃ t, join ps ++ 47 :: r = 47 :: t := by
      cases ps with
      | nil => exact ⟨r, rfl⟩
      | cons q qs => exact ⟨q ++ join qs ++ 47 :: r, by show ((47 :: q) ++ join qs) ++ 47 :: r = _; simp⟩
    rw [ht] at ih ⊢
    rw [cuts_cut hp.no]
    show p :: cuts t = p :: (ps ++ cuts r)
    rw [show cuts t = ps ++ cuts r from ih]
theorem cuts_join_end (kept : List (List UInt8)) (hne : kept ≠ []) (h : ∀ p ∈ kept, CleanP p) : cuts (join kept).tail = kept := by
  obtain ⟨l, p, rfl⟩ : ∃ l p, kept = l ++ [p] := ⟨kept.dropLast, kept.getLast hne, (List.dropLast_concat_getLast hne).symm⟩
  have hp := h p (by simp)
  have e : join (l ++ [p]) = join l ++ 47 :: p := by simp [join]
  rw [e, cuts_join l p (fun q hq => h q (by simp [hq])), cuts_plain hp.no]
/-- a form's pieces -/
theorem cuts_form (kept : List (List UInt8)) (tr : Bool) (hf : kept = [] → tr = true) (h : ∀ p ∈ kept, CleanP p) : cuts (form kept tr).tail = kept ++ (if tr then [[]] else []) := by
  unfold form
  cases tr with
  | true => exact cuts_join kept [] h
  | false =>
    have hne : kept ≠ [] := fun e => by cases hf e
    simp only [Bool.false_eq_true, if_false, List.append_nil]
    exact cuts_join_end kept hne h
/-- the pieces of a form with more behind it -/
theorem cuts_more (kept : List (List UInt8)) (tr : Bool) (hf : kept = [] → tr = true) (h : ∀ p ∈ kept, CleanP p) (r : List UInt8) : cuts (form kept tr ++ 47 :: r).tail = (kept ++ (if tr then [[]] else [])) ++ cuts r := by
  have hne : form kept tr ≠ [] := by
    unfold form
    cases tr with
    | true => simp
    | false =>
      cases kept with
      | nil => cases hf rfl
      | cons p ps => show (47 :: p) ++ join ps ≠ []; simp
  have e : (form kept tr ++ 47 :: r).tail = (form kept tr).tail ++ 47 :: r := List.tail_append_of_ne_nil hne
  rw [e, cuts_append, cuts_form kept tr hf h]
theorem form_head (kept : List (List UInt8)) (tr : Bool) (hf : kept = [] → tr = true) : ∃ t, form kept tr = 47 :: t := by
  unfold form
  cases kept with
  | nil => rw [hf rfl]; exact ⟨[], rfl⟩
  | cons p ps => cases tr <;> exact ⟨_, rfl⟩
theorem keeps_trail (kept : List (List UInt8)) (tr : Bool) (h : ∀ p ∈ kept, CleanP p) : keeps [] (kept ++ (if tr then [[]] else [])) = some kept := by
  rw [keeps_append, keeps_clean kept [] h]
  cases tr <;> simp [keeps, isDot]
/-- what is answered is a form -/
theorem normal_form {s t : List UInt8} (h : normal s = some t) : ∃ kept tr, t = form kept tr ∧ (kept = [] → tr = true) ∧ (∀ p ∈ kept, CleanP p) := by
  unfold normal at h
  split at h
  · cases h
  · rename_i u hu
    split at h
    · cases h
    · rename_i kept hk
      injection h with h
      have hu2 : ∃ c r, s = c :: r ∧ esc (c :: r) = some u := by
        cases s with
        | nil => cases hu
        | cons c r =>
          refine ⟨c, r, rfl, ?_⟩
          have hu : (if (c == 47) = true then esc (c :: r) else none) = some u := hu
          by_cases h47 : (c == 47) = true
          · rwa [if_pos h47] at hu
          · rw [if_neg h47] at hu
            cases hu
      obtain ⟨c, r, rfl, hu2⟩ := hu2
      have he := esc_enc _ (Nat.le_refl _) hu2
      have het : Enc u.tail := by
        cases u with
        | nil => exact Enc.nil
        | cons d v =>
          have hu : (if (c == 47) = true then esc (c :: r) else none) = some (d :: v) := hu
          by_cases h47 : (c == 47) = true
          · rw [if_pos h47] at hu
            have hc : c = 47 := by simpa using h47
            subst hc
            rw [esc_cons, if_pos (by decide), if_neg (by decide)] at hu
            obtain ⟨v', hv', e⟩ := Option.map_eq_some_iff.1 hu
            injection e with e1 e2
            subst e2
            exact esc_enc _ (Nat.le_refl _) hv'
          · rw [if_neg h47] at hu
            cases hu
      have hclean := keeps_kept _ [] kept (fun p hp => by simp at hp) (fun p hp => ⟨cuts_enc het p hp, cuts_noSlash hp⟩) hk
      subst h
      unfold finish
      refine ⟨kept, kept.isEmpty || endsOpen (cuts u.tail), ?_, fun e => by simp [e], hclean⟩
      unfold form
      rfl
/-- how a form goes on: the escapes of it are itself -/
theorem escapes_more {kept : List (List UInt8)} {tr : Bool} (hf : kept = [] → tr = true) (h : ∀ p ∈ kept, CleanP p) {r u : List UInt8} (hr : esc r = some u) : escapes (form kept tr ++ r) = some (form kept tr ++ u) := by
  obtain ⟨t, ht⟩ := form_head kept tr hf
  have he := enc_esc (form_enc (tr := tr) h)
  have := esc_append _ r (Nat.le_refl _) he
  rw [hr] at this
  rw [ht] at this ⊢
  show (if (47 == (47 : UInt8)) = true then esc (47 :: t ++ r) else none) = _
  rw [if_pos (by decide), this]
  rfl
/-- a normal form is its own -/
theorem normal_fixed {kept : List (List UInt8)} {tr : Bool} (hf : kept = [] → tr = true) (h : ∀ p ∈ kept, CleanP p) : normal (form kept tr) = some (form kept tr) := by
  have he := escapes_more hf h (r := []) (u := []) rfl
  rw [List.append_nil] at he
  unfold normal
  rw [he]
  simp only
  rw [cuts_form kept tr hf h, keeps_trail kept tr h]
  simp only
  congr 1
  unfold finish form
  cases tr with
  | true => simp [endsOpen, isDot]
  | false =>
    have hne : kept ≠ [] := fun e => by cases hf e
    obtain ⟨l, p, rfl⟩ : ∃ l p, kept = l ++ [p] := ⟨kept.dropLast, kept.getLast hne, (List.dropLast_concat_getLast hne).symm⟩
    have hp := h p (by simp)
    simp [endsOpen, hp.dot, hp.up]
theorem normal_normal {s t : List UInt8} (h : normal s = some t) : normal t = some t := by
  obtain ⟨kept, tr, rfl, hf, hc⟩ := normal_form h
  exact normal_fixed hf hc
end Go.Proofs.Ytfdpoibmlggfbaa.PathForm

/- Layer 5: what Normal answers, and how long it is. No program is named. -/
namespace Go.Proofs.Ytfdpoibmlggfbaa.RNormal
open LexPure Bytes Ret PathPure PathForm
set_option maxRecDepth 20000
theorem ret_norm {a b : ByteArray} {n : Int} (h : a = b) : Ending.returned (.tuple #[.string a, .int .i64 n]) = .returned (.tuple #[.string b, .int .i64 n]) := by rw [h]
/-- the text that Normal answers, and the error -/
def normS (s : List UInt8) : ByteArray := ofL ((normal s).getD [])
def normE (s : List UInt8) : Int := if (normal s).isSome then 0 else 50
theorem norm_none {s : List UInt8} (h : normal s = none) : normS s = ⟨#[]⟩ ∧ normE s = 50 := by
  unfold normS normE
  rw [h]
  exact ⟨rfl, rfl⟩
theorem norm_some {s t : List UInt8} (h : normal s = some t) : normS s = ofL t ∧ normE s = 0 := by
  unfold normS normE
  rw [h]
  exact ⟨rfl, rfl⟩
theorem wr_len (n : Nat) : (PathPure.wr n).length ≤ 3 := by
  unfold PathPure.wr
  split <;> simp
theorem esc_len : ∀ (n : Nat) {s t : List UInt8}, s.length ≤ n → esc s = some t → t.length ≤ s.length
  | _, [], t, _, h => by
    simp only [esc, Option.some.injEq] at h
    subst h
    exact Nat.le_refl _
  | 0, c :: s, t, hn, _ => by simp at hn
  | n + 1, c :: s, t, hn, h => by
    rw [esc_cons] at h
    split at h
    · split at h
      · split at h
        · rename_i a b r
          split at h
          · obtain ⟨u, hu, rfl⟩ := Option.map_eq_some_iff.1 h
            have ih := esc_len n (s := r) (by simp at hn; omega) hu
            have := wr_len (two a b)
            simp
            omega
          · cases h
        · cases h
      · obtain ⟨u, hu, rfl⟩ := Option.map_eq_some_iff.1 h
        have ih := esc_len n (s := s) (by simp at hn; omega) hu
        simp
        omega
    · cases h
theorem escapes_esc {s t : List UInt8} (h : escapes s = some t) : esc s = some t ∧ ∃ r, s = 47 :: r := by
  cases s with
  | nil => cases h
  | cons c r =>
    have h : (if (c == 47) = true then esc (c :: r) else none) = some t := h
    by_cases hc : (c == 47) = true
    · rw [if_pos hc] at h
      exact ⟨h, r, by rw [show c = 47 by simpa using hc]⟩
    · rw [if_neg hc] at h
      cases h
theorem escapes_len {s t : List UInt8} (h : escapes s = some t) : t.length ≤ s.length := esc_len _ (Nat.le_refl _) (escapes_esc h).1
theorem escapes_pos {s t : List UInt8} (h : escapes s = some t) : 1 ≤ t.length := by
  obtain ⟨he, r, rfl⟩ := escapes_esc h
  rw [esc_cons, if_pos (by decide), if_neg (by decide)] at he
  obtain ⟨u, _, rfl⟩ := Option.map_eq_some_iff.1 he
  simp
theorem join_len {n : Nat} : ∀ {G : List (List UInt8)}, (∀ e ∈ G, e.length ≤ n) → (join G).length ≤ G.length * (n + 1)
  | [], _ => by simp [join]
  | e :: G, h => by
    have h0 := h e (by simp)
    have h1 := join_len (G := G) (fun x hx => h x (by simp [hx]))
    show ((47 :: e) ++ join G).length ≤ _
    rw [List.length_append, List.length_cons, List.length_cons, Nat.add_mul, Nat.one_mul]
    omega
theorem join_nil {G : List (List UInt8)} : (join G).isEmpty = G.isEmpty := by
  cases G <;> rfl
theorem join_snoc (G : List (List UInt8)) (e : List UInt8) : join (G ++ [e]) = join G ++ 47 :: e := by simp [join]
theorem keeps_up {G ps : List (List UInt8)} {X : List UInt8} (h1 : isDot X = false) (h2 : isUp X = true) : keeps G (X :: ps) = if G.isEmpty then none else keeps G.dropLast ps := by
  rw [keeps, if_neg (by simp [h1]), if_pos h2]
theorem keeps_in {G ps : List (List UInt8)} {X : List UInt8} (h1 : isDot X = false) (h2 : isUp X = false) : keeps G (X :: ps) = keeps (G ++ [X]) ps := by
  rw [keeps, if_neg (by simp [h1]), if_neg (by simp [h2])]
end Go.Proofs.Ytfdpoibmlggfbaa.RNormal

/- Layer 5, the document's own Normal. -/
namespace Go.Proofs.Ytfdpoibmlggfbaa.RNormal
open Go.ChangeShapes Go.WideShapes Go.ChangeAt Go.RowKit LexPure Bytes Ret PathPure RPlain Rows1 REsc REscapes Texts PathForm
set_option maxRecDepth 20000
def rest (s : ByteArray) (f : Nat) : List (List UInt8) := if f ≤ s.size then cuts ((toL s).drop f) else []
/-- behind k bytes of the path, the last slash ahead of f; G: what is kept, l: the last piece -/
structure NInv (w : World) (s : ByteArray) (k f : Nat) (v : Value) (G : List (List UInt8)) (l : List UInt8) (wr : World) : Prop where
  row : wr.ownsRow w.heap.size 9 1 v G.length (Texts.strs G)
  below : Below w.heap.size w wr
  all_ : keeps [] (cuts (toL s).tail) = keeps G (rest s f)
  le : f ≤ k
  pos : 1 ≤ f
  in_ : k ≤ s.size → f ≤ s.size
  out_ : s.size < k → s.size < f
  no : noSlash (((toL s).drop f).take (k - f)) = true
  few : G.length ≤ k
  last : s.size < f → (cuts (toL s).tail).getLastD [] = l
  pre : ∃ D, cuts (toL s).tail = D ++ rest s f
  short : ∀ e ∈ G, e.length ≤ s.size
theorem rest_end {s : ByteArray} {f : Nat} (hf : f ≤ s.size) (h : noSlash (((toL s).drop f).take (s.size - f)) = true) : rest s f = [((toL s).drop f).take (s.size - f)] := by
  unfold rest
  have e : ((toL s).drop f).take (s.size - f) = (toL s).drop f := List.take_of_length_le (by rw [List.length_drop, toL_length]; omega)
  rw [if_pos hf]
  rw [e] at h ⊢
  exact cuts_plain h
theorem rest_cut {s : ByteArray} {f k : Nat} (hf : f ≤ k) (hk : k < s.size) (h : noSlash (((toL s).drop f).take (k - f)) = true) (hc : s[k] = 47) : rest s f = ((toL s).drop f).take (k - f) :: rest s (k + 1) := by
  unfold rest
  rw [if_pos (by omega), if_pos (by omega)]
  have e : (toL s).drop f = ((toL s).drop f).take (k - f) ++ 47 :: (toL s).drop (k + 1) := by
    have h1 := List.take_append_drop (k - f) ((toL s).drop f)
    rw [List.drop_drop, show f + (k - f) = k by omega, toL_drop s k hk, hc] at h1
    exact h1.symm
  conv => lhs; rw [e]
  exact cuts_cut h
theorem rest_none {s : ByteArray} {f : Nat} (h : s.size < f) : rest s f = [] := by unfold rest; rw [if_neg (by omega)]
/-- one piece has been read: X; what follows begins at k + 1 -/
theorem NInv.step {w wr : World} {s : ByteArray} {k f : Nat} {v : Value} {G : List (List UInt8)} {l : List UInt8} (I : NInv w s k f v G l wr) (hk : k ≤ s.size) (hcut : k = s.size ∨ (∃ h : k < s.size, s[k] = 47)) :
    rest s f = ((toL s).drop f).take (k - f) :: rest s (k + 1) := by
  rcases hcut with h | ⟨h, hc⟩
  · subst h
    rw [rest_end (I.in_ hk) I.no, rest_none (by omega)]
  · exact rest_cut I.le h I.no hc
theorem NInv.next {w wr w' : World} {s : ByteArray} {k f : Nat} {v v' : Value} {G G' : List (List UInt8)} {l : List UInt8} (I : NInv w s k f v G l wr) (hk : k ≤ s.size) (hcut : k = s.size ∨ (∃ h : k < s.size, s[k] = 47))
    (hr : w'.ownsRow w.heap.size 9 1 v' G'.length (Texts.strs G')) (hb : Below w.heap.size w w') (hg : keeps G (((toL s).drop f).take (k - f) :: rest s (k + 1)) = keeps G' (rest s (k + 1))) (hl : G'.length ≤ G.length + 1) (hs : ∀ e ∈ G', e.length ≤ s.size) :
    NInv w s (k + 1) (k + 1) v' G' (((toL s).drop f).take (k - f)) w' := by
  have hst := I.step hk hcut
  obtain ⟨D, hD⟩ := I.pre
  refine ⟨hr, hb, by rw [I.all_, hst, hg], Nat.le_refl _, by omega, fun h => h, fun h => h, by rw [Nat.sub_self]; rfl, by have := I.few; omega, fun h => ?_, ⟨D ++ [((toL s).drop f).take (k - f)], by rw [hD, hst, List.append_assoc]; rfl⟩, hs⟩
  rw [hD, hst, rest_none h, List.getLastD_eq_getLast?, List.getLast?_append]
  rfl
end Go.Proofs.Ytfdpoibmlggfbaa.RNormal

/- Layer 14, the document's own in, Token, Text, Normal. -/
namespace Go.Proofs.Ytfdpoibmlggfbaa.R14In
open Go.ChangeShapes Go.WideShapes Go.ChangeAt Go.RowKit Bytes LexPure ConfPure Ret RNormal
set_option maxRecDepth 100000
set_option linter.unusedSimpArgs false
set_option linter.unusedVariables false
theorem rin_any (n a b : Int) (w : World) :
    Calls Try.prog 34 #[.int .i64 n, .int .i64 a, .int .i64 b] w fun e w' => e = .returned (.bool (inB n a b)) ∧ w = w' := by
  unfold inB
  by_cases h1 : a ≤ n
  · by_cases h2 : n ≤ b
    · rw [decide_eq_true h1, decide_eq_true h2]
      go_enter Try.func34, Try.ntmps34
      go_wp2_with fail
      go_ret
      exact ⟨rfl, rfl⟩
    · rw [decide_eq_true h1, decide_eq_false h2]
      go_enter Try.func34, Try.ntmps34
      go_wp2_with fail
      go_ret
      exact ⟨rfl, rfl⟩
  · rw [decide_eq_false h1]
    go_enter Try.func34, Try.ntmps34
    go_wp2_with fail
    go_ret
    exact ⟨rfl, rfl⟩
theorem rtok_any (s : ByteArray) (hs : s.size ≤ 1048576) (m : Nat) (hm : m ≤ 1000) (w : World) :
    Calls Try.prog 44 #[.string s, .int .i64 m] w fun e w' => e = .returned (.bool (tokenB (toL s) m)) ∧ w = w' := by
  have HT := Lib.hid (RToken.rtoken_any s (by unfold maxLen; omega) w)
  unfold tokenB
  rw [toL_length]
  generalize token (toL s) = t at HT ⊢
  by_cases h2 : s.size ≤ m
  · have h3 : decide ((s.size : Int) ≤ (m : Int)) = true := decide_eq_true (by omega)
    have h4 : decide (s.size ≤ m) = true := decide_eq_true h2
    rw [h4]
    clear hs h2 hm
    go_enter Try.func44, Try.ntmps44
    go_wp2_with fail
    refine HT.out.mono ?_
    rintro e w1 ⟨rfl, rfl⟩
    cases t with
    | false =>
      go_wp2_with fail
      go_ret
      exact ⟨rfl, rfl⟩
    | true =>
      go_wp2_with fail
      go_ret
      exact ⟨rfl, rfl⟩
  · have h3 : decide ((s.size : Int) ≤ (m : Int)) = false := decide_eq_false (by omega)
    have h4 : decide (s.size ≤ m) = false := decide_eq_false h2
    rw [h4]
    clear hs h2 hm
    go_enter Try.func44, Try.ntmps44
    go_wp2_with fail
    refine HT.out.mono ?_
    rintro e w1 ⟨rfl, rfl⟩
    cases t with
    | false =>
      go_wp2_with fail
      go_ret
      exact ⟨rfl, rfl⟩
    | true =>
      go_wp2_with fail
      go_ret
      exact ⟨rfl, rfl⟩
theorem rtext_any (s : ByteArray) (hs : s.size ≤ 1048576) (w : World) :
    Calls Try.prog 33 #[.string s] w fun e w' => e = .returned (.bool (textB (toL s))) ∧ w = w' := by
  have HT := Lib.hid (RValue.rvalue_any s (by unfold maxLen; omega) w)
  unfold textB
  rw [toL_length]
  generalize LexPure.value (toL s) = t at HT ⊢
  by_cases h2 : s.size ≤ 256
  · have h3 : decide ((s.size : Int) ≤ (256 : Int)) = true := decide_eq_true (by omega)
    have h4 : decide (s.size ≤ 256) = true := decide_eq_true h2
    rw [h4]
    clear hs h2
    go_enter Try.func33, Try.ntmps33
    go_wp2_with fail
    refine HT.out.mono ?_
    rintro e w1 ⟨rfl, rfl⟩
    cases t with
    | false =>
      go_wp2_with fail
      go_ret
      exact ⟨rfl, rfl⟩
    | true =>
      go_wp2_with fail
      go_ret
      exact ⟨rfl, rfl⟩
  · have h3 : decide ((s.size : Int) ≤ (256 : Int)) = false := decide_eq_false (by omega)
    have h4 : decide (s.size ≤ 256) = false := decide_eq_false h2
    rw [h4]
    clear hs h2
    go_enter Try.func33, Try.ntmps33
    go_wp2_with fail
    refine HT.out.mono ?_
    rintro e w1 ⟨rfl, rfl⟩
    cases t with
    | false =>
      go_wp2_with fail
      go_ret
      exact ⟨rfl, rfl⟩
    | true =>
      go_wp2_with fail
      go_ret
      exact ⟨rfl, rfl⟩
end Go.Proofs.Ytfdpoibmlggfbaa.R14In

/- Layer 14, the document's own Name. -/
namespace Go.Proofs.Ytfdpoibmlggfbaa.R14Name
open Go.ChangeShapes Go.WideShapes Go.ChangeAt Go.RowKit Bytes LexPure ConfPure Ret Mem R14In
set_option maxRecDepth 100000
set_option linter.unusedVariables false
def ownCs : Array Value := (owns.map (fun l => Value.string (ofL l))).toArray
theorem below_drew {B : Nat} {w wr : World} (h : Below B w wr) : Below B w wr.drew := ⟨h.os, h.tape, h.output, h.size, h.block⟩
theorem text_eq (a b : L) : ((ofL a).toList == (ofL b).toList) = (a == b) := by
  rw [ByteArray.toList_eq, ByteArray.toList_eq]
  show (toL (ofL a) == toL (ofL b)) = _
  rw [toL_ofL, toL_ofL]
def NotYet (x : L) (k : Nat) : Prop := ∀ j (h : j < owns.length), j < k → (x == owns[j]) = false
theorem NotYet.all {x : L} (h : NotYet x 12) : owns.contains x = false := by
  rw [List.contains_eq_any_beq, List.any_eq_false]
  intro y hy
  obtain ⟨j, hj, rfl⟩ := List.getElem_of_mem hy
  have := h j hj (by have : owns.length = 12 := rfl; omega)
  simpa using this
set_option maxHeartbeats 1600000 in
theorem rname_any (s : ByteArray) (hs : s.size ≤ 1048576) (w : World) :
    Calls Try.prog 32 #[.string s] w fun e w' => e = .returned (.bool (nameB (toL s))) ∧ Below w.heap.size w w' := by
  have HL := Lib.hid (fun w => RLower.rlower_any s (by omega) w)
  have HT := Lib.hid (fun w => rtok_any s hs 32 (by decide) w)
  obtain ⟨x, hx⟩ : ∃ x, x = lower (toL s) := ⟨_, rfl⟩
  rw [← hx] at HL
  have HX := Lib.hid hx
  have HO : Hid (Has (w.alloc (.cells ownCs 120)) w.heap.size 120 ownCs) := Lib.hid (Has.new w _ _)
  have HB := Lib.hid ((Below.refl w.heap.size w).alloc (Nat.le_refl _) (.cells ownCs 120))
  clear hs hx
  go_enter Try.func32, Try.ntmps32
  go_wp2_with fail
  go_loopw [4] (fun i wr => ∃ k : Nat, k ≤ 12 ∧ i = .int .i64 k ∧ Hid (NotYet x k ∧ Has wr w.heap.size 120 ownCs ∧ Below w.heap.size w wr)) (fun i _ => 12 - (intOf i).toNat)
  case atStart => exact ⟨0, Nat.zero_le _, rfl, Lib.hid ⟨fun j _ h => absurd h (by omega), HO.out, HB.out⟩⟩
  case round =>
    obtain ⟨k, hk, rfl, HJ⟩ := hrel
    clear HO HB
    by_cases hlt : k < 12
    · have hki : (k : Int) < 12 := by omega
      have hk0 : (0 : Int) ≤ (k : Int) := by omega
      have hlen : k < owns.length := hlt
      obtain ⟨y, hy⟩ : ∃ y, y = owns[k] := ⟨_, rfl⟩
      have hcell : ∀ W, Has W w.heap.size 120 ownCs → W.cell? ⟨w.heap.size, k, none⟩ = some (.string (ofL y)) := fun W hW => by
        rw [hW.cell k, hy]
        unfold ownCs
        simp [List.getElem?_eq_getElem hlen]
      have HCell := Lib.hid hcell
      have te := text_eq x y
      obtain ⟨b, hb⟩ : ∃ b, b = (x == y) := ⟨_, rfl⟩
      rw [← hb] at te
      have HY := Lib.hid (And.intro hb hy)
      have HDr : Hid (Has wr.drew w.heap.size 120 ownCs) := Lib.hid HJ.out.2.1.drew
      have c1 := HCell.out _ HDr.out
      clear hcell hb hy
      go_wp2_with fail
      go_region_held3 (fun w' => w'.cell? ⟨w.heap.size, k, none⟩ = some (.string (ofL y))) (first | exact c2 | exact c1)
        (first
          | (go_at_call 42; refine (HL.out _).mono ?_; rintro e w5 ⟨rfl, hb5⟩
             have H5 := HDr.out.below hb5 HDr.out.lt
             have c2 := HCell.out _ H5))
      have HB5 := Lib.hid (below_chain (below_drew HJ.out.2.2) hb5)
      have HH5 := Lib.hid H5
      cases b with
      | true =>
        have HV : Hid (nameB (toL s) = false) := Lib.hid (by
          obtain ⟨e1, e2⟩ := HY.out
          unfold nameB
          rw [← HX.out]
          have : owns.contains x = true := by
            rw [List.contains_eq_any_beq, List.any_eq_true]
            exact ⟨owns[k], List.getElem_mem _, by rw [← e2]; exact e1.symm⟩
          rw [this]
          rfl)
        clear hb5 H5 c1 c2 HJ HDr
        go_wp2_with fail
        go_ret
        exact ⟨ret_bool HV.out.symm, HB5.out⟩
      | false =>
        have HK : Hid (NotYet x (k + 1) ∧ Has w5 w.heap.size 120 ownCs ∧ Below w.heap.size w w5) := Lib.hid ⟨fun j hj hjk => by
          rcases Nat.lt_or_ge j k with h | h
          · exact HJ.out.1 j hj h
          · obtain rfl : j = k := by omega
            obtain ⟨e1, e2⟩ := HY.out
            rw [← e2]
            exact e1.symm, H5, HB5.out⟩
        clear hb5 H5 c1 c2 HJ HDr HB5 HH5
        go_wp2_with fail
        go_roundw
        case rel => exact ⟨k + 1, by omega, by go_num, HK⟩
        case measure => simp [intOf]; omega
    · have hk12 : k = 12 := by omega
      subst hk12
      have HV : Hid (nameB (toL s) = tokenB (toL s) 32) := Lib.hid (by
        unfold nameB
        rw [← HX.out, HJ.out.1.all]
        rfl)
      have HB := Lib.hid HJ.out.2.2
      clear HJ hlt HL
      go_wp2_with fail
      refine (HT.out _).mono ?_
      rintro e w5 ⟨rfl, rfl⟩
      rw [← HV.out]
      go_wp2_with fail
      go_ret
      exact ⟨rfl, HB.out⟩
end Go.Proofs.Ytfdpoibmlggfbaa.R14Name
