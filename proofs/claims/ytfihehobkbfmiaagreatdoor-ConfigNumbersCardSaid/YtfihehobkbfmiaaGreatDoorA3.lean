/- Texts of this seat, one behind another: PCfgT, PCfgM, BulkOf, RowsArg, ConfMem, PCfgN, RowKeep, PCfgO. -/
import Derived.Test.YtfihehobkbfmiaaGreatDoorRows
import Derived.Deep.Slices
import Derived.Deep.Fields
import Derived.ChangeSame
import Derived.Deep.Draws
import Derived.Below
import Derived.Lib.Hide
import Derived.Laws.Tables
import Derived.Laws.ResultCell
import Derived.OwnWalk
import Derived.Maps.AppendAt
import Derived.Deep.RegionHeld3
import Derived.Deep.RegionWith
import Derived.Deep.RegionLaw
import Derived.Deep.AppendLies
import Derived.Test.YtfihehobkbfmiaaGreatDoorA1
import Derived.Test.YtfihehobkbfmiaaGreatDoorA2
/- Layer 14 of the program: its small tests. -/
namespace Go.Proofs.YtfihehobkbfmiaaGreatDoor.PCfgT
open Go.ChangeShapes Go.WideShapes Go.ChangeAt Go.RowKit Bytes LexPure HostPure RHostPure PathPure EmitPure ConfPure ConfProg Ret Mem RNormal PCfgLib
set_option maxRecDepth 100000
set_option linter.unusedVariables false
set_option linter.unusedSimpArgs false
theorem text_is (a b : L) : ((ofL a).toList == b) = (a == b) := by
  rw [ByteArray.toList_eq]
  show (toL (ofL a) == b) = _
  rw [toL_ofL]
theorem text_two (a : L) (s : ByteArray) : ((ofL a).toList == s.toList) = (a == toL s) := by
  rw [ByteArray.toList_eq, ByteArray.toList_eq]
  show (toL (ofL a) == toL s) = _
  rw [toL_ofL]
theorem pwithin_any (n a b : Int) (w : World) :
    Calls Tryz.prog 46 #[.int .i64 n, .int .i64 a, .int .i64 b] w fun e w' => e = .returned (.bool (inB n a b)) ∧ w = w' := by
  unfold inB
  by_cases h1 : a ≤ n
  · by_cases h2 : n ≤ b
    · rw [decide_eq_true h1, decide_eq_true h2]
      go_enter Tryz.func46, Tryz.ntmps46
      go_wp2_with fail
      go_ret
      exact ⟨rfl, rfl⟩
    · rw [decide_eq_true h1, decide_eq_false h2]
      go_enter Tryz.func46, Tryz.ntmps46
      go_wp2_with fail
      go_ret
      exact ⟨rfl, rfl⟩
  · rw [decide_eq_false h1]
    go_enter Tryz.func46, Tryz.ntmps46
    go_wp2_with fail
    go_ret
    exact ⟨rfl, rfl⟩
theorem prate_any (n : Int) (w : World) :
    Calls Tryz.prog 49 #[.int .i64 n] w fun e w' => e = .returned (.bool (inB n 1 1073741824)) ∧ w = w' := by
  have H := Lib.hid (pwithin_any n 1 1073741824 w)
  generalize inB n 1 1073741824 = b at H ⊢
  go_enter Tryz.func49, Tryz.ntmps49
  go_wp2_with fail
  refine H.out.mono ?_
  rintro e w1 ⟨rfl, rfl⟩
  go_wp2_with fail
  go_ret
  exact ⟨rfl, rfl⟩
theorem ptok_any (s : ByteArray) (hs : s.size ≤ 1048576) (m : Nat) (hm : m ≤ 1000) (w : World) :
    Calls Tryz.prog 51 #[.string s, .int .i64 m] w fun e w' => e = .returned (.bool (tokenB (toL s) m)) ∧ w = w' := by
  have HT := Lib.hid (PToken.ptoken_any s (by unfold maxLen; omega) w)
  unfold tokenB
  rw [toL_length]
  generalize token (toL s) = t at HT ⊢
  by_cases h2 : s.size ≤ m
  · have h3 : decide ((s.size : Int) ≤ (m : Int)) = true := decide_eq_true (by omega)
    have h4 : decide (s.size ≤ m) = true := decide_eq_true h2
    rw [h4]
    clear hs h2 hm
    go_enter Tryz.func51, Tryz.ntmps51
    go_wp2_with fail
    refine HT.out.mono ?_
    rintro e w1 ⟨rfl, rfl⟩
    go_wp2_with fail
    go_ret
    exact ⟨ret_bool (by simp), rfl⟩
  · have h3 : decide ((s.size : Int) ≤ (m : Int)) = false := decide_eq_false (by omega)
    have h4 : decide (s.size ≤ m) = false := decide_eq_false h2
    rw [h4]
    clear hs h2 hm HT
    go_enter Tryz.func51, Tryz.ntmps51
    go_wp2_with fail
    go_ret
    exact ⟨ret_bool (by simp), rfl⟩
theorem ptext_any (s : ByteArray) (hs : s.size ≤ 1048576) (w : World) :
    Calls Tryz.prog 48 #[.string s] w fun e w' => e = .returned (.bool (textB (toL s))) ∧ Below w.heap.size w w' := by
  have HT := Lib.hid (PText.pvalue_any s (by unfold maxLen; omega) w)
  unfold textB
  rw [toL_length]
  generalize LexPure.value (toL s) = t at HT ⊢
  by_cases h2 : s.size ≤ 256
  · have h3 : decide ((s.size : Int) ≤ (256 : Int)) = true := decide_eq_true (by omega)
    have h4 : decide (s.size ≤ 256) = true := decide_eq_true h2
    rw [h4]
    clear hs h2
    go_enter Tryz.func48, Tryz.ntmps48
    go_wp2_with fail
    refine HT.out.mono ?_
    rintro e w1 ⟨rfl, hb⟩
    go_wp2_with fail
    go_ret
    exact ⟨ret_bool (by simp), hb⟩
  · have h3 : decide ((s.size : Int) ≤ (256 : Int)) = false := decide_eq_false (by omega)
    have h4 : decide (s.size ≤ 256) = false := decide_eq_false h2
    rw [h4]
    clear hs h2 HT
    go_enter Tryz.func48, Tryz.ntmps48
    go_wp2_with fail
    go_ret
    exact ⟨ret_bool (by simp), Below.refl _ _⟩
theorem pfull_any (s : ByteArray) (hs : s.size ≤ 1048576) (w : World) :
    Calls Tryz.prog 50 #[.string s] w fun e w' => e = .returned (.bool (toL s != [] && textB (toL s))) ∧ Below w.heap.size w w' := by
  have HT := Lib.hid (ptext_any s hs w)
  generalize textB (toL s) = t at HT ⊢
  have q1 : (s.toList != []) = (toL s != []) := by rw [ByteArray.toList_eq]
  have q2 : s.toList.isEmpty = !(toL s != []) := by
    rw [ByteArray.toList_eq]
    show (toL s).isEmpty = _
    cases toL s <;> rfl
  generalize (toL s != []) = n at q1 q2 ⊢
  clear hs
  cases n with
  | false =>
    go_enter Tryz.func50, Tryz.ntmps50
    go_wp2_with fail
    go_ret
    exact ⟨rfl, Below.refl _ _⟩
  | true =>
    go_enter Tryz.func50, Tryz.ntmps50
    go_wp2_with fail
    refine HT.out.mono ?_
    rintro e w1 ⟨rfl, hb⟩
    go_wp2_with fail
    go_ret
    exact ⟨ret_bool (by simp), hb⟩
theorem pnorm_any (s : ByteArray) (hs : s.size ≤ 1048576) (w : World) (hm : MaxInt w) :
    Calls Tryz.prog 93 #[.string s] w fun e w' => e = .returned (.bool (normalB (toL s))) ∧ Below w.heap.size w w' := by
  have HN := Lib.hid (PathObj.normal_any s (by omega) w hm)
  unfold normalB
  cases hn : PathPure.normal (toL s) with
  | none =>
    obtain ⟨e1, e2⟩ := norm_none hn
    rw [e1, e2] at HN
    clear hs hn e1 e2
    go_enter Tryz.func93, Tryz.ntmps93
    go_wp2_with fail
    refine HN.out.mono ?_
    rintro e w1 ⟨rfl, hb⟩
    go_wp2_with fail
    go_ret
    exact ⟨rfl, hb⟩
  | some t =>
    obtain ⟨e1, e2⟩ := norm_some hn
    rw [e1, e2] at HN
    have hq : ((ofL t).toList == s.toList) = (some t == some (toL s)) := by
      rw [text_two]; rfl
    obtain ⟨b, hb2⟩ : ∃ b, b = (some t == some (toL s)) := ⟨_, rfl⟩
    rw [← hb2] at hq ⊢
    clear hs hn e1 e2 hb2
    go_enter Tryz.func93, Tryz.ntmps93
    go_wp2_with fail
    refine HN.out.mono ?_
    rintro e w1 ⟨rfl, hb⟩
    go_wp2_with fail
    go_ret
    exact ⟨ret_bool (by simp), hb⟩
theorem psmall_any (s : ByteArray) (hs : s.size ≤ 1048576) (w : World) (hm : MaxInt w) :
    Calls Tryz.prog 89 #[.string s] w fun e w' => e = .returned (.bool (smallB (toL s))) ∧ Below w.heap.size w w' := by
  have HN := Lib.hid (TAuth.tauth_any s (by omega) w hm)
  unfold smallB
  have q1 : ((ofL (authH (toL s))).toList == s.toList) = (authH (toL s) == toL s) := text_two _ _
  generalize (authH (toL s) == toL s) = b at q1 ⊢
  generalize ofL (authH (toL s)) = H at HN q1
  generalize authP (toL s) = P at HN
  by_cases h : authE (toL s) = 0
  · rw [h] at HN ⊢
    clear hs hm h
    go_enter Tryz.func89, Tryz.ntmps89
    go_wp2_with fail
    refine HN.out.mono ?_
    rintro e w1 ⟨rfl, hb⟩
    go_wp2_with fail
    go_ret
    exact ⟨ret_bool (by simp), hb⟩
  · have hz : (authE (toL s) == 0) = false := beq_false_of_ne h
    have hd : decide (authE (toL s) = 0) = false := decide_eq_false h
    rw [hd]
    clear hs hm h hd
    generalize authE (toL s) = E at HN hz
    go_enter Tryz.func89, Tryz.ntmps89
    go_wp2_with fail
    refine HN.out.mono ?_
    rintro e w1 ⟨rfl, hb⟩
    go_wp2_with fail
    go_ret
    exact ⟨ret_bool (by simp), hb⟩
theorem auth_range (s : L) : 0 ≤ authP s ∧ authP s ≤ 65535 ∧ (authH s).length ≤ 64 := by
  cases ha : authO s with
  | none =>
    obtain ⟨e1, e2, e3⟩ := auth_none ha
    rw [e1, e2]
    exact ⟨by decide, by decide, by decide⟩
  | some x =>
    obtain ⟨h, p⟩ := x
    obtain ⟨e1, e2, e3⟩ := auth_some ha
    obtain ⟨a1, a2, a3, a4⟩ := authO_some ha
    rw [e1, e2]
    exact ⟨a3, a4, host_len a1⟩
theorem pup_any (s : ByteArray) (hs : s.size ≤ 1048576) (w : World) (hm : MaxInt w) (hp : Pow w) :
    Calls Tryz.prog 86 #[.string s] w fun e w' => e = .returned (.bool (hostB (toL s))) ∧ Below w.heap.size w w' := by
  have HN := Lib.hid (TAuth.tauth_any s (by omega) w hm)
  have HP := Lib.hid hp
  rw [host_prog]
  obtain ⟨p0, p1, hl⟩ := auth_range (toL s)
  have HI := Lib.hid (fun w h => pitoa (authP (toL s)) (by omega) (by omega) w h)
  have hdl := decZ_len (n := authP (toL s)) (by omega) (by omega)
  have l1 : (ofL (authH (toL s))).size + (⟨#[58]⟩ : ByteArray).size ≤ 9223372036854775807 := by rw [ofL_size]; exact (by omega : (authH (toL s)).length + 1 ≤ 9223372036854775807)
  have l2 : (ofL (authH (toL s)) ++ ⟨#[58]⟩).size + (ofL (decZ (authP (toL s)))).size ≤ 9223372036854775807 := by rw [ByteArray.size_append, ofL_size, ofL_size]; exact (by omega : (authH (toL s)).length + 1 + (decZ (authP (toL s))).length ≤ 9223372036854775807)
  have q1 : (s.toList == (ofL (authH (toL s)) ++ ⟨#[58]⟩ ++ ofL (decZ (authP (toL s)))).toList) = (toL s == authH (toL s) ++ 58 :: decZ (authP (toL s))) := by
    rw [ByteArray.toList_eq, ByteArray.toList_eq]
    show (toL s == toL (ofL (authH (toL s)) ++ ⟨#[58]⟩ ++ ofL (decZ (authP (toL s))))) = _
    have : toL (ofL (authH (toL s)) ++ ⟨#[58]⟩ ++ ofL (decZ (authP (toL s)))) = authH (toL s) ++ 58 :: decZ (authP (toL s)) := by simp [toL, ofL]
    rw [this]
  generalize (toL s == authH (toL s) ++ 58 :: decZ (authP (toL s))) = b at q1 ⊢
  clear hdl hl p0 p1
  generalize ofL (authH (toL s)) = H at *
  generalize ofL (decZ (authP (toL s))) = DD at *
  generalize authP (toL s) = P at *
  by_cases h : authE (toL s) = 0
  · rw [h] at HN ⊢
    clear hs hm h hp
    go_enter Tryz.func86, Tryz.ntmps86
    go_wp2_with fail
    refine HN.out.mono ?_
    rintro e w1 ⟨rfl, hb⟩
    have HP1 := Lib.hid (HP.out.below hb)
    have HB := Lib.hid hb
    clear hb HN HP
    go_wp2_with fail
    refine (HI.out _ HP1.out).mono ?_
    rintro e w2 ⟨rfl, hb⟩
    have HB2 := Lib.hid (below_chain HB.out hb)
    clear hb HI HB HP1
    go_wp2_with fail
    go_ret
    exact ⟨ret_bool (by simp), HB2.out⟩
  · have hz : (authE (toL s) == 0) = false := beq_false_of_ne h
    have hd : decide (authE (toL s) = 0) = false := decide_eq_false h
    rw [hd]
    clear hs hm h hd hp
    generalize authE (toL s) = E at HN hz
    go_enter Tryz.func86, Tryz.ntmps86
    go_wp2_with fail
    refine HN.out.mono ?_
    rintro e w1 ⟨rfl, hb⟩
    go_wp2_with fail
    go_ret
    exact ⟨ret_bool (by simp), hb⟩
theorem pdomain_any (s : ByteArray) (hs : s.size ≤ 1048576) (w : World) (hm : MaxInt w) :
    Calls Tryz.prog 56 #[.string s] w fun e w' => e = .returned (.bool (domainB (toL s))) ∧ Below w.heap.size w w' := by
  rw [domain_prog]
  have HT := Lib.hid (fun w => lib_trimp s w)
  have hl : (trimP (toL s)).length ≤ 1048576 := by
    unfold trimP
    split
    · rw [List.length_drop, toL_length]; omega
    · rw [toL_length]; exact hs
  have HS := Lib.hid (fun w h => psmall_any (ofL (trimP (toL s))) (by rw [ofL_size]; exact hl) w h)
  rw [toL_ofL] at HS
  have HM := Lib.hid hm
  have q1 : (s.toList == [42]) = (toL s == STAR) := by rw [ByteArray.toList_eq]; rfl
  generalize (toL s == STAR) = b at q1 ⊢
  generalize smallB (trimP (toL s)) = c at HS ⊢
  generalize ofL (trimP (toL s)) = X at HT HS
  clear hl hs hm
  cases b with
  | true =>
    go_enter Tryz.func56, Tryz.ntmps56
    go_wp2_with fail
    go_ret
    exact ⟨rfl, Below.refl _ _⟩
  | false =>
    go_enter Tryz.func56, Tryz.ntmps56
    go_wp2_with fail
    refine (HT.out _).mono ?_
    rintro e w1 ⟨rfl, rfl⟩
    go_wp2_with fail
    refine (HS.out _ HM.out).mono ?_
    rintro e w1 ⟨rfl, hb⟩
    go_wp2_with fail
    go_ret
    exact ⟨ret_bool (by simp), hb⟩
set_option maxHeartbeats 3200000 in
theorem predir_any (n : Int) (w : World) :
    Calls Tryz.prog 96 #[.int .i64 n] w fun e w' => e = .returned (.bool (n == 301 || n == 302 || n == 307 || n == 308)) ∧ w = w' := by
  obtain ⟨b1, h1⟩ : ∃ b, (n == 301) = b := ⟨_, rfl⟩
  obtain ⟨b2, h2⟩ : ∃ b, (n == 302) = b := ⟨_, rfl⟩
  obtain ⟨b3, h3⟩ : ∃ b, (n == 307) = b := ⟨_, rfl⟩
  obtain ⟨b4, h4⟩ : ∃ b, (n == 308) = b := ⟨_, rfl⟩
  rw [h1, h2, h3, h4]
  cases b1 <;> cases b2 <;> cases b3 <;> cases b4
  all_goals
    go_enter Tryz.func96, Tryz.ntmps96
    go_wp2_with fail
    go_ret
    exact ⟨rfl, rfl⟩
theorem pdirect_any (n : Int) (s : ByteArray) (w : World) :
    Calls Tryz.prog 97 #[.int .i64 n, .string s] w fun e w' => e = .returned (.bool (n != 204 && n != 304 && (if toL s = CONNECT then inB n 300 599 else inB n 200 599))) ∧ w = w' := by
  have H3 := Lib.hid (pwithin_any n 300 599 w)
  have H2 := Lib.hid (pwithin_any n 200 599 w)
  have q1 : (s.toList == [67, 79, 78, 78, 69, 67, 84]) = decide (toL s = CONNECT) := by
    rw [ByteArray.toList_eq]
    show (toL s == CONNECT) = _
    by_cases h : toL s = CONNECT
    · rw [h, decide_eq_true rfl, beq_self_eq_true]
    · rw [decide_eq_false h, beq_false_of_ne h]
  have hc : (if toL s = CONNECT then inB n 300 599 else inB n 200 599) = cond (decide (toL s = CONNECT)) (inB n 300 599) (inB n 200 599) := by
    by_cases h : toL s = CONNECT
    · rw [if_pos h, decide_eq_true h]; rfl
    · rw [if_neg h, decide_eq_false h]; rfl
  rw [hc]
  clear hc
  generalize decide (toL s = CONNECT) = d at q1 ⊢
  generalize inB n 300 599 = x at H3 ⊢
  generalize inB n 200 599 = y at H2 ⊢
  by_cases h1 : n = 204
  · subst h1
    clear H3 H2 q1
    go_enter Tryz.func97, Tryz.ntmps97
    go_wp2_with fail
    go_ret
    exact ⟨rfl, rfl⟩
  · by_cases h2 : n = 304
    · subst h2
      clear H3 H2 q1 h1
      go_enter Tryz.func97, Tryz.ntmps97
      go_wp2_with fail
      go_ret
      exact ⟨rfl, rfl⟩
    · have b1 : (n == 204) = false := beq_false_of_ne h1
      have b2 : (n == 304) = false := beq_false_of_ne h2
      have e1 : (n != 204) = true := by rw [bne, b1]; rfl
      have e2 : (n != 304) = true := by rw [bne, b2]; rfl
      rw [e1, e2]
      clear e1 e2 h1 h2
      cases d with
      | true =>
        clear H2
        go_enter Tryz.func97, Tryz.ntmps97
        go_wp2_with fail
        refine H3.out.mono ?_
        rintro e w1 ⟨rfl, rfl⟩
        go_wp2_with fail
        go_ret
        exact ⟨rfl, rfl⟩
      | false =>
        clear H3
        go_enter Tryz.func97, Tryz.ntmps97
        go_wp2_with fail
        refine H2.out.mono ?_
        rintro e w1 ⟨rfl, rfl⟩
        go_wp2_with fail
        go_ret
        exact ⟨rfl, rfl⟩
theorem pflag_any (b : Bool) (w : World) :
    Calls Tryz.prog 70 #[.bool b] w fun e w' => e = .returned (.string (ofL (flagL b))) ∧ w = w' := by
  cases b
  all_goals
    go_enter Tryz.func70, Tryz.ntmps70
    go_wp2_with fail
    go_ret
    exact ⟨rfl, rfl⟩
theorem pdecimal_any (n : Int) (h0 : -9223372036854775808 ≤ n) (h1 : n ≤ 9223372036854775807) (w : World) (hp : Pow w) :
    Calls Tryz.prog 31 #[.int .i64 n] w fun e w' => e = .returned (.string (ofL (decZ n))) ∧ Below w.heap.size w w' := by
  have HI := Lib.hid (pitoa n h0 h1 w hp)
  generalize ofL (decZ n) = X at HI ⊢
  clear h0 h1
  go_enter Tryz.func31, Tryz.ntmps31
  go_wp2_with fail
  refine HI.out.mono ?_
  rintro e w1 ⟨rfl, hb⟩
  go_wp2_with fail
  go_ret
  exact ⟨rfl, hb⟩
set_option maxHeartbeats 1600000 in
theorem pname_any (s : ByteArray) (hs : s.size ≤ 1048576) (w : World) :
    Calls Tryz.prog 47 #[.string s] w fun e w' => e = .returned (.bool (nameB (toL s))) ∧ Below w.heap.size w w' := by
  have HL := Lib.hid (fun w => PLower.plower_any s (by unfold maxLen; omega) w)
  have HT := Lib.hid (fun w => ptok_any s hs 32 (by decide) w)
  obtain ⟨x, hx⟩ : ∃ x, x = lower (toL s) := ⟨_, rfl⟩
  rw [← hx] at HL
  obtain ⟨b0, h0⟩ : ∃ b, (x == [104, 111, 115, 116]) = b := ⟨_, rfl⟩
  have q0 : ((ofL x).toList == [104, 111, 115, 116]) = b0 := (text_is _ _).trans h0
  obtain ⟨b1, h1⟩ : ∃ b, (x == [99, 111, 110, 116, 101, 110, 116, 45, 108, 101, 110, 103, 116, 104]) = b := ⟨_, rfl⟩
  have q1 : ((ofL x).toList == [99, 111, 110, 116, 101, 110, 116, 45, 108, 101, 110, 103, 116, 104]) = b1 := (text_is _ _).trans h1
  obtain ⟨b2, h2⟩ : ∃ b, (x == [101, 120, 112, 101, 99, 116]) = b := ⟨_, rfl⟩
  have q2 : ((ofL x).toList == [101, 120, 112, 101, 99, 116]) = b2 := (text_is _ _).trans h2
  obtain ⟨b3, h3⟩ : ∃ b, (x == [120, 45, 102, 111, 114, 119, 97, 114, 100, 101, 100, 45, 102, 111, 114]) = b := ⟨_, rfl⟩
  have q3 : ((ofL x).toList == [120, 45, 102, 111, 114, 119, 97, 114, 100, 101, 100, 45, 102, 111, 114]) = b3 := (text_is _ _).trans h3
  obtain ⟨b4, h4⟩ : ∃ b, (x == [118, 105, 97]) = b := ⟨_, rfl⟩
  have q4 : ((ofL x).toList == [118, 105, 97]) = b4 := (text_is _ _).trans h4
  obtain ⟨b5, h5⟩ : ∃ b, (x == [99, 111, 110, 110, 101, 99, 116, 105, 111, 110]) = b := ⟨_, rfl⟩
  have q5 : ((ofL x).toList == [99, 111, 110, 110, 101, 99, 116, 105, 111, 110]) = b5 := (text_is _ _).trans h5
  obtain ⟨b6, h6⟩ : ∃ b, (x == [107, 101, 101, 112, 45, 97, 108, 105, 118, 101]) = b := ⟨_, rfl⟩
  have q6 : ((ofL x).toList == [107, 101, 101, 112, 45, 97, 108, 105, 118, 101]) = b6 := (text_is _ _).trans h6
  obtain ⟨b7, h7⟩ : ∃ b, (x == [112, 114, 111, 120, 121, 45, 99, 111, 110, 110, 101, 99, 116, 105, 111, 110]) = b := ⟨_, rfl⟩
  have q7 : ((ofL x).toList == [112, 114, 111, 120, 121, 45, 99, 111, 110, 110, 101, 99, 116, 105, 111, 110]) = b7 := (text_is _ _).trans h7
  obtain ⟨b8, h8⟩ : ∃ b, (x == [116, 101]) = b := ⟨_, rfl⟩
  have q8 : ((ofL x).toList == [116, 101]) = b8 := (text_is _ _).trans h8
  obtain ⟨b9, h9⟩ : ∃ b, (x == [116, 114, 97, 105, 108, 101, 114]) = b := ⟨_, rfl⟩
  have q9 : ((ofL x).toList == [116, 114, 97, 105, 108, 101, 114]) = b9 := (text_is _ _).trans h9
  obtain ⟨b10, h10⟩ : ∃ b, (x == [116, 114, 97, 110, 115, 102, 101, 114, 45, 101, 110, 99, 111, 100, 105, 110, 103]) = b := ⟨_, rfl⟩
  have q10 : ((ofL x).toList == [116, 114, 97, 110, 115, 102, 101, 114, 45, 101, 110, 99, 111, 100, 105, 110, 103]) = b10 := (text_is _ _).trans h10
  obtain ⟨b11, h11⟩ : ∃ b, (x == [117, 112, 103, 114, 97, 100, 101]) = b := ⟨_, rfl⟩
  have q11 : ((ofL x).toList == [117, 112, 103, 114, 97, 100, 101]) = b11 := (text_is _ _).trans h11
  have HV : Hid (nameB (toL s) = (!(b0 || b1 || b2 || b3 || b4 || b5 || b6 || b7 || b8 || b9 || b10 || b11) && tokenB (toL s) 32)) := Lib.hid (by
    unfold nameB owns
    rw [← hx, List.contains_eq_any_beq]
    simp only [List.any_cons, List.any_nil, Bool.or_false, h0, h1, h2, h3, h4, h5, h6, h7, h8, h9, h10, h11, Bool.or_assoc])
  rw [HV.out]
  generalize tokenB (toL s) 32 = t at HT ⊢
  clear HV hs hx h0 h1 h2 h3 h4 h5 h6 h7 h8 h9 h10 h11
  generalize ofL x = X at *
  go_enter Tryz.func47, Tryz.ntmps47
  go_wp2_with fail
  refine (HT.out _).mono ?_
  rintro e w1 ⟨rfl, rfl⟩
  clear HT
  cases t with
  | false =>
    go_wp2_with fail
    go_ret
    exact ⟨ret_bool (by simp), Below.refl _ _⟩
  | true =>
  go_wp2_with fail
  refine (HL.out _).mono ?_
  rintro e w2 ⟨rfl, hb⟩
  clear HL
  cases b0 with
  | true =>
    go_wp2_with fail
    go_ret
    exact ⟨ret_bool (by simp), hb⟩
  | false =>
  cases b1 with
  | true =>
    go_wp2_with fail
    go_ret
    exact ⟨ret_bool (by simp), hb⟩
  | false =>
  cases b2 with
  | true =>
    go_wp2_with fail
    go_ret
    exact ⟨ret_bool (by simp), hb⟩
  | false =>
  cases b3 with
  | true =>
    go_wp2_with fail
    go_ret
    exact ⟨ret_bool (by simp), hb⟩
  | false =>
  cases b4 with
  | true =>
    go_wp2_with fail
    go_ret
    exact ⟨ret_bool (by simp), hb⟩
  | false =>
  cases b5 with
  | true =>
    go_wp2_with fail
    go_ret
    exact ⟨ret_bool (by simp), hb⟩
  | false =>
  cases b6 with
  | true =>
    go_wp2_with fail
    go_ret
    exact ⟨ret_bool (by simp), hb⟩
  | false =>
  cases b7 with
  | true =>
    go_wp2_with fail
    go_ret
    exact ⟨ret_bool (by simp), hb⟩
  | false =>
  cases b8 with
  | true =>
    go_wp2_with fail
    go_ret
    exact ⟨ret_bool (by simp), hb⟩
  | false =>
  cases b9 with
  | true =>
    go_wp2_with fail
    go_ret
    exact ⟨ret_bool (by simp), hb⟩
  | false =>
  cases b10 with
  | true =>
    go_wp2_with fail
    go_ret
    exact ⟨ret_bool (by simp), hb⟩
  | false =>
  cases b11 with
  | true =>
    go_wp2_with fail
    go_ret
    exact ⟨ret_bool (by simp), hb⟩
  | false =>
  go_wp2_with fail
  go_ret
  exact ⟨ret_bool (by simp), hb⟩
end Go.Proofs.YtfihehobkbfmiaaGreatDoor.PCfgT

/- Layer 14 of the program: a line's words, taken one after the other. -/
namespace Go.Proofs.YtfihehobkbfmiaaGreatDoor.PCfgM
open Go.ChangeShapes Go.WideShapes Go.ChangeAt Go.RowKit Bytes LexPure LexNum PathPure CutAt ConfPure ConfProg Ret Mem PCfgLib PCfgT PCfgW
open PDecimal (pdecimal_any)
set_option maxRecDepth 100000
set_option linter.unusedVariables false
set_option linter.unusedSimpArgs false
abbrev WT : TypeId := 113
/-- what is left of a line, and its words -/
def Rel (rest : L) (R : List L) : Prop := (R = [] ∧ rest = []) ∨ (R ≠ [] ∧ cutB 32 rest = R)
theorem cut_split : ∀ (x : UInt8) (s : L), hasB x s = true → s = aheadOf x s ++ x :: behind x s ∧ ∀ c ∈ aheadOf x s, c ≠ x
  | x, [], h => absurd h (by simp [hasB])
  | x, c :: s, h => by
    by_cases hc : c = x
    · subst hc
      have e1 : aheadOf c (c :: s) = [] := by simp [aheadOf]
      have e2 : behind c (c :: s) = s := by simp [behind]
      rw [e1, e2]
      exact ⟨rfl, fun d hd => by cases hd⟩
    · have e1 : aheadOf x (c :: s) = c :: aheadOf x s := by simp [aheadOf, hc]
      have e2 : behind x (c :: s) = behind x s := by simp [behind, hc]
      have h2 : hasB x s = true := by simpa [hasB, hc] using h
      obtain ⟨h3, h4⟩ := cut_split x s h2
      rw [e1, e2]
      refine ⟨by rw [List.cons_append, ← h3], fun d hd => ?_⟩
      rcases List.mem_cons.1 hd with rfl | hd
      · exact hc
      · exact h4 d hd
theorem cut_whole : ∀ (x : UInt8) (s : L), hasB x s = false → aheadOf x s = s ∧ behind x s = [] ∧ ∀ c ∈ s, c ≠ x
  | x, [], _ => ⟨rfl, rfl, fun c hc => by cases hc⟩
  | x, c :: s, h => by
    have hc : c ≠ x := fun e => by subst e; simp [hasB] at h
    have h2 : hasB x s = false := by simpa [hasB, hc] using h
    obtain ⟨h3, h4, h5⟩ := cut_whole x s h2
    refine ⟨?_, ?_, fun d hd => ?_⟩
    · simp [aheadOf, hc] at h3 ⊢
      exact h3
    · simp [behind, hc] at h4 ⊢
      exact h4
    · rcases List.mem_cons.1 hd with rfl | hd
      · exact hc
      · exact h5 d hd
theorem cutB_has {x : UInt8} {s : L} (h : hasB x s = true) : cutB x s = aheadOf x s :: cutB x (behind x s) := by
  obtain ⟨h1, h2⟩ := cut_split x s h
  conv => lhs; rw [h1]
  exact cutB_append h2 _
theorem cutB_no {x : UInt8} {s : L} (h : hasB x s = false) : cutB x s = [s] := cutB_self (cut_whole x s h).2.2
theorem rel_next {rest : L} {R : List L} (h : Rel rest R) : aheadOf 32 rest = R.headD [] ∧ Rel (behind 32 rest) R.tail ∧ hasB 32 rest = !R.tail.isEmpty := by
  rcases h with ⟨rfl, rfl⟩ | ⟨h0, rfl⟩
  · exact ⟨rfl, .inl ⟨rfl, rfl⟩, rfl⟩
  · cases hb : hasB 32 rest with
    | true =>
      rw [cutB_has hb]
      refine ⟨rfl, .inr ⟨cutB_ne _ _, rfl⟩, ?_⟩
      cases hc : cutB 32 (behind 32 rest) with
      | nil => exact absurd hc (cutB_ne _ _)
      | cons a b => rw [List.tail_cons]; rfl
    | false =>
      obtain ⟨h1, h2, _⟩ := cut_whole 32 rest hb
      rw [cutB_no hb]
      exact ⟨h1, .inl ⟨rfl, h2⟩, rfl⟩
theorem behind_len (x : UInt8) (s : L) : (behind x s).length ≤ s.length := by
  unfold behind
  rw [List.length_tail]
  have := (List.dropWhile_suffix (fun c => c != x) (l := s)).length_le
  omega
theorem ahead_len (x : UInt8) (s : L) : (aheadOf x s).length ≤ s.length := (List.takeWhile_prefix (fun c => c != x) (l := s)).length_le
/-- the words in block g: R are still to come -/
structure St (w : World) (g : Nat) (R : List L) (left wrong : Bool) : Prop where
  ex : ∃ rest : L, Has w g WT #[.string (ofL rest), .bool left, .bool wrong] ∧ Rel rest R ∧ rest.length ≤ 1099511627776
theorem St.lt {w : World} {g : Nat} {R : List L} {left wrong : Bool} (h : St w g R left wrong) : g < w.heap.size := by
  obtain ⟨rest, h1, _⟩ := h.ex
  exact h1.lt
theorem St.grown {w w' : World} {g : Nat} {R : List L} {left wrong : Bool} {row : Option Nat} (h : St w g R left wrong) (hb : w.grownBy w' row) (hne : some g ≠ row) : St w' g R left wrong := by
  obtain ⟨rest, h1, h2, h3⟩ := h.ex
  exact ⟨⟨rest, h1.grown hb hne, h2, h3⟩⟩
theorem St.below {w w' : World} {g : Nat} {R : List L} {left wrong : Bool} (h : St w g R left wrong) (hb : Below w.heap.size w w') : St w' g R left wrong := h.grown (own_of_below hb none) (by simp)
theorem head_len {rest : L} {R : List L} (h : Rel rest R) {n : Nat} (hl : rest.length ≤ n) : (R.headD []).length ≤ n := by
  rw [← (rel_next h).1]
  have := ahead_len 32 rest
  omega
set_option maxHeartbeats 1600000 in
theorem pnext_any (g : Nat) (R : List L) (left wrong : Bool) (w : World) (h : St w g R left wrong) :
    Calls Tryz.prog 106 #[.pointer (some ⟨g, 0, none⟩)] w fun e w' => e = .returned (.string (ofL (R.headD []))) ∧ (R.headD []).length ≤ 1099511627776 ∧ St w' g R.tail (!R.tail.isEmpty) wrong ∧ w.grownBy w' (some g) := by
  obtain ⟨rest, hH, hR, hl⟩ := h.ex
  obtain ⟨n1, n2, n3⟩ := rel_next hR
  have HC := Lib.hid (fun w => PCutLib.full_cut 32 (ofL rest) (by rw [ofL_size]; omega) w)
  rw [toL_ofL, n1, n3] at HC
  have HL := Lib.hid (head_len hR hl)
  have HN := Lib.hid n2
  have HBl := Lib.hid (Nat.le_trans (behind_len 32 rest) hl)
  have HH := Lib.hid hH
  have c0 : w.cell? ⟨g, 0, none⟩ = some (.string (ofL rest)) := hH.cell 0
  clear hH hR hl n1 n2 n3 h
  generalize behind 32 rest = rest2 at *
  generalize (!R.tail.isEmpty) = left2 at *
  generalize R.headD [] = hd at *
  go_enter Tryz.func106, Tryz.ntmps106
  go_wp2_with fail
  refine (HC.out _).mono ?_
  rintro e w1 ⟨rfl, hb⟩
  have H1 := HH.out.below hb HH.out.lt
  have z0 := H1.free 0
  have z1 := H1.free 1
  have d0 : w1.cell? ⟨g, 0, none⟩ = some (.string (ofL rest)) := H1.cell 0
  have d1 : w1.cell? ⟨g, 1, none⟩ = some (.bool left) := H1.cell 1
  have HG := Lib.hid (own_set (own_set (own_of_below hb (some g)) 0 (.string (ofL rest2))) 1 (.bool left2))
  have HQ := Lib.hid ((H1.set_ 0 (.string (ofL rest2))).set_ 1 (.bool left2))
  clear hb HC H1 c0
  go_wp2_with fail
  go_ret
  exact ⟨rfl, HL.out, ⟨⟨rest2, HQ.out, HN.out, HBl.out⟩⟩, HG.out⟩
/-- the flag wrong is set, or stays -/
def markW (g : Nat) (b : Bool) (w : World) : World := if b then w.setCell ⟨g, 2, none⟩ (.bool true) else w
theorem St.mark {w : World} {g : Nat} {R : List L} {left wrong : Bool} (h : St w g R left wrong) : St (w.setCell ⟨g, 2, none⟩ (.bool true)) g R left true := by
  obtain ⟨rest, h1, h2, h3⟩ := h.ex
  exact ⟨⟨rest, h1.set_ 2 (.bool true), h2, h3⟩⟩
theorem St.cells {w : World} {g : Nat} {R : List L} {left wrong : Bool} (h : St w g R left wrong) : w.cell? ⟨g, 1, none⟩ = some (.bool left) ∧ w.cell? ⟨g, 2, none⟩ = some (.bool wrong) ∧ w.frozen? ⟨g, 2, none⟩ = false := by
  obtain ⟨rest, h1, _⟩ := h.ex
  exact ⟨h1.cell 1, h1.cell 2, h1.free 2⟩
/-- what the taking of a word of the form f leaves -/
structure Took (w : World) (g : Nat) (R : List L) (wrong : Bool) (f : UInt8) (w' : World) : Prop where
  st : St w' g R.tail (!R.tail.isEmpty) (wrong || !okW f (R.headD []))
  gr : w.grownBy w' (some g)
set_option maxHeartbeats 1600000 in
theorem ptext_any (g : Nat) (R : List L) (left wrong : Bool) (w : World) (h : St w g R left wrong) :
    Calls Tryz.prog 110 #[.pointer (some ⟨g, 0, none⟩)] w fun e w' => e = .returned (.string (ofL (textV (R.headD [])))) ∧ Took w g R wrong 119 w' := by
  have HN := Lib.hid (pnext_any g R left wrong w h)
  obtain ⟨b, hb⟩ : ∃ b, b = (unword (R.headD [])).isSome := ⟨_, rfl⟩
  have HU := Lib.hid (fun (hl : (R.headD []).length ≤ 1099511627776) w => punword_any (ofL (R.headD [])) (by rw [ofL_size]; omega) w)
  rw [toL_ofL, ← hb] at HU
  have HW : Hid (∀ {w w' : World}, St w' g R.tail (!R.tail.isEmpty) (wrong || !b) → w.grownBy w' (some g) → Took w g R wrong 119 w') := Lib.hid (fun h1 h2 => ⟨by unfold okW; rw [if_pos rfl, ← hb]; exact h1, h2⟩)
  clear h hb
  generalize ofL (textV (R.headD [])) = Y at HU ⊢
  generalize ofL (R.headD []) = X at *
  generalize (R.headD []).length = N at *
  go_enter Tryz.func110, Tryz.ntmps110
  go_wp2_with fail
  refine HN.out.mono ?_
  rintro e w1 ⟨rfl, hl, hs, hg⟩
  have HS := Lib.hid hs
  have HG := Lib.hid hg
  have HUl := Lib.hid (HU.out hl)
  clear HN hs hg HU hl
  go_wp2_with fail
  refine (HUl.out _).mono ?_
  rintro e w2 ⟨rfl, hb⟩
  have HS2 := Lib.hid (HS.out.below hb)
  have HG2 := Lib.hid (own_trans HG.out (own_of_below hb (some g)))
  obtain ⟨c1, c2, z2⟩ := HS2.out.cells
  clear HUl hb HS HG
  cases b with
  | true =>
    go_wp2_with fail
    go_ret
    exact ⟨rfl, HW.out (by rw [Bool.not_true, Bool.or_false]; exact HS2.out) HG2.out⟩
  | false =>
    go_wp2_with fail
    go_ret
    exact ⟨rfl, HW.out (by rw [Bool.not_false, Bool.or_true]; exact HS2.out.mark) (own_set HG2.out 2 _)⟩
set_option maxHeartbeats 1600000 in
theorem pflag_word (g : Nat) (R : List L) (left wrong : Bool) (w : World) (h : St w g R left wrong) :
    Calls Tryz.prog 131 #[.pointer (some ⟨g, 0, none⟩)] w fun e w' => e = .returned (.bool (R.headD [] == [49])) ∧ Took w g R wrong 98 w' := by
  have HN := Lib.hid (pnext_any g R left wrong w h)
  obtain ⟨b1, hb1⟩ : ∃ b, b = (R.headD [] == [49]) := ⟨_, rfl⟩
  obtain ⟨b0, hb0⟩ : ∃ b, b = (R.headD [] == [48]) := ⟨_, rfl⟩
  have HF1 := Lib.hid (fun w => pflag_any true w)
  have HF0 := Lib.hid (fun w => pflag_any false w)
  have HW : Hid (∀ {w w' : World}, St w' g R.tail (!R.tail.isEmpty) (wrong || !(b1 || b0)) → w.grownBy w' (some g) → Took w g R wrong 98 w') := Lib.hid (fun h1 h2 => ⟨by unfold okW; rw [if_neg (by decide), if_pos rfl, ← hb1, ← hb0]; exact h1, h2⟩)
  have t1 : ((ofL (R.headD [])).toList == (ofL (flagL true)).toList) = b1 := by rw [text_two, toL_ofL, hb1]; rfl
  have t0 : ((ofL (R.headD [])).toList == (ofL (flagL false)).toList) = b0 := by rw [text_two, toL_ofL, hb0]; rfl
  have u1 : ((ofL (R.headD [])).toList != (ofL (flagL true)).toList) = !b1 := by rw [bne, t1]
  have u0 : ((ofL (R.headD [])).toList != (ofL (flagL false)).toList) = !b0 := by rw [bne, t0]
  rw [← hb1]
  clear h hb1 hb0
  generalize ofL (flagL true) = X1 at *
  generalize ofL (flagL false) = X0 at *
  generalize ofL (R.headD []) = X at *
  go_enter Tryz.func131, Tryz.ntmps131
  go_wp2_with fail
  refine HN.out.mono ?_
  rintro e w1 ⟨rfl, hl, hs, hg⟩
  have HS := Lib.hid hs
  have HG := Lib.hid hg
  obtain ⟨c1, c2, z2⟩ := hs.cells
  clear HN hs hg hl
  go_wp2_with fail
  refine (HF1.out _).mono ?_
  rintro e w2 ⟨rfl, rfl⟩
  cases b1 with
  | true =>
    go_wp2_with fail
    refine (HF1.out _).mono ?_
    rintro e w2 ⟨rfl, rfl⟩
    go_wp2_with fail
    go_ret
    exact ⟨rfl, HW.out (by rw [Bool.true_or, Bool.not_true, Bool.or_false]; exact HS.out) HG.out⟩
  | false =>
  go_wp2_with fail
  refine (HF0.out _).mono ?_
  rintro e w2 ⟨rfl, rfl⟩
  cases b0 with
  | true =>
    go_wp2_with fail
    refine (HF1.out _).mono ?_
    rintro e w2 ⟨rfl, rfl⟩
    go_wp2_with fail
    go_ret
    exact ⟨rfl, HW.out (by rw [Bool.or_true, Bool.not_true, Bool.or_false]; exact HS.out) HG.out⟩
  | false =>
    go_wp2_with fail
    refine (HF1.out _).mono ?_
    rintro e w2 ⟨rfl, rfl⟩
    go_wp2_with fail
    go_ret
    exact ⟨rfl, HW.out (by rw [Bool.or_self, Bool.not_false, Bool.or_true]; exact HS.out.mark) (own_set HG.out 2 _)⟩
theorem head_byte (l : L) (h : 0 < (ofL l).size) : (((ofL l)[0]'h).toNat : Int) = ((l.headD 0).toNat : Int) := by
  cases l with
  | nil => exact absurd h (by decide)
  | cons c l => rfl
theorem dec15_ok (w : L) : (dec15 w).isSome = (numOk 10 15 w && !(decide (1 < w.length) && w.headD 0 == 48)) := by
  unfold dec15
  by_cases h : numOk 10 15 w = true ∧ ¬ (1 < w.length ∧ w.headD 0 = 48)
  · rw [if_pos h, h.1]
    have : (decide (1 < w.length) && w.headD 0 == 48) = false := by
      rw [Bool.and_eq_false_iff]
      by_cases h1 : 1 < w.length
      · right; exact beq_false_of_ne (fun e => h.2 ⟨h1, e⟩)
      · left; exact decide_eq_false h1
    rw [this]; rfl
  · rw [if_neg h]
    symm
    rw [show (none : Option Int).isSome = false from rfl, Bool.and_eq_false_iff]
    by_cases h1 : numOk 10 15 w = true
    · right
      have h2 : 1 < w.length ∧ w.headD 0 = 48 := Classical.byContradiction (fun e => h ⟨h1, e⟩)
      rw [decide_eq_true h2.1, h2.2]; rfl
    · left; simpa using h1
set_option maxHeartbeats 1600000 in
theorem pnumber_word (g : Nat) (R : List L) (left wrong : Bool) (w : World) (h : St w g R left wrong) :
    Calls Tryz.prog 107 #[.pointer (some ⟨g, 0, none⟩)] w fun e w' => e = .returned (.int .i64 (numW (R.headD []))) ∧ Took w g R wrong 110 w' := by
  have HN := Lib.hid (pnext_any g R left wrong w h)
  have HD := Lib.hid (fun (hl : (R.headD []).length ≤ 1099511627776) w => pdecimal_any (ofL (R.headD [])) (by rw [ofL_size]; unfold maxLen; omega) 15 w)
  rw [toL_ofL, show min (15 : Int) 18 = 15 by decide] at HD
  have hok := dec15_ok (R.headD [])
  have HW : Hid (∀ {w w' : World}, St w' g R.tail (!R.tail.isEmpty) (wrong || !(dec15 (R.headD [])).isSome) → w.grownBy w' (some g) → Took w g R wrong 110 w') := Lib.hid (fun h1 h2 => ⟨by unfold okW; rw [if_neg (by decide), if_neg (by decide)]; exact h1, h2⟩)
  rw [hok] at HW
  unfold numW
  have hsz : (ofL (R.headD [])).size = (R.headD []).length := ofL_size _
  generalize numR 10 15 (R.headD []) = n at HD ⊢
  obtain ⟨b, hb⟩ : ∃ b, b = numOk 10 15 (R.headD []) := ⟨_, rfl⟩
  rw [← hb] at HD HW
  clear h hok hb
  obtain ⟨hd, hhd0⟩ : ∃ hd, hd = R.headD [] := ⟨_, rfl⟩
  rw [← hhd0] at HN HD HW hsz
  clear hhd0
  cases b with
  | false =>
    clear hsz
    go_enter Tryz.func107, Tryz.ntmps107
    go_wp2_with fail
    refine HN.out.mono ?_
    rintro e w1 ⟨rfl, hl, hs, hg⟩
    have HS := Lib.hid hs
    have HG := Lib.hid hg
    have HDl := Lib.hid (HD.out hl)
    obtain ⟨c1, c2, z2⟩ := hs.cells
    clear HN hs hg hl HD
    go_wp2_with fail
    refine (HDl.out _).mono ?_
    rintro e w2 ⟨rfl, rfl⟩
    go_wp2_with fail
    go_ret
    exact ⟨rfl, HW.out (by rw [Bool.false_and, Bool.not_false, Bool.or_true]; exact HS.out.mark) (own_set HG.out 2 _)⟩
  | true =>
    by_cases h1 : 1 < hd.length
    · have q1 : (1 : Int) < ((ofL hd).size : Int) := by omega
      have q0 : (0 : Int) < ((ofL hd).size : Int) := by omega
      have q9 : 0 < (ofL hd).size := by omega
      have hx := head_byte hd q9
      obtain ⟨b2, hb2⟩ : ∃ b2, b2 = (hd.headD 0 == 48) := ⟨_, rfl⟩
      have q2 : ((((ofL hd)[0]'q9).toNat : Int) == 48) = b2 := by
        rw [hx, hb2]
        have := all_bytes (p := fun c => ((c.toNat : Int) == 48) == (c == 48)) (by decide +kernel) (hd.headD 0)
        simpa using this
      rw [← hb2, decide_eq_true h1] at HW
      clear hx hb2 h1 hsz
      cases b2 with
      | true =>
        go_enter Tryz.func107, Tryz.ntmps107
        go_wp2_with fail
        refine HN.out.mono ?_
        rintro e w1 ⟨rfl, hl, hs, hg⟩
        have HS := Lib.hid hs
        have HG := Lib.hid hg
        have HDl := Lib.hid (HD.out hl)
        obtain ⟨c1, c2, z2⟩ := hs.cells
        clear HN hs hg hl HD
        go_wp2_with fail
        refine (HDl.out _).mono ?_
        rintro e w2 ⟨rfl, rfl⟩
        go_wp2_with fail
        go_ret
        exact ⟨rfl, HW.out (by simp only [Bool.and_self, Bool.not_true, Bool.and_false, Bool.not_false, Bool.or_true]; exact HS.out.mark) (own_set HG.out 2 _)⟩
      | false =>
        go_enter Tryz.func107, Tryz.ntmps107
        go_wp2_with fail
        refine HN.out.mono ?_
        rintro e w1 ⟨rfl, hl, hs, hg⟩
        have HS := Lib.hid hs
        have HG := Lib.hid hg
        have HDl := Lib.hid (HD.out hl)
        obtain ⟨c1, c2, z2⟩ := hs.cells
        clear HN hs hg hl HD
        go_wp2_with fail
        refine (HDl.out _).mono ?_
        rintro e w2 ⟨rfl, rfl⟩
        go_wp2_with fail
        go_ret
        exact ⟨rfl, HW.out (by simp only [Bool.and_false, Bool.not_false, Bool.and_self, Bool.not_true, Bool.or_false]; exact HS.out) HG.out⟩
    · have q1 : ¬ (1 : Int) < ((ofL hd).size : Int) := by omega
      rw [decide_eq_false h1] at HW
      clear h1 hsz
      go_enter Tryz.func107, Tryz.ntmps107
      go_wp2_with fail
      refine HN.out.mono ?_
      rintro e w1 ⟨rfl, hl, hs, hg⟩
      have HS := Lib.hid hs
      have HG := Lib.hid hg
      have HDl := Lib.hid (HD.out hl)
      obtain ⟨c1, c2, z2⟩ := hs.cells
      clear HN hs hg hl HD
      go_wp2_with fail
      refine (HDl.out _).mono ?_
      rintro e w2 ⟨rfl, rfl⟩
      go_wp2_with fail
      go_ret
      exact ⟨rfl, HW.out (by simp only [Bool.false_and, Bool.not_false, Bool.and_self, Bool.not_true, Bool.or_false]; exact HS.out) HG.out⟩
end Go.Proofs.YtfihehobkbfmiaaGreatDoor.PCfgM

/- The bulk and the weights of a list of readings. -/
namespace Go.Proofs.YtfihehobkbfmiaaGreatDoor.BulkOf
open Go.ChangeShapes Go.WideShapes Go.RowKit Go.Deep
theorem plain_cell {w : World} {a : Addr} {v : Value} (h : w.cell? a = some v) : a = ⟨a.block, a.off, none⟩ := by
  obtain ⟨b, o, e⟩ := a
  cases e with
  | none => rfl
  | some e =>
    have := World.cell?_spot h
    cases this
theorem add_plain (b o i : Nat) : (⟨b, o, none⟩ : Addr).add i = ⟨b, o + i, none⟩ := by unfold Addr.add; split <;> simp_all
theorem bulk_pos {H : Type} (d : DataW H) : 1 ≤ Rows.uptoBulk d := by
  cases d with
  | lit l => cases l <;> simp [Rows.uptoBulk]
  | _ => simp [Rows.uptoBulk]
theorem bulkAll_len {H : Type} : ∀ l : List (DataW H), l.length ≤ Rows.uptoBulkAll l
  | [] => by simp [Rows.uptoBulkAll]
  | d :: r => by
    have h1 := bulk_pos d
    have h2 := bulkAll_len r
    rw [Rows.uptoBulkAll, List.length_cons]
    omega
theorem bulkAll_mem {H : Type} : ∀ (l : List (DataW H)) (d : DataW H), d ∈ l → Rows.uptoBulk d ≤ Rows.uptoBulkAll l
  | [], _, h => by cases h
  | x :: r, d, h => by
    rw [Rows.uptoBulkAll]
    rcases List.mem_cons.1 h with rfl | h
    · omega
    · have := bulkAll_mem r d h
      omega
theorem weightsAll_mem {H : Type} {P : Program} {e : TypeId} (q : Nat → Bool) : ∀ l : List (DataW H), (DataW.weightsAll P e l).all q = true → ∀ d ∈ l, (d.weights P e).all q = true
  | [], _, d, hd => by cases hd
  | x :: l, h, d, hd => by
    simp only [DataW.weightsAll, List.all_append, Bool.and_eq_true] at h
    rcases List.mem_cons.1 hd with rfl | hd
    · exact h.1
    · exact weightsAll_mem q l h.2 d hd
end Go.Proofs.YtfihehobkbfmiaaGreatDoor.BulkOf

/- An argument that is a list of structs of one-cell fields: its rows, whatever the fields are. No program is named but by a letter. -/
namespace Go.Proofs.YtfihehobkbfmiaaGreatDoor.RowsArg
open Go.ChangeShapes Go.WideShapes Go.ChangeAt Go.RowKit Go.Deep BulkOf
set_option maxRecDepth 20000
section
variable {H : Type} {enc : TypeId × Value → H} {P : Program} {w : World}
/-- a list's value is nil, or it has an address -/
def Nice (v : Value) (n : Nat) : Prop := v = .slice none 0 0 ∨ ∃ a cap, v = .slice (some a) n cap
/-- a list of n rows of k cells -/
def RowsAt (w : World) (v : Value) (n k : Nat) (V : Nat → Nat → Value) : Prop :=
  ∃ p cap, v = .slice p n cap ∧ n ≤ 9223372036854775807 ∧ (0 < n → ∃ g o, p = some ⟨g, o, none⟩ ∧ g < w.heap.size ∧ ∀ i, i < n → ∀ j, j < k → w.cell? ⟨g, o + i * k + j, none⟩ = some (V i j))
theorem RowsAt.below {w w' : World} {v : Value} {n k : Nat} {V : Nat → Nat → Value} (h : RowsAt w v n k V) (hb : Below w.heap.size w w') : RowsAt w' v n k V := by
  obtain ⟨p, cap, hv, hn, hc⟩ := h
  refine ⟨p, cap, hv, hn, fun h0 => ?_⟩
  obtain ⟨g, o, hp, hlt, hcell⟩ := hc h0
  exact ⟨g, o, hp, Nat.lt_of_lt_of_le hlt hb.size, fun i hi j hj => (hb.cell (p := ⟨g, o + i * k + j, none⟩) hlt).trans (hcell i hi j hj)⟩
theorem RowsAt.drewN {w : World} {v : Value} {n k : Nat} {V : Nat → Nat → Value} (h : RowsAt w v n k V) (m : Nat) : RowsAt (w.drewN m) v n k V := h
theorem RowsAt.congr {w : World} {v : Value} {n k : Nat} {V U : Nat → Nat → Value} (h : RowsAt w v n k V) (hVU : ∀ i, i < n → ∀ j, j < k → V i j = U i j) : RowsAt w v n k U := by
  obtain ⟨p, cap, hv, hn, hc⟩ := h
  refine ⟨p, cap, hv, hn, fun h0 => ?_⟩
  obtain ⟨g, o, hp, hlt, hcell⟩ := hc h0
  exact ⟨g, o, hp, hlt, fun i hi j hj => by rw [← hVU i hi j hj]; exact hcell i hi j hj⟩
theorem open_slice_fields {t e : TypeId} {fs : Array Field} {fuel : Nat} {cs : List Value} {x : DataW H × List MemPlace} (ht : P.underlying t = some (.slice e)) (he : P.underlying e = some (.struct fs))
    (hone : oneCellFields P fs = true) (hC : P.cellsOf e = fs.size) (h : DataW.trod enc P w 0 (fun _ => true) true fuel t cs = some x) :
    (cs = [.slice none 0 0] ∧ x = (.nil, [])) ∨
    ∃ (a : Addr) (len cap : Nat) (D : Nat → DataW H) (sp : List (DataW H)), cs = [.slice (some a) len cap] ∧ len ≤ cap ∧ cap ≤ maxLen ∧ x.1 = .slice ((List.range len).map D) sp ∧
      ∀ i, i < len → ∃ (ys : List (DataW H × List MemPlace)) (n : Nat), D i = .agg (ys.map (·.1)) ∧ ys.length = fs.size ∧
        ∀ (j : Nat) (f : Field), fs[j]? = some f → ∃ (v : Value) (y : DataW H × List MemPlace), w.cell? (a.add (i * fs.size + j)) = some v ∧ ys[j]? = some y ∧ DataW.trod enc P w 0 (fun _ => true) true n f.type [v] = some y := by
  rcases open_slice ht h with h0 | ⟨a, len, cap, m, n, D, Pl, hcs, hb, hl, hm, hmm, hx, hi⟩
  · exact .inl h0
  · refine .inr ⟨a, len, cap, D, _, hcs, hl, hm, by rw [hx], fun i him => ?_⟩
    obtain ⟨cs', hc, ht'⟩ := hi i (by rw [hmm, if_pos rfl]; omega)
    rw [hC] at hc
    obtain ⟨ys, n', hn', hy, hlen, hyl, hf⟩ := DataW.trod_struct he ht'
    obtain ⟨_, hcl, hat⟩ := World.cells?_some hc
    simp only [Prod.mk.injEq] at hy
    refine ⟨ys, n', hy.1, hyl, fun j f hj => ?_⟩
    obtain ⟨ho, hk⟩ := hone_of hone j f hj
    have hjl : j < fs.size := (Array.getElem?_eq_some_iff.1 hj).1
    have hcell := hat j hjl
    have hv : cs'[j]? = some (cs'[j]'(by omega)) := List.getElem?_eq_getElem (by omega)
    have h1 := hf j f hj
    rw [ho, hk] at h1
    have hone' : (cs'.drop j).take 1 = [cs'[j]'(by omega)] := by
      rw [List.drop_eq_getElem_cons (by omega)]
      rfl
    rw [hone'] at h1
    have hys : ys[j]? = some (ys[j]'(by omega)) := List.getElem?_eq_getElem (by omega)
    refine ⟨_, _, ?_, hys, h1.trans hys⟩
    rw [← Go.Deep.add_add, hcell, hv]
/-- the rows of such an argument, each cell with its reading -/
theorem rows_core {t e : TypeId} {fs : Array Field} {fuel k : Nat} {v : Value} {d : DataW H} {p : List MemPlace} (ht : P.underlying t = some (.slice e)) (he : P.underlying e = some (.struct fs))
    (hone : oneCellFields P fs = true) (hC : P.cellsOf e = fs.size) (hk : fs.size = k) (hk0 : 0 < k) (h : DataW.trod enc P w 0 (fun _ => true) true fuel t [v] = some (d, p)) :
    ∃ (n : Nat) (V : Nat → Nat → Value) (Y : Nat → Nat → DataW H × List MemPlace) (N : Nat → Nat), RowsAt w v n k V ∧ Nice v n ∧
      (∀ i, i < n → ∀ (j : Nat) (f : Field), fs[j]? = some f → DataW.trod enc P w 0 (fun _ => true) true (N i) f.type [V i j] = some (Y i j)) ∧
      ((d = .nil ∧ n = 0) ∨ ∃ sp, d = .slice ((List.range n).map fun i => .agg ((List.range k).map fun j => (Y i j).1)) sp) := by
  rcases open_slice_fields ht he hone hC h with ⟨hc, hx⟩ | ⟨a, len, cap, D, sp, hc, hlc, hcm, hx, hi⟩
  · obtain rfl : v = .slice none 0 0 := by simpa using hc
    injection hx with hd _
    exact ⟨0, fun _ _ => .int .i64 0, fun _ _ => (.nil, []), fun _ => 0, ⟨none, 0, rfl, Nat.zero_le _, fun h => absurd h (by omega)⟩, .inl rfl, fun i hi => absurd hi (by omega), .inl ⟨hd, rfl⟩⟩
  · obtain rfl : v = .slice (some a) len cap := by simpa using hc
    have hx' : d = .slice ((List.range len).map D) sp := hx
    have hq : ∀ i, ∃ (ys : List (DataW H × List MemPlace)) (n : Nat), i < len → (D i = .agg (ys.map (·.1)) ∧ ys.length = fs.size ∧
        ∀ (j : Nat) (f : Field), fs[j]? = some f → ∃ (v : Value) (y : DataW H × List MemPlace), w.cell? (a.add (i * fs.size + j)) = some v ∧ ys[j]? = some y ∧ DataW.trod enc P w 0 (fun _ => true) true n f.type [v] = some y) := fun i => by
      by_cases h : i < len
      · obtain ⟨ys, n, hh⟩ := hi i h
        exact ⟨ys, n, fun _ => hh⟩
      · exact ⟨[], 0, fun h2 => absurd h2 h⟩
    obtain ⟨ys, hq⟩ := Classical.axiomOfChoice hq
    obtain ⟨N, hq⟩ := Classical.axiomOfChoice hq
    have hcell : ∀ i, i < len → ∀ j, j < k → ∃ u, w.cell? (a.add (i * k + j)) = some u := fun i hil j hjk => by
      obtain ⟨_, _, hf⟩ := hq i hil
      obtain ⟨u, y, hu, _, _⟩ := hf j (fs[j]'(by omega)) (Array.getElem?_eq_getElem (by omega))
      rw [hk] at hu
      exact ⟨u, hu⟩
    let V : Nat → Nat → Value := fun i j => (w.cell? (a.add (i * k + j))).getD (.int .i64 0)
    have hV : ∀ i, i < len → ∀ j, j < k → w.cell? (a.add (i * k + j)) = some (V i j) := fun i hil j hjk => by
      obtain ⟨u, hu⟩ := hcell i hil j hjk
      simp only [V, hu, Option.getD_some]
    refine ⟨len, V, fun i j => (ys i).getD j (.nil, []), N, ⟨some a, cap, rfl, by unfold maxLen at hcm; omega, fun h0 => ?_⟩, .inr ⟨a, cap, rfl⟩, fun i hil j f hj => ?_, .inr ⟨sp, ?_⟩⟩
    · have c0 := hV 0 h0 0 hk0
      have ha := plain_cell c0
      have hae : a = ⟨a.block, a.off, none⟩ := by
        obtain ⟨b, o, e⟩ := a
        cases e with
        | none => rfl
        | some e => simp [Addr.add] at ha
      have hblk := World.block_lt_of_cell? _ _ c0
      obtain ⟨b, o, e⟩ := a
      injection hae with _ _ e3
      subst e3
      refine ⟨b, o, rfl, by simpa [Addr.add] using hblk, fun i hil j hjk => ?_⟩
      have := hV i hil j hjk
      rw [BulkOf.add_plain, ← Nat.add_assoc] at this
      exact this
    · obtain ⟨_, hyl, hf⟩ := hq i hil
      obtain ⟨u, y, hu, hy, hrd⟩ := hf j f hj
      have hjk : j < k := by rw [← hk]; exact (Array.getElem?_eq_some_iff.1 hj).1
      rw [hk] at hu
      have := hV i hil j hjk
      rw [hu] at this
      injection this with e1
      rw [← e1, hrd]
      simp [List.getD, hy]
    · rw [hx']
      congr 1
      refine List.map_congr_left fun i hil => ?_
      obtain ⟨hD, hyl, _⟩ := hq i (List.mem_range.1 hil)
      rw [hD]
      congr 1
      refine List.ext_getElem (by simp [hyl, hk]) fun j h1 h2 => ?_
      simp only [List.getElem_map, List.getElem_range]
      rw [List.length_map] at h1
      simp [List.getD, List.getElem?_eq_getElem h1]
end
end Go.Proofs.YtfihehobkbfmiaaGreatDoor.RowsArg

/- Layer 14: configs in memory. No program is named. -/
namespace Go.Proofs.YtfihehobkbfmiaaGreatDoor.ConfMem
open Go.ChangeShapes Go.WideShapes Go.ChangeAt Go.RowKit LexPure Bytes Ret Rows1 Texts ConfPure RowsArg BulkOf
set_option maxRecDepth 20000
def filtV (x : Filt) : List Value := [.int .i64 x.kind, .string (ofL x.name), .string (ofL x.value), .int .i64 x.n, .int .i64 x.m, .int .i64 x.k]
def zFilt : Filt := ⟨0, [], [], 0, 0, 0⟩
def Filts (w : World) (v : Value) (G : List Filt) : Prop := RowsAt w v G.length 6 (fun i j => (filtV (G.getD i zFilt)).getD j undef)
theorem Filts.below {w w' : World} {v : Value} {G : List Filt} (h : Filts w v G) (hb : Below w.heap.size w w') : Filts w' v G := RowsAt.below h hb
/-- its value and, where there is one, the cells of the i-th -/
theorem Filts.parts {w : World} {v : Value} {G : List Filt} (h : Filts w v G) : ∃ p cap, v = .slice p G.length cap ∧ G.length ≤ 9223372036854775807 ∧ (0 < G.length → ∃ g o, p = some ⟨g, o, none⟩ ∧ g < w.heap.size ∧ ∀ i (hi : i < G.length),
    w.cell? ⟨g, o + i * 6, none⟩ = some (.int .i64 G[i].kind) ∧ w.cell? ⟨g, o + i * 6 + 1, none⟩ = some (.string (ofL G[i].name)) ∧ w.cell? ⟨g, o + i * 6 + 2, none⟩ = some (.string (ofL G[i].value)) ∧ w.cell? ⟨g, o + i * 6 + 3, none⟩ = some (.int .i64 G[i].n) ∧ w.cell? ⟨g, o + i * 6 + 4, none⟩ = some (.int .i64 G[i].m) ∧ w.cell? ⟨g, o + i * 6 + 5, none⟩ = some (.int .i64 G[i].k)) := by
  obtain ⟨p, cap, hv, hn, hc⟩ := h
  refine ⟨p, cap, hv, hn, fun h0 => ?_⟩
  obtain ⟨g, o, hp, hlt, hcell⟩ := hc h0
  refine ⟨g, o, hp, hlt, fun i hi => ?_⟩
  have e : G.getD i zFilt = G[i] := by simp [List.getD, List.getElem?_eq_getElem hi]
  have c := hcell i hi
  dsimp only at c
  rw [e] at c
  exact ⟨c 0 (by decide), c 1 (by decide), c 2 (by decide), c 3 (by decide), c 4 (by decide), c 5 (by decide)⟩
/-- what a list's value says of its room -/
def CapOk (v : Value) : Prop := ∀ p n cap, v = .slice p n cap → n ≤ cap
def clusV (x : Clus) (h : Value) : List Value := [.string (ofL x.name), .int .i64 x.policy, h, .int .i64 x.conns, .int .i64 x.pending, .int .i64 x.try_, .int .i64 x.fails, .int .i64 x.eject, .int .i64 x.panic]
def zClus : Clus := ⟨[], 0, [], 0, 0, 0, 0, 0, 0⟩
def Cluss (w : World) (v : Value) (G : List Clus) : Prop := ∃ hv : Nat → Value, RowsAt w v G.length 9 (fun i j => (clusV (G.getD i zClus) (hv i)).getD j undef) ∧ ∀ i, i < G.length → Texts w (hv i) (G.getD i zClus).hosts ∧ CapOk (hv i)
theorem Cluss.below {w w' : World} {v : Value} {G : List Clus} (h : Cluss w v G) (hb : Below w.heap.size w w') : Cluss w' v G := by
  obtain ⟨hv, h1, h2⟩ := h
  exact ⟨hv, h1.below hb, fun i hi => ⟨Texts.below (h2 i hi).1 hb, (h2 i hi).2⟩⟩
theorem Cluss.parts {w : World} {v : Value} {G : List Clus} (h : Cluss w v G) : ∃ p cap, v = .slice p G.length cap ∧ G.length ≤ 9223372036854775807 ∧ (0 < G.length → ∃ g o, p = some ⟨g, o, none⟩ ∧ g < w.heap.size ∧ ∀ i (hi : i < G.length), ∃ h, Texts w h G[i].hosts ∧
    w.cell? ⟨g, o + i * 9, none⟩ = some (.string (ofL G[i].name)) ∧ w.cell? ⟨g, o + i * 9 + 1, none⟩ = some (.int .i64 G[i].policy) ∧ w.cell? ⟨g, o + i * 9 + 2, none⟩ = some (h) ∧ w.cell? ⟨g, o + i * 9 + 3, none⟩ = some (.int .i64 G[i].conns) ∧ w.cell? ⟨g, o + i * 9 + 4, none⟩ = some (.int .i64 G[i].pending) ∧ w.cell? ⟨g, o + i * 9 + 5, none⟩ = some (.int .i64 G[i].try_) ∧ w.cell? ⟨g, o + i * 9 + 6, none⟩ = some (.int .i64 G[i].fails) ∧ w.cell? ⟨g, o + i * 9 + 7, none⟩ = some (.int .i64 G[i].eject) ∧ w.cell? ⟨g, o + i * 9 + 8, none⟩ = some (.int .i64 G[i].panic)) := by
  obtain ⟨hv, ⟨p, cap, hv', hn, hc⟩, h2⟩ := h
  refine ⟨p, cap, hv', hn, fun h0 => ?_⟩
  obtain ⟨g, o, hp, hlt, hcell⟩ := hc h0
  refine ⟨g, o, hp, hlt, fun i hi => ?_⟩
  have e : G.getD i zClus = G[i] := by simp [List.getD, List.getElem?_eq_getElem hi]
  have c := hcell i hi
  have d := (h2 i hi).1
  dsimp only at c
  rw [e] at c d
  exact ⟨hv i, d, c 0 (by decide), c 1 (by decide), c 2 (by decide), c 3 (by decide), c 4 (by decide), c 5 (by decide), c 6 (by decide), c 7 (by decide), c 8 (by decide)⟩
def routV (x : Rout) : List Value := [.bool x.pre, .string (ofL x.path), .string (ofL x.method), .string (ofL x.field), .string (ofL x.value), .int .i64 x.action, .string (ofL x.cluster), .int .i64 x.status, .string (ofL x.text), .string (ofL x.rewrite), .int .i64 x.retries, .int .i64 x.timeout, .bool x.upgrade]
def zRout : Rout := ⟨false, [], [], [], [], 0, [], 0, [], [], 0, 0, false⟩
def Routs (w : World) (v : Value) (G : List Rout) : Prop := RowsAt w v G.length 13 (fun i j => (routV (G.getD i zRout)).getD j undef)
theorem Routs.below {w w' : World} {v : Value} {G : List Rout} (h : Routs w v G) (hb : Below w.heap.size w w') : Routs w' v G := RowsAt.below h hb
/-- its value and, where there is one, the cells of the i-th -/
theorem Routs.parts {w : World} {v : Value} {G : List Rout} (h : Routs w v G) : ∃ p cap, v = .slice p G.length cap ∧ G.length ≤ 9223372036854775807 ∧ (0 < G.length → ∃ g o, p = some ⟨g, o, none⟩ ∧ g < w.heap.size ∧ ∀ i (hi : i < G.length),
    w.cell? ⟨g, o + i * 13, none⟩ = some (.bool G[i].pre) ∧ w.cell? ⟨g, o + i * 13 + 1, none⟩ = some (.string (ofL G[i].path)) ∧ w.cell? ⟨g, o + i * 13 + 2, none⟩ = some (.string (ofL G[i].method)) ∧ w.cell? ⟨g, o + i * 13 + 3, none⟩ = some (.string (ofL G[i].field)) ∧ w.cell? ⟨g, o + i * 13 + 4, none⟩ = some (.string (ofL G[i].value)) ∧ w.cell? ⟨g, o + i * 13 + 5, none⟩ = some (.int .i64 G[i].action) ∧ w.cell? ⟨g, o + i * 13 + 6, none⟩ = some (.string (ofL G[i].cluster)) ∧ w.cell? ⟨g, o + i * 13 + 7, none⟩ = some (.int .i64 G[i].status) ∧ w.cell? ⟨g, o + i * 13 + 8, none⟩ = some (.string (ofL G[i].text)) ∧ w.cell? ⟨g, o + i * 13 + 9, none⟩ = some (.string (ofL G[i].rewrite)) ∧ w.cell? ⟨g, o + i * 13 + 10, none⟩ = some (.int .i64 G[i].retries) ∧ w.cell? ⟨g, o + i * 13 + 11, none⟩ = some (.int .i64 G[i].timeout) ∧ w.cell? ⟨g, o + i * 13 + 12, none⟩ = some (.bool G[i].upgrade)) := by
  obtain ⟨p, cap, hv, hn, hc⟩ := h
  refine ⟨p, cap, hv, hn, fun h0 => ?_⟩
  obtain ⟨g, o, hp, hlt, hcell⟩ := hc h0
  refine ⟨g, o, hp, hlt, fun i hi => ?_⟩
  have e : G.getD i zRout = G[i] := by simp [List.getD, List.getElem?_eq_getElem hi]
  have c := hcell i hi
  dsimp only at c
  rw [e] at c
  exact ⟨c 0 (by decide), c 1 (by decide), c 2 (by decide), c 3 (by decide), c 4 (by decide), c 5 (by decide), c 6 (by decide), c 7 (by decide), c 8 (by decide), c 9 (by decide), c 10 (by decide), c 11 (by decide), c 12 (by decide)⟩
def vhosV (x : Vhos) (h : Value) : List Value := [.string (ofL x.domain), h]
def zVhos : Vhos := ⟨[], []⟩
def Vhoss (w : World) (v : Value) (G : List Vhos) : Prop := ∃ hv : Nat → Value, RowsAt w v G.length 2 (fun i j => (vhosV (G.getD i zVhos) (hv i)).getD j undef) ∧ ∀ i, i < G.length → Routs w (hv i) (G.getD i zVhos).routes
theorem Vhoss.below {w w' : World} {v : Value} {G : List Vhos} (h : Vhoss w v G) (hb : Below w.heap.size w w') : Vhoss w' v G := by
  obtain ⟨hv, h1, h2⟩ := h
  exact ⟨hv, h1.below hb, fun i hi => Routs.below (h2 i hi) hb⟩
theorem Vhoss.parts {w : World} {v : Value} {G : List Vhos} (h : Vhoss w v G) : ∃ p cap, v = .slice p G.length cap ∧ G.length ≤ 9223372036854775807 ∧ (0 < G.length → ∃ g o, p = some ⟨g, o, none⟩ ∧ g < w.heap.size ∧ ∀ i (hi : i < G.length), ∃ h, Routs w h G[i].routes ∧
    w.cell? ⟨g, o + i * 2, none⟩ = some (.string (ofL G[i].domain)) ∧ w.cell? ⟨g, o + i * 2 + 1, none⟩ = some (h)) := by
  obtain ⟨hv, ⟨p, cap, hv', hn, hc⟩, h2⟩ := h
  refine ⟨p, cap, hv', hn, fun h0 => ?_⟩
  obtain ⟨g, o, hp, hlt, hcell⟩ := hc h0
  refine ⟨g, o, hp, hlt, fun i hi => ?_⟩
  have e : G.getD i zVhos = G[i] := by simp [List.getD, List.getElem?_eq_getElem hi]
  have c := hcell i hi
  have d := h2 i hi
  dsimp only at c
  rw [e] at c d
  exact ⟨hv i, d, c 0 (by decide), c 1 (by decide)⟩
/-- a config's cells; its three lists -/
def confV (c : Conf) (vf vc vv : Value) : Array Value := #[.int .i64 c.conns, .int .i64 c.body, .int .i64 c.idle, .int .i64 c.grace, .int .i64 c.budget, .int .i64 c.seed, vf, vc, vv]
structure CF (w : World) (vf vc vv : Value) (c : Conf) : Prop where
  filters : Filts w vf c.filters
  clusters : Cluss w vc c.clusters
  vhosts : Vhoss w vv c.vhosts
  capc : CapOk vc
  capv : CapOk vv
theorem CF.below {w w' : World} {vf vc vv : Value} {c : Conf} (h : CF w vf vc vv c) (hb : Below w.heap.size w w') : CF w' vf vc vv c := ⟨h.filters.below hb, h.clusters.below hb, h.vhosts.below hb, h.capc, h.capv⟩
structure FitFilt (x : Filt) : Prop where
  kind : -9223372036854775808 ≤ x.kind ∧ x.kind ≤ 9223372036854775807
  name : x.name.length ≤ 1048576
  value : x.value.length ≤ 1048576
  n : -9223372036854775808 ≤ x.n ∧ x.n ≤ 9223372036854775807
  m : -9223372036854775808 ≤ x.m ∧ x.m ≤ 9223372036854775807
  k : -9223372036854775808 ≤ x.k ∧ x.k ≤ 9223372036854775807
structure FitClus (x : Clus) : Prop where
  name : x.name.length ≤ 1048576
  policy : -9223372036854775808 ≤ x.policy ∧ x.policy ≤ 9223372036854775807
  hosts : x.hosts.length ≤ 1048576 ∧ ∀ t ∈ x.hosts, t.length ≤ 1048576
  conns : -9223372036854775808 ≤ x.conns ∧ x.conns ≤ 9223372036854775807
  pending : -9223372036854775808 ≤ x.pending ∧ x.pending ≤ 9223372036854775807
  try_ : -9223372036854775808 ≤ x.try_ ∧ x.try_ ≤ 9223372036854775807
  fails : -9223372036854775808 ≤ x.fails ∧ x.fails ≤ 9223372036854775807
  eject : -9223372036854775808 ≤ x.eject ∧ x.eject ≤ 9223372036854775807
  panic : -9223372036854775808 ≤ x.panic ∧ x.panic ≤ 9223372036854775807
structure FitRout (x : Rout) : Prop where
  path : x.path.length ≤ 1048576
  method : x.method.length ≤ 1048576
  field : x.field.length ≤ 1048576
  value : x.value.length ≤ 1048576
  action : -9223372036854775808 ≤ x.action ∧ x.action ≤ 9223372036854775807
  cluster : x.cluster.length ≤ 1048576
  status : -9223372036854775808 ≤ x.status ∧ x.status ≤ 9223372036854775807
  text : x.text.length ≤ 1048576
  rewrite : x.rewrite.length ≤ 1048576
  retries : -9223372036854775808 ≤ x.retries ∧ x.retries ≤ 9223372036854775807
  timeout : -9223372036854775808 ≤ x.timeout ∧ x.timeout ≤ 9223372036854775807
structure FitVhos (x : Vhos) : Prop where
  domain : x.domain.length ≤ 1048576
  routes : x.routes.length ≤ 1048576 ∧ ∀ r ∈ x.routes, FitRout r
structure FitConf (c : Conf) : Prop where
  conns : -9223372036854775808 ≤ c.conns ∧ c.conns ≤ 9223372036854775807
  body : -9223372036854775808 ≤ c.body ∧ c.body ≤ 9223372036854775807
  idle : -9223372036854775808 ≤ c.idle ∧ c.idle ≤ 9223372036854775807
  grace : -9223372036854775808 ≤ c.grace ∧ c.grace ≤ 9223372036854775807
  budget : -9223372036854775808 ≤ c.budget ∧ c.budget ≤ 9223372036854775807
  seed : -9223372036854775808 ≤ c.seed ∧ c.seed ≤ 9223372036854775807
  filters : c.filters.length ≤ 1048576 ∧ ∀ x ∈ c.filters, FitFilt x
  clusters : c.clusters.length ≤ 1048576 ∧ ∀ x ∈ c.clusters, FitClus x
  vhosts : c.vhosts.length ≤ 1048576 ∧ ∀ x ∈ c.vhosts, FitVhos x
end Go.Proofs.YtfihehobkbfmiaaGreatDoor.ConfMem

/- Layer 14 of the program: what a filter, a route has, taken from a line's words. -/
namespace Go.Proofs.YtfihehobkbfmiaaGreatDoor.PCfgN
open Go.ChangeShapes Go.WideShapes Go.ChangeAt Go.RowKit Bytes LexPure LexNum PathPure ConfPure ConfProg ConfMem Ret Mem PCfgLib PCfgT PCfgW PCfgM
set_option maxRecDepth 100000
set_option linter.unusedVariables false
set_option linter.unusedSimpArgs false
/-- the words in block g, and a box of the call's own -/
structure Wk (w : World) (g r : Nat) (T : TypeId) (cs : Array Value) (R : List L) (left wrong : Bool) (W : World) : Prop where
  st : St W g R left wrong
  box : Has W r T cs
  gr : w.grownBy W (some g)
  lo : w.heap.size ≤ r
  gl : g < w.heap.size
section
variable {w W W' : World} {g r : Nat} {T : TypeId} {cs : Array Value} {R : List L} {left wrong : Bool}
theorem Wk.took (h : Wk w g r T cs R left wrong W) {f : UInt8} (ht : Took W g R wrong f W') : Wk w g r T cs R.tail (!R.tail.isEmpty) (wrong || !okW f (R.headD [])) W' :=
  ⟨ht.st, h.box.grown ht.gr (by have := h.lo; have := h.gl; intro e; injection e with e; omega), own_trans h.gr ht.gr, h.lo, h.gl⟩
theorem Wk.start (h : St w g R left wrong) (T : TypeId) (cs : Array Value) : Wk w g w.heap.size T cs R left wrong (w.alloc (.cells cs T)) :=
  ⟨h.below ((Below.refl _ _).alloc (Nat.le_refl _) _), Has.new w _ _, own_alloc (World.grownBy.refl w _) _, Nat.le_refl _, h.lt⟩
theorem wnum (h : Wk w g r T cs R left wrong W) : Calls Tryz.prog 107 #[.pointer (some ⟨g, 0, none⟩)] W fun e W' => e = .returned (.int .i64 (numW (R.headD []))) ∧ Hid (Wk w g r T cs R.tail (!R.tail.isEmpty) (wrong || !okW 110 (R.headD [])) W') :=
  (pnumber_word g R left wrong W h.st).mono (fun e W' ⟨x1, x2⟩ => ⟨x1, Lib.hid (h.took x2)⟩)
theorem wtext (h : Wk w g r T cs R left wrong W) : Calls Tryz.prog 110 #[.pointer (some ⟨g, 0, none⟩)] W fun e W' => e = .returned (.string (ofL (textV (R.headD [])))) ∧ Hid (Wk w g r T cs R.tail (!R.tail.isEmpty) (wrong || !okW 119 (R.headD [])) W') :=
  (PCfgM.ptext_any g R left wrong W h.st).mono (fun e W' ⟨x1, x2⟩ => ⟨x1, Lib.hid (h.took x2)⟩)
theorem wflag (h : Wk w g r T cs R left wrong W) : Calls Tryz.prog 131 #[.pointer (some ⟨g, 0, none⟩)] W fun e W' => e = .returned (.bool (R.headD [] == [49])) ∧ Hid (Wk w g r T cs R.tail (!R.tail.isEmpty) (wrong || !okW 98 (R.headD [])) W') :=
  (pflag_word g R left wrong W h.st).mono (fun e W' ⟨x1, x2⟩ => ⟨x1, Lib.hid (h.took x2)⟩)
theorem Wk.setRow (h : Wk w g r T cs R left wrong W) (cs2 : Array Value) : Wk w g r T cs2 R left wrong (W.setRow r cs2) := by
  have hne : ∀ k, k < w.heap.size → k ≠ r := fun k hk => by have := h.lo; omega
  have hrow : W.grownBy (W.setRow r cs2) (some r) := ⟨rfl, rfl, rfl, by simp, fun k _ hk => setRow_other W r k _ (fun e => hk (by rw [e]))⟩
  refine ⟨h.st.grown hrow (by have := h.lo; have := h.gl; intro e; injection e with e; omega), ⟨setRow_heap W r cs cs2 T _ h.box.at_⟩, ⟨hrow.os.trans h.gr.os, hrow.tape.trans h.gr.tape, hrow.output.trans h.gr.output, Nat.le_trans h.gr.size hrow.size, fun k hk hn => ?_⟩, h.lo, h.gl⟩
  exact (hrow.block k (Nat.lt_of_lt_of_le hk h.gr.size) (fun e => by injection e with e; exact hne k hk e)).trans (h.gr.block k hk hn)
end
theorem store_whole {ops : Array Oper} {rest : List Oper} {o : Oper} {a : Act} {w : World} {Q : Exit → Act → World → Prop} (hgd : o.guard = none) (T : TypeId) (n : Nat) (hinfo : (Tryz.prog.info? T).map (·.size) = some n) (x y : Operand) (ho : o.op = .store T x y) (r : Nat) (old cs : Array Value) (hH : Has w r T old) (hold : old.size = n) (hn : cs.size = n) (hcs : cs.all (·.oneCell') = true)
    (hx : a.eval x = .pointer (some ⟨r, 0, none⟩)) (hy : a.eval y = .agg cs) (h : wpList Tryz.prog ops Q rest (a.put o.dst undef) (w.setRow r cs)) : wpList Tryz.prog ops Q (o :: rest) a w :=
  wpList_store_row hgd T x y ho r cs hx hy T old hH.at_ (by rw [hn]; exact hinfo) (hold.trans hn.symm) hcs h
theorem filt_size : (Tryz.prog.info? 49).map (·.size) = some 6 := by kernel_rfl
theorem rout_size : (Tryz.prog.info? 45).map (·.size) = some 13 := by kernel_rfl
theorem clus_size : (Tryz.prog.info? 38).map (·.size) = some 9 := by kernel_rfl
theorem conf_size : (Tryz.prog.info? 26).map (·.size) = some 9 := by kernel_rfl
set_option maxHeartbeats 3200000 in
theorem pfilter_any (g : Nat) (R : List L) (left wrong : Bool) (w : World) (h : St w g R left wrong) :
    Calls Tryz.prog 108 #[.pointer (some ⟨g, 0, none⟩)] w fun e w' => e = .returned (.agg (filtV (filtR R)).toArray) ∧ St w' g (R.drop 6) (!(R.drop 6).isEmpty) (wrong || wrongF R FF) ∧ w.grownBy w' (some g) := by
  have K0 := Lib.hid (Wk.start h 49 #[.int .i64 0, .string ⟨#[]⟩, .string ⟨#[]⟩, .int .i64 0, .int .i64 0, .int .i64 0])
  have HD : Hid (∀ (W : World) (r : Nat) (cs : Array Value), Wk w g r 49 cs R.tail.tail.tail.tail.tail.tail (!(R.tail.tail.tail.tail.tail.tail).isEmpty) ((((((wrong || !okW 110 ((R).headD [])) || !okW 119 ((R.tail).headD [])) || !okW 119 ((R.tail.tail).headD [])) || !okW 110 ((R.tail.tail.tail).headD [])) || !okW 110 ((R.tail.tail.tail.tail).headD [])) || !okW 110 ((R.tail.tail.tail.tail.tail).headD [])) W → St W g (R.drop 6) (!(R.drop 6).isEmpty) (wrong || wrongF R FF) ∧ w.grownBy W (some g)) := Lib.hid (fun W r cs hK => by
    have e1 : R.tail.tail.tail.tail.tail.tail = R.drop 6 := by simp [← List.drop_one, List.drop_drop]
    have hs := hK.st
    rw [e1] at hs
    refine ⟨?_, hK.gr⟩
    have e2 : ((((((wrong || !okW 110 ((R).headD [])) || !okW 119 ((R.tail).headD [])) || !okW 119 ((R.tail.tail).headD [])) || !okW 110 ((R.tail.tail.tail).headD [])) || !okW 110 ((R.tail.tail.tail.tail).headD [])) || !okW 110 ((R.tail.tail.tail.tail.tail).headD [])) = (wrong || wrongF R FF) := by
      unfold FF
      simp only [wrongF, Bool.or_false, Bool.or_assoc]
    rw [← e2]
    exact hs)
  obtain ⟨x0, hx0⟩ : ∃ x, Hid (x = numW ((R).headD [])) := ⟨_, Lib.hid rfl⟩
  obtain ⟨x1, hx1⟩ : ∃ x, Hid (x = ofL (textV ((R.tail).headD []))) := ⟨_, Lib.hid rfl⟩
  obtain ⟨x2, hx2⟩ : ∃ x, Hid (x = ofL (textV ((R.tail.tail).headD []))) := ⟨_, Lib.hid rfl⟩
  obtain ⟨x3, hx3⟩ : ∃ x, Hid (x = numW ((R.tail.tail.tail).headD [])) := ⟨_, Lib.hid rfl⟩
  obtain ⟨x4, hx4⟩ : ∃ x, Hid (x = numW ((R.tail.tail.tail.tail).headD [])) := ⟨_, Lib.hid rfl⟩
  obtain ⟨x5, hx5⟩ : ∃ x, Hid (x = numW ((R.tail.tail.tail.tail.tail).headD [])) := ⟨_, Lib.hid rfl⟩
  have hE := Lib.hid (show #[.int .i64 x0, .string x1, .string x2, .int .i64 x3, .int .i64 x4, .int .i64 x5] = (filtV (filtR R)).toArray from by rw [hx0.out, hx1.out, hx2.out, hx3.out, hx4.out, hx5.out]; rfl)
  clear h
  go_enter Tryz.func108, Tryz.ntmps108
  go_wp2_with fail
  refine (wnum K0.out).mono ?_
  rintro e w1 ⟨he, K1⟩
  rw [← hx0.out] at he
  subst he
  clear K0
  go_wp2_with fail
  refine (wtext K1.out).mono ?_
  rintro e w2 ⟨he, K2⟩
  rw [← hx1.out] at he
  subst he
  clear K1
  go_wp2_with fail
  refine (wtext K2.out).mono ?_
  rintro e w3 ⟨he, K3⟩
  rw [← hx2.out] at he
  subst he
  clear K2
  go_wp2_with fail
  refine (wnum K3.out).mono ?_
  rintro e w4 ⟨he, K4⟩
  rw [← hx3.out] at he
  subst he
  clear K3
  go_wp2_with fail
  refine (wnum K4.out).mono ?_
  rintro e w5 ⟨he, K5⟩
  rw [← hx4.out] at he
  subst he
  clear K4
  go_wp2_with fail
  refine (wnum K5.out).mono ?_
  rintro e w6 ⟨he, K6⟩
  rw [← hx5.out] at he
  subst he
  clear K5
  have HB := K6.out.box
  go_wp2_with (refine store_whole rfl 49 6 filt_size _ _ rfl w.heap.size _ _ HB rfl rfl (by simp [Value.oneCell']) rfl rfl ?_)
  have HX := Wk.setRow K6.out (#[.int .i64 x0, .string x1, .string x2, .int .i64 x3, .int .i64 x4, .int .i64 x5])
  refine bodyPost_ret (v := .agg (#[.int .i64 x0, .string x1, .string x2, .int .i64 x3, .int .i64 x4, .int .i64 x5])) (results_cell_row rfl _ _ w.heap.size 49 _ (0, 0) _ rfl HX.box.at_ Tryz.underlying49 rfl (by kernel_rfl)) rfl ?_
  exact ⟨by rw [hE.out], HD.out _ _ _ HX⟩
def routR (R : List L) : Rout := ⟨(R).headD [] == [49], textV ((R.tail).headD []), textV ((R.tail.tail).headD []), textV ((R.tail.tail.tail).headD []), textV ((R.tail.tail.tail.tail).headD []), numW ((R.tail.tail.tail.tail.tail).headD []), textV ((R.tail.tail.tail.tail.tail.tail).headD []), numW ((R.tail.tail.tail.tail.tail.tail.tail).headD []), textV ((R.tail.tail.tail.tail.tail.tail.tail.tail).headD []), textV ((R.tail.tail.tail.tail.tail.tail.tail.tail.tail).headD []), numW ((R.tail.tail.tail.tail.tail.tail.tail.tail.tail.tail).headD []), numW ((R.tail.tail.tail.tail.tail.tail.tail.tail.tail.tail.tail).headD []), (R.tail.tail.tail.tail.tail.tail.tail.tail.tail.tail.tail.tail).headD [] == [49]⟩
set_option maxHeartbeats 3200000 in
theorem proute_any (g : Nat) (R : List L) (left wrong : Bool) (w : World) (h : St w g R left wrong) :
    Calls Tryz.prog 111 #[.pointer (some ⟨g, 0, none⟩)] w fun e w' => e = .returned (.agg (routV (routR R)).toArray) ∧ St w' g (R.drop 13) (!(R.drop 13).isEmpty) (wrong || wrongF R FR) ∧ w.grownBy w' (some g) := by
  have K0 := Lib.hid (Wk.start h 45 #[.bool false, .string ⟨#[]⟩, .string ⟨#[]⟩, .string ⟨#[]⟩, .string ⟨#[]⟩, .int .i64 0, .string ⟨#[]⟩, .int .i64 0, .string ⟨#[]⟩, .string ⟨#[]⟩, .int .i64 0, .int .i64 0, .bool false])
  have HD : Hid (∀ (W : World) (r : Nat) (cs : Array Value), Wk w g r 45 cs R.tail.tail.tail.tail.tail.tail.tail.tail.tail.tail.tail.tail.tail (!(R.tail.tail.tail.tail.tail.tail.tail.tail.tail.tail.tail.tail.tail).isEmpty) (((((((((((((wrong || !okW 98 ((R).headD [])) || !okW 119 ((R.tail).headD [])) || !okW 119 ((R.tail.tail).headD [])) || !okW 119 ((R.tail.tail.tail).headD [])) || !okW 119 ((R.tail.tail.tail.tail).headD [])) || !okW 110 ((R.tail.tail.tail.tail.tail).headD [])) || !okW 119 ((R.tail.tail.tail.tail.tail.tail).headD [])) || !okW 110 ((R.tail.tail.tail.tail.tail.tail.tail).headD [])) || !okW 119 ((R.tail.tail.tail.tail.tail.tail.tail.tail).headD [])) || !okW 119 ((R.tail.tail.tail.tail.tail.tail.tail.tail.tail).headD [])) || !okW 110 ((R.tail.tail.tail.tail.tail.tail.tail.tail.tail.tail).headD [])) || !okW 110 ((R.tail.tail.tail.tail.tail.tail.tail.tail.tail.tail.tail).headD [])) || !okW 98 ((R.tail.tail.tail.tail.tail.tail.tail.tail.tail.tail.tail.tail).headD [])) W → St W g (R.drop 13) (!(R.drop 13).isEmpty) (wrong || wrongF R FR) ∧ w.grownBy W (some g)) := Lib.hid (fun W r cs hK => by
    have e1 : R.tail.tail.tail.tail.tail.tail.tail.tail.tail.tail.tail.tail.tail = R.drop 13 := by simp [← List.drop_one, List.drop_drop]
    have hs := hK.st
    rw [e1] at hs
    refine ⟨?_, hK.gr⟩
    have e2 : (((((((((((((wrong || !okW 98 ((R).headD [])) || !okW 119 ((R.tail).headD [])) || !okW 119 ((R.tail.tail).headD [])) || !okW 119 ((R.tail.tail.tail).headD [])) || !okW 119 ((R.tail.tail.tail.tail).headD [])) || !okW 110 ((R.tail.tail.tail.tail.tail).headD [])) || !okW 119 ((R.tail.tail.tail.tail.tail.tail).headD [])) || !okW 110 ((R.tail.tail.tail.tail.tail.tail.tail).headD [])) || !okW 119 ((R.tail.tail.tail.tail.tail.tail.tail.tail).headD [])) || !okW 119 ((R.tail.tail.tail.tail.tail.tail.tail.tail.tail).headD [])) || !okW 110 ((R.tail.tail.tail.tail.tail.tail.tail.tail.tail.tail).headD [])) || !okW 110 ((R.tail.tail.tail.tail.tail.tail.tail.tail.tail.tail.tail).headD [])) || !okW 98 ((R.tail.tail.tail.tail.tail.tail.tail.tail.tail.tail.tail.tail).headD [])) = (wrong || wrongF R FR) := by
      unfold FR
      simp only [wrongF, Bool.or_false, Bool.or_assoc]
    rw [← e2]
    exact hs)
  obtain ⟨x0, hx0⟩ : ∃ x, Hid (x = ((R).headD [] == [49])) := ⟨_, Lib.hid rfl⟩
  obtain ⟨x1, hx1⟩ : ∃ x, Hid (x = ofL (textV ((R.tail).headD []))) := ⟨_, Lib.hid rfl⟩
  obtain ⟨x2, hx2⟩ : ∃ x, Hid (x = ofL (textV ((R.tail.tail).headD []))) := ⟨_, Lib.hid rfl⟩
  obtain ⟨x3, hx3⟩ : ∃ x, Hid (x = ofL (textV ((R.tail.tail.tail).headD []))) := ⟨_, Lib.hid rfl⟩
  obtain ⟨x4, hx4⟩ : ∃ x, Hid (x = ofL (textV ((R.tail.tail.tail.tail).headD []))) := ⟨_, Lib.hid rfl⟩
  obtain ⟨x5, hx5⟩ : ∃ x, Hid (x = numW ((R.tail.tail.tail.tail.tail).headD [])) := ⟨_, Lib.hid rfl⟩
  obtain ⟨x6, hx6⟩ : ∃ x, Hid (x = ofL (textV ((R.tail.tail.tail.tail.tail.tail).headD []))) := ⟨_, Lib.hid rfl⟩
  obtain ⟨x7, hx7⟩ : ∃ x, Hid (x = numW ((R.tail.tail.tail.tail.tail.tail.tail).headD [])) := ⟨_, Lib.hid rfl⟩
  obtain ⟨x8, hx8⟩ : ∃ x, Hid (x = ofL (textV ((R.tail.tail.tail.tail.tail.tail.tail.tail).headD []))) := ⟨_, Lib.hid rfl⟩
  obtain ⟨x9, hx9⟩ : ∃ x, Hid (x = ofL (textV ((R.tail.tail.tail.tail.tail.tail.tail.tail.tail).headD []))) := ⟨_, Lib.hid rfl⟩
  obtain ⟨x10, hx10⟩ : ∃ x, Hid (x = numW ((R.tail.tail.tail.tail.tail.tail.tail.tail.tail.tail).headD [])) := ⟨_, Lib.hid rfl⟩
  obtain ⟨x11, hx11⟩ : ∃ x, Hid (x = numW ((R.tail.tail.tail.tail.tail.tail.tail.tail.tail.tail.tail).headD [])) := ⟨_, Lib.hid rfl⟩
  obtain ⟨x12, hx12⟩ : ∃ x, Hid (x = ((R.tail.tail.tail.tail.tail.tail.tail.tail.tail.tail.tail.tail).headD [] == [49])) := ⟨_, Lib.hid rfl⟩
  have hE := Lib.hid (show #[.bool x0, .string x1, .string x2, .string x3, .string x4, .int .i64 x5, .string x6, .int .i64 x7, .string x8, .string x9, .int .i64 x10, .int .i64 x11, .bool x12] = (routV (routR R)).toArray from by rw [hx0.out, hx1.out, hx2.out, hx3.out, hx4.out, hx5.out, hx6.out, hx7.out, hx8.out, hx9.out, hx10.out, hx11.out, hx12.out]; rfl)
  clear h
  go_enter Tryz.func111, Tryz.ntmps111
  go_wp2_with fail
  refine (wflag K0.out).mono ?_
  rintro e w1 ⟨he, K1⟩
  rw [← hx0.out] at he
  subst he
  clear K0
  go_wp2_with fail
  refine (wtext K1.out).mono ?_
  rintro e w2 ⟨he, K2⟩
  rw [← hx1.out] at he
  subst he
  clear K1
  go_wp2_with fail
  refine (wtext K2.out).mono ?_
  rintro e w3 ⟨he, K3⟩
  rw [← hx2.out] at he
  subst he
  clear K2
  go_wp2_with fail
  refine (wtext K3.out).mono ?_
  rintro e w4 ⟨he, K4⟩
  rw [← hx3.out] at he
  subst he
  clear K3
  go_wp2_with fail
  refine (wtext K4.out).mono ?_
  rintro e w5 ⟨he, K5⟩
  rw [← hx4.out] at he
  subst he
  clear K4
  go_wp2_with fail
  refine (wnum K5.out).mono ?_
  rintro e w6 ⟨he, K6⟩
  rw [← hx5.out] at he
  subst he
  clear K5
  go_wp2_with fail
  refine (wtext K6.out).mono ?_
  rintro e w7 ⟨he, K7⟩
  rw [← hx6.out] at he
  subst he
  clear K6
  go_wp2_with fail
  refine (wnum K7.out).mono ?_
  rintro e w8 ⟨he, K8⟩
  rw [← hx7.out] at he
  subst he
  clear K7
  go_wp2_with fail
  refine (wtext K8.out).mono ?_
  rintro e w9 ⟨he, K9⟩
  rw [← hx8.out] at he
  subst he
  clear K8
  go_wp2_with fail
  refine (wtext K9.out).mono ?_
  rintro e w10 ⟨he, K10⟩
  rw [← hx9.out] at he
  subst he
  clear K9
  go_wp2_with fail
  refine (wnum K10.out).mono ?_
  rintro e w11 ⟨he, K11⟩
  rw [← hx10.out] at he
  subst he
  clear K10
  go_wp2_with fail
  refine (wnum K11.out).mono ?_
  rintro e w12 ⟨he, K12⟩
  rw [← hx11.out] at he
  subst he
  clear K11
  go_wp2_with fail
  refine (wflag K12.out).mono ?_
  rintro e w13 ⟨he, K13⟩
  rw [← hx12.out] at he
  subst he
  clear K12
  have HB := K13.out.box
  go_wp2_with (refine store_whole rfl 45 13 rout_size _ _ rfl w.heap.size _ _ HB rfl rfl (by simp [Value.oneCell']) rfl rfl ?_)
  have HX := Wk.setRow K13.out (#[.bool x0, .string x1, .string x2, .string x3, .string x4, .int .i64 x5, .string x6, .int .i64 x7, .string x8, .string x9, .int .i64 x10, .int .i64 x11, .bool x12])
  refine bodyPost_ret (v := .agg (#[.bool x0, .string x1, .string x2, .string x3, .string x4, .int .i64 x5, .string x6, .int .i64 x7, .string x8, .string x9, .int .i64 x10, .int .i64 x11, .bool x12])) (results_cell_row rfl _ _ w.heap.size 45 _ (0, 0) _ rfl HX.box.at_ Tryz.underlying45 rfl (by kernel_rfl)) rfl ?_
  exact ⟨by rw [hE.out], HD.out _ _ _ HX⟩
end Go.Proofs.YtfihehobkbfmiaaGreatDoor.PCfgN

/- An own row, later on. No program is named. -/
namespace Go.Proofs.YtfihehobkbfmiaaGreatDoor.RowKeep
open Go.RowKit Mem
theorem row_below {w w' : World} {base n size : Nat} {e : TypeId} {v : Value} {xs : List Value} (h : w.ownsRow base e size v n xs) (hb : Below w.heap.size w w') : w'.ownsRow base e size v n xs := by
  refine ⟨h.1, ?_⟩
  rcases h.2 with h0 | ⟨g, cap, cur, hv, h1, hg, rest⟩
  · exact .inl h0
  · exact .inr ⟨g, cap, cur, hv, h1, (hb.block g (Array.getElem?_eq_some_iff.1 hg).1).trans hg, rest⟩
theorem row_mono {w : World} {base base' n size : Nat} {e : TypeId} {v : Value} {xs : List Value} (h : w.ownsRow base e size v n xs) (hb : base' ≤ base) : w.ownsRow base' e size v n xs := by
  refine ⟨h.1, ?_⟩
  rcases h.2 with h0 | ⟨g, cap, cur, h1, h2, h3⟩
  · exact .inl h0
  · exact .inr ⟨g, cap, cur, h1, Nat.le_trans hb h2, h3⟩
theorem row_form {w : World} {base n size : Nat} {e : TypeId} {v : Value} {xs : List Value} (h : w.ownsRow base e size v n xs) : ∃ p cap, v = .slice p n cap ∧ n ≤ cap := by
  rcases h.2 with ⟨hv, hn⟩ | ⟨g, cap, cur, hv, _, _, hc, _⟩
  · exact ⟨none, 0, by rw [hv, hn], by omega⟩
  · exact ⟨_, cap, hv, hc⟩
/-- its cells -/
theorem row_at {w : World} {base n size : Nat} {e : TypeId} {v : Value} {xs : List Value} (h : w.ownsRow base e size v n xs) (hn : 0 < n) : ∃ g cap, v = .slice (some ⟨g, 0, none⟩) n cap ∧ base ≤ g ∧ g < w.heap.size ∧ n ≤ cap ∧ ∀ j, j < n * size → w.cell? ⟨g, j, none⟩ = xs[j]? := by
  have h0 := h
  rcases h.2 with ⟨_, h1⟩ | ⟨g, cap, cur, hv, hb, hg, hc, _⟩
  · omega
  · subst hv
    exact ⟨g, cap, rfl, hb, (Array.getElem?_eq_some_iff.1 hg).1, hc, fun j hj => h0.cellAt j hj⟩
end Go.Proofs.YtfihehobkbfmiaaGreatDoor.RowKeep

/- Layer 14 of the program: what a cluster has, taken from a line's words. -/
namespace Go.Proofs.YtfihehobkbfmiaaGreatDoor.PCfgO
open Go.ChangeShapes Go.WideShapes Go.ChangeAt Go.RowKit Bytes LexPure LexNum PathPure ConfPure ConfProg ConfMem Ret Mem Texts PCfgLib PCfgT PCfgW PCfgM PCfgN
set_option maxRecDepth 100000
set_option linter.unusedVariables false
set_option linter.unusedSimpArgs false
abbrev KT : TypeId := 38
/-- while the hosts are taken: the words in g, the result's box in r, the cluster's in c, its hosts hv -/
structure Ck (w : World) (g r c : Nat) (zs : Array Value) (cs : Value → Array Value) (hv : Value) (Hs R : List L) (left wrong : Bool) (W : World) : Prop where
  st : St W g R left wrong
  res : Has W r KT zs
  box : Has W c KT (cs hv)
  row : W.ownsRow w.heap.size 9 1 hv Hs.length (Texts.strs Hs)
  gr : w.grownBy W (some g)
  lo : w.heap.size ≤ r
  rc : r < c
  gl : g < w.heap.size
section
variable {w W W' : World} {g r c : Nat} {zs : Array Value} {cs : Value → Array Value} {hv : Value} {Hs R : List L} {left wrong : Bool}
theorem Ck.took (h : Ck w g r c zs cs hv Hs R left wrong W) {f : UInt8} (ht : Took W g R wrong f W') : Ck w g r c zs cs hv Hs R.tail (!R.tail.isEmpty) (wrong || !okW f (R.headD [])) W' :=
  have hl := h.lo
  have hr := h.rc
  have hg := h.gl
  ⟨ht.st, h.res.grown ht.gr (by intro e; injection e with e; omega), h.box.grown ht.gr (by intro e; injection e with e; omega), h.row.kept ht.gr (.inr (fun e => by have := (h.row.lt g e).1; omega)), own_trans h.gr ht.gr, hl, hr, hg⟩
theorem Ck.drew (h : Ck w g r c zs cs hv Hs R left wrong W) : Ck w g r c zs cs hv Hs R left wrong W.drew := by
  obtain ⟨rest, a, b, d⟩ := h.st.ex
  exact ⟨⟨⟨rest, a.drew, b, d⟩⟩, h.res.drew, h.box.drew, h.row.drew, own_drew h.gr, h.lo, h.rc, h.gl⟩
theorem Ck.alloc (h : Ck w g r c zs cs hv Hs R left wrong W) (o : Obj) : Ck w g r c zs cs hv Hs R left wrong (W.alloc o) :=
  ⟨h.st.below ((Below.refl _ _).alloc (Nat.le_refl _) _), h.res.alloc o, h.box.alloc o, h.row.alloc o, own_alloc h.gr o, h.lo, h.rc, h.gl⟩
theorem cutB_len (b : UInt8) : ∀ s : L, (cutB b s).length ≤ s.length + 1
  | [] => Nat.le_refl _
  | c :: s => by
    have ih := cutB_len b s
    rw [cutB]
    split
    · rw [List.length_cons, List.length_cons]; omega
    · split
      · rw [List.length_cons, List.length_cons, List.length_nil]; omega
      · rename_i p ps e
        rw [e] at ih
        rw [List.length_cons] at ih ⊢
        rw [List.length_cons]
        omega
theorem st_len {w : World} {g : Nat} {R : List L} {left wrong : Bool} (h : St w g R left wrong) : R.length ≤ 1099511627777 := by
  obtain ⟨rest, _, hr, hl⟩ := h.ex
  rcases hr with ⟨rfl, _⟩ | ⟨_, rfl⟩
  · exact Nat.zero_le _
  · have := cutB_len 32 rest; omega
theorem row_far {w : World} {base n size : Nat} {e : TypeId} {v : Value} {xs : List Value} (h : w.ownsRow base e size v n xs) {g : Nat} {T : TypeId} {cs : Array Value} (hH : Has w g T cs) (hT : T ≠ e) : v.ownBlock ≠ some g := by
  intro hk
  rcases h.2 with ⟨rfl, _⟩ | ⟨b, cap, cur, rfl, _, hb, _⟩
  · simp [Value.ownBlock] at hk
  · simp [Value.ownBlock] at hk
    subst hk
    have := hH.at_
    rw [hb] at this
    injection this with this
    injection this with _ h2
    exact hT h2.symm
theorem Ck.push (hcs : ∀ a b, (cs a).setIfInBounds 2 b = cs b) (h : Ck w g r c zs cs hv Hs R left wrong W) {v4 : Value} {w4 : World} {t : L} (hown : w4.ownsRow w.heap.size 9 1 v4 (Hs.length + 1) (Texts.strs Hs ++ [.string (ofL t)])) (hg : W.grownBy w4 hv.ownBlock) :
    Ck w g r c zs cs v4 (Hs ++ [t]) R left wrong (w4.setCell ⟨c, 2, none⟩ v4) := by
  have hgl := h.gl
  have hlo := h.lo
  have hrc := h.rc
  have n1 : hv.ownBlock ≠ some r := row_far h.row h.res (by decide)
  have n2 : hv.ownBlock ≠ some c := row_far h.row h.box (by decide)
  have n3 : hv.ownBlock ≠ some g := fun e => by have := (h.row.lt g e).1; omega
  have hb4 := h.box.grown hg (Ne.symm n2)
  have n4 : v4.ownBlock ≠ some c := row_far hown hb4 (by decide)
  have hset : w4.grownBy (w4.setCell ⟨c, 2, none⟩ v4) (some c) := ⟨rfl, rfl, rfl, by simp [World.setCell], fun k _ hk => Below.heap_setCell w4 _ _ k (fun e => hk (by rw [e]))⟩
  refine ⟨(h.st.grown hg (Ne.symm n3)).grown hset (by intro e; injection e with e; omega), (h.res.grown hg (Ne.symm n1)).grown hset (by intro e; injection e with e; omega), ?_, ?_, ?_, hlo, hrc, hgl⟩
  · have := hb4.set_ 2 v4
    rwa [hcs] at this
  · rw [List.length_append, List.length_singleton, show Texts.strs (Hs ++ [t]) = Texts.strs Hs ++ [.string (ofL t)] from by simp [Texts.strs]]
    exact hown.kept hset (.inr n4)
  · refine ⟨hset.os.trans (hg.os.trans h.gr.os), hset.tape.trans (hg.tape.trans h.gr.tape), hset.output.trans (hg.output.trans h.gr.output), Nat.le_trans h.gr.size (Nat.le_trans hg.size hset.size), fun k hk hn => ?_⟩
    have hk1 : k < W.heap.size := Nat.lt_of_lt_of_le hk h.gr.size
    rw [hset.block k (Nat.lt_of_lt_of_le hk1 hg.size) (by intro e; injection e with e; omega), hg.block k hk1 (fun e => by have := (h.row.lt k e.symm).1; omega)]
    exact h.gr.block k hk hn
end
theorem wrongH_snoc (D : List L) (x : L) : wrongH (D ++ [x]) = (wrongH D || !okW 119 x) := by
  unfold wrongH okW
  rw [List.any_append, if_pos rfl]
  simp
set_option maxHeartbeats 3200000 in
theorem pcluster_any (g : Nat) (R : List L) (left wrong : Bool) (w : World) (h : St w g R left wrong) :
    Calls Tryz.prog 109 #[.pointer (some ⟨g, 0, none⟩)] w fun e w' => ∃ hv, e = .returned (.agg #[.string (ofL (textV ((R).headD []))), .int .i64 (numW ((R.tail).headD [])), hv, .int .i64 (numW ((R.tail.tail).headD [])), .int .i64 (numW ((R.tail.tail.tail).headD [])), .int .i64 (numW ((R.tail.tail.tail.tail).headD [])), .int .i64 (numW ((R.tail.tail.tail.tail.tail).headD [])), .int .i64 (numW ((R.tail.tail.tail.tail.tail.tail).headD [])), .int .i64 (numW ((R.tail.tail.tail.tail.tail.tail.tail).headD []))]) ∧ w'.ownsRow w.heap.size 9 1 hv ((R.drop 8).map textV).length (Texts.strs ((R.drop 8).map textV)) ∧ St w' g [] false (wrong || wrongF R FC || wrongH (R.drop 8)) ∧ w.grownBy w' (some g) := by
  have HLn := Lib.hid (st_len h)
  have K0 := Lib.hid (Wk.start h KT #[.string ⟨#[]⟩, .int .i64 0, .slice none 0 0, .int .i64 0, .int .i64 0, .int .i64 0, .int .i64 0, .int .i64 0, .int .i64 0])
  have e1 : Hid (R.tail.tail.tail.tail.tail.tail.tail.tail = R.drop 8) := Lib.hid (by simp [← List.drop_one, List.drop_drop])
  have e2 : Hid (((((((((wrong || !okW 119 ((R).headD [])) || !okW 110 ((R.tail).headD [])) || !okW 110 ((R.tail.tail).headD [])) || !okW 110 ((R.tail.tail.tail).headD [])) || !okW 110 ((R.tail.tail.tail.tail).headD [])) || !okW 110 ((R.tail.tail.tail.tail.tail).headD [])) || !okW 110 ((R.tail.tail.tail.tail.tail.tail).headD [])) || !okW 110 ((R.tail.tail.tail.tail.tail.tail.tail).headD [])) = (wrong || wrongF R FC)) := Lib.hid (by
      unfold FC
      simp only [wrongF, Bool.or_false, Bool.or_assoc])
  obtain ⟨x0, hx0⟩ : ∃ x, Hid (x = ofL (textV ((R).headD []))) := ⟨_, Lib.hid rfl⟩
  obtain ⟨x1, hx1⟩ : ∃ x, Hid (x = numW ((R.tail).headD [])) := ⟨_, Lib.hid rfl⟩
  obtain ⟨x2, hx2⟩ : ∃ x, Hid (x = numW ((R.tail.tail).headD [])) := ⟨_, Lib.hid rfl⟩
  obtain ⟨x3, hx3⟩ : ∃ x, Hid (x = numW ((R.tail.tail.tail).headD [])) := ⟨_, Lib.hid rfl⟩
  obtain ⟨x4, hx4⟩ : ∃ x, Hid (x = numW ((R.tail.tail.tail.tail).headD [])) := ⟨_, Lib.hid rfl⟩
  obtain ⟨x5, hx5⟩ : ∃ x, Hid (x = numW ((R.tail.tail.tail.tail.tail).headD [])) := ⟨_, Lib.hid rfl⟩
  obtain ⟨x6, hx6⟩ : ∃ x, Hid (x = numW ((R.tail.tail.tail.tail.tail.tail).headD [])) := ⟨_, Lib.hid rfl⟩
  obtain ⟨x7, hx7⟩ : ∃ x, Hid (x = numW ((R.tail.tail.tail.tail.tail.tail.tail).headD [])) := ⟨_, Lib.hid rfl⟩
  have hE : Hid (∀ hv, Value.agg #[.string x0, .int .i64 x1, hv, .int .i64 x2, .int .i64 x3, .int .i64 x4, .int .i64 x5, .int .i64 x6, .int .i64 x7] = .agg #[.string (ofL (textV ((R).headD []))), .int .i64 (numW ((R.tail).headD [])), hv, .int .i64 (numW ((R.tail.tail).headD [])), .int .i64 (numW ((R.tail.tail.tail).headD [])), .int .i64 (numW ((R.tail.tail.tail.tail).headD [])), .int .i64 (numW ((R.tail.tail.tail.tail.tail).headD [])), .int .i64 (numW ((R.tail.tail.tail.tail.tail.tail).headD [])), .int .i64 (numW ((R.tail.tail.tail.tail.tail.tail.tail).headD []))]) := Lib.hid (fun hv => by rw [hx0.out, hx1.out, hx2.out, hx3.out, hx4.out, hx5.out, hx6.out, hx7.out])
  unfold KT at K0
  obtain ⟨i0, hi, hz0, hz1, hz2⟩ := info_parts infoS
  clear h
  go_enter Tryz.func109, Tryz.ntmps109
  go_wp2_with fail
  refine (wtext K0.out).mono ?_
  rintro e w1 ⟨he, K1⟩
  rw [← hx0.out] at he
  subst he
  clear K0
  go_wp2_with fail
  refine (wnum K1.out).mono ?_
  rintro e w2 ⟨he, K2⟩
  rw [← hx1.out] at he
  subst he
  clear K1
  go_wp2_with fail
  refine (wnum K2.out).mono ?_
  rintro e w3 ⟨he, K3⟩
  rw [← hx2.out] at he
  subst he
  clear K2
  go_wp2_with fail
  refine (wnum K3.out).mono ?_
  rintro e w4 ⟨he, K4⟩
  rw [← hx3.out] at he
  subst he
  clear K3
  go_wp2_with fail
  refine (wnum K4.out).mono ?_
  rintro e w5 ⟨he, K5⟩
  rw [← hx4.out] at he
  subst he
  clear K4
  go_wp2_with fail
  refine (wnum K5.out).mono ?_
  rintro e w6 ⟨he, K6⟩
  rw [← hx5.out] at he
  subst he
  clear K5
  go_wp2_with fail
  refine (wnum K6.out).mono ?_
  rintro e w7 ⟨he, K7⟩
  rw [← hx6.out] at he
  subst he
  clear K6
  go_wp2_with fail
  refine (wnum K7.out).mono ?_
  rintro e w8 ⟨he, K8⟩
  rw [← hx7.out] at he
  subst he
  clear K7
  rw [e1.out, e2.out] at K8
  have C0 : Hid (Ck w g w.heap.size w8.heap.size #[.string ⟨#[]⟩, .int .i64 0, .slice none 0 0, .int .i64 0, .int .i64 0, .int .i64 0, .int .i64 0, .int .i64 0, .int .i64 0] (fun hv => #[.string x0, .int .i64 x1, hv, .int .i64 x2, .int .i64 x3, .int .i64 x4, .int .i64 x5, .int .i64 x6, .int .i64 x7]) (.slice none 0 0) [] (R.drop 8) (!(R.drop 8).isEmpty) (wrong || wrongF R FC) (w8.alloc (.cells #[.string x0, .int .i64 x1, .slice none 0 0, .int .i64 x2, .int .i64 x3, .int .i64 x4, .int .i64 x5, .int .i64 x6, .int .i64 x7] 38))) := Lib.hid
    ⟨K8.out.st.below ((Below.refl _ _).alloc (Nat.le_refl _) _), K8.out.box.alloc _, Has.new w8 _ _, World.ownsRow_nil _ _ _ _, own_alloc K8.out.gr _, Nat.le_refl _, K8.out.box.lt, K8.out.gl⟩
  generalize hW : w8.alloc (.cells #[.string x0, .int .i64 x1, .slice none 0 0, .int .i64 x2, .int .i64 x3, .int .i64 x4, .int .i64 x5, .int .i64 x6, .int .i64 x7] 38) = W0 at C0
  obtain ⟨c, hc⟩ : ∃ c, c = w8.heap.size := ⟨_, rfl⟩
  rw [← hc] at C0
  have HW := Lib.hid hW
  have HC := Lib.hid hc
  clear hW hc K8
  go_wp2_with fail
  rw [HW.out, ← HC.out]
  obtain ⟨N0, hN0⟩ : ∃ N, N = (R.drop 8).length := ⟨_, rfl⟩
  have H0 : Hid (∃ D R', R'.length = N0 ∧ R.drop 8 = D ++ R' ∧ ∃ hv, Ck w g w.heap.size c #[.string ⟨#[]⟩, .int .i64 0, .slice none 0 0, .int .i64 0, .int .i64 0, .int .i64 0, .int .i64 0, .int .i64 0, .int .i64 0] (fun hv => #[.string x0, .int .i64 x1, hv, .int .i64 x2, .int .i64 x3, .int .i64 x4, .int .i64 x5, .int .i64 x6, .int .i64 x7]) hv (D.map textV) R' (!R'.isEmpty) (wrong || wrongF R FC || wrongH D) W0) := Lib.hid ⟨[], R.drop 8, hN0.symm, rfl, _, by rw [show wrongH [] = false from rfl, Bool.or_false]; exact C0.out⟩
  clear C0 hN0 HW HC
  go_loopg [] N0 (fun n wr => Hid (∃ D R', R'.length = n ∧ R.drop 8 = D ++ R' ∧ ∃ hv, Ck w g w.heap.size c #[.string ⟨#[]⟩, .int .i64 0, .slice none 0 0, .int .i64 0, .int .i64 0, .int .i64 0, .int .i64 0, .int .i64 0, .int .i64 0] (fun hv => #[.string x0, .int .i64 x1, hv, .int .i64 x2, .int .i64 x3, .int .i64 x4, .int .i64 x5, .int .i64 x6, .int .i64 x7]) hv (D.map textV) R' (!R'.isEmpty) (wrong || wrongF R FC || wrongH D) wr))
  case atStart => exact H0
  case round =>
    clear H0
    obtain ⟨D, R', hn, hR, hv, C⟩ := hrel.out
    have C1 := Lib.hid C
    obtain ⟨c1, _, _⟩ := C.st.cells
    have hRh := Lib.hid hR
    have hnh := Lib.hid hn
    clear C hR hn
    have hnb : (D.map textV).length ≤ 1099511627777 := by
      have h1 := congrArg List.length hRh.out
      rw [List.length_drop, List.length_append] at h1
      have := HLn.out
      rw [List.length_map]
      omega
    obtain ⟨ph, ch, hvv, _⟩ := RowKeep.row_form C1.out.row
    obtain ⟨nn, hnn⟩ : ∃ nn, nn = (D.map textV).length := ⟨_, rfl⟩
    rw [← hnn] at hvv hnb
    have HNN := Lib.hid hnn
    clear hnn
    subst hvv
    cases R' with
    | nil =>
      replace c1 : wr.cell? ⟨g, 1, none⟩ = some (.bool false) := c1
      have HB := C1.out.box
      have HR := C1.out.res
      have b0 : wr.cell? ⟨c, 0, none⟩ = some (.string x0) := HB.cell 0
      have b1 : wr.cell? ⟨c, 1, none⟩ = some (.int .i64 x1) := HB.cell 1
      have b2 : wr.cell? ⟨c, 2, none⟩ = some (.slice ph nn ch) := HB.cell 2
      have b3 : wr.cell? ⟨c, 3, none⟩ = some (.int .i64 x2) := HB.cell 3
      have b4 : wr.cell? ⟨c, 4, none⟩ = some (.int .i64 x3) := HB.cell 4
      have b5 : wr.cell? ⟨c, 5, none⟩ = some (.int .i64 x4) := HB.cell 5
      have b6 : wr.cell? ⟨c, 6, none⟩ = some (.int .i64 x5) := HB.cell 6
      have b7 : wr.cell? ⟨c, 7, none⟩ = some (.int .i64 x6) := HB.cell 7
      have b8 : wr.cell? ⟨c, 8, none⟩ = some (.int .i64 x7) := HB.cell 8
      have HQ := Lib.hid (fun (hl : St wr g [] false (wrong || wrongF R FC || wrongH D)) => hl)
      have HS := Lib.hid C1.out.st
      have HRow := Lib.hid C1.out.row
      have HGr := Lib.hid C1.out.gr
      have HLt := Lib.hid (And.intro C1.out.gl (And.intro C1.out.lo C1.out.rc))
      have hrow : Hid (∀ cs2, wr.grownBy (wr.setRow w.heap.size cs2) (some w.heap.size)) := Lib.hid (fun cs2 => ⟨rfl, rfl, rfl, by simp, fun k _ hk => setRow_other wr w.heap.size k _ (fun e => hk (by rw [e]))⟩)
      clear HB C1 HQ
      go_wp2_with (refine store_whole rfl 38 9 clus_size _ _ rfl w.heap.size _ _ HR rfl rfl (by simp [Value.oneCell']) rfl rfl ?_)
      have hset := setRow_heap wr w.heap.size _ (#[.string x0, .int .i64 x1, .slice ph nn ch, .int .i64 x2, .int .i64 x3, .int .i64 x4, .int .i64 x5, .int .i64 x6, .int .i64 x7]) 38 _ HR.at_
      refine bodyPost_ret (v := .agg (#[.string x0, .int .i64 x1, .slice ph nn ch, .int .i64 x2, .int .i64 x3, .int .i64 x4, .int .i64 x5, .int .i64 x6, .int .i64 x7])) (results_cell_row rfl _ _ w.heap.size 38 _ (0, 0) _ rfl hset Tryz.underlying38 rfl (by kernel_rfl)) rfl ?_
      have hD : R.drop 8 = D := by rw [hRh.out, List.append_nil]
      have hn1 : (Value.slice ph nn ch).ownBlock ≠ some w.heap.size := row_far HRow.out HR (by decide)
      refine ⟨_, by rw [hE.out], ?_, ?_, ?_⟩
      · rw [hD]
        exact HRow.out.kept (hrow.out _) (.inr hn1)
      · rw [hD]
        exact HS.out.grown (hrow.out _) (by have := HLt.out.1; intro e; injection e with e; omega)
      · have hr := hrow.out (#[.string x0, .int .i64 x1, .slice ph nn ch, .int .i64 x2, .int .i64 x3, .int .i64 x4, .int .i64 x5, .int .i64 x6, .int .i64 x7])
        refine ⟨hr.os.trans HGr.out.os, hr.tape.trans HGr.out.tape, hr.output.trans HGr.out.output, Nat.le_trans HGr.out.size hr.size, fun k hk hn => ?_⟩
        exact (hr.block k (Nat.lt_of_lt_of_le hk HGr.out.size) (fun e => by injection e with e; omega)).trans (HGr.out.block k hk hn)
    | cons hw R2 =>
      replace c1 : wr.cell? ⟨g, 1, none⟩ = some (.bool true) := c1
      have CD := C1.out.drew
      have HTx := Lib.hid ((PCfgM.ptext_any g (hw :: R2) _ _ wr.drew CD.st).mono (fun e W' ⟨x1, x2⟩ => And.intro x1 (CD.took x2)))
      obtain ⟨t, ht⟩ : ∃ t, Hid (t = textV hw) := ⟨_, Lib.hid rfl⟩
      have d2 : wr.drew.cell? ⟨c, 2, none⟩ = some (.slice ph nn ch) := CD.box.cell 2
      go_wp2_with fail
      go_region_law (first
        | (refine step_append_lies _ (by rfl) (.tmp 26) (.tmp 29) 36 (by rfl) w.heap.size 9 i0 (.string ByteArray.empty) 1 16 Tryz.underlying36 hi hz0 hz1 hz2 (by rfl) (by decide) (.slice ph nn ch) nn (Texts.strs (D.map textV)) (by rfl) HR3 ⟨w2.heap.size, 0, none⟩ 1 1 [.string (ofL t)] (by rfl) (by rfl) HN (by simp [Value.oneCell']) (by omega) (by unfold maxLen; omega) (by omega) (Nat.le_trans C3.gr.size (Nat.le_refl _)) (w2.heap.size + 1) (by simp) ?_; intro g4 cap4 w4 hown4 hg4 hat4 hlt4; have hb4 := C3.box.grown hg4 (Ne.symm (row_far C3.row C3.box (by decide))); have c4 : w4.cell? ⟨c, 2, none⟩ = some (.slice ph nn ch) := hb4.cell 2; have z4 := hb4.free 2)
        | (go_simp; go_at_call 110; refine HTx.out.mono ?_; rintro e w2 ⟨he, C2⟩; rw [show textV ((hw :: R2).headD []) = t from ht.out.symm] at he; subst he; have k2 : w2.cell? ⟨c, 2, none⟩ = some (.slice ph nn ch) := C2.box.cell 2; have C3 := C2.alloc (.cells #[.string (ofL t)] 9); have k3 : (w2.alloc (.cells #[.string (ofL t)] 9)).cell? ⟨c, 2, none⟩ = some (.slice ph nn ch) := C3.box.cell 2; have HR3 := C3.row; rw [← HNN.out] at HR3; have HN := World.news_of_block (heap_alloc_new w2 (.cells #[.string (ofL t)] 9))))
      all_goals
        have CP := Ck.push (fun _ _ => rfl) C3 (by rw [← HNN.out]; exact hown4) hg4
        have HP : Hid (∃ D R', R'.length = R2.length ∧ R.drop 8 = D ++ R' ∧ ∃ hv, Ck w g w.heap.size c #[.string ⟨#[]⟩, .int .i64 0, .slice none 0 0, .int .i64 0, .int .i64 0, .int .i64 0, .int .i64 0, .int .i64 0, .int .i64 0] (fun hv => #[.string x0, .int .i64 x1, hv, .int .i64 x2, .int .i64 x3, .int .i64 x4, .int .i64 x5, .int .i64 x6, .int .i64 x7]) hv (D.map textV) R' (!R'.isEmpty) (wrong || wrongF R FC || wrongH D) (w4.setCell ⟨c, 2, none⟩ (.slice (some ⟨g4, 0, none⟩) (nn + 1) cap4))) := Lib.hid ⟨D ++ [hw], R2, rfl, by rw [hRh.out]; simp, _, by
          rw [wrongH_snoc, List.map_append, List.map_singleton, ← ht.out, ← Bool.or_assoc]
          exact CP⟩
        have hm : R2.length < gk := by
          have := hnh.out
          rw [List.length_cons] at this
          omega
        clear CP hown4 hg4 hat4 hlt4 hb4 c4 z4 C3 HR3 HN C2 k2 k3 CD C1 HTx
        go_wp2_with fail
        go_roundg R2.length
        case measure => exact hm
        case rel => exact HP
end Go.Proofs.YtfihehobkbfmiaaGreatDoor.PCfgO
