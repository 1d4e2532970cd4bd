/- Texts of this seat, one behind another: ItoaLays, PCfgLib, PCfgT, PCfgM, BulkOf, RowsArg, ConfMem, PCfgN, RowKeep, PCfgO, ConfAt, ConfOwn, ConfCF, PCfgP, PCfgQ. -/
import Derived.Shelf.Strconv.Itoa3
import Derived.Test.YtfihehobkbfmiaaGreatDoorProg
import Derived.Lib.SmallJoins
import Derived.Maps.AppendAt
import Derived.Test.YtfihehobkbfmiaaGreatDoorRows
import Derived.Deep.Slices
import Derived.Deep.Fields
import Derived.ChangeSame
import Derived.Deep.Draws
import Derived.Below
import Derived.Lib.Hide
import Derived.Laws.Tables
import Derived.Laws.ResultCell
import Derived.OwnWalk
import Derived.Deep.RegionHeld3
import Derived.Deep.RegionWith
import Derived.Deep.RegionLaw
import Derived.Deep.AppendLies
import Derived.Test.YtfihehobkbfmiaaGreatDoorA1
import Derived.Test.YtfihehobkbfmiaaGreatDoorA2
/-
  DERIVED: THE SHELF's CONTRACTS AT THIS DUMP, IN PLAIN WORDS (tools/lay-plain.mjs out of 'YtfihehobkbfmiaaGreatDoorItoaLaysT.lean', which tools/lay-shelf.mjs wrote): THE SAME DECLARATIONS UNDER THE SAME NAMES: 'import', 'namespace', 'open', 'def', 'theorem' AND NOTHING ELSE: no command of the shelf's: FOR A HAND-IN. Each laying: the table of numbers ('.._ren') and one theorem, a field a fact of the dump's own or the kernel's comparison; each contract: ONE APPLICATION.
-/
namespace Go.Proofs
open Go.Shelf
def Tryz.lays171_ren : Go.Shelf.Ren := ⟨fun | 171 => 69 | 243 => 104 | 246 => 127 | 283 => 141 | 284 => 142 | 285 => 143 | 286 => 144 | 129 => 165 | 317 => 164 | 318 => 166 | 319 => 167 | 320 => 168 | 337 => 180 | 338 => 181 | n => n, fun | 3 => 3 | 9 => 9 | 2 => 2 | 4 => 4 | 171 => 134 | 0 => 0 | 53 => 135 | 37 => 61 | 5 => 5 | 173 => 138 | 212 => 153 | 51 => 154 | 20 => 20 | 213 => 155 | 46 => 83 | 232 => 167 | 233 => 168 | n => n, fun | 17 => 1 | 18 => 2 | 19 => 3 | n => n⟩
theorem Tryz.lays171 : Go.Proofs.LaysM.n171 Tryz.prog Tryz.lays171_ren := {
  mixed := by kernel_rfl
  f129 := Tryz.func165.trans (congrArg some (by kernel_rfl))
  f171 := Tryz.func69.trans (congrArg some (by kernel_rfl))
  f243 := Tryz.func104.trans (congrArg some (by kernel_rfl))
  f246 := Tryz.func127.trans (congrArg some (by kernel_rfl))
  f283 := Tryz.func141.trans (congrArg some (by kernel_rfl))
  f284 := Tryz.func142.trans (congrArg some (by kernel_rfl))
  f285 := Tryz.func143.trans (congrArg some (by kernel_rfl))
  f286 := Tryz.func144.trans (congrArg some (by kernel_rfl))
  f317 := Tryz.func164.trans (congrArg some (by kernel_rfl))
  f318 := Tryz.func166.trans (congrArg some (by kernel_rfl))
  f319 := Tryz.func167.trans (congrArg some (by kernel_rfl))
  f320 := Tryz.func168.trans (congrArg some (by kernel_rfl))
  f337 := Tryz.func180.trans (congrArg some (by kernel_rfl))
  f338 := Tryz.func181.trans (congrArg some (by kernel_rfl))
  t0 := Tryz.underlying0
  a0 := Tryz.isAgg0
  z0 := Tryz.sizeOf0
  v0 := Tryz.zeroValue0
  t2 := Tryz.underlying2
  a2 := Tryz.isAgg2
  z2 := Tryz.sizeOf2
  v2 := Tryz.zeroValue2
  t3 := Tryz.underlying3
  a3 := Tryz.isAgg3
  z3 := Tryz.sizeOf3
  v3 := Tryz.zeroValue3
  t4 := Tryz.underlying4
  a4 := Tryz.isAgg4
  z4 := Tryz.sizeOf4
  v4 := Tryz.zeroValue4
  t5 := Tryz.underlying5
  a5 := Tryz.isAgg5
  z5 := Tryz.sizeOf5
  v5 := Tryz.zeroValue5
  t9 := Tryz.underlying9
  a9 := Tryz.isAgg9
  z9 := Tryz.sizeOf9
  v9 := Tryz.zeroValue9
  t20 := Tryz.underlying20
  a20 := Tryz.isAgg20
  z20 := Tryz.sizeOf20
  v20 := Tryz.zeroValue20
  t37 := Tryz.underlying61
  a37 := Tryz.isAgg61
  z37 := Tryz.sizeOf61
  v37 := Tryz.zeroValue61
  t46 := Tryz.underlying83
  a46 := Tryz.isAgg83
  z46 := Tryz.sizeOf83
  v46 := Tryz.zeroValue83
  t51 := Tryz.underlying154
  a51 := Tryz.isAgg154
  z51 := Tryz.sizeOf154
  v51 := Tryz.zeroValue154
  t53 := Tryz.underlying135
  a53 := Tryz.isAgg135
  z53 := Tryz.sizeOf135
  v53 := Tryz.zeroValue135
  t171 := Tryz.underlying134
  a171 := Tryz.isAgg134
  z171 := Tryz.sizeOf134
  v171 := Tryz.zeroValue134
  t173 := Tryz.underlying138
  a173 := Tryz.isAgg138
  z173 := Tryz.sizeOf138
  v173 := Tryz.zeroValue138
  t212 := Tryz.underlying153
  a212 := Tryz.isAgg153
  z212 := Tryz.sizeOf153
  v212 := Tryz.zeroValue153
  t213 := Tryz.underlying155
  a213 := Tryz.isAgg155
  z213 := Tryz.sizeOf155
  t232 := Tryz.underlying167
  a232 := Tryz.isAgg167
  z232 := Tryz.sizeOf167
  v232 := Tryz.zeroValue167
  t233 := Tryz.underlying168
  a233 := Tryz.isAgg168
  z233 := Tryz.sizeOf168
  v233 := Tryz.zeroValue168
  g17 := by kernel_rfl
  g18 := by kernel_rfl
  g19 := by kernel_rfl
  i0 := by kernel_rfl
  i2 := by kernel_rfl
  i3 := by kernel_rfl
  i4 := by kernel_rfl
  i5 := by kernel_rfl
  i9 := by kernel_rfl
  i20 := by kernel_rfl
  i37 := by kernel_rfl
  i46 := by kernel_rfl
  i51 := by kernel_rfl
  i53 := by kernel_rfl
  i171 := by kernel_rfl
  i173 := by kernel_rfl
  i212 := by kernel_rfl
  i232 := by kernel_rfl
  i233 := by kernel_rfl
  m17 := by kernel_rfl
  m18 := by kernel_rfl
  m19 := by kernel_rfl }
end Go.Proofs

/- Layer 14 of the program: what it calls of the library. -/
namespace Go.Proofs.YtfihehobkbfmiaaGreatDoor.PCfgLib
open Go.ChangeShapes Go.WideShapes Go.ChangeAt Go.RowKit Bytes LexPure EmitPure DecN Mem Ret Rows1 Texts ConfProg
set_option maxRecDepth 100000
set_option linter.unusedVariables false
set_option linter.unusedSimpArgs false
abbrev MaxInt := PUnder.MaxInt
/-- what strconv's table says -/
def Pow (w : World) : Prop := Lib.TabIs Tryz.prog w "internal/strconv.uint64pow10" .u64 Lib.pow10Tab
theorem Pow.below {w w' : World} (h : Pow w) (hb : Below w.heap.size w w') : Pow w' :=
  Go.Joins.tab_stays (g := 1) (by kernel_rfl) h hb (Nat.le_refl _)
theorem dec_say (n : Nat) : Lib.decDigits n = decN n := by
  induction n using Nat.strongRecOn with
  | ind n ih =>
    by_cases h : n < 10
    · rw [decN_small h, Lib.decDigits, dif_pos h]
      rfl
    · rw [decN_more h, Lib.decDigits, dif_neg h, ih (n / 10) (by omega)]
      rfl
theorem itoa_say (n : Int) : Lib.itoa n = decZ n := by
  unfold Lib.itoa decZ
  rw [dec_say, dec_say]
  split
  · rfl
  · rw [show n.toNat = n.natAbs by omega]
theorem decZ_len {n : Int} (h0 : -9223372036854775808 ≤ n) (h1 : n ≤ 9223372036854775807) : (decZ n).length ≤ 20 := by
  have h := decN_len 18 n.natAbs (by omega)
  unfold decZ
  split
  · rw [List.length_cons]; omega
  · omega
theorem pitoa (n : Int) (h0 : -9223372036854775808 ≤ n) (h1 : n ≤ 9223372036854775807) (w : World) (hp : Pow w) :
    Calls Tryz.prog 69 #[.int .i64 n] w fun e w' => e = .returned (.string (ofL (decZ n))) ∧ Below w.heap.size w w' := by
  refine (Any.strconv_Itoa Tryz.lays171 n h0 h1 w hp).mono ?_
  rintro e w' ⟨rfl, k, os, rfl⟩
  rw [itoa_say]
  exact ⟨rfl, rfl, rfl, rfl, by simp [Sort.grow], fun i hi => by simp [Sort.grow, Array.getElem?_append_left, hi]⟩
theorem lib_trimp (s : ByteArray) (w : World) :
    Calls Tryz.prog 90 #[.string s, .string ⟨#[42, 46]⟩] w fun e w' => e = .returned (.string (ofL (trimP (toL s)))) ∧ w' = w := by
  refine (Any.strings_TrimPrefix Tryz.lays101 s ⟨#[42, 46]⟩ w).mono ?_
  rintro e w' ⟨rfl, rfl⟩
  refine ⟨ret_string ?_, rfl⟩
  apply toL_inj
  rw [toL_ofL]
  show Lib.trimPrefix (toL s) [42, 46] = _
  show (if ([42, 46] : List UInt8).isPrefixOf (toL s) then (toL s).drop 2 else toL s) = trimP (toL s)
  rfl
/-! ### strings.Join at a blank -/
theorem extra156 : Builder.Extra Tryz.prog Tryz.lays156_ren := {
  sizeBuilder := by kernel_rfl
  liesBuilder := by kernel_rfl
  t5 := Tryz.underlying5
  a5 := Tryz.isAgg5
  z5 := Tryz.sizeOf5
  v5 := Tryz.zeroValue5
  infoByte := by kernel_rfl
  cellsByte := by kernel_rfl
  sizeByte := by kernel_rfl
  neB5 := by decide }
theorem map_ofL (G : List (List UInt8)) : (G.map ofL).map (·.data.toList) = G := by
  rw [List.map_map]
  conv => rhs; rw [← List.map_id G]
  exact List.map_congr_left (fun x _ => toL_ofL x)
theorem lib_join {w : World} {p : Option Addr} {cap : Nat} {G : List (List UInt8)} (h : Texts w (.slice p G.length cap) G) (hcap : G.length ≤ cap) (hG : G ≠ []) (hl : (Lib.join G [32]).length ≤ 140737488355328) (hn : G.length ≤ 140737488355328) :
    Calls Tryz.prog 68 #[.slice p G.length cap, .string ⟨#[32]⟩] w fun e w' => e = .returned (.string (ofL (Lib.join G [32]))) ∧ Below w.heap.size w w' := by
  obtain ⟨p2, cap2, hv, _, hc⟩ := h
  injection hv with e1 _ _
  subst e1
  have h0 : 0 < G.length := List.length_pos_iff.2 hG
  obtain ⟨g, o, rfl, hg, hcell⟩ := hc h0
  have H := Any.strings_Join Tryz.lays156 extra156 g o cap (G.map ofL) ⟨#[32]⟩ w (fun j x hx => by
    rw [List.getElem?_map] at hx
    cases hj : G[j]? with
    | none => rw [hj] at hx; cases hx
    | some y =>
      rw [hj] at hx
      have hx' : ofL y = x := by simpa using hx
      have hlt : j < G.length := (List.getElem?_eq_some_iff.1 hj).1
      rw [hcell j hlt, ← hx']
      have := List.getElem?_eq_getElem hlt
      rw [hj] at this
      injection this with this
      rw [this]) hg (by rw [List.length_map]; exact hn) (by rw [List.length_map]; exact hcap) (by
    rw [map_ofL, show (⟨#[32]⟩ : ByteArray).data.toList = [32] from rfl]; exact hl)
  rw [map_ofL, show (⟨#[32]⟩ : ByteArray).data.toList = [32] from rfl, List.length_map] at H
  exact H
end Go.Proofs.YtfihehobkbfmiaaGreatDoor.PCfgLib

/- Layer 14 of the program: its small tests. -/
namespace Go.Proofs.YtfihehobkbfmiaaGreatDoor.PCfgT
open Go.ChangeShapes Go.WideShapes Go.ChangeAt Go.RowKit Bytes LexPure HostPure RHostPure PathPure EmitPure ConfPure ConfProg Ret Mem RNormal PCfgLib
set_option maxRecDepth 100000
set_option linter.unusedVariables false
set_option linter.unusedSimpArgs false
theorem text_is (a b : L) : ((ofL a).toList == b) = (a == b) := by
  rw [ByteArray.toList_eq]
  show (toL (ofL a) == b) = _
  rw [toL_ofL]
theorem text_two (a : L) (s : ByteArray) : ((ofL a).toList == s.toList) = (a == toL s) := by
  rw [ByteArray.toList_eq, ByteArray.toList_eq]
  show (toL (ofL a) == toL s) = _
  rw [toL_ofL]
theorem pwithin_any (n a b : Int) (w : World) :
    Calls Tryz.prog 46 #[.int .i64 n, .int .i64 a, .int .i64 b] w fun e w' => e = .returned (.bool (inB n a b)) ∧ w = w' := by
  unfold inB
  by_cases h1 : a ≤ n
  · by_cases h2 : n ≤ b
    · rw [decide_eq_true h1, decide_eq_true h2]
      go_enter Tryz.func46, Tryz.ntmps46
      go_wp2_with fail
      go_ret
      exact ⟨rfl, rfl⟩
    · rw [decide_eq_true h1, decide_eq_false h2]
      go_enter Tryz.func46, Tryz.ntmps46
      go_wp2_with fail
      go_ret
      exact ⟨rfl, rfl⟩
  · rw [decide_eq_false h1]
    go_enter Tryz.func46, Tryz.ntmps46
    go_wp2_with fail
    go_ret
    exact ⟨rfl, rfl⟩
theorem prate_any (n : Int) (w : World) :
    Calls Tryz.prog 49 #[.int .i64 n] w fun e w' => e = .returned (.bool (inB n 1 1073741824)) ∧ w = w' := by
  have H := Lib.hid (pwithin_any n 1 1073741824 w)
  generalize inB n 1 1073741824 = b at H ⊢
  go_enter Tryz.func49, Tryz.ntmps49
  go_wp2_with fail
  refine H.out.mono ?_
  rintro e w1 ⟨rfl, rfl⟩
  go_wp2_with fail
  go_ret
  exact ⟨rfl, rfl⟩
theorem ptok_any (s : ByteArray) (hs : s.size ≤ 1048576) (m : Nat) (hm : m ≤ 1000) (w : World) :
    Calls Tryz.prog 51 #[.string s, .int .i64 m] w fun e w' => e = .returned (.bool (tokenB (toL s) m)) ∧ w = w' := by
  have HT := Lib.hid (PToken.ptoken_any s (by unfold maxLen; omega) w)
  unfold tokenB
  rw [toL_length]
  generalize token (toL s) = t at HT ⊢
  by_cases h2 : s.size ≤ m
  · have h3 : decide ((s.size : Int) ≤ (m : Int)) = true := decide_eq_true (by omega)
    have h4 : decide (s.size ≤ m) = true := decide_eq_true h2
    rw [h4]
    clear hs h2 hm
    go_enter Tryz.func51, Tryz.ntmps51
    go_wp2_with fail
    refine HT.out.mono ?_
    rintro e w1 ⟨rfl, rfl⟩
    go_wp2_with fail
    go_ret
    exact ⟨ret_bool (by simp), rfl⟩
  · have h3 : decide ((s.size : Int) ≤ (m : Int)) = false := decide_eq_false (by omega)
    have h4 : decide (s.size ≤ m) = false := decide_eq_false h2
    rw [h4]
    clear hs h2 hm HT
    go_enter Tryz.func51, Tryz.ntmps51
    go_wp2_with fail
    go_ret
    exact ⟨ret_bool (by simp), rfl⟩
theorem ptext_any (s : ByteArray) (hs : s.size ≤ 1048576) (w : World) :
    Calls Tryz.prog 48 #[.string s] w fun e w' => e = .returned (.bool (textB (toL s))) ∧ Below w.heap.size w w' := by
  have HT := Lib.hid (PText.pvalue_any s (by unfold maxLen; omega) w)
  unfold textB
  rw [toL_length]
  generalize LexPure.value (toL s) = t at HT ⊢
  by_cases h2 : s.size ≤ 256
  · have h3 : decide ((s.size : Int) ≤ (256 : Int)) = true := decide_eq_true (by omega)
    have h4 : decide (s.size ≤ 256) = true := decide_eq_true h2
    rw [h4]
    clear hs h2
    go_enter Tryz.func48, Tryz.ntmps48
    go_wp2_with fail
    refine HT.out.mono ?_
    rintro e w1 ⟨rfl, hb⟩
    go_wp2_with fail
    go_ret
    exact ⟨ret_bool (by simp), hb⟩
  · have h3 : decide ((s.size : Int) ≤ (256 : Int)) = false := decide_eq_false (by omega)
    have h4 : decide (s.size ≤ 256) = false := decide_eq_false h2
    rw [h4]
    clear hs h2 HT
    go_enter Tryz.func48, Tryz.ntmps48
    go_wp2_with fail
    go_ret
    exact ⟨ret_bool (by simp), Below.refl _ _⟩
theorem pfull_any (s : ByteArray) (hs : s.size ≤ 1048576) (w : World) :
    Calls Tryz.prog 50 #[.string s] w fun e w' => e = .returned (.bool (toL s != [] && textB (toL s))) ∧ Below w.heap.size w w' := by
  have HT := Lib.hid (ptext_any s hs w)
  generalize textB (toL s) = t at HT ⊢
  have q1 : (s.toList != []) = (toL s != []) := by rw [ByteArray.toList_eq]
  have q2 : s.toList.isEmpty = !(toL s != []) := by
    rw [ByteArray.toList_eq]
    show (toL s).isEmpty = _
    cases toL s <;> rfl
  generalize (toL s != []) = n at q1 q2 ⊢
  clear hs
  cases n with
  | false =>
    go_enter Tryz.func50, Tryz.ntmps50
    go_wp2_with fail
    go_ret
    exact ⟨rfl, Below.refl _ _⟩
  | true =>
    go_enter Tryz.func50, Tryz.ntmps50
    go_wp2_with fail
    refine HT.out.mono ?_
    rintro e w1 ⟨rfl, hb⟩
    go_wp2_with fail
    go_ret
    exact ⟨ret_bool (by simp), hb⟩
theorem pnorm_any (s : ByteArray) (hs : s.size ≤ 1048576) (w : World) (hm : MaxInt w) :
    Calls Tryz.prog 93 #[.string s] w fun e w' => e = .returned (.bool (normalB (toL s))) ∧ Below w.heap.size w w' := by
  have HN := Lib.hid (PathObj.normal_any s (by omega) w hm)
  unfold normalB
  cases hn : PathPure.normal (toL s) with
  | none =>
    obtain ⟨e1, e2⟩ := norm_none hn
    rw [e1, e2] at HN
    clear hs hn e1 e2
    go_enter Tryz.func93, Tryz.ntmps93
    go_wp2_with fail
    refine HN.out.mono ?_
    rintro e w1 ⟨rfl, hb⟩
    go_wp2_with fail
    go_ret
    exact ⟨rfl, hb⟩
  | some t =>
    obtain ⟨e1, e2⟩ := norm_some hn
    rw [e1, e2] at HN
    have hq : ((ofL t).toList == s.toList) = (some t == some (toL s)) := by
      rw [text_two]; rfl
    obtain ⟨b, hb2⟩ : ∃ b, b = (some t == some (toL s)) := ⟨_, rfl⟩
    rw [← hb2] at hq ⊢
    clear hs hn e1 e2 hb2
    go_enter Tryz.func93, Tryz.ntmps93
    go_wp2_with fail
    refine HN.out.mono ?_
    rintro e w1 ⟨rfl, hb⟩
    go_wp2_with fail
    go_ret
    exact ⟨ret_bool (by simp), hb⟩
theorem psmall_any (s : ByteArray) (hs : s.size ≤ 1048576) (w : World) (hm : MaxInt w) :
    Calls Tryz.prog 89 #[.string s] w fun e w' => e = .returned (.bool (smallB (toL s))) ∧ Below w.heap.size w w' := by
  have HN := Lib.hid (TAuth.tauth_any s (by omega) w hm)
  unfold smallB
  have q1 : ((ofL (authH (toL s))).toList == s.toList) = (authH (toL s) == toL s) := text_two _ _
  generalize (authH (toL s) == toL s) = b at q1 ⊢
  generalize ofL (authH (toL s)) = H at HN q1
  generalize authP (toL s) = P at HN
  by_cases h : authE (toL s) = 0
  · rw [h] at HN ⊢
    clear hs hm h
    go_enter Tryz.func89, Tryz.ntmps89
    go_wp2_with fail
    refine HN.out.mono ?_
    rintro e w1 ⟨rfl, hb⟩
    go_wp2_with fail
    go_ret
    exact ⟨ret_bool (by simp), hb⟩
  · have hz : (authE (toL s) == 0) = false := beq_false_of_ne h
    have hd : decide (authE (toL s) = 0) = false := decide_eq_false h
    rw [hd]
    clear hs hm h hd
    generalize authE (toL s) = E at HN hz
    go_enter Tryz.func89, Tryz.ntmps89
    go_wp2_with fail
    refine HN.out.mono ?_
    rintro e w1 ⟨rfl, hb⟩
    go_wp2_with fail
    go_ret
    exact ⟨ret_bool (by simp), hb⟩
theorem auth_range (s : L) : 0 ≤ authP s ∧ authP s ≤ 65535 ∧ (authH s).length ≤ 64 := by
  cases ha : authO s with
  | none =>
    obtain ⟨e1, e2, e3⟩ := auth_none ha
    rw [e1, e2]
    exact ⟨by decide, by decide, by decide⟩
  | some x =>
    obtain ⟨h, p⟩ := x
    obtain ⟨e1, e2, e3⟩ := auth_some ha
    obtain ⟨a1, a2, a3, a4⟩ := authO_some ha
    rw [e1, e2]
    exact ⟨a3, a4, host_len a1⟩
theorem pup_any (s : ByteArray) (hs : s.size ≤ 1048576) (w : World) (hm : MaxInt w) (hp : Pow w) :
    Calls Tryz.prog 86 #[.string s] w fun e w' => e = .returned (.bool (hostB (toL s))) ∧ Below w.heap.size w w' := by
  have HN := Lib.hid (TAuth.tauth_any s (by omega) w hm)
  have HP := Lib.hid hp
  rw [host_prog]
  obtain ⟨p0, p1, hl⟩ := auth_range (toL s)
  have HI := Lib.hid (fun w h => pitoa (authP (toL s)) (by omega) (by omega) w h)
  have hdl := decZ_len (n := authP (toL s)) (by omega) (by omega)
  have l1 : (ofL (authH (toL s))).size + (⟨#[58]⟩ : ByteArray).size ≤ 9223372036854775807 := by rw [ofL_size]; exact (by omega : (authH (toL s)).length + 1 ≤ 9223372036854775807)
  have l2 : (ofL (authH (toL s)) ++ ⟨#[58]⟩).size + (ofL (decZ (authP (toL s)))).size ≤ 9223372036854775807 := by rw [ByteArray.size_append, ofL_size, ofL_size]; exact (by omega : (authH (toL s)).length + 1 + (decZ (authP (toL s))).length ≤ 9223372036854775807)
  have q1 : (s.toList == (ofL (authH (toL s)) ++ ⟨#[58]⟩ ++ ofL (decZ (authP (toL s)))).toList) = (toL s == authH (toL s) ++ 58 :: decZ (authP (toL s))) := by
    rw [ByteArray.toList_eq, ByteArray.toList_eq]
    show (toL s == toL (ofL (authH (toL s)) ++ ⟨#[58]⟩ ++ ofL (decZ (authP (toL s))))) = _
    have : toL (ofL (authH (toL s)) ++ ⟨#[58]⟩ ++ ofL (decZ (authP (toL s)))) = authH (toL s) ++ 58 :: decZ (authP (toL s)) := by simp [toL, ofL]
    rw [this]
  generalize (toL s == authH (toL s) ++ 58 :: decZ (authP (toL s))) = b at q1 ⊢
  clear hdl hl p0 p1
  generalize ofL (authH (toL s)) = H at *
  generalize ofL (decZ (authP (toL s))) = DD at *
  generalize authP (toL s) = P at *
  by_cases h : authE (toL s) = 0
  · rw [h] at HN ⊢
    clear hs hm h hp
    go_enter Tryz.func86, Tryz.ntmps86
    go_wp2_with fail
    refine HN.out.mono ?_
    rintro e w1 ⟨rfl, hb⟩
    have HP1 := Lib.hid (HP.out.below hb)
    have HB := Lib.hid hb
    clear hb HN HP
    go_wp2_with fail
    refine (HI.out _ HP1.out).mono ?_
    rintro e w2 ⟨rfl, hb⟩
    have HB2 := Lib.hid (below_chain HB.out hb)
    clear hb HI HB HP1
    go_wp2_with fail
    go_ret
    exact ⟨ret_bool (by simp), HB2.out⟩
  · have hz : (authE (toL s) == 0) = false := beq_false_of_ne h
    have hd : decide (authE (toL s) = 0) = false := decide_eq_false h
    rw [hd]
    clear hs hm h hd hp
    generalize authE (toL s) = E at HN hz
    go_enter Tryz.func86, Tryz.ntmps86
    go_wp2_with fail
    refine HN.out.mono ?_
    rintro e w1 ⟨rfl, hb⟩
    go_wp2_with fail
    go_ret
    exact ⟨ret_bool (by simp), hb⟩
theorem pdomain_any (s : ByteArray) (hs : s.size ≤ 1048576) (w : World) (hm : MaxInt w) :
    Calls Tryz.prog 56 #[.string s] w fun e w' => e = .returned (.bool (domainB (toL s))) ∧ Below w.heap.size w w' := by
  rw [domain_prog]
  have HT := Lib.hid (fun w => lib_trimp s w)
  have hl : (trimP (toL s)).length ≤ 1048576 := by
    unfold trimP
    split
    · rw [List.length_drop, toL_length]; omega
    · rw [toL_length]; exact hs
  have HS := Lib.hid (fun w h => psmall_any (ofL (trimP (toL s))) (by rw [ofL_size]; exact hl) w h)
  rw [toL_ofL] at HS
  have HM := Lib.hid hm
  have q1 : (s.toList == [42]) = (toL s == STAR) := by rw [ByteArray.toList_eq]; rfl
  generalize (toL s == STAR) = b at q1 ⊢
  generalize smallB (trimP (toL s)) = c at HS ⊢
  generalize ofL (trimP (toL s)) = X at HT HS
  clear hl hs hm
  cases b with
  | true =>
    go_enter Tryz.func56, Tryz.ntmps56
    go_wp2_with fail
    go_ret
    exact ⟨rfl, Below.refl _ _⟩
  | false =>
    go_enter Tryz.func56, Tryz.ntmps56
    go_wp2_with fail
    refine (HT.out _).mono ?_
    rintro e w1 ⟨rfl, rfl⟩
    go_wp2_with fail
    refine (HS.out _ HM.out).mono ?_
    rintro e w1 ⟨rfl, hb⟩
    go_wp2_with fail
    go_ret
    exact ⟨ret_bool (by simp), hb⟩
set_option maxHeartbeats 3200000 in
theorem predir_any (n : Int) (w : World) :
    Calls Tryz.prog 96 #[.int .i64 n] w fun e w' => e = .returned (.bool (n == 301 || n == 302 || n == 307 || n == 308)) ∧ w = w' := by
  obtain ⟨b1, h1⟩ : ∃ b, (n == 301) = b := ⟨_, rfl⟩
  obtain ⟨b2, h2⟩ : ∃ b, (n == 302) = b := ⟨_, rfl⟩
  obtain ⟨b3, h3⟩ : ∃ b, (n == 307) = b := ⟨_, rfl⟩
  obtain ⟨b4, h4⟩ : ∃ b, (n == 308) = b := ⟨_, rfl⟩
  rw [h1, h2, h3, h4]
  cases b1 <;> cases b2 <;> cases b3 <;> cases b4
  all_goals
    go_enter Tryz.func96, Tryz.ntmps96
    go_wp2_with fail
    go_ret
    exact ⟨rfl, rfl⟩
theorem pdirect_any (n : Int) (s : ByteArray) (w : World) :
    Calls Tryz.prog 97 #[.int .i64 n, .string s] w fun e w' => e = .returned (.bool (n != 204 && n != 304 && (if toL s = CONNECT then inB n 300 599 else inB n 200 599))) ∧ w = w' := by
  have H3 := Lib.hid (pwithin_any n 300 599 w)
  have H2 := Lib.hid (pwithin_any n 200 599 w)
  have q1 : (s.toList == [67, 79, 78, 78, 69, 67, 84]) = decide (toL s = CONNECT) := by
    rw [ByteArray.toList_eq]
    show (toL s == CONNECT) = _
    by_cases h : toL s = CONNECT
    · rw [h, decide_eq_true rfl, beq_self_eq_true]
    · rw [decide_eq_false h, beq_false_of_ne h]
  have hc : (if toL s = CONNECT then inB n 300 599 else inB n 200 599) = cond (decide (toL s = CONNECT)) (inB n 300 599) (inB n 200 599) := by
    by_cases h : toL s = CONNECT
    · rw [if_pos h, decide_eq_true h]; rfl
    · rw [if_neg h, decide_eq_false h]; rfl
  rw [hc]
  clear hc
  generalize decide (toL s = CONNECT) = d at q1 ⊢
  generalize inB n 300 599 = x at H3 ⊢
  generalize inB n 200 599 = y at H2 ⊢
  by_cases h1 : n = 204
  · subst h1
    clear H3 H2 q1
    go_enter Tryz.func97, Tryz.ntmps97
    go_wp2_with fail
    go_ret
    exact ⟨rfl, rfl⟩
  · by_cases h2 : n = 304
    · subst h2
      clear H3 H2 q1 h1
      go_enter Tryz.func97, Tryz.ntmps97
      go_wp2_with fail
      go_ret
      exact ⟨rfl, rfl⟩
    · have b1 : (n == 204) = false := beq_false_of_ne h1
      have b2 : (n == 304) = false := beq_false_of_ne h2
      have e1 : (n != 204) = true := by rw [bne, b1]; rfl
      have e2 : (n != 304) = true := by rw [bne, b2]; rfl
      rw [e1, e2]
      clear e1 e2 h1 h2
      cases d with
      | true =>
        clear H2
        go_enter Tryz.func97, Tryz.ntmps97
        go_wp2_with fail
        refine H3.out.mono ?_
        rintro e w1 ⟨rfl, rfl⟩
        go_wp2_with fail
        go_ret
        exact ⟨rfl, rfl⟩
      | false =>
        clear H3
        go_enter Tryz.func97, Tryz.ntmps97
        go_wp2_with fail
        refine H2.out.mono ?_
        rintro e w1 ⟨rfl, rfl⟩
        go_wp2_with fail
        go_ret
        exact ⟨rfl, rfl⟩
theorem pflag_any (b : Bool) (w : World) :
    Calls Tryz.prog 70 #[.bool b] w fun e w' => e = .returned (.string (ofL (flagL b))) ∧ w = w' := by
  cases b
  all_goals
    go_enter Tryz.func70, Tryz.ntmps70
    go_wp2_with fail
    go_ret
    exact ⟨rfl, rfl⟩
theorem pdecimal_any (n : Int) (h0 : -9223372036854775808 ≤ n) (h1 : n ≤ 9223372036854775807) (w : World) (hp : Pow w) :
    Calls Tryz.prog 31 #[.int .i64 n] w fun e w' => e = .returned (.string (ofL (decZ n))) ∧ Below w.heap.size w w' := by
  have HI := Lib.hid (pitoa n h0 h1 w hp)
  generalize ofL (decZ n) = X at HI ⊢
  clear h0 h1
  go_enter Tryz.func31, Tryz.ntmps31
  go_wp2_with fail
  refine HI.out.mono ?_
  rintro e w1 ⟨rfl, hb⟩
  go_wp2_with fail
  go_ret
  exact ⟨rfl, hb⟩
set_option maxHeartbeats 1600000 in
theorem pname_any (s : ByteArray) (hs : s.size ≤ 1048576) (w : World) :
    Calls Tryz.prog 47 #[.string s] w fun e w' => e = .returned (.bool (nameB (toL s))) ∧ Below w.heap.size w w' := by
  have HL := Lib.hid (fun w => PLower.plower_any s (by unfold maxLen; omega) w)
  have HT := Lib.hid (fun w => ptok_any s hs 32 (by decide) w)
  obtain ⟨x, hx⟩ : ∃ x, x = lower (toL s) := ⟨_, rfl⟩
  rw [← hx] at HL
  obtain ⟨b0, h0⟩ : ∃ b, (x == [104, 111, 115, 116]) = b := ⟨_, rfl⟩
  have q0 : ((ofL x).toList == [104, 111, 115, 116]) = b0 := (text_is _ _).trans h0
  obtain ⟨b1, h1⟩ : ∃ b, (x == [99, 111, 110, 116, 101, 110, 116, 45, 108, 101, 110, 103, 116, 104]) = b := ⟨_, rfl⟩
  have q1 : ((ofL x).toList == [99, 111, 110, 116, 101, 110, 116, 45, 108, 101, 110, 103, 116, 104]) = b1 := (text_is _ _).trans h1
  obtain ⟨b2, h2⟩ : ∃ b, (x == [101, 120, 112, 101, 99, 116]) = b := ⟨_, rfl⟩
  have q2 : ((ofL x).toList == [101, 120, 112, 101, 99, 116]) = b2 := (text_is _ _).trans h2
  obtain ⟨b3, h3⟩ : ∃ b, (x == [120, 45, 102, 111, 114, 119, 97, 114, 100, 101, 100, 45, 102, 111, 114]) = b := ⟨_, rfl⟩
  have q3 : ((ofL x).toList == [120, 45, 102, 111, 114, 119, 97, 114, 100, 101, 100, 45, 102, 111, 114]) = b3 := (text_is _ _).trans h3
  obtain ⟨b4, h4⟩ : ∃ b, (x == [118, 105, 97]) = b := ⟨_, rfl⟩
  have q4 : ((ofL x).toList == [118, 105, 97]) = b4 := (text_is _ _).trans h4
  obtain ⟨b5, h5⟩ : ∃ b, (x == [99, 111, 110, 110, 101, 99, 116, 105, 111, 110]) = b := ⟨_, rfl⟩
  have q5 : ((ofL x).toList == [99, 111, 110, 110, 101, 99, 116, 105, 111, 110]) = b5 := (text_is _ _).trans h5
  obtain ⟨b6, h6⟩ : ∃ b, (x == [107, 101, 101, 112, 45, 97, 108, 105, 118, 101]) = b := ⟨_, rfl⟩
  have q6 : ((ofL x).toList == [107, 101, 101, 112, 45, 97, 108, 105, 118, 101]) = b6 := (text_is _ _).trans h6
  obtain ⟨b7, h7⟩ : ∃ b, (x == [112, 114, 111, 120, 121, 45, 99, 111, 110, 110, 101, 99, 116, 105, 111, 110]) = b := ⟨_, rfl⟩
  have q7 : ((ofL x).toList == [112, 114, 111, 120, 121, 45, 99, 111, 110, 110, 101, 99, 116, 105, 111, 110]) = b7 := (text_is _ _).trans h7
  obtain ⟨b8, h8⟩ : ∃ b, (x == [116, 101]) = b := ⟨_, rfl⟩
  have q8 : ((ofL x).toList == [116, 101]) = b8 := (text_is _ _).trans h8
  obtain ⟨b9, h9⟩ : ∃ b, (x == [116, 114, 97, 105, 108, 101, 114]) = b := ⟨_, rfl⟩
  have q9 : ((ofL x).toList == [116, 114, 97, 105, 108, 101, 114]) = b9 := (text_is _ _).trans h9
  obtain ⟨b10, h10⟩ : ∃ b, (x == [116, 114, 97, 110, 115, 102, 101, 114, 45, 101, 110, 99, 111, 100, 105, 110, 103]) = b := ⟨_, rfl⟩
  have q10 : ((ofL x).toList == [116, 114, 97, 110, 115, 102, 101, 114, 45, 101, 110, 99, 111, 100, 105, 110, 103]) = b10 := (text_is _ _).trans h10
  obtain ⟨b11, h11⟩ : ∃ b, (x == [117, 112, 103, 114, 97, 100, 101]) = b := ⟨_, rfl⟩
  have q11 : ((ofL x).toList == [117, 112, 103, 114, 97, 100, 101]) = b11 := (text_is _ _).trans h11
  have HV : Hid (nameB (toL s) = (!(b0 || b1 || b2 || b3 || b4 || b5 || b6 || b7 || b8 || b9 || b10 || b11) && tokenB (toL s) 32)) := Lib.hid (by
    unfold nameB owns
    rw [← hx, List.contains_eq_any_beq]
    simp only [List.any_cons, List.any_nil, Bool.or_false, h0, h1, h2, h3, h4, h5, h6, h7, h8, h9, h10, h11, Bool.or_assoc])
  rw [HV.out]
  generalize tokenB (toL s) 32 = t at HT ⊢
  clear HV hs hx h0 h1 h2 h3 h4 h5 h6 h7 h8 h9 h10 h11
  generalize ofL x = X at *
  go_enter Tryz.func47, Tryz.ntmps47
  go_wp2_with fail
  refine (HT.out _).mono ?_
  rintro e w1 ⟨rfl, rfl⟩
  clear HT
  cases t with
  | false =>
    go_wp2_with fail
    go_ret
    exact ⟨ret_bool (by simp), Below.refl _ _⟩
  | true =>
  go_wp2_with fail
  refine (HL.out _).mono ?_
  rintro e w2 ⟨rfl, hb⟩
  clear HL
  cases b0 with
  | true =>
    go_wp2_with fail
    go_ret
    exact ⟨ret_bool (by simp), hb⟩
  | false =>
  cases b1 with
  | true =>
    go_wp2_with fail
    go_ret
    exact ⟨ret_bool (by simp), hb⟩
  | false =>
  cases b2 with
  | true =>
    go_wp2_with fail
    go_ret
    exact ⟨ret_bool (by simp), hb⟩
  | false =>
  cases b3 with
  | true =>
    go_wp2_with fail
    go_ret
    exact ⟨ret_bool (by simp), hb⟩
  | false =>
  cases b4 with
  | true =>
    go_wp2_with fail
    go_ret
    exact ⟨ret_bool (by simp), hb⟩
  | false =>
  cases b5 with
  | true =>
    go_wp2_with fail
    go_ret
    exact ⟨ret_bool (by simp), hb⟩
  | false =>
  cases b6 with
  | true =>
    go_wp2_with fail
    go_ret
    exact ⟨ret_bool (by simp), hb⟩
  | false =>
  cases b7 with
  | true =>
    go_wp2_with fail
    go_ret
    exact ⟨ret_bool (by simp), hb⟩
  | false =>
  cases b8 with
  | true =>
    go_wp2_with fail
    go_ret
    exact ⟨ret_bool (by simp), hb⟩
  | false =>
  cases b9 with
  | true =>
    go_wp2_with fail
    go_ret
    exact ⟨ret_bool (by simp), hb⟩
  | false =>
  cases b10 with
  | true =>
    go_wp2_with fail
    go_ret
    exact ⟨ret_bool (by simp), hb⟩
  | false =>
  cases b11 with
  | true =>
    go_wp2_with fail
    go_ret
    exact ⟨ret_bool (by simp), hb⟩
  | false =>
  go_wp2_with fail
  go_ret
  exact ⟨ret_bool (by simp), hb⟩
end Go.Proofs.YtfihehobkbfmiaaGreatDoor.PCfgT

/- Layer 14 of the program: a line's words, taken one after the other. -/
namespace Go.Proofs.YtfihehobkbfmiaaGreatDoor.PCfgM
open Go.ChangeShapes Go.WideShapes Go.ChangeAt Go.RowKit Bytes LexPure LexNum PathPure CutAt ConfPure ConfProg Ret Mem PCfgLib PCfgT PCfgW
open PDecimal (pdecimal_any)
set_option maxRecDepth 100000
set_option linter.unusedVariables false
set_option linter.unusedSimpArgs false
abbrev WT : TypeId := 113
/-- what is left of a line, and its words -/
def Rel (rest : L) (R : List L) : Prop := (R = [] ∧ rest = []) ∨ (R ≠ [] ∧ cutB 32 rest = R)
theorem cut_split : ∀ (x : UInt8) (s : L), hasB x s = true → s = aheadOf x s ++ x :: behind x s ∧ ∀ c ∈ aheadOf x s, c ≠ x
  | x, [], h => absurd h (by simp [hasB])
  | x, c :: s, h => by
    by_cases hc : c = x
    · subst hc
      have e1 : aheadOf c (c :: s) = [] := by simp [aheadOf]
      have e2 : behind c (c :: s) = s := by simp [behind]
      rw [e1, e2]
      exact ⟨rfl, fun d hd => by cases hd⟩
    · have e1 : aheadOf x (c :: s) = c :: aheadOf x s := by simp [aheadOf, hc]
      have e2 : behind x (c :: s) = behind x s := by simp [behind, hc]
      have h2 : hasB x s = true := by simpa [hasB, hc] using h
      obtain ⟨h3, h4⟩ := cut_split x s h2
      rw [e1, e2]
      refine ⟨by rw [List.cons_append, ← h3], fun d hd => ?_⟩
      rcases List.mem_cons.1 hd with rfl | hd
      · exact hc
      · exact h4 d hd
theorem cut_whole : ∀ (x : UInt8) (s : L), hasB x s = false → aheadOf x s = s ∧ behind x s = [] ∧ ∀ c ∈ s, c ≠ x
  | x, [], _ => ⟨rfl, rfl, fun c hc => by cases hc⟩
  | x, c :: s, h => by
    have hc : c ≠ x := fun e => by subst e; simp [hasB] at h
    have h2 : hasB x s = false := by simpa [hasB, hc] using h
    obtain ⟨h3, h4, h5⟩ := cut_whole x s h2
    refine ⟨?_, ?_, fun d hd => ?_⟩
    · simp [aheadOf, hc] at h3 ⊢
      exact h3
    · simp [behind, hc] at h4 ⊢
      exact h4
    · rcases List.mem_cons.1 hd with rfl | hd
      · exact hc
      · exact h5 d hd
theorem cutB_has {x : UInt8} {s : L} (h : hasB x s = true) : cutB x s = aheadOf x s :: cutB x (behind x s) := by
  obtain ⟨h1, h2⟩ := cut_split x s h
  conv => lhs; rw [h1]
  exact cutB_append h2 _
theorem cutB_no {x : UInt8} {s : L} (h : hasB x s = false) : cutB x s = [s] := cutB_self (cut_whole x s h).2.2
theorem rel_next {rest : L} {R : List L} (h : Rel rest R) : aheadOf 32 rest = R.headD [] ∧ Rel (behind 32 rest) R.tail ∧ hasB 32 rest = !R.tail.isEmpty := by
  rcases h with ⟨rfl, rfl⟩ | ⟨h0, rfl⟩
  · exact ⟨rfl, .inl ⟨rfl, rfl⟩, rfl⟩
  · cases hb : hasB 32 rest with
    | true =>
      rw [cutB_has hb]
      refine ⟨rfl, .inr ⟨cutB_ne _ _, rfl⟩, ?_⟩
      cases hc : cutB 32 (behind 32 rest) with
      | nil => exact absurd hc (cutB_ne _ _)
      | cons a b => rw [List.tail_cons]; rfl
    | false =>
      obtain ⟨h1, h2, _⟩ := cut_whole 32 rest hb
      rw [cutB_no hb]
      exact ⟨h1, .inl ⟨rfl, h2⟩, rfl⟩
theorem behind_len (x : UInt8) (s : L) : (behind x s).length ≤ s.length := by
  unfold behind
  rw [List.length_tail]
  have := (List.dropWhile_suffix (fun c => c != x) (l := s)).length_le
  omega
theorem ahead_len (x : UInt8) (s : L) : (aheadOf x s).length ≤ s.length := (List.takeWhile_prefix (fun c => c != x) (l := s)).length_le
/-- the words in block g: R are still to come -/
structure St (w : World) (g : Nat) (R : List L) (left wrong : Bool) : Prop where
  ex : ∃ rest : L, Has w g WT #[.string (ofL rest), .bool left, .bool wrong] ∧ Rel rest R ∧ rest.length ≤ 1099511627776
theorem St.lt {w : World} {g : Nat} {R : List L} {left wrong : Bool} (h : St w g R left wrong) : g < w.heap.size := by
  obtain ⟨rest, h1, _⟩ := h.ex
  exact h1.lt
theorem St.grown {w w' : World} {g : Nat} {R : List L} {left wrong : Bool} {row : Option Nat} (h : St w g R left wrong) (hb : w.grownBy w' row) (hne : some g ≠ row) : St w' g R left wrong := by
  obtain ⟨rest, h1, h2, h3⟩ := h.ex
  exact ⟨⟨rest, h1.grown hb hne, h2, h3⟩⟩
theorem St.below {w w' : World} {g : Nat} {R : List L} {left wrong : Bool} (h : St w g R left wrong) (hb : Below w.heap.size w w') : St w' g R left wrong := h.grown (own_of_below hb none) (by simp)
theorem head_len {rest : L} {R : List L} (h : Rel rest R) {n : Nat} (hl : rest.length ≤ n) : (R.headD []).length ≤ n := by
  rw [← (rel_next h).1]
  have := ahead_len 32 rest
  omega
set_option maxHeartbeats 1600000 in
theorem pnext_any (g : Nat) (R : List L) (left wrong : Bool) (w : World) (h : St w g R left wrong) :
    Calls Tryz.prog 106 #[.pointer (some ⟨g, 0, none⟩)] w fun e w' => e = .returned (.string (ofL (R.headD []))) ∧ (R.headD []).length ≤ 1099511627776 ∧ St w' g R.tail (!R.tail.isEmpty) wrong ∧ w.grownBy w' (some g) := by
  obtain ⟨rest, hH, hR, hl⟩ := h.ex
  obtain ⟨n1, n2, n3⟩ := rel_next hR
  have HC := Lib.hid (fun w => PCutLib.full_cut 32 (ofL rest) (by rw [ofL_size]; omega) w)
  rw [toL_ofL, n1, n3] at HC
  have HL := Lib.hid (head_len hR hl)
  have HN := Lib.hid n2
  have HBl := Lib.hid (Nat.le_trans (behind_len 32 rest) hl)
  have HH := Lib.hid hH
  have c0 : w.cell? ⟨g, 0, none⟩ = some (.string (ofL rest)) := hH.cell 0
  clear hH hR hl n1 n2 n3 h
  generalize behind 32 rest = rest2 at *
  generalize (!R.tail.isEmpty) = left2 at *
  generalize R.headD [] = hd at *
  go_enter Tryz.func106, Tryz.ntmps106
  go_wp2_with fail
  refine (HC.out _).mono ?_
  rintro e w1 ⟨rfl, hb⟩
  have H1 := HH.out.below hb HH.out.lt
  have z0 := H1.free 0
  have z1 := H1.free 1
  have d0 : w1.cell? ⟨g, 0, none⟩ = some (.string (ofL rest)) := H1.cell 0
  have d1 : w1.cell? ⟨g, 1, none⟩ = some (.bool left) := H1.cell 1
  have HG := Lib.hid (own_set (own_set (own_of_below hb (some g)) 0 (.string (ofL rest2))) 1 (.bool left2))
  have HQ := Lib.hid ((H1.set_ 0 (.string (ofL rest2))).set_ 1 (.bool left2))
  clear hb HC H1 c0
  go_wp2_with fail
  go_ret
  exact ⟨rfl, HL.out, ⟨⟨rest2, HQ.out, HN.out, HBl.out⟩⟩, HG.out⟩
/-- the flag wrong is set, or stays -/
def markW (g : Nat) (b : Bool) (w : World) : World := if b then w.setCell ⟨g, 2, none⟩ (.bool true) else w
theorem St.mark {w : World} {g : Nat} {R : List L} {left wrong : Bool} (h : St w g R left wrong) : St (w.setCell ⟨g, 2, none⟩ (.bool true)) g R left true := by
  obtain ⟨rest, h1, h2, h3⟩ := h.ex
  exact ⟨⟨rest, h1.set_ 2 (.bool true), h2, h3⟩⟩
theorem St.cells {w : World} {g : Nat} {R : List L} {left wrong : Bool} (h : St w g R left wrong) : w.cell? ⟨g, 1, none⟩ = some (.bool left) ∧ w.cell? ⟨g, 2, none⟩ = some (.bool wrong) ∧ w.frozen? ⟨g, 2, none⟩ = false := by
  obtain ⟨rest, h1, _⟩ := h.ex
  exact ⟨h1.cell 1, h1.cell 2, h1.free 2⟩
/-- what the taking of a word of the form f leaves -/
structure Took (w : World) (g : Nat) (R : List L) (wrong : Bool) (f : UInt8) (w' : World) : Prop where
  st : St w' g R.tail (!R.tail.isEmpty) (wrong || !okW f (R.headD []))
  gr : w.grownBy w' (some g)
set_option maxHeartbeats 1600000 in
theorem ptext_any (g : Nat) (R : List L) (left wrong : Bool) (w : World) (h : St w g R left wrong) :
    Calls Tryz.prog 110 #[.pointer (some ⟨g, 0, none⟩)] w fun e w' => e = .returned (.string (ofL (textV (R.headD [])))) ∧ Took w g R wrong 119 w' := by
  have HN := Lib.hid (pnext_any g R left wrong w h)
  obtain ⟨b, hb⟩ : ∃ b, b = (unword (R.headD [])).isSome := ⟨_, rfl⟩
  have HU := Lib.hid (fun (hl : (R.headD []).length ≤ 1099511627776) w => punword_any (ofL (R.headD [])) (by rw [ofL_size]; omega) w)
  rw [toL_ofL, ← hb] at HU
  have HW : Hid (∀ {w w' : World}, St w' g R.tail (!R.tail.isEmpty) (wrong || !b) → w.grownBy w' (some g) → Took w g R wrong 119 w') := Lib.hid (fun h1 h2 => ⟨by unfold okW; rw [if_pos rfl, ← hb]; exact h1, h2⟩)
  clear h hb
  generalize ofL (textV (R.headD [])) = Y at HU ⊢
  generalize ofL (R.headD []) = X at *
  generalize (R.headD []).length = N at *
  go_enter Tryz.func110, Tryz.ntmps110
  go_wp2_with fail
  refine HN.out.mono ?_
  rintro e w1 ⟨rfl, hl, hs, hg⟩
  have HS := Lib.hid hs
  have HG := Lib.hid hg
  have HUl := Lib.hid (HU.out hl)
  clear HN hs hg HU hl
  go_wp2_with fail
  refine (HUl.out _).mono ?_
  rintro e w2 ⟨rfl, hb⟩
  have HS2 := Lib.hid (HS.out.below hb)
  have HG2 := Lib.hid (own_trans HG.out (own_of_below hb (some g)))
  obtain ⟨c1, c2, z2⟩ := HS2.out.cells
  clear HUl hb HS HG
  cases b with
  | true =>
    go_wp2_with fail
    go_ret
    exact ⟨rfl, HW.out (by rw [Bool.not_true, Bool.or_false]; exact HS2.out) HG2.out⟩
  | false =>
    go_wp2_with fail
    go_ret
    exact ⟨rfl, HW.out (by rw [Bool.not_false, Bool.or_true]; exact HS2.out.mark) (own_set HG2.out 2 _)⟩
set_option maxHeartbeats 1600000 in
theorem pflag_word (g : Nat) (R : List L) (left wrong : Bool) (w : World) (h : St w g R left wrong) :
    Calls Tryz.prog 131 #[.pointer (some ⟨g, 0, none⟩)] w fun e w' => e = .returned (.bool (R.headD [] == [49])) ∧ Took w g R wrong 98 w' := by
  have HN := Lib.hid (pnext_any g R left wrong w h)
  obtain ⟨b1, hb1⟩ : ∃ b, b = (R.headD [] == [49]) := ⟨_, rfl⟩
  obtain ⟨b0, hb0⟩ : ∃ b, b = (R.headD [] == [48]) := ⟨_, rfl⟩
  have HF1 := Lib.hid (fun w => pflag_any true w)
  have HF0 := Lib.hid (fun w => pflag_any false w)
  have HW : Hid (∀ {w w' : World}, St w' g R.tail (!R.tail.isEmpty) (wrong || !(b1 || b0)) → w.grownBy w' (some g) → Took w g R wrong 98 w') := Lib.hid (fun h1 h2 => ⟨by unfold okW; rw [if_neg (by decide), if_pos rfl, ← hb1, ← hb0]; exact h1, h2⟩)
  have t1 : ((ofL (R.headD [])).toList == (ofL (flagL true)).toList) = b1 := by rw [text_two, toL_ofL, hb1]; rfl
  have t0 : ((ofL (R.headD [])).toList == (ofL (flagL false)).toList) = b0 := by rw [text_two, toL_ofL, hb0]; rfl
  have u1 : ((ofL (R.headD [])).toList != (ofL (flagL true)).toList) = !b1 := by rw [bne, t1]
  have u0 : ((ofL (R.headD [])).toList != (ofL (flagL false)).toList) = !b0 := by rw [bne, t0]
  rw [← hb1]
  clear h hb1 hb0
  generalize ofL (flagL true) = X1 at *
  generalize ofL (flagL false) = X0 at *
  generalize ofL (R.headD []) = X at *
  go_enter Tryz.func131, Tryz.ntmps131
  go_wp2_with fail
  refine HN.out.mono ?_
  rintro e w1 ⟨rfl, hl, hs, hg⟩
  have HS := Lib.hid hs
  have HG := Lib.hid hg
  obtain ⟨c1, c2, z2⟩ := hs.cells
  clear HN hs hg hl
  go_wp2_with fail
  refine (HF1.out _).mono ?_
  rintro e w2 ⟨rfl, rfl⟩
  cases b1 with
  | true =>
    go_wp2_with fail
    refine (HF1.out _).mono ?_
    rintro e w2 ⟨rfl, rfl⟩
    go_wp2_with fail
    go_ret
    exact ⟨rfl, HW.out (by rw [Bool.true_or, Bool.not_true, Bool.or_false]; exact HS.out) HG.out⟩
  | false =>
  go_wp2_with fail
  refine (HF0.out _).mono ?_
  rintro e w2 ⟨rfl, rfl⟩
  cases b0 with
  | true =>
    go_wp2_with fail
    refine (HF1.out _).mono ?_
    rintro e w2 ⟨rfl, rfl⟩
    go_wp2_with fail
    go_ret
    exact ⟨rfl, HW.out (by rw [Bool.or_true, Bool.not_true, Bool.or_false]; exact HS.out) HG.out⟩
  | false =>
    go_wp2_with fail
    refine (HF1.out _).mono ?_
    rintro e w2 ⟨rfl, rfl⟩
    go_wp2_with fail
    go_ret
    exact ⟨rfl, HW.out (by rw [Bool.or_self, Bool.not_false, Bool.or_true]; exact HS.out.mark) (own_set HG.out 2 _)⟩
theorem head_byte (l : L) (h : 0 < (ofL l).size) : (((ofL l)[0]'h).toNat : Int) = ((l.headD 0).toNat : Int) := by
  cases l with
  | nil => exact absurd h (by decide)
  | cons c l => rfl
theorem dec15_ok (w : L) : (dec15 w).isSome = (numOk 10 15 w && !(decide (1 < w.length) && w.headD 0 == 48)) := by
  unfold dec15
  by_cases h : numOk 10 15 w = true ∧ ¬ (1 < w.length ∧ w.headD 0 = 48)
  · rw [if_pos h, h.1]
    have : (decide (1 < w.length) && w.headD 0 == 48) = false := by
      rw [Bool.and_eq_false_iff]
      by_cases h1 : 1 < w.length
      · right; exact beq_false_of_ne (fun e => h.2 ⟨h1, e⟩)
      · left; exact decide_eq_false h1
    rw [this]; rfl
  · rw [if_neg h]
    symm
    rw [show (none : Option Int).isSome = false from rfl, Bool.and_eq_false_iff]
    by_cases h1 : numOk 10 15 w = true
    · right
      have h2 : 1 < w.length ∧ w.headD 0 = 48 := Classical.byContradiction (fun e => h ⟨h1, e⟩)
      rw [decide_eq_true h2.1, h2.2]; rfl
    · left; simpa using h1
set_option maxHeartbeats 1600000 in
theorem pnumber_word (g : Nat) (R : List L) (left wrong : Bool) (w : World) (h : St w g R left wrong) :
    Calls Tryz.prog 107 #[.pointer (some ⟨g, 0, none⟩)] w fun e w' => e = .returned (.int .i64 (numW (R.headD []))) ∧ Took w g R wrong 110 w' := by
  have HN := Lib.hid (pnext_any g R left wrong w h)
  have HD := Lib.hid (fun (hl : (R.headD []).length ≤ 1099511627776) w => pdecimal_any (ofL (R.headD [])) (by rw [ofL_size]; unfold maxLen; omega) 15 w)
  rw [toL_ofL, show min (15 : Int) 18 = 15 by decide] at HD
  have hok := dec15_ok (R.headD [])
  have HW : Hid (∀ {w w' : World}, St w' g R.tail (!R.tail.isEmpty) (wrong || !(dec15 (R.headD [])).isSome) → w.grownBy w' (some g) → Took w g R wrong 110 w') := Lib.hid (fun h1 h2 => ⟨by unfold okW; rw [if_neg (by decide), if_neg (by decide)]; exact h1, h2⟩)
  rw [hok] at HW
  unfold numW
  have hsz : (ofL (R.headD [])).size = (R.headD []).length := ofL_size _
  generalize numR 10 15 (R.headD []) = n at HD ⊢
  obtain ⟨b, hb⟩ : ∃ b, b = numOk 10 15 (R.headD []) := ⟨_, rfl⟩
  rw [← hb] at HD HW
  clear h hok hb
  obtain ⟨hd, hhd0⟩ : ∃ hd, hd = R.headD [] := ⟨_, rfl⟩
  rw [← hhd0] at HN HD HW hsz
  clear hhd0
  cases b with
  | false =>
    clear hsz
    go_enter Tryz.func107, Tryz.ntmps107
    go_wp2_with fail
    refine HN.out.mono ?_
    rintro e w1 ⟨rfl, hl, hs, hg⟩
    have HS := Lib.hid hs
    have HG := Lib.hid hg
    have HDl := Lib.hid (HD.out hl)
    obtain ⟨c1, c2, z2⟩ := hs.cells
    clear HN hs hg hl HD
    go_wp2_with fail
    refine (HDl.out _).mono ?_
    rintro e w2 ⟨rfl, rfl⟩
    go_wp2_with fail
    go_ret
    exact ⟨rfl, HW.out (by rw [Bool.false_and, Bool.not_false, Bool.or_true]; exact HS.out.mark) (own_set HG.out 2 _)⟩
  | true =>
    by_cases h1 : 1 < hd.length
    · have q1 : (1 : Int) < ((ofL hd).size : Int) := by omega
      have q0 : (0 : Int) < ((ofL hd).size : Int) := by omega
      have q9 : 0 < (ofL hd).size := by omega
      have hx := head_byte hd q9
      obtain ⟨b2, hb2⟩ : ∃ b2, b2 = (hd.headD 0 == 48) := ⟨_, rfl⟩
      have q2 : ((((ofL hd)[0]'q9).toNat : Int) == 48) = b2 := by
        rw [hx, hb2]
        have := all_bytes (p := fun c => ((c.toNat : Int) == 48) == (c == 48)) (by decide +kernel) (hd.headD 0)
        simpa using this
      rw [← hb2, decide_eq_true h1] at HW
      clear hx hb2 h1 hsz
      cases b2 with
      | true =>
        go_enter Tryz.func107, Tryz.ntmps107
        go_wp2_with fail
        refine HN.out.mono ?_
        rintro e w1 ⟨rfl, hl, hs, hg⟩
        have HS := Lib.hid hs
        have HG := Lib.hid hg
        have HDl := Lib.hid (HD.out hl)
        obtain ⟨c1, c2, z2⟩ := hs.cells
        clear HN hs hg hl HD
        go_wp2_with fail
        refine (HDl.out _).mono ?_
        rintro e w2 ⟨rfl, rfl⟩
        go_wp2_with fail
        go_ret
        exact ⟨rfl, HW.out (by simp only [Bool.and_self, Bool.not_true, Bool.and_false, Bool.not_false, Bool.or_true]; exact HS.out.mark) (own_set HG.out 2 _)⟩
      | false =>
        go_enter Tryz.func107, Tryz.ntmps107
        go_wp2_with fail
        refine HN.out.mono ?_
        rintro e w1 ⟨rfl, hl, hs, hg⟩
        have HS := Lib.hid hs
        have HG := Lib.hid hg
        have HDl := Lib.hid (HD.out hl)
        obtain ⟨c1, c2, z2⟩ := hs.cells
        clear HN hs hg hl HD
        go_wp2_with fail
        refine (HDl.out _).mono ?_
        rintro e w2 ⟨rfl, rfl⟩
        go_wp2_with fail
        go_ret
        exact ⟨rfl, HW.out (by simp only [Bool.and_false, Bool.not_false, Bool.and_self, Bool.not_true, Bool.or_false]; exact HS.out) HG.out⟩
    · have q1 : ¬ (1 : Int) < ((ofL hd).size : Int) := by omega
      rw [decide_eq_false h1] at HW
      clear h1 hsz
      go_enter Tryz.func107, Tryz.ntmps107
      go_wp2_with fail
      refine HN.out.mono ?_
      rintro e w1 ⟨rfl, hl, hs, hg⟩
      have HS := Lib.hid hs
      have HG := Lib.hid hg
      have HDl := Lib.hid (HD.out hl)
      obtain ⟨c1, c2, z2⟩ := hs.cells
      clear HN hs hg hl HD
      go_wp2_with fail
      refine (HDl.out _).mono ?_
      rintro e w2 ⟨rfl, rfl⟩
      go_wp2_with fail
      go_ret
      exact ⟨rfl, HW.out (by simp only [Bool.false_and, Bool.not_false, Bool.and_self, Bool.not_true, Bool.or_false]; exact HS.out) HG.out⟩
end Go.Proofs.YtfihehobkbfmiaaGreatDoor.PCfgM

/- The bulk and the weights of a list of readings. -/
namespace Go.Proofs.YtfihehobkbfmiaaGreatDoor.BulkOf
open Go.ChangeShapes Go.WideShapes Go.RowKit Go.Deep
theorem plain_cell {w : World} {a : Addr} {v : Value} (h : w.cell? a = some v) : a = ⟨a.block, a.off, none⟩ := by
  obtain ⟨b, o, e⟩ := a
  cases e with
  | none => rfl
  | some e =>
    have := World.cell?_spot h
    cases this
theorem add_plain (b o i : Nat) : (⟨b, o, none⟩ : Addr).add i = ⟨b, o + i, none⟩ := by unfold Addr.add; split <;> simp_all
theorem bulk_pos {H : Type} (d : DataW H) : 1 ≤ Rows.uptoBulk d := by
  cases d with
  | lit l => cases l <;> simp [Rows.uptoBulk]
  | _ => simp [Rows.uptoBulk]
theorem bulkAll_len {H : Type} : ∀ l : List (DataW H), l.length ≤ Rows.uptoBulkAll l
  | [] => by simp [Rows.uptoBulkAll]
  | d :: r => by
    have h1 := bulk_pos d
    have h2 := bulkAll_len r
    rw [Rows.uptoBulkAll, List.length_cons]
    omega
theorem bulkAll_mem {H : Type} : ∀ (l : List (DataW H)) (d : DataW H), d ∈ l → Rows.uptoBulk d ≤ Rows.uptoBulkAll l
  | [], _, h => by cases h
  | x :: r, d, h => by
    rw [Rows.uptoBulkAll]
    rcases List.mem_cons.1 h with rfl | h
    · omega
    · have := bulkAll_mem r d h
      omega
theorem weightsAll_mem {H : Type} {P : Program} {e : TypeId} (q : Nat → Bool) : ∀ l : List (DataW H), (DataW.weightsAll P e l).all q = true → ∀ d ∈ l, (d.weights P e).all q = true
  | [], _, d, hd => by cases hd
  | x :: l, h, d, hd => by
    simp only [DataW.weightsAll, List.all_append, Bool.and_eq_true] at h
    rcases List.mem_cons.1 hd with rfl | hd
    · exact h.1
    · exact weightsAll_mem q l h.2 d hd
end Go.Proofs.YtfihehobkbfmiaaGreatDoor.BulkOf

/- An argument that is a list of structs of one-cell fields: its rows, whatever the fields are. No program is named but by a letter. -/
namespace Go.Proofs.YtfihehobkbfmiaaGreatDoor.RowsArg
open Go.ChangeShapes Go.WideShapes Go.ChangeAt Go.RowKit Go.Deep BulkOf
set_option maxRecDepth 20000
section
variable {H : Type} {enc : TypeId × Value → H} {P : Program} {w : World}
/-- a list's value is nil, or it has an address -/
def Nice (v : Value) (n : Nat) : Prop := v = .slice none 0 0 ∨ ∃ a cap, v = .slice (some a) n cap
/-- a list of n rows of k cells -/
def RowsAt (w : World) (v : Value) (n k : Nat) (V : Nat → Nat → Value) : Prop :=
  ∃ p cap, v = .slice p n cap ∧ n ≤ 9223372036854775807 ∧ (0 < n → ∃ g o, p = some ⟨g, o, none⟩ ∧ g < w.heap.size ∧ ∀ i, i < n → ∀ j, j < k → w.cell? ⟨g, o + i * k + j, none⟩ = some (V i j))
theorem RowsAt.below {w w' : World} {v : Value} {n k : Nat} {V : Nat → Nat → Value} (h : RowsAt w v n k V) (hb : Below w.heap.size w w') : RowsAt w' v n k V := by
  obtain ⟨p, cap, hv, hn, hc⟩ := h
  refine ⟨p, cap, hv, hn, fun h0 => ?_⟩
  obtain ⟨g, o, hp, hlt, hcell⟩ := hc h0
  exact ⟨g, o, hp, Nat.lt_of_lt_of_le hlt hb.size, fun i hi j hj => (hb.cell (p := ⟨g, o + i * k + j, none⟩) hlt).trans (hcell i hi j hj)⟩
theorem RowsAt.drewN {w : World} {v : Value} {n k : Nat} {V : Nat → Nat → Value} (h : RowsAt w v n k V) (m : Nat) : RowsAt (w.drewN m) v n k V := h
theorem RowsAt.congr {w : World} {v : Value} {n k : Nat} {V U : Nat → Nat → Value} (h : RowsAt w v n k V) (hVU : ∀ i, i < n → ∀ j, j < k → V i j = U i j) : RowsAt w v n k U := by
  obtain ⟨p, cap, hv, hn, hc⟩ := h
  refine ⟨p, cap, hv, hn, fun h0 => ?_⟩
  obtain ⟨g, o, hp, hlt, hcell⟩ := hc h0
  exact ⟨g, o, hp, hlt, fun i hi j hj => by rw [← hVU i hi j hj]; exact hcell i hi j hj⟩
theorem open_slice_fields {t e : TypeId} {fs : Array Field} {fuel : Nat} {cs : List Value} {x : DataW H × List MemPlace} (ht : P.underlying t = some (.slice e)) (he : P.underlying e = some (.struct fs))
    (hone : oneCellFields P fs = true) (hC : P.cellsOf e = fs.size) (h : DataW.trod enc P w 0 (fun _ => true) true fuel t cs = some x) :
    (cs = [.slice none 0 0] ∧ x = (.nil, [])) ∨
    ∃ (a : Addr) (len cap : Nat) (D : Nat → DataW H) (sp : List (DataW H)), cs = [.slice (some a) len cap] ∧ len ≤ cap ∧ cap ≤ maxLen ∧ x.1 = .slice ((List.range len).map D) sp ∧
      ∀ i, i < len → ∃ (ys : List (DataW H × List MemPlace)) (n : Nat), D i = .agg (ys.map (·.1)) ∧ ys.length = fs.size ∧
        ∀ (j : Nat) (f : Field), fs[j]? = some f → ∃ (v : Value) (y : DataW H × List MemPlace), w.cell? (a.add (i * fs.size + j)) = some v ∧ ys[j]? = some y ∧ DataW.trod enc P w 0 (fun _ => true) true n f.type [v] = some y := by
  rcases open_slice ht h with h0 | ⟨a, len, cap, m, n, D, Pl, hcs, hb, hl, hm, hmm, hx, hi⟩
  · exact .inl h0
  · refine .inr ⟨a, len, cap, D, _, hcs, hl, hm, by rw [hx], fun i him => ?_⟩
    obtain ⟨cs', hc, ht'⟩ := hi i (by rw [hmm, if_pos rfl]; omega)
    rw [hC] at hc
    obtain ⟨ys, n', hn', hy, hlen, hyl, hf⟩ := DataW.trod_struct he ht'
    obtain ⟨_, hcl, hat⟩ := World.cells?_some hc
    simp only [Prod.mk.injEq] at hy
    refine ⟨ys, n', hy.1, hyl, fun j f hj => ?_⟩
    obtain ⟨ho, hk⟩ := hone_of hone j f hj
    have hjl : j < fs.size := (Array.getElem?_eq_some_iff.1 hj).1
    have hcell := hat j hjl
    have hv : cs'[j]? = some (cs'[j]'(by omega)) := List.getElem?_eq_getElem (by omega)
    have h1 := hf j f hj
    rw [ho, hk] at h1
    have hone' : (cs'.drop j).take 1 = [cs'[j]'(by omega)] := by
      rw [List.drop_eq_getElem_cons (by omega)]
      rfl
    rw [hone'] at h1
    have hys : ys[j]? = some (ys[j]'(by omega)) := List.getElem?_eq_getElem (by omega)
    refine ⟨_, _, ?_, hys, h1.trans hys⟩
    rw [← Go.Deep.add_add, hcell, hv]
/-- the rows of such an argument, each cell with its reading -/
theorem rows_core {t e : TypeId} {fs : Array Field} {fuel k : Nat} {v : Value} {d : DataW H} {p : List MemPlace} (ht : P.underlying t = some (.slice e)) (he : P.underlying e = some (.struct fs))
    (hone : oneCellFields P fs = true) (hC : P.cellsOf e = fs.size) (hk : fs.size = k) (hk0 : 0 < k) (h : DataW.trod enc P w 0 (fun _ => true) true fuel t [v] = some (d, p)) :
    ∃ (n : Nat) (V : Nat → Nat → Value) (Y : Nat → Nat → DataW H × List MemPlace) (N : Nat → Nat), RowsAt w v n k V ∧ Nice v n ∧
      (∀ i, i < n → ∀ (j : Nat) (f : Field), fs[j]? = some f → DataW.trod enc P w 0 (fun _ => true) true (N i) f.type [V i j] = some (Y i j)) ∧
      ((d = .nil ∧ n = 0) ∨ ∃ sp, d = .slice ((List.range n).map fun i => .agg ((List.range k).map fun j => (Y i j).1)) sp) := by
  rcases open_slice_fields ht he hone hC h with ⟨hc, hx⟩ | ⟨a, len, cap, D, sp, hc, hlc, hcm, hx, hi⟩
  · obtain rfl : v = .slice none 0 0 := by simpa using hc
    injection hx with hd _
    exact ⟨0, fun _ _ => .int .i64 0, fun _ _ => (.nil, []), fun _ => 0, ⟨none, 0, rfl, Nat.zero_le _, fun h => absurd h (by omega)⟩, .inl rfl, fun i hi => absurd hi (by omega), .inl ⟨hd, rfl⟩⟩
  · obtain rfl : v = .slice (some a) len cap := by simpa using hc
    have hx' : d = .slice ((List.range len).map D) sp := hx
    have hq : ∀ i, ∃ (ys : List (DataW H × List MemPlace)) (n : Nat), i < len → (D i = .agg (ys.map (·.1)) ∧ ys.length = fs.size ∧
        ∀ (j : Nat) (f : Field), fs[j]? = some f → ∃ (v : Value) (y : DataW H × List MemPlace), w.cell? (a.add (i * fs.size + j)) = some v ∧ ys[j]? = some y ∧ DataW.trod enc P w 0 (fun _ => true) true n f.type [v] = some y) := fun i => by
      by_cases h : i < len
      · obtain ⟨ys, n, hh⟩ := hi i h
        exact ⟨ys, n, fun _ => hh⟩
      · exact ⟨[], 0, fun h2 => absurd h2 h⟩
    obtain ⟨ys, hq⟩ := Classical.axiomOfChoice hq
    obtain ⟨N, hq⟩ := Classical.axiomOfChoice hq
    have hcell : ∀ i, i < len → ∀ j, j < k → ∃ u, w.cell? (a.add (i * k + j)) = some u := fun i hil j hjk => by
      obtain ⟨_, _, hf⟩ := hq i hil
      obtain ⟨u, y, hu, _, _⟩ := hf j (fs[j]'(by omega)) (Array.getElem?_eq_getElem (by omega))
      rw [hk] at hu
      exact ⟨u, hu⟩
    let V : Nat → Nat → Value := fun i j => (w.cell? (a.add (i * k + j))).getD (.int .i64 0)
    have hV : ∀ i, i < len → ∀ j, j < k → w.cell? (a.add (i * k + j)) = some (V i j) := fun i hil j hjk => by
      obtain ⟨u, hu⟩ := hcell i hil j hjk
      simp only [V, hu, Option.getD_some]
    refine ⟨len, V, fun i j => (ys i).getD j (.nil, []), N, ⟨some a, cap, rfl, by unfold maxLen at hcm; omega, fun h0 => ?_⟩, .inr ⟨a, cap, rfl⟩, fun i hil j f hj => ?_, .inr ⟨sp, ?_⟩⟩
    · have c0 := hV 0 h0 0 hk0
      have ha := plain_cell c0
      have hae : a = ⟨a.block, a.off, none⟩ := by
        obtain ⟨b, o, e⟩ := a
        cases e with
        | none => rfl
        | some e => simp [Addr.add] at ha
      have hblk := World.block_lt_of_cell? _ _ c0
      obtain ⟨b, o, e⟩ := a
      injection hae with _ _ e3
      subst e3
      refine ⟨b, o, rfl, by simpa [Addr.add] using hblk, fun i hil j hjk => ?_⟩
      have := hV i hil j hjk
      rw [BulkOf.add_plain, ← Nat.add_assoc] at this
      exact this
    · obtain ⟨_, hyl, hf⟩ := hq i hil
      obtain ⟨u, y, hu, hy, hrd⟩ := hf j f hj
      have hjk : j < k := by rw [← hk]; exact (Array.getElem?_eq_some_iff.1 hj).1
      rw [hk] at hu
      have := hV i hil j hjk
      rw [hu] at this
      injection this with e1
      rw [← e1, hrd]
      simp [List.getD, hy]
    · rw [hx']
      congr 1
      refine List.map_congr_left fun i hil => ?_
      obtain ⟨hD, hyl, _⟩ := hq i (List.mem_range.1 hil)
      rw [hD]
      congr 1
      refine List.ext_getElem (by simp [hyl, hk]) fun j h1 h2 => ?_
      simp only [List.getElem_map, List.getElem_range]
      rw [List.length_map] at h1
      simp [List.getD, List.getElem?_eq_getElem h1]
end
end Go.Proofs.YtfihehobkbfmiaaGreatDoor.RowsArg

/- Layer 14: configs in memory. No program is named. -/
namespace Go.Proofs.YtfihehobkbfmiaaGreatDoor.ConfMem
open Go.ChangeShapes Go.WideShapes Go.ChangeAt Go.RowKit LexPure Bytes Ret Rows1 Texts ConfPure RowsArg BulkOf
set_option maxRecDepth 20000
def filtV (x : Filt) : List Value := [.int .i64 x.kind, .string (ofL x.name), .string (ofL x.value), .int .i64 x.n, .int .i64 x.m, .int .i64 x.k]
def zFilt : Filt := ⟨0, [], [], 0, 0, 0⟩
def Filts (w : World) (v : Value) (G : List Filt) : Prop := RowsAt w v G.length 6 (fun i j => (filtV (G.getD i zFilt)).getD j undef)
theorem Filts.below {w w' : World} {v : Value} {G : List Filt} (h : Filts w v G) (hb : Below w.heap.size w w') : Filts w' v G := RowsAt.below h hb
/-- its value and, where there is one, the cells of the i-th -/
theorem Filts.parts {w : World} {v : Value} {G : List Filt} (h : Filts w v G) : ∃ p cap, v = .slice p G.length cap ∧ G.length ≤ 9223372036854775807 ∧ (0 < G.length → ∃ g o, p = some ⟨g, o, none⟩ ∧ g < w.heap.size ∧ ∀ i (hi : i < G.length),
    w.cell? ⟨g, o + i * 6, none⟩ = some (.int .i64 G[i].kind) ∧ w.cell? ⟨g, o + i * 6 + 1, none⟩ = some (.string (ofL G[i].name)) ∧ w.cell? ⟨g, o + i * 6 + 2, none⟩ = some (.string (ofL G[i].value)) ∧ w.cell? ⟨g, o + i * 6 + 3, none⟩ = some (.int .i64 G[i].n) ∧ w.cell? ⟨g, o + i * 6 + 4, none⟩ = some (.int .i64 G[i].m) ∧ w.cell? ⟨g, o + i * 6 + 5, none⟩ = some (.int .i64 G[i].k)) := by
  obtain ⟨p, cap, hv, hn, hc⟩ := h
  refine ⟨p, cap, hv, hn, fun h0 => ?_⟩
  obtain ⟨g, o, hp, hlt, hcell⟩ := hc h0
  refine ⟨g, o, hp, hlt, fun i hi => ?_⟩
  have e : G.getD i zFilt = G[i] := by simp [List.getD, List.getElem?_eq_getElem hi]
  have c := hcell i hi
  dsimp only at c
  rw [e] at c
  exact ⟨c 0 (by decide), c 1 (by decide), c 2 (by decide), c 3 (by decide), c 4 (by decide), c 5 (by decide)⟩
/-- what a list's value says of its room -/
def CapOk (v : Value) : Prop := ∀ p n cap, v = .slice p n cap → n ≤ cap
def clusV (x : Clus) (h : Value) : List Value := [.string (ofL x.name), .int .i64 x.policy, h, .int .i64 x.conns, .int .i64 x.pending, .int .i64 x.try_, .int .i64 x.fails, .int .i64 x.eject, .int .i64 x.panic]
def zClus : Clus := ⟨[], 0, [], 0, 0, 0, 0, 0, 0⟩
def Cluss (w : World) (v : Value) (G : List Clus) : Prop := ∃ hv : Nat → Value, RowsAt w v G.length 9 (fun i j => (clusV (G.getD i zClus) (hv i)).getD j undef) ∧ ∀ i, i < G.length → Texts w (hv i) (G.getD i zClus).hosts ∧ CapOk (hv i)
theorem Cluss.below {w w' : World} {v : Value} {G : List Clus} (h : Cluss w v G) (hb : Below w.heap.size w w') : Cluss w' v G := by
  obtain ⟨hv, h1, h2⟩ := h
  exact ⟨hv, h1.below hb, fun i hi => ⟨Texts.below (h2 i hi).1 hb, (h2 i hi).2⟩⟩
theorem Cluss.parts {w : World} {v : Value} {G : List Clus} (h : Cluss w v G) : ∃ p cap, v = .slice p G.length cap ∧ G.length ≤ 9223372036854775807 ∧ (0 < G.length → ∃ g o, p = some ⟨g, o, none⟩ ∧ g < w.heap.size ∧ ∀ i (hi : i < G.length), ∃ h, Texts w h G[i].hosts ∧
    w.cell? ⟨g, o + i * 9, none⟩ = some (.string (ofL G[i].name)) ∧ w.cell? ⟨g, o + i * 9 + 1, none⟩ = some (.int .i64 G[i].policy) ∧ w.cell? ⟨g, o + i * 9 + 2, none⟩ = some (h) ∧ w.cell? ⟨g, o + i * 9 + 3, none⟩ = some (.int .i64 G[i].conns) ∧ w.cell? ⟨g, o + i * 9 + 4, none⟩ = some (.int .i64 G[i].pending) ∧ w.cell? ⟨g, o + i * 9 + 5, none⟩ = some (.int .i64 G[i].try_) ∧ w.cell? ⟨g, o + i * 9 + 6, none⟩ = some (.int .i64 G[i].fails) ∧ w.cell? ⟨g, o + i * 9 + 7, none⟩ = some (.int .i64 G[i].eject) ∧ w.cell? ⟨g, o + i * 9 + 8, none⟩ = some (.int .i64 G[i].panic)) := by
  obtain ⟨hv, ⟨p, cap, hv', hn, hc⟩, h2⟩ := h
  refine ⟨p, cap, hv', hn, fun h0 => ?_⟩
  obtain ⟨g, o, hp, hlt, hcell⟩ := hc h0
  refine ⟨g, o, hp, hlt, fun i hi => ?_⟩
  have e : G.getD i zClus = G[i] := by simp [List.getD, List.getElem?_eq_getElem hi]
  have c := hcell i hi
  have d := (h2 i hi).1
  dsimp only at c
  rw [e] at c d
  exact ⟨hv i, d, c 0 (by decide), c 1 (by decide), c 2 (by decide), c 3 (by decide), c 4 (by decide), c 5 (by decide), c 6 (by decide), c 7 (by decide), c 8 (by decide)⟩
def routV (x : Rout) : List Value := [.bool x.pre, .string (ofL x.path), .string (ofL x.method), .string (ofL x.field), .string (ofL x.value), .int .i64 x.action, .string (ofL x.cluster), .int .i64 x.status, .string (ofL x.text), .string (ofL x.rewrite), .int .i64 x.retries, .int .i64 x.timeout, .bool x.upgrade]
def zRout : Rout := ⟨false, [], [], [], [], 0, [], 0, [], [], 0, 0, false⟩
def Routs (w : World) (v : Value) (G : List Rout) : Prop := RowsAt w v G.length 13 (fun i j => (routV (G.getD i zRout)).getD j undef)
theorem Routs.below {w w' : World} {v : Value} {G : List Rout} (h : Routs w v G) (hb : Below w.heap.size w w') : Routs w' v G := RowsAt.below h hb
/-- its value and, where there is one, the cells of the i-th -/
theorem Routs.parts {w : World} {v : Value} {G : List Rout} (h : Routs w v G) : ∃ p cap, v = .slice p G.length cap ∧ G.length ≤ 9223372036854775807 ∧ (0 < G.length → ∃ g o, p = some ⟨g, o, none⟩ ∧ g < w.heap.size ∧ ∀ i (hi : i < G.length),
    w.cell? ⟨g, o + i * 13, none⟩ = some (.bool G[i].pre) ∧ w.cell? ⟨g, o + i * 13 + 1, none⟩ = some (.string (ofL G[i].path)) ∧ w.cell? ⟨g, o + i * 13 + 2, none⟩ = some (.string (ofL G[i].method)) ∧ w.cell? ⟨g, o + i * 13 + 3, none⟩ = some (.string (ofL G[i].field)) ∧ w.cell? ⟨g, o + i * 13 + 4, none⟩ = some (.string (ofL G[i].value)) ∧ w.cell? ⟨g, o + i * 13 + 5, none⟩ = some (.int .i64 G[i].action) ∧ w.cell? ⟨g, o + i * 13 + 6, none⟩ = some (.string (ofL G[i].cluster)) ∧ w.cell? ⟨g, o + i * 13 + 7, none⟩ = some (.int .i64 G[i].status) ∧ w.cell? ⟨g, o + i * 13 + 8, none⟩ = some (.string (ofL G[i].text)) ∧ w.cell? ⟨g, o + i * 13 + 9, none⟩ = some (.string (ofL G[i].rewrite)) ∧ w.cell? ⟨g, o + i * 13 + 10, none⟩ = some (.int .i64 G[i].retries) ∧ w.cell? ⟨g, o + i * 13 + 11, none⟩ = some (.int .i64 G[i].timeout) ∧ w.cell? ⟨g, o + i * 13 + 12, none⟩ = some (.bool G[i].upgrade)) := by
  obtain ⟨p, cap, hv, hn, hc⟩ := h
  refine ⟨p, cap, hv, hn, fun h0 => ?_⟩
  obtain ⟨g, o, hp, hlt, hcell⟩ := hc h0
  refine ⟨g, o, hp, hlt, fun i hi => ?_⟩
  have e : G.getD i zRout = G[i] := by simp [List.getD, List.getElem?_eq_getElem hi]
  have c := hcell i hi
  dsimp only at c
  rw [e] at c
  exact ⟨c 0 (by decide), c 1 (by decide), c 2 (by decide), c 3 (by decide), c 4 (by decide), c 5 (by decide), c 6 (by decide), c 7 (by decide), c 8 (by decide), c 9 (by decide), c 10 (by decide), c 11 (by decide), c 12 (by decide)⟩
def vhosV (x : Vhos) (h : Value) : List Value := [.string (ofL x.domain), h]
def zVhos : Vhos := ⟨[], []⟩
def Vhoss (w : World) (v : Value) (G : List Vhos) : Prop := ∃ hv : Nat → Value, RowsAt w v G.length 2 (fun i j => (vhosV (G.getD i zVhos) (hv i)).getD j undef) ∧ ∀ i, i < G.length → Routs w (hv i) (G.getD i zVhos).routes
theorem Vhoss.below {w w' : World} {v : Value} {G : List Vhos} (h : Vhoss w v G) (hb : Below w.heap.size w w') : Vhoss w' v G := by
  obtain ⟨hv, h1, h2⟩ := h
  exact ⟨hv, h1.below hb, fun i hi => Routs.below (h2 i hi) hb⟩
theorem Vhoss.parts {w : World} {v : Value} {G : List Vhos} (h : Vhoss w v G) : ∃ p cap, v = .slice p G.length cap ∧ G.length ≤ 9223372036854775807 ∧ (0 < G.length → ∃ g o, p = some ⟨g, o, none⟩ ∧ g < w.heap.size ∧ ∀ i (hi : i < G.length), ∃ h, Routs w h G[i].routes ∧
    w.cell? ⟨g, o + i * 2, none⟩ = some (.string (ofL G[i].domain)) ∧ w.cell? ⟨g, o + i * 2 + 1, none⟩ = some (h)) := by
  obtain ⟨hv, ⟨p, cap, hv', hn, hc⟩, h2⟩ := h
  refine ⟨p, cap, hv', hn, fun h0 => ?_⟩
  obtain ⟨g, o, hp, hlt, hcell⟩ := hc h0
  refine ⟨g, o, hp, hlt, fun i hi => ?_⟩
  have e : G.getD i zVhos = G[i] := by simp [List.getD, List.getElem?_eq_getElem hi]
  have c := hcell i hi
  have d := h2 i hi
  dsimp only at c
  rw [e] at c d
  exact ⟨hv i, d, c 0 (by decide), c 1 (by decide)⟩
/-- a config's cells; its three lists -/
def confV (c : Conf) (vf vc vv : Value) : Array Value := #[.int .i64 c.conns, .int .i64 c.body, .int .i64 c.idle, .int .i64 c.grace, .int .i64 c.budget, .int .i64 c.seed, vf, vc, vv]
structure CF (w : World) (vf vc vv : Value) (c : Conf) : Prop where
  filters : Filts w vf c.filters
  clusters : Cluss w vc c.clusters
  vhosts : Vhoss w vv c.vhosts
  capc : CapOk vc
  capv : CapOk vv
theorem CF.below {w w' : World} {vf vc vv : Value} {c : Conf} (h : CF w vf vc vv c) (hb : Below w.heap.size w w') : CF w' vf vc vv c := ⟨h.filters.below hb, h.clusters.below hb, h.vhosts.below hb, h.capc, h.capv⟩
structure FitFilt (x : Filt) : Prop where
  kind : -9223372036854775808 ≤ x.kind ∧ x.kind ≤ 9223372036854775807
  name : x.name.length ≤ 1048576
  value : x.value.length ≤ 1048576
  n : -9223372036854775808 ≤ x.n ∧ x.n ≤ 9223372036854775807
  m : -9223372036854775808 ≤ x.m ∧ x.m ≤ 9223372036854775807
  k : -9223372036854775808 ≤ x.k ∧ x.k ≤ 9223372036854775807
structure FitClus (x : Clus) : Prop where
  name : x.name.length ≤ 1048576
  policy : -9223372036854775808 ≤ x.policy ∧ x.policy ≤ 9223372036854775807
  hosts : x.hosts.length ≤ 1048576 ∧ ∀ t ∈ x.hosts, t.length ≤ 1048576
  conns : -9223372036854775808 ≤ x.conns ∧ x.conns ≤ 9223372036854775807
  pending : -9223372036854775808 ≤ x.pending ∧ x.pending ≤ 9223372036854775807
  try_ : -9223372036854775808 ≤ x.try_ ∧ x.try_ ≤ 9223372036854775807
  fails : -9223372036854775808 ≤ x.fails ∧ x.fails ≤ 9223372036854775807
  eject : -9223372036854775808 ≤ x.eject ∧ x.eject ≤ 9223372036854775807
  panic : -9223372036854775808 ≤ x.panic ∧ x.panic ≤ 9223372036854775807
structure FitRout (x : Rout) : Prop where
  path : x.path.length ≤ 1048576
  method : x.method.length ≤ 1048576
  field : x.field.length ≤ 1048576
  value : x.value.length ≤ 1048576
  action : -9223372036854775808 ≤ x.action ∧ x.action ≤ 9223372036854775807
  cluster : x.cluster.length ≤ 1048576
  status : -9223372036854775808 ≤ x.status ∧ x.status ≤ 9223372036854775807
  text : x.text.length ≤ 1048576
  rewrite : x.rewrite.length ≤ 1048576
  retries : -9223372036854775808 ≤ x.retries ∧ x.retries ≤ 9223372036854775807
  timeout : -9223372036854775808 ≤ x.timeout ∧ x.timeout ≤ 9223372036854775807
structure FitVhos (x : Vhos) : Prop where
  domain : x.domain.length ≤ 1048576
  routes : x.routes.length ≤ 1048576 ∧ ∀ r ∈ x.routes, FitRout r
structure FitConf (c : Conf) : Prop where
  conns : -9223372036854775808 ≤ c.conns ∧ c.conns ≤ 9223372036854775807
  body : -9223372036854775808 ≤ c.body ∧ c.body ≤ 9223372036854775807
  idle : -9223372036854775808 ≤ c.idle ∧ c.idle ≤ 9223372036854775807
  grace : -9223372036854775808 ≤ c.grace ∧ c.grace ≤ 9223372036854775807
  budget : -9223372036854775808 ≤ c.budget ∧ c.budget ≤ 9223372036854775807
  seed : -9223372036854775808 ≤ c.seed ∧ c.seed ≤ 9223372036854775807
  filters : c.filters.length ≤ 1048576 ∧ ∀ x ∈ c.filters, FitFilt x
  clusters : c.clusters.length ≤ 1048576 ∧ ∀ x ∈ c.clusters, FitClus x
  vhosts : c.vhosts.length ≤ 1048576 ∧ ∀ x ∈ c.vhosts, FitVhos x
end Go.Proofs.YtfihehobkbfmiaaGreatDoor.ConfMem

/- Layer 14 of the program: what a filter, a route has, taken from a line's words. -/
namespace Go.Proofs.YtfihehobkbfmiaaGreatDoor.PCfgN
open Go.ChangeShapes Go.WideShapes Go.ChangeAt Go.RowKit Bytes LexPure LexNum PathPure ConfPure ConfProg ConfMem Ret Mem PCfgLib PCfgT PCfgW PCfgM
set_option maxRecDepth 100000
set_option linter.unusedVariables false
set_option linter.unusedSimpArgs false
/-- the words in block g, and a box of the call's own -/
structure Wk (w : World) (g r : Nat) (T : TypeId) (cs : Array Value) (R : List L) (left wrong : Bool) (W : World) : Prop where
  st : St W g R left wrong
  box : Has W r T cs
  gr : w.grownBy W (some g)
  lo : w.heap.size ≤ r
  gl : g < w.heap.size
section
variable {w W W' : World} {g r : Nat} {T : TypeId} {cs : Array Value} {R : List L} {left wrong : Bool}
theorem Wk.took (h : Wk w g r T cs R left wrong W) {f : UInt8} (ht : Took W g R wrong f W') : Wk w g r T cs R.tail (!R.tail.isEmpty) (wrong || !okW f (R.headD [])) W' :=
  ⟨ht.st, h.box.grown ht.gr (by have := h.lo; have := h.gl; intro e; injection e with e; omega), own_trans h.gr ht.gr, h.lo, h.gl⟩
theorem Wk.start (h : St w g R left wrong) (T : TypeId) (cs : Array Value) : Wk w g w.heap.size T cs R left wrong (w.alloc (.cells cs T)) :=
  ⟨h.below ((Below.refl _ _).alloc (Nat.le_refl _) _), Has.new w _ _, own_alloc (World.grownBy.refl w _) _, Nat.le_refl _, h.lt⟩
theorem wnum (h : Wk w g r T cs R left wrong W) : Calls Tryz.prog 107 #[.pointer (some ⟨g, 0, none⟩)] W fun e W' => e = .returned (.int .i64 (numW (R.headD []))) ∧ Hid (Wk w g r T cs R.tail (!R.tail.isEmpty) (wrong || !okW 110 (R.headD [])) W') :=
  (pnumber_word g R left wrong W h.st).mono (fun e W' ⟨x1, x2⟩ => ⟨x1, Lib.hid (h.took x2)⟩)
theorem wtext (h : Wk w g r T cs R left wrong W) : Calls Tryz.prog 110 #[.pointer (some ⟨g, 0, none⟩)] W fun e W' => e = .returned (.string (ofL (textV (R.headD [])))) ∧ Hid (Wk w g r T cs R.tail (!R.tail.isEmpty) (wrong || !okW 119 (R.headD [])) W') :=
  (PCfgM.ptext_any g R left wrong W h.st).mono (fun e W' ⟨x1, x2⟩ => ⟨x1, Lib.hid (h.took x2)⟩)
theorem wflag (h : Wk w g r T cs R left wrong W) : Calls Tryz.prog 131 #[.pointer (some ⟨g, 0, none⟩)] W fun e W' => e = .returned (.bool (R.headD [] == [49])) ∧ Hid (Wk w g r T cs R.tail (!R.tail.isEmpty) (wrong || !okW 98 (R.headD [])) W') :=
  (pflag_word g R left wrong W h.st).mono (fun e W' ⟨x1, x2⟩ => ⟨x1, Lib.hid (h.took x2)⟩)
theorem Wk.setRow (h : Wk w g r T cs R left wrong W) (cs2 : Array Value) : Wk w g r T cs2 R left wrong (W.setRow r cs2) := by
  have hne : ∀ k, k < w.heap.size → k ≠ r := fun k hk => by have := h.lo; omega
  have hrow : W.grownBy (W.setRow r cs2) (some r) := ⟨rfl, rfl, rfl, by simp, fun k _ hk => setRow_other W r k _ (fun e => hk (by rw [e]))⟩
  refine ⟨h.st.grown hrow (by have := h.lo; have := h.gl; intro e; injection e with e; omega), ⟨setRow_heap W r cs cs2 T _ h.box.at_⟩, ⟨hrow.os.trans h.gr.os, hrow.tape.trans h.gr.tape, hrow.output.trans h.gr.output, Nat.le_trans h.gr.size hrow.size, fun k hk hn => ?_⟩, h.lo, h.gl⟩
  exact (hrow.block k (Nat.lt_of_lt_of_le hk h.gr.size) (fun e => by injection e with e; exact hne k hk e)).trans (h.gr.block k hk hn)
end
theorem store_whole {ops : Array Oper} {rest : List Oper} {o : Oper} {a : Act} {w : World} {Q : Exit → Act → World → Prop} (hgd : o.guard = none) (T : TypeId) (n : Nat) (hinfo : (Tryz.prog.info? T).map (·.size) = some n) (x y : Operand) (ho : o.op = .store T x y) (r : Nat) (old cs : Array Value) (hH : Has w r T old) (hold : old.size = n) (hn : cs.size = n) (hcs : cs.all (·.oneCell') = true)
    (hx : a.eval x = .pointer (some ⟨r, 0, none⟩)) (hy : a.eval y = .agg cs) (h : wpList Tryz.prog ops Q rest (a.put o.dst undef) (w.setRow r cs)) : wpList Tryz.prog ops Q (o :: rest) a w :=
  wpList_store_row hgd T x y ho r cs hx hy T old hH.at_ (by rw [hn]; exact hinfo) (hold.trans hn.symm) hcs h
theorem filt_size : (Tryz.prog.info? 49).map (·.size) = some 6 := by kernel_rfl
theorem rout_size : (Tryz.prog.info? 45).map (·.size) = some 13 := by kernel_rfl
theorem clus_size : (Tryz.prog.info? 38).map (·.size) = some 9 := by kernel_rfl
theorem conf_size : (Tryz.prog.info? 26).map (·.size) = some 9 := by kernel_rfl
set_option maxHeartbeats 3200000 in
theorem pfilter_any (g : Nat) (R : List L) (left wrong : Bool) (w : World) (h : St w g R left wrong) :
    Calls Tryz.prog 108 #[.pointer (some ⟨g, 0, none⟩)] w fun e w' => e = .returned (.agg (filtV (filtR R)).toArray) ∧ St w' g (R.drop 6) (!(R.drop 6).isEmpty) (wrong || wrongF R FF) ∧ w.grownBy w' (some g) := by
  have K0 := Lib.hid (Wk.start h 49 #[.int .i64 0, .string ⟨#[]⟩, .string ⟨#[]⟩, .int .i64 0, .int .i64 0, .int .i64 0])
  have HD : Hid (∀ (W : World) (r : Nat) (cs : Array Value), Wk w g r 49 cs R.tail.tail.tail.tail.tail.tail (!(R.tail.tail.tail.tail.tail.tail).isEmpty) ((((((wrong || !okW 110 ((R).headD [])) || !okW 119 ((R.tail).headD [])) || !okW 119 ((R.tail.tail).headD [])) || !okW 110 ((R.tail.tail.tail).headD [])) || !okW 110 ((R.tail.tail.tail.tail).headD [])) || !okW 110 ((R.tail.tail.tail.tail.tail).headD [])) W → St W g (R.drop 6) (!(R.drop 6).isEmpty) (wrong || wrongF R FF) ∧ w.grownBy W (some g)) := Lib.hid (fun W r cs hK => by
    have e1 : R.tail.tail.tail.tail.tail.tail = R.drop 6 := by simp [← List.drop_one, List.drop_drop]
    have hs := hK.st
    rw [e1] at hs
    refine ⟨?_, hK.gr⟩
    have e2 : ((((((wrong || !okW 110 ((R).headD [])) || !okW 119 ((R.tail).headD [])) || !okW 119 ((R.tail.tail).headD [])) || !okW 110 ((R.tail.tail.tail).headD [])) || !okW 110 ((R.tail.tail.tail.tail).headD [])) || !okW 110 ((R.tail.tail.tail.tail.tail).headD [])) = (wrong || wrongF R FF) := by
      unfold FF
      simp only [wrongF, Bool.or_false, Bool.or_assoc]
    rw [← e2]
    exact hs)
  obtain ⟨x0, hx0⟩ : ∃ x, Hid (x = numW ((R).headD [])) := ⟨_, Lib.hid rfl⟩
  obtain ⟨x1, hx1⟩ : ∃ x, Hid (x = ofL (textV ((R.tail).headD []))) := ⟨_, Lib.hid rfl⟩
  obtain ⟨x2, hx2⟩ : ∃ x, Hid (x = ofL (textV ((R.tail.tail).headD []))) := ⟨_, Lib.hid rfl⟩
  obtain ⟨x3, hx3⟩ : ∃ x, Hid (x = numW ((R.tail.tail.tail).headD [])) := ⟨_, Lib.hid rfl⟩
  obtain ⟨x4, hx4⟩ : ∃ x, Hid (x = numW ((R.tail.tail.tail.tail).headD [])) := ⟨_, Lib.hid rfl⟩
  obtain ⟨x5, hx5⟩ : ∃ x, Hid (x = numW ((R.tail.tail.tail.tail.tail).headD [])) := ⟨_, Lib.hid rfl⟩
  have hE := Lib.hid (show #[.int .i64 x0, .string x1, .string x2, .int .i64 x3, .int .i64 x4, .int .i64 x5] = (filtV (filtR R)).toArray from by rw [hx0.out, hx1.out, hx2.out, hx3.out, hx4.out, hx5.out]; rfl)
  clear h
  go_enter Tryz.func108, Tryz.ntmps108
  go_wp2_with fail
  refine (wnum K0.out).mono ?_
  rintro e w1 ⟨he, K1⟩
  rw [← hx0.out] at he
  subst he
  clear K0
  go_wp2_with fail
  refine (wtext K1.out).mono ?_
  rintro e w2 ⟨he, K2⟩
  rw [← hx1.out] at he
  subst he
  clear K1
  go_wp2_with fail
  refine (wtext K2.out).mono ?_
  rintro e w3 ⟨he, K3⟩
  rw [← hx2.out] at he
  subst he
  clear K2
  go_wp2_with fail
  refine (wnum K3.out).mono ?_
  rintro e w4 ⟨he, K4⟩
  rw [← hx3.out] at he
  subst he
  clear K3
  go_wp2_with fail
  refine (wnum K4.out).mono ?_
  rintro e w5 ⟨he, K5⟩
  rw [← hx4.out] at he
  subst he
  clear K4
  go_wp2_with fail
  refine (wnum K5.out).mono ?_
  rintro e w6 ⟨he, K6⟩
  rw [← hx5.out] at he
  subst he
  clear K5
  have HB := K6.out.box
  go_wp2_with (refine store_whole rfl 49 6 filt_size _ _ rfl w.heap.size _ _ HB rfl rfl (by simp [Value.oneCell']) rfl rfl ?_)
  have HX := Wk.setRow K6.out (#[.int .i64 x0, .string x1, .string x2, .int .i64 x3, .int .i64 x4, .int .i64 x5])
  refine bodyPost_ret (v := .agg (#[.int .i64 x0, .string x1, .string x2, .int .i64 x3, .int .i64 x4, .int .i64 x5])) (results_cell_row rfl _ _ w.heap.size 49 _ (0, 0) _ rfl HX.box.at_ Tryz.underlying49 rfl (by kernel_rfl)) rfl ?_
  exact ⟨by rw [hE.out], HD.out _ _ _ HX⟩
def routR (R : List L) : Rout := ⟨(R).headD [] == [49], textV ((R.tail).headD []), textV ((R.tail.tail).headD []), textV ((R.tail.tail.tail).headD []), textV ((R.tail.tail.tail.tail).headD []), numW ((R.tail.tail.tail.tail.tail).headD []), textV ((R.tail.tail.tail.tail.tail.tail).headD []), numW ((R.tail.tail.tail.tail.tail.tail.tail).headD []), textV ((R.tail.tail.tail.tail.tail.tail.tail.tail).headD []), textV ((R.tail.tail.tail.tail.tail.tail.tail.tail.tail).headD []), numW ((R.tail.tail.tail.tail.tail.tail.tail.tail.tail.tail).headD []), numW ((R.tail.tail.tail.tail.tail.tail.tail.tail.tail.tail.tail).headD []), (R.tail.tail.tail.tail.tail.tail.tail.tail.tail.tail.tail.tail).headD [] == [49]⟩
set_option maxHeartbeats 3200000 in
theorem proute_any (g : Nat) (R : List L) (left wrong : Bool) (w : World) (h : St w g R left wrong) :
    Calls Tryz.prog 111 #[.pointer (some ⟨g, 0, none⟩)] w fun e w' => e = .returned (.agg (routV (routR R)).toArray) ∧ St w' g (R.drop 13) (!(R.drop 13).isEmpty) (wrong || wrongF R FR) ∧ w.grownBy w' (some g) := by
  have K0 := Lib.hid (Wk.start h 45 #[.bool false, .string ⟨#[]⟩, .string ⟨#[]⟩, .string ⟨#[]⟩, .string ⟨#[]⟩, .int .i64 0, .string ⟨#[]⟩, .int .i64 0, .string ⟨#[]⟩, .string ⟨#[]⟩, .int .i64 0, .int .i64 0, .bool false])
  have HD : Hid (∀ (W : World) (r : Nat) (cs : Array Value), Wk w g r 45 cs R.tail.tail.tail.tail.tail.tail.tail.tail.tail.tail.tail.tail.tail (!(R.tail.tail.tail.tail.tail.tail.tail.tail.tail.tail.tail.tail.tail).isEmpty) (((((((((((((wrong || !okW 98 ((R).headD [])) || !okW 119 ((R.tail).headD [])) || !okW 119 ((R.tail.tail).headD [])) || !okW 119 ((R.tail.tail.tail).headD [])) || !okW 119 ((R.tail.tail.tail.tail).headD [])) || !okW 110 ((R.tail.tail.tail.tail.tail).headD [])) || !okW 119 ((R.tail.tail.tail.tail.tail.tail).headD [])) || !okW 110 ((R.tail.tail.tail.tail.tail.tail.tail).headD [])) || !okW 119 ((R.tail.tail.tail.tail.tail.tail.tail.tail).headD [])) || !okW 119 ((R.tail.tail.tail.tail.tail.tail.tail.tail.tail).headD [])) || !okW 110 ((R.tail.tail.tail.tail.tail.tail.tail.tail.tail.tail).headD [])) || !okW 110 ((R.tail.tail.tail.tail.tail.tail.tail.tail.tail.tail.tail).headD [])) || !okW 98 ((R.tail.tail.tail.tail.tail.tail.tail.tail.tail.tail.tail.tail).headD [])) W → St W g (R.drop 13) (!(R.drop 13).isEmpty) (wrong || wrongF R FR) ∧ w.grownBy W (some g)) := Lib.hid (fun W r cs hK => by
    have e1 : R.tail.tail.tail.tail.tail.tail.tail.tail.tail.tail.tail.tail.tail = R.drop 13 := by simp [← List.drop_one, List.drop_drop]
    have hs := hK.st
    rw [e1] at hs
    refine ⟨?_, hK.gr⟩
    have e2 : (((((((((((((wrong || !okW 98 ((R).headD [])) || !okW 119 ((R.tail).headD [])) || !okW 119 ((R.tail.tail).headD [])) || !okW 119 ((R.tail.tail.tail).headD [])) || !okW 119 ((R.tail.tail.tail.tail).headD [])) || !okW 110 ((R.tail.tail.tail.tail.tail).headD [])) || !okW 119 ((R.tail.tail.tail.tail.tail.tail).headD [])) || !okW 110 ((R.tail.tail.tail.tail.tail.tail.tail).headD [])) || !okW 119 ((R.tail.tail.tail.tail.tail.tail.tail.tail).headD [])) || !okW 119 ((R.tail.tail.tail.tail.tail.tail.tail.tail.tail).headD [])) || !okW 110 ((R.tail.tail.tail.tail.tail.tail.tail.tail.tail.tail).headD [])) || !okW 110 ((R.tail.tail.tail.tail.tail.tail.tail.tail.tail.tail.tail).headD [])) || !okW 98 ((R.tail.tail.tail.tail.tail.tail.tail.tail.tail.tail.tail.tail).headD [])) = (wrong || wrongF R FR) := by
      unfold FR
      simp only [wrongF, Bool.or_false, Bool.or_assoc]
    rw [← e2]
    exact hs)
  obtain ⟨x0, hx0⟩ : ∃ x, Hid (x = ((R).headD [] == [49])) := ⟨_, Lib.hid rfl⟩
  obtain ⟨x1, hx1⟩ : ∃ x, Hid (x = ofL (textV ((R.tail).headD []))) := ⟨_, Lib.hid rfl⟩
  obtain ⟨x2, hx2⟩ : ∃ x, Hid (x = ofL (textV ((R.tail.tail).headD []))) := ⟨_, Lib.hid rfl⟩
  obtain ⟨x3, hx3⟩ : ∃ x, Hid (x = ofL (textV ((R.tail.tail.tail).headD []))) := ⟨_, Lib.hid rfl⟩
  obtain ⟨x4, hx4⟩ : ∃ x, Hid (x = ofL (textV ((R.tail.tail.tail.tail).headD []))) := ⟨_, Lib.hid rfl⟩
  obtain ⟨x5, hx5⟩ : ∃ x, Hid (x = numW ((R.tail.tail.tail.tail.tail).headD [])) := ⟨_, Lib.hid rfl⟩
  obtain ⟨x6, hx6⟩ : ∃ x, Hid (x = ofL (textV ((R.tail.tail.tail.tail.tail.tail).headD []))) := ⟨_, Lib.hid rfl⟩
  obtain ⟨x7, hx7⟩ : ∃ x, Hid (x = numW ((R.tail.tail.tail.tail.tail.tail.tail).headD [])) := ⟨_, Lib.hid rfl⟩
  obtain ⟨x8, hx8⟩ : ∃ x, Hid (x = ofL (textV ((R.tail.tail.tail.tail.tail.tail.tail.tail).headD []))) := ⟨_, Lib.hid rfl⟩
  obtain ⟨x9, hx9⟩ : ∃ x, Hid (x = ofL (textV ((R.tail.tail.tail.tail.tail.tail.tail.tail.tail).headD []))) := ⟨_, Lib.hid rfl⟩
  obtain ⟨x10, hx10⟩ : ∃ x, Hid (x = numW ((R.tail.tail.tail.tail.tail.tail.tail.tail.tail.tail).headD [])) := ⟨_, Lib.hid rfl⟩
  obtain ⟨x11, hx11⟩ : ∃ x, Hid (x = numW ((R.tail.tail.tail.tail.tail.tail.tail.tail.tail.tail.tail).headD [])) := ⟨_, Lib.hid rfl⟩
  obtain ⟨x12, hx12⟩ : ∃ x, Hid (x = ((R.tail.tail.tail.tail.tail.tail.tail.tail.tail.tail.tail.tail).headD [] == [49])) := ⟨_, Lib.hid rfl⟩
  have hE := Lib.hid (show #[.bool x0, .string x1, .string x2, .string x3, .string x4, .int .i64 x5, .string x6, .int .i64 x7, .string x8, .string x9, .int .i64 x10, .int .i64 x11, .bool x12] = (routV (routR R)).toArray from by rw [hx0.out, hx1.out, hx2.out, hx3.out, hx4.out, hx5.out, hx6.out, hx7.out, hx8.out, hx9.out, hx10.out, hx11.out, hx12.out]; rfl)
  clear h
  go_enter Tryz.func111, Tryz.ntmps111
  go_wp2_with fail
  refine (wflag K0.out).mono ?_
  rintro e w1 ⟨he, K1⟩
  rw [← hx0.out] at he
  subst he
  clear K0
  go_wp2_with fail
  refine (wtext K1.out).mono ?_
  rintro e w2 ⟨he, K2⟩
  rw [← hx1.out] at he
  subst he
  clear K1
  go_wp2_with fail
  refine (wtext K2.out).mono ?_
  rintro e w3 ⟨he, K3⟩
  rw [← hx2.out] at he
  subst he
  clear K2
  go_wp2_with fail
  refine (wtext K3.out).mono ?_
  rintro e w4 ⟨he, K4⟩
  rw [← hx3.out] at he
  subst he
  clear K3
  go_wp2_with fail
  refine (wtext K4.out).mono ?_
  rintro e w5 ⟨he, K5⟩
  rw [← hx4.out] at he
  subst he
  clear K4
  go_wp2_with fail
  refine (wnum K5.out).mono ?_
  rintro e w6 ⟨he, K6⟩
  rw [← hx5.out] at he
  subst he
  clear K5
  go_wp2_with fail
  refine (wtext K6.out).mono ?_
  rintro e w7 ⟨he, K7⟩
  rw [← hx6.out] at he
  subst he
  clear K6
  go_wp2_with fail
  refine (wnum K7.out).mono ?_
  rintro e w8 ⟨he, K8⟩
  rw [← hx7.out] at he
  subst he
  clear K7
  go_wp2_with fail
  refine (wtext K8.out).mono ?_
  rintro e w9 ⟨he, K9⟩
  rw [← hx8.out] at he
  subst he
  clear K8
  go_wp2_with fail
  refine (wtext K9.out).mono ?_
  rintro e w10 ⟨he, K10⟩
  rw [← hx9.out] at he
  subst he
  clear K9
  go_wp2_with fail
  refine (wnum K10.out).mono ?_
  rintro e w11 ⟨he, K11⟩
  rw [← hx10.out] at he
  subst he
  clear K10
  go_wp2_with fail
  refine (wnum K11.out).mono ?_
  rintro e w12 ⟨he, K12⟩
  rw [← hx11.out] at he
  subst he
  clear K11
  go_wp2_with fail
  refine (wflag K12.out).mono ?_
  rintro e w13 ⟨he, K13⟩
  rw [← hx12.out] at he
  subst he
  clear K12
  have HB := K13.out.box
  go_wp2_with (refine store_whole rfl 45 13 rout_size _ _ rfl w.heap.size _ _ HB rfl rfl (by simp [Value.oneCell']) rfl rfl ?_)
  have HX := Wk.setRow K13.out (#[.bool x0, .string x1, .string x2, .string x3, .string x4, .int .i64 x5, .string x6, .int .i64 x7, .string x8, .string x9, .int .i64 x10, .int .i64 x11, .bool x12])
  refine bodyPost_ret (v := .agg (#[.bool x0, .string x1, .string x2, .string x3, .string x4, .int .i64 x5, .string x6, .int .i64 x7, .string x8, .string x9, .int .i64 x10, .int .i64 x11, .bool x12])) (results_cell_row rfl _ _ w.heap.size 45 _ (0, 0) _ rfl HX.box.at_ Tryz.underlying45 rfl (by kernel_rfl)) rfl ?_
  exact ⟨by rw [hE.out], HD.out _ _ _ HX⟩
end Go.Proofs.YtfihehobkbfmiaaGreatDoor.PCfgN

/- An own row, later on. No program is named. -/
namespace Go.Proofs.YtfihehobkbfmiaaGreatDoor.RowKeep
open Go.RowKit Mem
theorem row_below {w w' : World} {base n size : Nat} {e : TypeId} {v : Value} {xs : List Value} (h : w.ownsRow base e size v n xs) (hb : Below w.heap.size w w') : w'.ownsRow base e size v n xs := by
  refine ⟨h.1, ?_⟩
  rcases h.2 with h0 | ⟨g, cap, cur, hv, h1, hg, rest⟩
  · exact .inl h0
  · exact .inr ⟨g, cap, cur, hv, h1, (hb.block g (Array.getElem?_eq_some_iff.1 hg).1).trans hg, rest⟩
theorem row_mono {w : World} {base base' n size : Nat} {e : TypeId} {v : Value} {xs : List Value} (h : w.ownsRow base e size v n xs) (hb : base' ≤ base) : w.ownsRow base' e size v n xs := by
  refine ⟨h.1, ?_⟩
  rcases h.2 with h0 | ⟨g, cap, cur, h1, h2, h3⟩
  · exact .inl h0
  · exact .inr ⟨g, cap, cur, h1, Nat.le_trans hb h2, h3⟩
theorem row_form {w : World} {base n size : Nat} {e : TypeId} {v : Value} {xs : List Value} (h : w.ownsRow base e size v n xs) : ∃ p cap, v = .slice p n cap ∧ n ≤ cap := by
  rcases h.2 with ⟨hv, hn⟩ | ⟨g, cap, cur, hv, _, _, hc, _⟩
  · exact ⟨none, 0, by rw [hv, hn], by omega⟩
  · exact ⟨_, cap, hv, hc⟩
/-- its cells -/
theorem row_at {w : World} {base n size : Nat} {e : TypeId} {v : Value} {xs : List Value} (h : w.ownsRow base e size v n xs) (hn : 0 < n) : ∃ g cap, v = .slice (some ⟨g, 0, none⟩) n cap ∧ base ≤ g ∧ g < w.heap.size ∧ n ≤ cap ∧ ∀ j, j < n * size → w.cell? ⟨g, j, none⟩ = xs[j]? := by
  have h0 := h
  rcases h.2 with ⟨_, h1⟩ | ⟨g, cap, cur, hv, hb, hg, hc, _⟩
  · omega
  · subst hv
    exact ⟨g, cap, rfl, hb, (Array.getElem?_eq_some_iff.1 hg).1, hc, fun j hj => h0.cellAt j hj⟩
end Go.Proofs.YtfihehobkbfmiaaGreatDoor.RowKeep

/- Layer 14 of the program: what a cluster has, taken from a line's words. -/
namespace Go.Proofs.YtfihehobkbfmiaaGreatDoor.PCfgO
open Go.ChangeShapes Go.WideShapes Go.ChangeAt Go.RowKit Bytes LexPure LexNum PathPure ConfPure ConfProg ConfMem Ret Mem Texts PCfgLib PCfgT PCfgW PCfgM PCfgN
set_option maxRecDepth 100000
set_option linter.unusedVariables false
set_option linter.unusedSimpArgs false
abbrev KT : TypeId := 38
/-- while the hosts are taken: the words in g, the result's box in r, the cluster's in c, its hosts hv -/
structure Ck (w : World) (g r c : Nat) (zs : Array Value) (cs : Value → Array Value) (hv : Value) (Hs R : List L) (left wrong : Bool) (W : World) : Prop where
  st : St W g R left wrong
  res : Has W r KT zs
  box : Has W c KT (cs hv)
  row : W.ownsRow w.heap.size 9 1 hv Hs.length (Texts.strs Hs)
  gr : w.grownBy W (some g)
  lo : w.heap.size ≤ r
  rc : r < c
  gl : g < w.heap.size
section
variable {w W W' : World} {g r c : Nat} {zs : Array Value} {cs : Value → Array Value} {hv : Value} {Hs R : List L} {left wrong : Bool}
theorem Ck.took (h : Ck w g r c zs cs hv Hs R left wrong W) {f : UInt8} (ht : Took W g R wrong f W') : Ck w g r c zs cs hv Hs R.tail (!R.tail.isEmpty) (wrong || !okW f (R.headD [])) W' :=
  have hl := h.lo
  have hr := h.rc
  have hg := h.gl
  ⟨ht.st, h.res.grown ht.gr (by intro e; injection e with e; omega), h.box.grown ht.gr (by intro e; injection e with e; omega), h.row.kept ht.gr (.inr (fun e => by have := (h.row.lt g e).1; omega)), own_trans h.gr ht.gr, hl, hr, hg⟩
theorem Ck.drew (h : Ck w g r c zs cs hv Hs R left wrong W) : Ck w g r c zs cs hv Hs R left wrong W.drew := by
  obtain ⟨rest, a, b, d⟩ := h.st.ex
  exact ⟨⟨⟨rest, a.drew, b, d⟩⟩, h.res.drew, h.box.drew, h.row.drew, own_drew h.gr, h.lo, h.rc, h.gl⟩
theorem Ck.alloc (h : Ck w g r c zs cs hv Hs R left wrong W) (o : Obj) : Ck w g r c zs cs hv Hs R left wrong (W.alloc o) :=
  ⟨h.st.below ((Below.refl _ _).alloc (Nat.le_refl _) _), h.res.alloc o, h.box.alloc o, h.row.alloc o, own_alloc h.gr o, h.lo, h.rc, h.gl⟩
theorem cutB_len (b : UInt8) : ∀ s : L, (cutB b s).length ≤ s.length + 1
  | [] => Nat.le_refl _
  | c :: s => by
    have ih := cutB_len b s
    rw [cutB]
    split
    · rw [List.length_cons, List.length_cons]; omega
    · split
      · rw [List.length_cons, List.length_cons, List.length_nil]; omega
      · rename_i p ps e
        rw [e] at ih
        rw [List.length_cons] at ih ⊢
        rw [List.length_cons]
        omega
theorem st_len {w : World} {g : Nat} {R : List L} {left wrong : Bool} (h : St w g R left wrong) : R.length ≤ 1099511627777 := by
  obtain ⟨rest, _, hr, hl⟩ := h.ex
  rcases hr with ⟨rfl, _⟩ | ⟨_, rfl⟩
  · exact Nat.zero_le _
  · have := cutB_len 32 rest; omega
theorem row_far {w : World} {base n size : Nat} {e : TypeId} {v : Value} {xs : List Value} (h : w.ownsRow base e size v n xs) {g : Nat} {T : TypeId} {cs : Array Value} (hH : Has w g T cs) (hT : T ≠ e) : v.ownBlock ≠ some g := by
  intro hk
  rcases h.2 with ⟨rfl, _⟩ | ⟨b, cap, cur, rfl, _, hb, _⟩
  · simp [Value.ownBlock] at hk
  · simp [Value.ownBlock] at hk
    subst hk
    have := hH.at_
    rw [hb] at this
    injection this with this
    injection this with _ h2
    exact hT h2.symm
theorem Ck.push (hcs : ∀ a b, (cs a).setIfInBounds 2 b = cs b) (h : Ck w g r c zs cs hv Hs R left wrong W) {v4 : Value} {w4 : World} {t : L} (hown : w4.ownsRow w.heap.size 9 1 v4 (Hs.length + 1) (Texts.strs Hs ++ [.string (ofL t)])) (hg : W.grownBy w4 hv.ownBlock) :
    Ck w g r c zs cs v4 (Hs ++ [t]) R left wrong (w4.setCell ⟨c, 2, none⟩ v4) := by
  have hgl := h.gl
  have hlo := h.lo
  have hrc := h.rc
  have n1 : hv.ownBlock ≠ some r := row_far h.row h.res (by decide)
  have n2 : hv.ownBlock ≠ some c := row_far h.row h.box (by decide)
  have n3 : hv.ownBlock ≠ some g := fun e => by have := (h.row.lt g e).1; omega
  have hb4 := h.box.grown hg (Ne.symm n2)
  have n4 : v4.ownBlock ≠ some c := row_far hown hb4 (by decide)
  have hset : w4.grownBy (w4.setCell ⟨c, 2, none⟩ v4) (some c) := ⟨rfl, rfl, rfl, by simp [World.setCell], fun k _ hk => Below.heap_setCell w4 _ _ k (fun e => hk (by rw [e]))⟩
  refine ⟨(h.st.grown hg (Ne.symm n3)).grown hset (by intro e; injection e with e; omega), (h.res.grown hg (Ne.symm n1)).grown hset (by intro e; injection e with e; omega), ?_, ?_, ?_, hlo, hrc, hgl⟩
  · have := hb4.set_ 2 v4
    rwa [hcs] at this
  · rw [List.length_append, List.length_singleton, show Texts.strs (Hs ++ [t]) = Texts.strs Hs ++ [.string (ofL t)] from by simp [Texts.strs]]
    exact hown.kept hset (.inr n4)
  · refine ⟨hset.os.trans (hg.os.trans h.gr.os), hset.tape.trans (hg.tape.trans h.gr.tape), hset.output.trans (hg.output.trans h.gr.output), Nat.le_trans h.gr.size (Nat.le_trans hg.size hset.size), fun k hk hn => ?_⟩
    have hk1 : k < W.heap.size := Nat.lt_of_lt_of_le hk h.gr.size
    rw [hset.block k (Nat.lt_of_lt_of_le hk1 hg.size) (by intro e; injection e with e; omega), hg.block k hk1 (fun e => by have := (h.row.lt k e.symm).1; omega)]
    exact h.gr.block k hk hn
end
theorem wrongH_snoc (D : List L) (x : L) : wrongH (D ++ [x]) = (wrongH D || !okW 119 x) := by
  unfold wrongH okW
  rw [List.any_append, if_pos rfl]
  simp
set_option maxHeartbeats 3200000 in
theorem pcluster_any (g : Nat) (R : List L) (left wrong : Bool) (w : World) (h : St w g R left wrong) :
    Calls Tryz.prog 109 #[.pointer (some ⟨g, 0, none⟩)] w fun e w' => ∃ hv, e = .returned (.agg #[.string (ofL (textV ((R).headD []))), .int .i64 (numW ((R.tail).headD [])), hv, .int .i64 (numW ((R.tail.tail).headD [])), .int .i64 (numW ((R.tail.tail.tail).headD [])), .int .i64 (numW ((R.tail.tail.tail.tail).headD [])), .int .i64 (numW ((R.tail.tail.tail.tail.tail).headD [])), .int .i64 (numW ((R.tail.tail.tail.tail.tail.tail).headD [])), .int .i64 (numW ((R.tail.tail.tail.tail.tail.tail.tail).headD []))]) ∧ w'.ownsRow w.heap.size 9 1 hv ((R.drop 8).map textV).length (Texts.strs ((R.drop 8).map textV)) ∧ St w' g [] false (wrong || wrongF R FC || wrongH (R.drop 8)) ∧ w.grownBy w' (some g) := by
  have HLn := Lib.hid (st_len h)
  have K0 := Lib.hid (Wk.start h KT #[.string ⟨#[]⟩, .int .i64 0, .slice none 0 0, .int .i64 0, .int .i64 0, .int .i64 0, .int .i64 0, .int .i64 0, .int .i64 0])
  have e1 : Hid (R.tail.tail.tail.tail.tail.tail.tail.tail = R.drop 8) := Lib.hid (by simp [← List.drop_one, List.drop_drop])
  have e2 : Hid (((((((((wrong || !okW 119 ((R).headD [])) || !okW 110 ((R.tail).headD [])) || !okW 110 ((R.tail.tail).headD [])) || !okW 110 ((R.tail.tail.tail).headD [])) || !okW 110 ((R.tail.tail.tail.tail).headD [])) || !okW 110 ((R.tail.tail.tail.tail.tail).headD [])) || !okW 110 ((R.tail.tail.tail.tail.tail.tail).headD [])) || !okW 110 ((R.tail.tail.tail.tail.tail.tail.tail).headD [])) = (wrong || wrongF R FC)) := Lib.hid (by
      unfold FC
      simp only [wrongF, Bool.or_false, Bool.or_assoc])
  obtain ⟨x0, hx0⟩ : ∃ x, Hid (x = ofL (textV ((R).headD []))) := ⟨_, Lib.hid rfl⟩
  obtain ⟨x1, hx1⟩ : ∃ x, Hid (x = numW ((R.tail).headD [])) := ⟨_, Lib.hid rfl⟩
  obtain ⟨x2, hx2⟩ : ∃ x, Hid (x = numW ((R.tail.tail).headD [])) := ⟨_, Lib.hid rfl⟩
  obtain ⟨x3, hx3⟩ : ∃ x, Hid (x = numW ((R.tail.tail.tail).headD [])) := ⟨_, Lib.hid rfl⟩
  obtain ⟨x4, hx4⟩ : ∃ x, Hid (x = numW ((R.tail.tail.tail.tail).headD [])) := ⟨_, Lib.hid rfl⟩
  obtain ⟨x5, hx5⟩ : ∃ x, Hid (x = numW ((R.tail.tail.tail.tail.tail).headD [])) := ⟨_, Lib.hid rfl⟩
  obtain ⟨x6, hx6⟩ : ∃ x, Hid (x = numW ((R.tail.tail.tail.tail.tail.tail).headD [])) := ⟨_, Lib.hid rfl⟩
  obtain ⟨x7, hx7⟩ : ∃ x, Hid (x = numW ((R.tail.tail.tail.tail.tail.tail.tail).headD [])) := ⟨_, Lib.hid rfl⟩
  have hE : Hid (∀ hv, Value.agg #[.string x0, .int .i64 x1, hv, .int .i64 x2, .int .i64 x3, .int .i64 x4, .int .i64 x5, .int .i64 x6, .int .i64 x7] = .agg #[.string (ofL (textV ((R).headD []))), .int .i64 (numW ((R.tail).headD [])), hv, .int .i64 (numW ((R.tail.tail).headD [])), .int .i64 (numW ((R.tail.tail.tail).headD [])), .int .i64 (numW ((R.tail.tail.tail.tail).headD [])), .int .i64 (numW ((R.tail.tail.tail.tail.tail).headD [])), .int .i64 (numW ((R.tail.tail.tail.tail.tail.tail).headD [])), .int .i64 (numW ((R.tail.tail.tail.tail.tail.tail.tail).headD []))]) := Lib.hid (fun hv => by rw [hx0.out, hx1.out, hx2.out, hx3.out, hx4.out, hx5.out, hx6.out, hx7.out])
  unfold KT at K0
  obtain ⟨i0, hi, hz0, hz1, hz2⟩ := info_parts infoS
  clear h
  go_enter Tryz.func109, Tryz.ntmps109
  go_wp2_with fail
  refine (wtext K0.out).mono ?_
  rintro e w1 ⟨he, K1⟩
  rw [← hx0.out] at he
  subst he
  clear K0
  go_wp2_with fail
  refine (wnum K1.out).mono ?_
  rintro e w2 ⟨he, K2⟩
  rw [← hx1.out] at he
  subst he
  clear K1
  go_wp2_with fail
  refine (wnum K2.out).mono ?_
  rintro e w3 ⟨he, K3⟩
  rw [← hx2.out] at he
  subst he
  clear K2
  go_wp2_with fail
  refine (wnum K3.out).mono ?_
  rintro e w4 ⟨he, K4⟩
  rw [← hx3.out] at he
  subst he
  clear K3
  go_wp2_with fail
  refine (wnum K4.out).mono ?_
  rintro e w5 ⟨he, K5⟩
  rw [← hx4.out] at he
  subst he
  clear K4
  go_wp2_with fail
  refine (wnum K5.out).mono ?_
  rintro e w6 ⟨he, K6⟩
  rw [← hx5.out] at he
  subst he
  clear K5
  go_wp2_with fail
  refine (wnum K6.out).mono ?_
  rintro e w7 ⟨he, K7⟩
  rw [← hx6.out] at he
  subst he
  clear K6
  go_wp2_with fail
  refine (wnum K7.out).mono ?_
  rintro e w8 ⟨he, K8⟩
  rw [← hx7.out] at he
  subst he
  clear K7
  rw [e1.out, e2.out] at K8
  have C0 : Hid (Ck w g w.heap.size w8.heap.size #[.string ⟨#[]⟩, .int .i64 0, .slice none 0 0, .int .i64 0, .int .i64 0, .int .i64 0, .int .i64 0, .int .i64 0, .int .i64 0] (fun hv => #[.string x0, .int .i64 x1, hv, .int .i64 x2, .int .i64 x3, .int .i64 x4, .int .i64 x5, .int .i64 x6, .int .i64 x7]) (.slice none 0 0) [] (R.drop 8) (!(R.drop 8).isEmpty) (wrong || wrongF R FC) (w8.alloc (.cells #[.string x0, .int .i64 x1, .slice none 0 0, .int .i64 x2, .int .i64 x3, .int .i64 x4, .int .i64 x5, .int .i64 x6, .int .i64 x7] 38))) := Lib.hid
    ⟨K8.out.st.below ((Below.refl _ _).alloc (Nat.le_refl _) _), K8.out.box.alloc _, Has.new w8 _ _, World.ownsRow_nil _ _ _ _, own_alloc K8.out.gr _, Nat.le_refl _, K8.out.box.lt, K8.out.gl⟩
  generalize hW : w8.alloc (.cells #[.string x0, .int .i64 x1, .slice none 0 0, .int .i64 x2, .int .i64 x3, .int .i64 x4, .int .i64 x5, .int .i64 x6, .int .i64 x7] 38) = W0 at C0
  obtain ⟨c, hc⟩ : ∃ c, c = w8.heap.size := ⟨_, rfl⟩
  rw [← hc] at C0
  have HW := Lib.hid hW
  have HC := Lib.hid hc
  clear hW hc K8
  go_wp2_with fail
  rw [HW.out, ← HC.out]
  obtain ⟨N0, hN0⟩ : ∃ N, N = (R.drop 8).length := ⟨_, rfl⟩
  have H0 : Hid (∃ D R', R'.length = N0 ∧ R.drop 8 = D ++ R' ∧ ∃ hv, Ck w g w.heap.size c #[.string ⟨#[]⟩, .int .i64 0, .slice none 0 0, .int .i64 0, .int .i64 0, .int .i64 0, .int .i64 0, .int .i64 0, .int .i64 0] (fun hv => #[.string x0, .int .i64 x1, hv, .int .i64 x2, .int .i64 x3, .int .i64 x4, .int .i64 x5, .int .i64 x6, .int .i64 x7]) hv (D.map textV) R' (!R'.isEmpty) (wrong || wrongF R FC || wrongH D) W0) := Lib.hid ⟨[], R.drop 8, hN0.symm, rfl, _, by rw [show wrongH [] = false from rfl, Bool.or_false]; exact C0.out⟩
  clear C0 hN0 HW HC
  go_loopg [] N0 (fun n wr => Hid (∃ D R', R'.length = n ∧ R.drop 8 = D ++ R' ∧ ∃ hv, Ck w g w.heap.size c #[.string ⟨#[]⟩, .int .i64 0, .slice none 0 0, .int .i64 0, .int .i64 0, .int .i64 0, .int .i64 0, .int .i64 0, .int .i64 0] (fun hv => #[.string x0, .int .i64 x1, hv, .int .i64 x2, .int .i64 x3, .int .i64 x4, .int .i64 x5, .int .i64 x6, .int .i64 x7]) hv (D.map textV) R' (!R'.isEmpty) (wrong || wrongF R FC || wrongH D) wr))
  case atStart => exact H0
  case round =>
    clear H0
    obtain ⟨D, R', hn, hR, hv, C⟩ := hrel.out
    have C1 := Lib.hid C
    obtain ⟨c1, _, _⟩ := C.st.cells
    have hRh := Lib.hid hR
    have hnh := Lib.hid hn
    clear C hR hn
    have hnb : (D.map textV).length ≤ 1099511627777 := by
      have h1 := congrArg List.length hRh.out
      rw [List.length_drop, List.length_append] at h1
      have := HLn.out
      rw [List.length_map]
      omega
    obtain ⟨ph, ch, hvv, _⟩ := RowKeep.row_form C1.out.row
    obtain ⟨nn, hnn⟩ : ∃ nn, nn = (D.map textV).length := ⟨_, rfl⟩
    rw [← hnn] at hvv hnb
    have HNN := Lib.hid hnn
    clear hnn
    subst hvv
    cases R' with
    | nil =>
      replace c1 : wr.cell? ⟨g, 1, none⟩ = some (.bool false) := c1
      have HB := C1.out.box
      have HR := C1.out.res
      have b0 : wr.cell? ⟨c, 0, none⟩ = some (.string x0) := HB.cell 0
      have b1 : wr.cell? ⟨c, 1, none⟩ = some (.int .i64 x1) := HB.cell 1
      have b2 : wr.cell? ⟨c, 2, none⟩ = some (.slice ph nn ch) := HB.cell 2
      have b3 : wr.cell? ⟨c, 3, none⟩ = some (.int .i64 x2) := HB.cell 3
      have b4 : wr.cell? ⟨c, 4, none⟩ = some (.int .i64 x3) := HB.cell 4
      have b5 : wr.cell? ⟨c, 5, none⟩ = some (.int .i64 x4) := HB.cell 5
      have b6 : wr.cell? ⟨c, 6, none⟩ = some (.int .i64 x5) := HB.cell 6
      have b7 : wr.cell? ⟨c, 7, none⟩ = some (.int .i64 x6) := HB.cell 7
      have b8 : wr.cell? ⟨c, 8, none⟩ = some (.int .i64 x7) := HB.cell 8
      have HQ := Lib.hid (fun (hl : St wr g [] false (wrong || wrongF R FC || wrongH D)) => hl)
      have HS := Lib.hid C1.out.st
      have HRow := Lib.hid C1.out.row
      have HGr := Lib.hid C1.out.gr
      have HLt := Lib.hid (And.intro C1.out.gl (And.intro C1.out.lo C1.out.rc))
      have hrow : Hid (∀ cs2, wr.grownBy (wr.setRow w.heap.size cs2) (some w.heap.size)) := Lib.hid (fun cs2 => ⟨rfl, rfl, rfl, by simp, fun k _ hk => setRow_other wr w.heap.size k _ (fun e => hk (by rw [e]))⟩)
      clear HB C1 HQ
      go_wp2_with (refine store_whole rfl 38 9 clus_size _ _ rfl w.heap.size _ _ HR rfl rfl (by simp [Value.oneCell']) rfl rfl ?_)
      have hset := setRow_heap wr w.heap.size _ (#[.string x0, .int .i64 x1, .slice ph nn ch, .int .i64 x2, .int .i64 x3, .int .i64 x4, .int .i64 x5, .int .i64 x6, .int .i64 x7]) 38 _ HR.at_
      refine bodyPost_ret (v := .agg (#[.string x0, .int .i64 x1, .slice ph nn ch, .int .i64 x2, .int .i64 x3, .int .i64 x4, .int .i64 x5, .int .i64 x6, .int .i64 x7])) (results_cell_row rfl _ _ w.heap.size 38 _ (0, 0) _ rfl hset Tryz.underlying38 rfl (by kernel_rfl)) rfl ?_
      have hD : R.drop 8 = D := by rw [hRh.out, List.append_nil]
      have hn1 : (Value.slice ph nn ch).ownBlock ≠ some w.heap.size := row_far HRow.out HR (by decide)
      refine ⟨_, by rw [hE.out], ?_, ?_, ?_⟩
      · rw [hD]
        exact HRow.out.kept (hrow.out _) (.inr hn1)
      · rw [hD]
        exact HS.out.grown (hrow.out _) (by have := HLt.out.1; intro e; injection e with e; omega)
      · have hr := hrow.out (#[.string x0, .int .i64 x1, .slice ph nn ch, .int .i64 x2, .int .i64 x3, .int .i64 x4, .int .i64 x5, .int .i64 x6, .int .i64 x7])
        refine ⟨hr.os.trans HGr.out.os, hr.tape.trans HGr.out.tape, hr.output.trans HGr.out.output, Nat.le_trans HGr.out.size hr.size, fun k hk hn => ?_⟩
        exact (hr.block k (Nat.lt_of_lt_of_le hk HGr.out.size) (fun e => by injection e with e; omega)).trans (HGr.out.block k hk hn)
    | cons hw R2 =>
      replace c1 : wr.cell? ⟨g, 1, none⟩ = some (.bool true) := c1
      have CD := C1.out.drew
      have HTx := Lib.hid ((PCfgM.ptext_any g (hw :: R2) _ _ wr.drew CD.st).mono (fun e W' ⟨x1, x2⟩ => And.intro x1 (CD.took x2)))
      obtain ⟨t, ht⟩ : ∃ t, Hid (t = textV hw) := ⟨_, Lib.hid rfl⟩
      have d2 : wr.drew.cell? ⟨c, 2, none⟩ = some (.slice ph nn ch) := CD.box.cell 2
      go_wp2_with fail
      go_region_law (first
        | (refine step_append_lies _ (by rfl) (.tmp 26) (.tmp 29) 36 (by rfl) w.heap.size 9 i0 (.string ByteArray.empty) 1 16 Tryz.underlying36 hi hz0 hz1 hz2 (by rfl) (by decide) (.slice ph nn ch) nn (Texts.strs (D.map textV)) (by rfl) HR3 ⟨w2.heap.size, 0, none⟩ 1 1 [.string (ofL t)] (by rfl) (by rfl) HN (by simp [Value.oneCell']) (by omega) (by unfold maxLen; omega) (by omega) (Nat.le_trans C3.gr.size (Nat.le_refl _)) (w2.heap.size + 1) (by simp) ?_; intro g4 cap4 w4 hown4 hg4 hat4 hlt4; have hb4 := C3.box.grown hg4 (Ne.symm (row_far C3.row C3.box (by decide))); have c4 : w4.cell? ⟨c, 2, none⟩ = some (.slice ph nn ch) := hb4.cell 2; have z4 := hb4.free 2)
        | (go_simp; go_at_call 110; refine HTx.out.mono ?_; rintro e w2 ⟨he, C2⟩; rw [show textV ((hw :: R2).headD []) = t from ht.out.symm] at he; subst he; have k2 : w2.cell? ⟨c, 2, none⟩ = some (.slice ph nn ch) := C2.box.cell 2; have C3 := C2.alloc (.cells #[.string (ofL t)] 9); have k3 : (w2.alloc (.cells #[.string (ofL t)] 9)).cell? ⟨c, 2, none⟩ = some (.slice ph nn ch) := C3.box.cell 2; have HR3 := C3.row; rw [← HNN.out] at HR3; have HN := World.news_of_block (heap_alloc_new w2 (.cells #[.string (ofL t)] 9))))
      all_goals
        have CP := Ck.push (fun _ _ => rfl) C3 (by rw [← HNN.out]; exact hown4) hg4
        have HP : Hid (∃ D R', R'.length = R2.length ∧ R.drop 8 = D ++ R' ∧ ∃ hv, Ck w g w.heap.size c #[.string ⟨#[]⟩, .int .i64 0, .slice none 0 0, .int .i64 0, .int .i64 0, .int .i64 0, .int .i64 0, .int .i64 0, .int .i64 0] (fun hv => #[.string x0, .int .i64 x1, hv, .int .i64 x2, .int .i64 x3, .int .i64 x4, .int .i64 x5, .int .i64 x6, .int .i64 x7]) hv (D.map textV) R' (!R'.isEmpty) (wrong || wrongF R FC || wrongH D) (w4.setCell ⟨c, 2, none⟩ (.slice (some ⟨g4, 0, none⟩) (nn + 1) cap4))) := Lib.hid ⟨D ++ [hw], R2, rfl, by rw [hRh.out]; simp, _, by
          rw [wrongH_snoc, List.map_append, List.map_singleton, ← ht.out, ← Bool.or_assoc]
          exact CP⟩
        have hm : R2.length < gk := by
          have := hnh.out
          rw [List.length_cons] at this
          omega
        clear CP hown4 hg4 hat4 hlt4 hb4 c4 z4 C3 HR3 HN C2 k2 k3 CD C1 HTx
        go_wp2_with fail
        go_roundg R2.length
        case measure => exact hm
        case rel => exact HP
end Go.Proofs.YtfihehobkbfmiaaGreatDoor.PCfgO

/- Layer 14: the i-th of a config's lists in memory; the first of a list. No program is named. -/
namespace Go.Proofs.YtfihehobkbfmiaaGreatDoor.ConfAt
open Go.ChangeShapes Go.WideShapes Go.ChangeAt Go.RowKit Bytes LexPure ConfPure ConfMem RowsArg Mem Texts
set_option linter.unusedVariables false
theorem filts_at {w : World} {p : Option Addr} {n cap : Nat} {G : List Filt} (h : Filts w (.slice p n cap) G) (i : Nat) (hi : i < G.length) : ∃ g o, p = some ⟨g, o, none⟩ ∧ ∀ x, x = G[i] → w.cell? ⟨g, o + i * 6, none⟩ = some (.int .i64 x.kind) ∧ w.cell? ⟨g, o + i * 6 + 1, none⟩ = some (.string (ofL x.name)) ∧ w.cell? ⟨g, o + i * 6 + 2, none⟩ = some (.string (ofL x.value)) ∧ w.cell? ⟨g, o + i * 6 + 3, none⟩ = some (.int .i64 x.n) ∧ w.cell? ⟨g, o + i * 6 + 4, none⟩ = some (.int .i64 x.m) ∧ w.cell? ⟨g, o + i * 6 + 5, none⟩ = some (.int .i64 x.k) := by
  obtain ⟨p2, c2, heq, _, hc⟩ := h.parts
  injection heq with e1 e2 e3
  obtain ⟨g, o, hp, _, hcell⟩ := hc (by omega)
  exact ⟨g, o, e1.trans hp, fun x hx => by subst hx; exact hcell i hi⟩
theorem cluss_at {w : World} {p : Option Addr} {n cap : Nat} {G : List Clus} (h : Cluss w (.slice p n cap) G) (i : Nat) (hi : i < G.length) : ∃ g o, p = some ⟨g, o, none⟩ ∧ g < w.heap.size ∧ ∀ x, x = G[i] → ∃ h, (Texts w h x.hosts ∧ CapOk h) ∧ w.cell? ⟨g, o + i * 9, none⟩ = some (.string (ofL x.name)) ∧ w.cell? ⟨g, o + i * 9 + 1, none⟩ = some (.int .i64 x.policy) ∧ w.cell? ⟨g, o + i * 9 + 2, none⟩ = some h ∧ w.cell? ⟨g, o + i * 9 + 3, none⟩ = some (.int .i64 x.conns) ∧ w.cell? ⟨g, o + i * 9 + 4, none⟩ = some (.int .i64 x.pending) ∧ w.cell? ⟨g, o + i * 9 + 5, none⟩ = some (.int .i64 x.try_) ∧ w.cell? ⟨g, o + i * 9 + 6, none⟩ = some (.int .i64 x.fails) ∧ w.cell? ⟨g, o + i * 9 + 7, none⟩ = some (.int .i64 x.eject) ∧ w.cell? ⟨g, o + i * 9 + 8, none⟩ = some (.int .i64 x.panic) := by
  obtain ⟨hv, ⟨p2, c2, heq, _, hc⟩, h2⟩ := h
  injection heq with e1 e2 e3
  obtain ⟨g, o, hp, hg, hcell⟩ := hc (by omega)
  refine ⟨g, o, e1.trans hp, hg, fun x hx => ?_⟩
  have e : G.getD i zClus = x := by rw [hx]; simp [List.getD, List.getElem?_eq_getElem hi]
  have c := hcell i hi
  have d := h2 i hi
  dsimp only at c
  rw [e] at c d
  exact ⟨hv i, d, c 0 (by decide), c 1 (by decide), c 2 (by decide), c 3 (by decide), c 4 (by decide), c 5 (by decide), c 6 (by decide), c 7 (by decide), c 8 (by decide)⟩
theorem vhoss_at {w : World} {p : Option Addr} {n cap : Nat} {G : List Vhos} (h : Vhoss w (.slice p n cap) G) (i : Nat) (hi : i < G.length) : ∃ g o, p = some ⟨g, o, none⟩ ∧ g < w.heap.size ∧ ∀ x, x = G[i] → ∃ h, Routs w h x.routes ∧ w.cell? ⟨g, o + i * 2, none⟩ = some (.string (ofL x.domain)) ∧ w.cell? ⟨g, o + i * 2 + 1, none⟩ = some h := by
  obtain ⟨p2, c2, heq, _, hc⟩ := h.parts
  injection heq with e1 e2 e3
  obtain ⟨g, o, hp, hg, hcell⟩ := hc (by omega)
  exact ⟨g, o, e1.trans hp, hg, fun x hx => by subst hx; exact hcell i hi⟩
theorem routs_at {w : World} {p : Option Addr} {n cap : Nat} {G : List Rout} (h : Routs w (.slice p n cap) G) (i : Nat) (hi : i < G.length) : ∃ g o, p = some ⟨g, o, none⟩ ∧ ∀ r, r = G[i] →
    w.cell? ⟨g, o + i * 13, none⟩ = some (.bool r.pre) ∧ w.cell? ⟨g, o + i * 13 + 1, none⟩ = some (.string (ofL r.path)) ∧ w.cell? ⟨g, o + i * 13 + 2, none⟩ = some (.string (ofL r.method)) ∧ w.cell? ⟨g, o + i * 13 + 3, none⟩ = some (.string (ofL r.field)) ∧ w.cell? ⟨g, o + i * 13 + 4, none⟩ = some (.string (ofL r.value)) ∧ w.cell? ⟨g, o + i * 13 + 5, none⟩ = some (.int .i64 r.action) ∧ w.cell? ⟨g, o + i * 13 + 6, none⟩ = some (.string (ofL r.cluster)) ∧ w.cell? ⟨g, o + i * 13 + 7, none⟩ = some (.int .i64 r.status) ∧ w.cell? ⟨g, o + i * 13 + 8, none⟩ = some (.string (ofL r.text)) ∧ w.cell? ⟨g, o + i * 13 + 9, none⟩ = some (.string (ofL r.rewrite)) ∧ w.cell? ⟨g, o + i * 13 + 10, none⟩ = some (.int .i64 r.retries) ∧ w.cell? ⟨g, o + i * 13 + 11, none⟩ = some (.int .i64 r.timeout) ∧ w.cell? ⟨g, o + i * 13 + 12, none⟩ = some (.bool r.upgrade) := by
  obtain ⟨p2, c2, heq, _, hc⟩ := h.parts
  injection heq with e1 e2 e3
  obtain ⟨g, o, hp, _, hcell⟩ := hc (by omega)
  exact ⟨g, o, e1.trans hp, fun x hx => by subst hx; exact hcell i hi⟩
theorem texts_at {w : World} {p : Option Addr} {n cap : Nat} {G : List L} (h : Texts w (.slice p n cap) G) (i : Nat) (hi : i < G.length) : ∃ g o, p = some ⟨g, o, none⟩ ∧ g < w.heap.size ∧ ∀ x, x = G[i] → w.cell? ⟨g, o + i, none⟩ = some (.string (ofL x)) := by
  obtain ⟨p2, c2, heq, _, hc⟩ := h
  injection heq with e1 e2 e3
  obtain ⟨g, o, hp, hg, hcell⟩ := hc (by omega)
  exact ⟨g, o, e1.trans hp, hg, fun x hx => by subst hx; exact hcell i hi⟩
/-- the first k of a list -/
theorem cluss_take {w : World} {p : Option Addr} {n cap : Nat} {G : List Clus} (h : Cluss w (.slice p n cap) G) (k : Nat) (hk : k ≤ G.length) (cap2 : Nat) : Cluss w (.slice p k cap2) (G.take k) := by
  obtain ⟨hv, ⟨p2, c2, heq, hn, hc⟩, h2⟩ := h
  injection heq with e1 e2 e3
  have hl : (G.take k).length = k := by rw [List.length_take]; omega
  have hg : ∀ i, i < k → (G.take k).getD i zClus = G.getD i zClus := fun i hi => by simp [List.getD, hi]
  refine ⟨hv, ⟨p, cap2, by rw [hl], by rw [hl]; omega, fun h0 => ?_⟩, fun i hi => ?_⟩
  · rw [hl] at h0 ⊢
    obtain ⟨g, o, hp, hlt, hcell⟩ := hc (by omega)
    refine ⟨g, o, e1.trans hp, hlt, fun i hi j hj => ?_⟩
    dsimp only
    rw [hg i hi]
    exact hcell i (by omega) j hj
  · rw [hl] at hi
    rw [hg i hi]
    exact h2 i (by omega)
theorem vhoss_take {w : World} {p : Option Addr} {n cap : Nat} {G : List Vhos} (h : Vhoss w (.slice p n cap) G) (k : Nat) (hk : k ≤ G.length) (cap2 : Nat) : Vhoss w (.slice p k cap2) (G.take k) := by
  obtain ⟨hv, ⟨p2, c2, heq, hn, hc⟩, h2⟩ := h
  injection heq with e1 e2 e3
  have hl : (G.take k).length = k := by rw [List.length_take]; omega
  have hg : ∀ i, i < k → (G.take k).getD i zVhos = G.getD i zVhos := fun i hi => by simp [List.getD, hi]
  refine ⟨hv, ⟨p, cap2, by rw [hl], by rw [hl]; omega, fun h0 => ?_⟩, fun i hi => ?_⟩
  · rw [hl] at h0 ⊢
    obtain ⟨g, o, hp, hlt, hcell⟩ := hc (by omega)
    refine ⟨g, o, e1.trans hp, hlt, fun i hi j hj => ?_⟩
    dsimp only
    rw [hg i hi]
    exact hcell i (by omega) j hj
  · rw [hl] at hi
    rw [hg i hi]
    exact h2 i (by omega)
theorem texts_take {w : World} {p : Option Addr} {n cap : Nat} {G : List L} (h : Texts w (.slice p n cap) G) (k : Nat) (hk : k ≤ G.length) (cap2 : Nat) : Texts w (.slice p k cap2) (G.take k) := by
  obtain ⟨p2, c2, heq, hn, hc⟩ := h
  injection heq with e1 e2 e3
  have hl : (G.take k).length = k := by rw [List.length_take]; omega
  refine ⟨p, cap2, by rw [hl], by rw [hl]; omega, fun h0 => ?_⟩
  rw [hl] at h0
  obtain ⟨g, o, hp, hlt, hcell⟩ := hc (by omega)
  refine ⟨g, o, e1.trans hp, hlt, fun j hj => ?_⟩
  rw [hl] at hj
  rw [hcell j (by omega), List.getElem_take]
end Go.Proofs.YtfihehobkbfmiaaGreatDoor.ConfAt

/- Layer 14: a config of a call's own in memory: its box, its lists and theirs, each in a block of its own; what grows it. No function is named. -/
namespace Go.Proofs.YtfihehobkbfmiaaGreatDoor.ConfOwn
open Go.ChangeShapes Go.WideShapes Go.ChangeAt Go.RowKit Bytes LexPure ConfPure ConfMem ConfAt RowsArg Mem RowKeep
set_option maxRecDepth 20000
set_option linter.unusedVariables false
abbrev CT : TypeId := 26
abbrev FT : TypeId := 49
abbrev KT : TypeId := 38
abbrev VT : TypeId := 43
abbrev RT : TypeId := 45
abbrev ST : TypeId := 9
def Apart (v u : Value) : Prop := ∀ k, v.ownBlock = some k → u.ownBlock ≠ some k
theorem row_far {w : World} {base n size : Nat} {e : TypeId} {v : Value} {xs : List Value} (h : w.ownsRow base e size v n xs) {g : Nat} {T : TypeId} {cs : Array Value} (hH : Has w g T cs) (hT : T ≠ e) : v.ownBlock ≠ some g := by
  intro hk
  rcases h.2 with ⟨rfl, _⟩ | ⟨b, cap, cur, rfl, _, hb, _⟩
  · simp [Value.ownBlock] at hk
  · simp [Value.ownBlock] at hk
    subst hk
    have := hH.at_
    rw [hb] at this
    injection this with this
    injection this with _ h2
    exact hT h2.symm
theorem row_apart {w : World} {b1 n1 s1 b2 n2 s2 : Nat} {e1 e2 : TypeId} {v1 v2 : Value} {x1 x2 : List Value} (h1 : w.ownsRow b1 e1 s1 v1 n1 x1) (h2 : w.ownsRow b2 e2 s2 v2 n2 x2) (hT : e1 ≠ e2) : Apart v1 v2 := by
  intro k hk1 hk2
  rcases h1.2 with ⟨rfl, _⟩ | ⟨b, cap, cur, rfl, _, hb, _⟩
  · simp [Value.ownBlock] at hk1
  · simp [Value.ownBlock] at hk1
    subst hk1
    exact row_far h2 ⟨hb⟩ hT hk2
/-- a row that isn't in the block that has turned -/
theorem row_kept {w w' : World} {base n size : Nat} {e : TypeId} {v u : Value} {xs : List Value} (h : w.ownsRow base e size v n xs) (hg : w.grownBy w' u.ownBlock) (ha : Apart v u) : w'.ownsRow base e size v n xs := by
  refine h.kept hg ?_
  cases hv : v.ownBlock with
  | none => exact .inl rfl
  | some k =>
    right
    intro e
    exact ha k hv e.symm
theorem has_kept {w w' : World} {g : Nat} {T : TypeId} {cs : Array Value} {u : Value} (h : Has w g T cs) (hg : w.grownBy w' u.ownBlock) (hu : u.ownBlock ≠ some g) : Has w' g T cs := h.grown hg (Ne.symm hu)
structure OCs (w : World) (g : Nat) (c : Conf) (vf vc vv : Value) (CL : List (Clus × Value)) (VL : List (Vhos × Value)) : Prop where
  box : Has w g CT (confV c vf vc vv)
  rf : w.ownsRow g FT 6 vf c.filters.length (c.filters.flatMap filtV)
  ec : c.clusters = CL.map (·.1)
  rc : w.ownsRow g KT 9 vc CL.length (CL.flatMap (fun p => clusV p.1 p.2))
  hc : ∀ p ∈ CL, w.ownsRow g ST 1 p.2 p.1.hosts.length (Texts.strs p.1.hosts)
  ac : CL.Pairwise (fun p q => Apart p.2 q.2)
  ev : c.vhosts = VL.map (·.1)
  rv : w.ownsRow g VT 2 vv VL.length (VL.flatMap (fun p => vhosV p.1 p.2))
  hv : ∀ p ∈ VL, w.ownsRow g RT 13 p.2 p.1.routes.length (p.1.routes.flatMap routV)
  av : VL.Pairwise (fun p q => Apart p.2 q.2)
def OC (w : World) (g : Nat) (c : Conf) : Prop := ∃ vf vc vv CL VL, OCs w g c vf vc vv CL VL
section
variable {w w' : World} {g : Nat} {c : Conf} {vf vc vv : Value} {CL : List (Clus × Value)} {VL : List (Vhos × Value)}
theorem OCs.below (h : OCs w g c vf vc vv CL VL) (hb : Below w.heap.size w w') : OCs w' g c vf vc vv CL VL :=
  ⟨h.box.below hb h.box.lt, row_below h.rf hb, h.ec, row_below h.rc hb, fun p hp => row_below (h.hc p hp) hb, h.ac, h.ev, row_below h.rv hb, fun p hp => row_below (h.hv p hp) hb, h.av⟩
theorem OCs.alloc (h : OCs w g c vf vc vv CL VL) (o : Obj) : OCs (w.alloc o) g c vf vc vv CL VL := h.below ((Below.refl _ _).alloc (Nat.le_refl _) o)
theorem OCs.drew (h : OCs w g c vf vc vv CL VL) : OCs w.drew g c vf vc vv CL VL := h.below ⟨rfl, rfl, rfl, Nat.le_refl _, fun _ _ => rfl⟩
/-- a block of another type has turned -/
theorem OCs.other (h : OCs w g c vf vc vv CL VL) {k : Nat} {T : TypeId} {cs : Array Value} (hH : Has w k T cs) (hT : T ≠ CT ∧ T ≠ FT ∧ T ≠ KT ∧ T ≠ VT ∧ T ≠ RT ∧ T ≠ ST) (hg : w.grownBy w' (some k)) : OCs w' g c vf vc vv CL VL := by
  obtain ⟨t1, t2, t3, t4, t5, t6⟩ := hT
  have key : ∀ {base n size : Nat} {e : TypeId} {v : Value} {xs : List Value}, w.ownsRow base e size v n xs → T ≠ e → w'.ownsRow base e size v n xs := fun hr he => hr.kept hg (.inr (row_far hr hH he))
  have hgk : g ≠ k := fun e => by subst e; exact absurd rfl (h.box.ne_ hH (Ne.symm t1))
  exact ⟨h.box.grown hg (fun e => hgk (Option.some.inj e)), key h.rf t2, h.ec, key h.rc t3, fun p hp => key (h.hc p hp) t6, h.ac, h.ev, key h.rv t4, fun p hp => key (h.hv p hp) t5, h.av⟩
/-- a cell of the box is stored that isn't a list's -/
theorem set_g (w : World) (g i : Nat) (u : Value) : w.grownBy (w.setCell ⟨g, i, none⟩ u) (some g) := ⟨rfl, rfl, rfl, by simp [World.setCell], fun k _ hk => Below.heap_setCell w _ _ k (fun e => hk (by rw [e]))⟩
theorem row_set {base n size : Nat} {e : TypeId} {v : Value} {xs : List Value} {cs : Array Value} (hr : w.ownsRow base e size v n xs) (hH : Has w g CT cs) (he : CT ≠ e) (i : Nat) (u : Value) : (w.setCell ⟨g, i, none⟩ u).ownsRow base e size v n xs :=
  hr.kept (set_g w g i u) (.inr (row_far hr hH he))
theorem OCs.put (h : OCs w g c vf vc vv CL VL) (i : Nat) (u : Value) {c2 : Conf} (hf : c2.filters = c.filters) (hc : c2.clusters = c.clusters) (hv : c2.vhosts = c.vhosts) (hcs : (confV c vf vc vv).setIfInBounds i u = confV c2 vf vc vv) : OCs (w.setCell ⟨g, i, none⟩ u) g c2 vf vc vv CL VL := by
  refine ⟨?_, ?_, hc.trans h.ec, row_set h.rc h.box (by decide) _ _, fun p hp => row_set (h.hc p hp) h.box (by decide) _ _, h.ac, hv.trans h.ev, row_set h.rv h.box (by decide) _ _, fun p hp => row_set (h.hv p hp) h.box (by decide) _ _, h.av⟩
  · have := h.box.set_ i u
    rwa [hcs] at this
  · rw [hf]
    exact row_set h.rf h.box (by decide) _ _
/-- one filter more -/
theorem OCs.addF (h : OCs w g c vf vc vv CL VL) (x : Filt) {v4 : Value} {w4 : World} (hown : w4.ownsRow g FT 6 v4 (c.filters.length + 1) (c.filters.flatMap filtV ++ filtV x)) (hg : w.grownBy w4 vf.ownBlock) :
    OCs (w4.setCell ⟨g, 6, none⟩ v4) g { c with filters := c.filters ++ [x] } v4 vc vv CL VL := by
  have hb := has_kept h.box hg (row_far h.rf h.box (by decide))
  refine ⟨hb.set_ 6 v4, ?_, h.ec, row_set (row_kept h.rc hg (row_apart h.rc h.rf (by decide))) hb (by decide) _ _, fun p hp => row_set (row_kept (h.hc p hp) hg (row_apart (h.hc p hp) h.rf (by decide))) hb (by decide) _ _, h.ac, h.ev, row_set (row_kept h.rv hg (row_apart h.rv h.rf (by decide))) hb (by decide) _ _, fun p hp => row_set (row_kept (h.hv p hp) hg (row_apart (h.hv p hp) h.rf (by decide))) hb (by decide) _ _, h.av⟩
  show (w4.setCell ⟨g, 6, none⟩ v4).ownsRow g FT 6 v4 (c.filters ++ [x]).length ((c.filters ++ [x]).flatMap filtV)
  rw [List.length_append, List.length_singleton, List.flatMap_append, List.flatMap_singleton]
  exact row_set hown hb (by decide) _ _
/-- one cluster more -/
theorem OCs.addC (h : OCs w g c vf vc vv CL VL) (x : Clus) (hx : Value) (hr : w.ownsRow g ST 1 hx x.hosts.length (Texts.strs x.hosts)) (ha : ∀ p ∈ CL, Apart p.2 hx) {v4 : Value} {w4 : World} (hown : w4.ownsRow g KT 9 v4 (CL.length + 1) (CL.flatMap (fun p => clusV p.1 p.2) ++ clusV x hx)) (hg : w.grownBy w4 vc.ownBlock) :
    OCs (w4.setCell ⟨g, 7, none⟩ v4) g { c with clusters := c.clusters ++ [x] } vf v4 vv (CL ++ [(x, hx)]) VL := by
  have hb := has_kept h.box hg (row_far h.rc h.box (by decide))
  refine ⟨hb.set_ 7 v4, row_set (row_kept h.rf hg (row_apart h.rf h.rc (by decide))) hb (by decide) _ _, ?_, ?_, fun p hp => ?_, ?_, h.ev, row_set (row_kept h.rv hg (row_apart h.rv h.rc (by decide))) hb (by decide) _ _, fun p hp => row_set (row_kept (h.hv p hp) hg (row_apart (h.hv p hp) h.rc (by decide))) hb (by decide) _ _, h.av⟩
  · show c.clusters ++ [x] = _
    rw [List.map_append, h.ec]; rfl
  · rw [List.length_append, List.length_singleton, List.flatMap_append, List.flatMap_singleton]
    exact row_set hown hb (by decide) _ _
  · rcases List.mem_append.1 hp with hp | hp
    · exact row_set (row_kept (h.hc p hp) hg (row_apart (h.hc p hp) h.rc (by decide))) hb (by decide) _ _
    · obtain rfl := List.mem_singleton.1 hp
      exact row_set (row_kept hr hg (row_apart hr h.rc (by decide))) hb (by decide) _ _
  · rw [List.pairwise_append]
    exact ⟨h.ac, List.pairwise_singleton _ _, fun p hp q hq => by obtain rfl := List.mem_singleton.1 hq; exact ha p hp⟩
/-- one vhost more -/
theorem OCs.addV (h : OCs w g c vf vc vv CL VL) (d : L) {v4 : Value} {w4 : World} (hown : w4.ownsRow g VT 2 v4 (VL.length + 1) (VL.flatMap (fun p => vhosV p.1 p.2) ++ vhosV ⟨d, []⟩ (.slice none 0 0))) (hg : w.grownBy w4 vv.ownBlock) :
    OCs (w4.setCell ⟨g, 8, none⟩ v4) g { c with vhosts := c.vhosts ++ [⟨d, []⟩] } vf vc v4 CL (VL ++ [(⟨d, []⟩, .slice none 0 0)]) := by
  have hb := has_kept h.box hg (row_far h.rv h.box (by decide))
  refine ⟨hb.set_ 8 v4, row_set (row_kept h.rf hg (row_apart h.rf h.rv (by decide))) hb (by decide) _ _, h.ec, row_set (row_kept h.rc hg (row_apart h.rc h.rv (by decide))) hb (by decide) _ _, fun p hp => row_set (row_kept (h.hc p hp) hg (row_apart (h.hc p hp) h.rv (by decide))) hb (by decide) _ _, h.ac, ?_, ?_, fun p hp => ?_, ?_⟩
  · show c.vhosts ++ [_] = _
    rw [List.map_append, h.ev]; rfl
  · rw [List.length_append, List.length_singleton, List.flatMap_append, List.flatMap_singleton]
    exact row_set hown hb (by decide) _ _
  · rcases List.mem_append.1 hp with hp | hp
    · exact row_set (row_kept (h.hv p hp) hg (row_apart (h.hv p hp) h.rv (by decide))) hb (by decide) _ _
    · obtain rfl := List.mem_singleton.1 hp
      exact World.ownsRow_nil _ _ _ _
  · rw [List.pairwise_append]
    exact ⟨h.av, List.pairwise_singleton _ _, fun p hp q hq k hk e => by obtain rfl := List.mem_singleton.1 hq; simp [Value.ownBlock] at e⟩
theorem flat_set (VL : List (Vhos × Value)) (a b u : Value) : (VL.flatMap (fun p => vhosV p.1 p.2) ++ [a, b]).set (VL.length * 2 + 1) u = VL.flatMap (fun p => vhosV p.1 p.2) ++ [a, u] := by
  have hl : (VL.flatMap (fun p => vhosV p.1 p.2)).length = VL.length * 2 := by
    induction VL with
    | nil => rfl
    | cons p VL ih => rw [List.flatMap_cons, List.length_append, ih, List.length_cons]; show 2 + _ = _; omega
  rw [List.set_append_right _ _ (by omega), hl, show VL.length * 2 + 1 - VL.length * 2 = 1 by omega]
  rfl
/-- one route more, to the last vhost -/
theorem OCs.addR {V0 : List (Vhos × Value)} {v : Vhos} {hr : Value} (h : OCs w g c vf vc vv CL (V0 ++ [(v, hr)])) (x : Rout) {gv capv : Nat} (hvv : vv = .slice (some ⟨gv, 0, none⟩) (V0.length + 1) capv) {v4 : Value} {w4 : World} (hown : w4.ownsRow g RT 13 v4 (v.routes.length + 1) (v.routes.flatMap routV ++ routV x)) (hg : w.grownBy w4 hr.ownBlock) (hat : ∀ k, v4.ownBlock = some k → hr.ownBlock = some k ∨ w.heap.size ≤ k) :
    OCs (w4.setCell ⟨gv, V0.length * 2 + 1, none⟩ v4) g { c with vhosts := V0.map (·.1) ++ [⟨v.domain, v.routes ++ [x]⟩] } vf vc vv CL (V0 ++ [(⟨v.domain, v.routes ++ [x]⟩, v4)]) := by
  have hm : ((v, hr) : Vhos × Value) ∈ V0 ++ [(v, hr)] := List.mem_append_right _ (List.mem_singleton.2 rfl)
  have hrr := h.hv _ hm
  dsimp only at hrr
  have hb := has_kept h.box hg (row_far hrr h.box (by decide))
  have hrv := row_kept h.rv hg (row_apart h.rv hrr (by decide))
  subst hvv
  rw [List.length_append, List.length_singleton, List.flatMap_append, List.flatMap_singleton] at hrv
  obtain ⟨hst, hgr⟩ := hrv.stored (V0.length * 2 + 1) v4
  have hgvT : ∀ {base n size : Nat} {e : TypeId} {u : Value} {xs : List Value}, w4.ownsRow base e size u n xs → e ≠ VT → (w4.setCell ⟨gv, V0.length * 2 + 1, none⟩ v4).ownsRow base e size u n xs := fun hu he => hu.kept hgr (.inr (fun e2 => row_apart hu hrv he gv e2 rfl))
  have hgg : g ≠ gv := fun e => by
    have := row_far hrv hb (by decide)
    exact this (by rw [e]; rfl)
  have hap := h.av
  rw [List.pairwise_append] at hap
  refine ⟨?_, hgvT (row_kept h.rf hg (row_apart h.rf hrr (by decide))) (by decide), h.ec, hgvT (row_kept h.rc hg (row_apart h.rc hrr (by decide))) (by decide), fun p hp => hgvT (row_kept (h.hc p hp) hg (row_apart (h.hc p hp) hrr (by decide))) (by decide), h.ac, ?_, ?_, fun p hp => ?_, ?_⟩
  · exact hb.far (p := ⟨gv, _, none⟩) hgg v4
  · show _ ++ [_] = _
    rw [List.map_append]; rfl
  · rw [List.length_append, List.length_singleton, List.flatMap_append, List.flatMap_singleton]
    have e := flat_set V0 (.string (ofL v.domain)) hr v4
    rw [show vhosV v hr = [.string (ofL v.domain), hr] from rfl] at hst
    rw [e] at hst
    exact hst
  · rcases List.mem_append.1 hp with hp | hp
    · exact hgvT (row_kept (h.hv p (List.mem_append_left _ hp)) hg (hap.2.2 p hp _ (List.mem_singleton.2 rfl))) (by decide)
    · obtain rfl := List.mem_singleton.1 hp
      show (w4.setCell _ _).ownsRow g RT 13 v4 (v.routes ++ [x]).length ((v.routes ++ [x]).flatMap routV)
      rw [List.length_append, List.length_singleton, List.flatMap_append, List.flatMap_singleton]
      exact hgvT hown (by decide)
  · rw [List.pairwise_append]
    refine ⟨hap.1, List.pairwise_singleton _ _, fun p hp q hq k hk e => ?_⟩
    obtain rfl := List.mem_singleton.1 hq
    rcases hat k e with e2 | e2
    · exact hap.2.2 p hp _ (List.mem_singleton.2 rfl) k hk e2
    · have := ((h.hv p (List.mem_append_left _ hp)).lt k hk).2
      omega
end
end Go.Proofs.YtfihehobkbfmiaaGreatDoor.ConfOwn

/- Layer 14: a config of a call's own can be read. -/
namespace Go.Proofs.YtfihehobkbfmiaaGreatDoor.ConfCF
open Go.ChangeShapes Go.WideShapes Go.ChangeAt Go.RowKit Bytes LexPure ConfPure ConfMem ConfAt RowsArg Mem RowKeep ConfOwn Texts
set_option maxRecDepth 20000
theorem flat_at {α : Type} (f : α → List Value) (k : Nat) (hk : ∀ a, (f a).length = k) : ∀ (l : List α) (i j : Nat) (hi : i < l.length), j < k → (l.flatMap f)[i * k + j]? = some ((f l[i]).getD j undef)
  | [], i, j, hi, _ => absurd hi (by simp)
  | a :: l, 0, j, _, hj => by
    rw [List.flatMap_cons, Nat.zero_mul, Nat.zero_add, List.getElem?_append_left (by rw [hk]; exact hj)]
    have : j < (f a).length := by rw [hk]; exact hj
    rw [List.getElem_cons_zero, List.getD_eq_getElem?_getD, List.getElem?_eq_getElem this]
    rfl
  | a :: l, i + 1, j, hi, hj => by
    have hi2 : i < l.length := by simpa using hi
    rw [List.flatMap_cons, List.getElem?_append_right (by rw [hk, Nat.add_mul]; omega), hk, show (i + 1) * k + j - k = i * k + j by rw [Nat.add_mul]; omega, flat_at f k hk l i j hi2 hj]
    rfl
theorem rows_of {w : World} {base k : Nat} {e : TypeId} {v : Value} {α : Type} (f : α → List Value) (hk : ∀ a, (f a).length = k) (l : List α) (h : w.ownsRow base e k v l.length (l.flatMap f)) {V : Nat → Nat → Value} (hV : ∀ i (hi : i < l.length) j, j < k → V i j = (f l[i]).getD j undef) (hl : l.length ≤ 9223372036854775807) : RowsAt w v l.length k V := by
  obtain ⟨p, cap, hv, _⟩ := row_form h
  refine ⟨p, cap, hv, hl, fun h0 => ?_⟩
  obtain ⟨g, cap2, hv2, _, hg, _, hc⟩ := row_at h h0
  rw [hv] at hv2
  injection hv2 with e1 _ _
  refine ⟨g, 0, e1, hg, fun i hi j hj => ?_⟩
  rw [Nat.zero_add, hc _ (by have h1 : (i + 1) * k ≤ l.length * k := Nat.mul_le_mul_right k hi; rw [Nat.add_mul] at h1; omega), flat_at f k hk l i j hi hj, hV i hi j hj]
theorem row_len {w : World} {base n size : Nat} {e : TypeId} {v : Value} {xs : List Value} (h : w.ownsRow base e size v n xs) : n ≤ 9223372036854775807 := by
  rcases h.2 with ⟨_, rfl⟩ | ⟨_, cap, _, _, _, _, h1, h2, _⟩
  · exact Nat.zero_le _
  · unfold maxLen at h2; omega
theorem cap_of {w : World} {base n size : Nat} {e : TypeId} {v : Value} {xs : List Value} (h : w.ownsRow base e size v n xs) : CapOk v := by
  obtain ⟨p, cap, hv, hc⟩ := row_form h
  intro q m cap2 he
  rw [hv] at he
  injection he with _ e2 e3
  omega
theorem filts_of {w : World} {base : Nat} {v : Value} {G : List Filt} (h : w.ownsRow base FT 6 v G.length (G.flatMap filtV)) : Filts w v G :=
  rows_of filtV (fun _ => rfl) G h (fun i hi j hj => by simp [List.getD, List.getElem?_eq_getElem hi]) (row_len h)
theorem routs_of {w : World} {base : Nat} {v : Value} {G : List Rout} (h : w.ownsRow base RT 13 v G.length (G.flatMap routV)) : Routs w v G :=
  rows_of routV (fun _ => rfl) G h (fun i hi j hj => by simp [List.getD, List.getElem?_eq_getElem hi]) (row_len h)
theorem OCs.cf {w : World} {g : Nat} {c : Conf} {vf vc vv : Value} {CL : List (Clus × Value)} {VL : List (Vhos × Value)} (h : OCs w g c vf vc vv CL VL) : CF w vf vc vv c := by
  refine ⟨filts_of h.rf, ?_, ?_, cap_of h.rc, cap_of h.rv⟩
  · rw [h.ec]
    refine ⟨fun i => (CL.getD i (zClus, undef)).2, ?_, fun i hi => ?_⟩
    · have := rows_of (fun p : Clus × Value => clusV p.1 p.2) (fun _ => rfl) CL h.rc (V := fun i j => (clusV ((CL.map (·.1)).getD i zClus) (CL.getD i (zClus, undef)).2).getD j undef) (fun i hi j hj => by simp [List.getD, List.getElem?_eq_getElem hi]) (row_len h.rc)
      rwa [List.length_map]
    · rw [List.length_map] at hi
      have e1 : CL.getD i (zClus, undef) = CL[i] := by simp [List.getD, List.getElem?_eq_getElem hi]
      have e2 : (CL.map (·.1)).getD i zClus = CL[i].1 := by simp [List.getD, List.getElem?_eq_getElem hi]
      dsimp only
      rw [e1, e2]
      have := h.hc _ (List.getElem_mem hi)
      exact ⟨texts_of this, cap_of this⟩
  · rw [h.ev]
    refine ⟨fun i => (VL.getD i (zVhos, undef)).2, ?_, fun i hi => ?_⟩
    · have := rows_of (fun p : Vhos × Value => vhosV p.1 p.2) (fun _ => rfl) VL h.rv (V := fun i j => (vhosV ((VL.map (·.1)).getD i zVhos) (VL.getD i (zVhos, undef)).2).getD j undef) (fun i hi j hj => by simp [List.getD, List.getElem?_eq_getElem hi]) (row_len h.rv)
      rwa [List.length_map]
    · rw [List.length_map] at hi
      have e1 : VL.getD i (zVhos, undef) = VL[i] := by simp [List.getD, List.getElem?_eq_getElem hi]
      have e2 : (VL.map (·.1)).getD i zVhos = VL[i].1 := by simp [List.getD, List.getElem?_eq_getElem hi]
      dsimp only
      rw [e1, e2]
      exact routs_of (h.hv _ (List.getElem_mem hi))
end Go.Proofs.YtfihehobkbfmiaaGreatDoor.ConfCF

/- Layer 14 of the program: addLine. -/
namespace Go.Proofs.YtfihehobkbfmiaaGreatDoor.PCfgP
open Go.ChangeShapes Go.WideShapes Go.ChangeAt Go.RowKit Bytes LexPure LexNum PathPure CutAt ConfPure ConfProg ConfMem Ret Mem RowKeep ConfOwn ConfCF PCfgLib PCfgT PCfgW PCfgM PCfgN PCfgO
set_option maxRecDepth 100000
set_option linter.unusedVariables false
set_option linter.unusedSimpArgs false
/-- in addLine: the config in g, the words in k, T of them still to come -/
structure Al (w : World) (g k : Nat) (c : Conf) (vf vc vv : Value) (CL : List (Clus × Value)) (VL : List (Vhos × Value)) (T : List L) (left wrong : Bool) (W : World) : Prop where
  st : St W k T left wrong
  oc : OCs W g c vf vc vv CL VL
  below : Below g w W
  lo : g < k
  hi : w.heap.size ≤ k
section
variable {w W W' : World} {g k : Nat} {c : Conf} {vf vc vv : Value} {CL : List (Clus × Value)} {VL : List (Vhos × Value)} {T T' : List L} {left wrong left' wrong' : Bool}
theorem below_far {B : Nat} (h : Below B w W) (hg : W.grownBy W' (some k)) (hk : B ≤ k) (hB : B ≤ W.heap.size) : Below B w W' :=
  ⟨hg.os.trans h.os, hg.tape.trans h.tape, hg.output.trans h.output, Nat.le_trans h.size hg.size, fun i hi => (hg.block i (Nat.lt_of_lt_of_le hi hB) (fun e => by injection e with e; omega)).trans (h.block i hi)⟩
theorem Al.words (h : Al w g k c vf vc vv CL VL T left wrong W) (hs : St W' k T' left' wrong') (hg : W.grownBy W' (some k)) : Al w g k c vf vc vv CL VL T' left' wrong' W' := by
  obtain ⟨rest, hH, _⟩ := h.st.ex
  exact ⟨hs, h.oc.other hH (by decide) hg, below_far h.below hg (Nat.le_of_lt h.lo) (Nat.le_of_lt h.oc.box.lt), h.lo, h.hi⟩
theorem Al.took (h : Al w g k c vf vc vv CL VL T left wrong W) {f : UInt8} (ht : Took W k T wrong f W') : Al w g k c vf vc vv CL VL T.tail (!T.tail.isEmpty) (wrong || !okW f (T.headD [])) W' := h.words ht.st ht.gr
theorem Al.calm (h : Al w g k c vf vc vv CL VL T left wrong W) (hb : Below W.heap.size W W') : Al w g k c vf vc vv CL VL T left wrong W' :=
  ⟨h.st.below hb, h.oc.below hb, ⟨hb.os.trans h.below.os, hb.tape.trans h.below.tape, hb.output.trans h.below.output, Nat.le_trans h.below.size hb.size, fun i hi => (hb.block i (Nat.lt_trans hi h.oc.box.lt)).trans (h.below.block i hi)⟩, h.lo, h.hi⟩
theorem Al.alloc (h : Al w g k c vf vc vv CL VL T left wrong W) (o : Obj) : Al w g k c vf vc vv CL VL T left wrong (W.alloc o) := h.calm ((Below.refl _ _).alloc (Nat.le_refl _) o)
theorem Al.drew (h : Al w g k c vf vc vv CL VL T left wrong W) : Al w g k c vf vc vv CL VL T left wrong W.drew := h.calm ⟨rfl, rfl, rfl, Nat.le_refl _, fun _ _ => rfl⟩
/-- the config has turned, the words not -/
theorem Al.turn (h : Al w g k c vf vc vv CL VL T left wrong W) {c2 : Conf} {vf2 vc2 vv2 : Value} {CL2 : List (Clus × Value)} {VL2 : List (Vhos × Value)} (ho : OCs W' g c2 vf2 vc2 vv2 CL2 VL2) (hs : St W' k T left wrong) (hb : Below g W W') : Al w g k c2 vf2 vc2 vv2 CL2 VL2 T left wrong W' :=
  ⟨hs, ho, ⟨hb.os.trans h.below.os, hb.tape.trans h.below.tape, hb.output.trans h.below.output, Nat.le_trans h.below.size hb.size, fun i hi => (hb.block i hi).trans (h.below.block i hi)⟩, h.lo, h.hi⟩
end
theorem infoF : (Tryz.prog.info? 49).map (fun i => (i.zero, i.size, i.bytes)) = some (some (.agg #[.int .i64 0, .string .empty, .string .empty, .int .i64 0, .int .i64 0, .int .i64 0]), 6, 64) := by kernel_rfl
theorem infoC : (Tryz.prog.info? 38).map (fun i => (i.zero, i.size, i.bytes)) = some (some (.agg #[.string .empty, .int .i64 0, .slice none 0 0, .int .i64 0, .int .i64 0, .int .i64 0, .int .i64 0, .int .i64 0, .int .i64 0]), 9, 96) := by kernel_rfl
theorem infoV : (Tryz.prog.info? 43).map (fun i => (i.zero, i.size, i.bytes)) = some (some (.agg #[.string .empty, .slice none 0 0]), 2, 40) := by kernel_rfl
theorem infoR : (Tryz.prog.info? 45).map (fun i => (i.zero, i.size, i.bytes)) = some (some (.agg #[.bool false, .string .empty, .string .empty, .string .empty, .string .empty, .int .i64 0, .string .empty, .int .i64 0, .string .empty, .string .empty, .int .i64 0, .int .i64 0, .bool false]), 13, 160) := by kernel_rfl
theorem Al.app {w W w4 : World} {g k : Nat} {c : Conf} {vf vc vv : Value} {CL : List (Clus × Value)} {VL : List (Vhos × Value)} {T : List L} {left wrong : Bool} (h : Al w g k c vf vc vv CL VL T left wrong W) {e n s : Nat} {u : Value} {xs : List Value} (hu : W.ownsRow g e s u n xs) (he : WT ≠ e) (hg : W.grownBy w4 u.ownBlock) (b i : Nat) (v : Value) (hb : g ≤ b) (hbk : b ≠ k) : St (w4.setCell ⟨b, i, none⟩ v) k T left wrong ∧ Below g W (w4.setCell ⟨b, i, none⟩ v) := by
  obtain ⟨rest, hH, _⟩ := h.st.ex
  refine ⟨(h.st.grown hg (Ne.symm (ConfOwn.row_far hu hH he))).grown (set_g w4 b i v) (by intro e; injection e with e; exact hbk e.symm), ?_⟩
  exact ((Below.refl g W).grown hg (Nat.le_of_lt h.oc.box.lt) (fun j hj => (hu.lt j hj).1)).setCell (p := ⟨b, i, none⟩) hb v
/-- how many there are of each -/
structure Few14 (c : Conf) : Prop where
  nf : c.filters.length ≤ 274877906944
  nc : c.clusters.length ≤ 274877906944
  nv : c.vhosts.length ≤ 274877906944
  nr : ∀ v ∈ c.vhosts, v.routes.length ≤ 274877906944
def AddPost (w : World) (g : Nat) (spec : Option Conf) (e : Ending) (w' : World) : Prop := ∃ ok, e = .returned (.bool ok) ∧ Below g w w' ∧ (match spec with | none => ok = false | some c' => ok = true ∧ OC w' g c')
theorem Al.fin {w W : World} {g k : Nat} {c : Conf} {vf vc vv : Value} {CL : List (Clus × Value)} {VL : List (Vhos × Value)} {T : List L} {left wrong : Bool} {spec : Option Conf} {b : Bool} (h : Al w g k c vf vc vv CL VL T left wrong W) (hl : left = !T.isEmpty) (hs : spec = if wrong = false ∧ T = [] then some c else none) (hb : b = (!wrong && !left)) : AddPost w g spec (.returned (.bool b)) W := by
  subst hs
  subst hb
  refine ⟨_, rfl, h.below, ?_⟩
  subst hl
  cases wrong with
  | true => rw [if_neg (by rintro ⟨h, _⟩; cases h)]; rfl
  | false =>
    cases T with
    | nil => rw [if_pos ⟨rfl, rfl⟩]; exact ⟨rfl, _, _, _, _, _, h.oc⟩
    | cons a b => rw [if_neg (by rintro ⟨_, h⟩; cases h)]; rfl
theorem add_no {w W : World} {g : Nat} {spec : Option Conf} (hs : spec = none) (hb : Below g w W) : AddPost w g spec (.returned (.bool false)) W := by
  subst hs
  exact ⟨false, rfl, hb, rfl⟩
theorem Al.cells {w W : World} {g k : Nat} {c : Conf} {vf vc vv : Value} {CL : List (Clus × Value)} {VL : List (Vhos × Value)} {T : List L} {left wrong : Bool} (h : Al w g k c vf vc vv CL VL T left wrong W) : W.cell? ⟨k, 1, none⟩ = some (.bool left) ∧ W.cell? ⟨k, 2, none⟩ = some (.bool wrong) :=
  ⟨h.st.cells.1, h.st.cells.2.1⟩
set_option maxHeartbeats 6400000 in
theorem padd_filter (g : Nat) (c : Conf) (vf vc vv : Value) (CL : List (Clus × Value)) (VL : List (Vhos × Value)) (line : L) (hl : line.length ≤ 1099511627776) (hhd : (cutB 32 line).headD [] = FILTER) (hF : Few14 c) (w : World) (h : OCs w g c vf vc vv CL VL) :
    Calls Tryz.prog 72 #[.pointer (some ⟨g, 0, none⟩), .string (ofL line), .bool false] w (AddPost w g (lineP c line)) := by
  have hRel : Rel line (cutB 32 line) := .inr ⟨cutB_ne _ _, rfl⟩
  obtain ⟨R, hRe⟩ : ∃ R, R = cutB 32 line := ⟨_, rfl⟩
  rw [← hRe] at hRel hhd
  have A0 : Al w g w.heap.size c vf vc vv CL VL R false false (w.alloc (.cells #[.string (ofL line), .bool false, .bool false] WT)) := ⟨⟨⟨line, Has.new w _ _, hRel, hl⟩⟩, h.alloc _, (Below.refl _ _).alloc (Nat.le_of_lt h.box.lt) _, h.box.lt, Nat.le_refl _⟩
  have HN := Lib.hid ((pnext_any _ R false false _ A0.st).mono (fun e W' ⟨x1, _, x3, x4⟩ => And.intro x1 (Lib.hid (A0.words x3 x4))))
  unfold WT at HN
  have HRe := Lib.hid hRe
  have hgk : g ≠ w.heap.size := Nat.ne_of_lt h.box.lt
  have teL : ((ofL FILTER).toList == [108, 105, 115, 116, 101, 110]) = false := (text_is _ _).trans (by decide)
  have teF : ((ofL FILTER).toList == [102, 105, 108, 116, 101, 114]) = true := (text_is _ _).trans (by decide)
  have teC : ((ofL FILTER).toList == [99, 108, 117, 115, 116, 101, 114]) = false := (text_is _ _).trans (by decide)
  have teV : ((ofL FILTER).toList == [118, 104, 111, 115, 116]) = false := (text_is _ _).trans (by decide)
  have teR : ((ofL FILTER).toList == [114, 111, 117, 116, 101]) = false := (text_is _ _).trans (by decide)
  rw [hhd] at HN
  generalize ofL FILTER = Y at *
  obtain ⟨pf, cf, hvf, _⟩ := row_form h.rf
  have hfl := hF.nf
  have HFl := Lib.hid hfl
  obtain ⟨nn, hnn⟩ : ∃ nn, nn = c.filters.length := ⟨_, rfl⟩
  rw [← hnn] at hvf hfl
  have HNN := Lib.hid hnn
  subst hvf
  obtain ⟨i0, hi, hz0, hz1, hz2⟩ := info_parts infoF
  obtain ⟨x, hx⟩ : ∃ x, Hid (x = filtR R.tail) := ⟨_, Lib.hid rfl⟩
  have HS : Hid (lineP c line = if wrongF R.tail FF = false ∧ R.tail.drop 6 = [] then some { c with filters := c.filters ++ [x] } else none) := Lib.hid (by
    unfold lineP
    dsimp only
    rw [← HRe.out, hhd, if_pos rfl, filt_run, ← hx.out]
    by_cases hc : wrongF R.tail FF = false ∧ R.tail.drop 6 = []
    · rw [if_pos hc, if_pos hc]; rfl
    · rw [if_neg hc, if_neg hc])
  clear hRe hRel hF hnn A0 h hhd hl
  go_enter Tryz.func72, Tryz.ntmps72
  go_wp2_with fail
  refine HN.out.mono ?_
  rintro e w1 ⟨rfl, A1⟩
  clear HN
  have AD := A1.out.drew
  have HFi := Lib.hid ((pfilter_any w.heap.size R.tail _ _ w1.drew AD.st).mono (fun e W' ⟨x1, x2, x3⟩ => And.intro x1 (AD.words x2 x3)))
  rw [← hx.out] at HFi
  unfold filtV at HFi
  have d6 : w1.drew.cell? ⟨g, 6, none⟩ = some (.slice pf nn cf) := AD.oc.box.cell 6
  go_wp2_with fail
  go_region_law (first
        | (refine step_append_lies _ (by rfl) (.tmp 50) (.tmp 52) 22 (by rfl) g 49 i0 (.agg #[.int .i64 0, .string .empty, .string .empty, .int .i64 0, .int .i64 0, .int .i64 0]) 6 64 Tryz.underlying22 hi hz0 hz1 hz2 (by rfl) (by decide) (.slice pf nn cf) nn (c.filters.flatMap filtV) (by rfl) HR3 ⟨w2.heap.size, 0, none⟩ 1 1 (filtV x) (by rfl) (by rfl) HN (by simp [filtV, Value.oneCell']) (by omega) (by unfold maxLen; omega) (by omega) (Nat.le_of_lt A3.oc.box.lt) (w2.heap.size + 1) (by simp) ?_; intro g4 cap4 w4 hown4 hg4 hat4 hlt4; have hb4 := has_kept A3.oc.box hg4 (ConfOwn.row_far A3.oc.rf A3.oc.box (by decide)); have c4 : w4.cell? ⟨g, 6, none⟩ = some (.slice pf nn cf) := hb4.cell 6; have z4 := hb4.free 6)
        | (go_simp; go_at_call 108; refine HFi.out.mono ?_; rintro e w2 ⟨rfl, A2⟩; have k2 : w2.cell? ⟨g, 6, none⟩ = some (.slice pf nn cf) := A2.oc.box.cell 6; have A3 := A2.alloc (.cells #[.int .i64 x.kind, .string (ofL x.name), .string (ofL x.value), .int .i64 x.n, .int .i64 x.m, .int .i64 x.k] 49); have k3 : (w2.alloc (.cells #[.int .i64 x.kind, .string (ofL x.name), .string (ofL x.value), .int .i64 x.n, .int .i64 x.m, .int .i64 x.k] 49)).cell? ⟨g, 6, none⟩ = some (.slice pf nn cf) := A3.oc.box.cell 6; have HR3 := A3.oc.rf; rw [← HNN.out] at HR3; have HN := World.news_of_block (heap_alloc_new w2 (.cells #[.int .i64 x.kind, .string (ofL x.name), .string (ofL x.value), .int .i64 x.n, .int .i64 x.m, .int .i64 x.k] 49))))
  all_goals
    obtain ⟨hs4, hb5⟩ := A3.app A3.oc.rf (by decide) hg4 g 6 (.slice (some ⟨g4, 0, none⟩) (nn + 1) cap4) (Nat.le_refl _) hgk
    have A4 := A3.turn (A3.oc.addF x (by rw [← HNN.out]; exact hown4) hg4) hs4 hb5
    obtain ⟨lf, hlf⟩ : ∃ lf, Hid (lf = !(R.tail.drop 6).isEmpty) := ⟨_, Lib.hid rfl⟩
    obtain ⟨wg, hwg⟩ : ∃ wg, Hid (wg = wrongF R.tail FF) := ⟨_, Lib.hid rfl⟩
    rw [← hlf.out, show (false || wrongF R.tail FF) = wg by rw [Bool.false_or, hwg.out]] at A4
    rw [← hwg.out] at HS
    obtain ⟨d1, d2⟩ := A4.cells
    have A5 := Lib.hid (fun b hb => A4.fin (spec := lineP c line) (b := b) hlf.out (by first | exact HS.out | (rw [HS.out]; simp)) hb)
    clear A4 hs4 hb5 hown4 hg4 hat4 hlt4 hb4 c4 z4 A3 HR3 HN A2 k2 k3 AD A1 HFi d6
    cases wg <;> cases lf
    all_goals
      go_wp2_with fail
      go_ret
      exact A5.out _ rfl
def clusR (R : List L) : Clus := ⟨textV (R.headD []), numW (R.tail.headD []), (R.drop 8).map textV, numW (R.tail.tail.headD []), numW (R.tail.tail.tail.headD []), numW (R.tail.tail.tail.tail.headD []), numW (R.tail.tail.tail.tail.tail.headD []), numW (R.tail.tail.tail.tail.tail.tail.headD []), numW (R.tail.tail.tail.tail.tail.tail.tail.headD [])⟩
theorem line_cl (c : Conf) (line : L) (R : List L) (hR : R = cutB 32 line) (hhd : R.headD [] = CLUSTER) : lineP c line = if (wrongF R.tail FC || wrongH (R.tail.drop 8)) = false ∧ ([] : List L) = [] then some { c with clusters := c.clusters ++ [clusR R.tail] } else none := by
  have hne : R ≠ [] := by rw [hR]; exact cutB_ne _ _
  have hlen : R.length = R.tail.length + 1 := by
    cases R with
    | nil => exact absurd rfl hne
    | cons a b => rfl
  unfold lineP
  dsimp only
  rw [← hR, hhd, if_neg (by decide), if_pos rfl, hlen]
  by_cases hs : R.tail.length + 1 < 9
  · rw [if_pos hs, wrongF_short FC R.tail (by show _ < 8; omega), if_neg (by rintro ⟨h, _⟩; cases h)]
  · rw [if_neg hs, readF_run FC _ [] [] (by decide), hostsP_run]
    obtain ⟨h1, h2, h3⟩ := wrongF_take FC R.tail (by show 8 ≤ _; omega)
    rw [show FC.length = 8 from rfl] at h1 h2 h3
    rw [h1, h2, h3, show FC.length = 8 from rfl, List.drop_take, Nat.sub_self, List.take_zero]
    cases hw : wrongF R.tail FC with
    | true => simp
    | false =>
      rw [if_pos ⟨rfl, rfl⟩]
      cases hh : wrongH (R.tail.drop 8) with
      | true => rw [if_neg (by decide), if_neg (by rintro ⟨h, _⟩; cases h)]
      | false => rw [if_pos rfl, if_pos ⟨rfl, rfl⟩]; rfl
set_option maxHeartbeats 6400000 in
theorem padd_cluster (g : Nat) (c : Conf) (vf vc vv : Value) (CL : List (Clus × Value)) (VL : List (Vhos × Value)) (line : L) (hl : line.length ≤ 1099511627776) (hhd : (cutB 32 line).headD [] = CLUSTER) (hF : Few14 c) (w : World) (h : OCs w g c vf vc vv CL VL) :
    Calls Tryz.prog 72 #[.pointer (some ⟨g, 0, none⟩), .string (ofL line), .bool false] w (AddPost w g (lineP c line)) := by
  have hRel : Rel line (cutB 32 line) := .inr ⟨cutB_ne _ _, rfl⟩
  obtain ⟨R, hRe⟩ : ∃ R, R = cutB 32 line := ⟨_, rfl⟩
  rw [← hRe] at hRel hhd
  have A0 : Al w g w.heap.size c vf vc vv CL VL R false false (w.alloc (.cells #[.string (ofL line), .bool false, .bool false] WT)) := ⟨⟨⟨line, Has.new w _ _, hRel, hl⟩⟩, h.alloc _, (Below.refl _ _).alloc (Nat.le_of_lt h.box.lt) _, h.box.lt, Nat.le_refl _⟩
  have HN := Lib.hid ((pnext_any _ R false false _ A0.st).mono (fun e W' ⟨x1, _, x3, x4⟩ => And.intro x1 (Lib.hid (A0.words x3 x4))))
  unfold WT at HN
  have HRe := Lib.hid hRe
  have hgk : g ≠ w.heap.size := Nat.ne_of_lt h.box.lt
  have teL : ((ofL CLUSTER).toList == [108, 105, 115, 116, 101, 110]) = false := (text_is _ _).trans (by decide)
  have teF : ((ofL CLUSTER).toList == [102, 105, 108, 116, 101, 114]) = false := (text_is _ _).trans (by decide)
  have teC : ((ofL CLUSTER).toList == [99, 108, 117, 115, 116, 101, 114]) = true := (text_is _ _).trans (by decide)
  have teV : ((ofL CLUSTER).toList == [118, 104, 111, 115, 116]) = false := (text_is _ _).trans (by decide)
  have teR : ((ofL CLUSTER).toList == [114, 111, 117, 116, 101]) = false := (text_is _ _).trans (by decide)
  rw [hhd] at HN
  have HS := Lib.hid (line_cl c line R hRe hhd)
  generalize ofL CLUSTER = Y at *
  obtain ⟨pf, cf, hvf, _⟩ := row_form h.rc
  have hfl := hF.nc
  rw [h.ec, List.length_map] at hfl
  obtain ⟨nn, hnn⟩ : ∃ nn, nn = CL.length := ⟨_, rfl⟩
  rw [← hnn] at hvf hfl
  have HNN := Lib.hid hnn
  subst hvf
  obtain ⟨i0, hi, hz0, hz1, hz2⟩ := info_parts infoC
  obtain ⟨x, hx⟩ : ∃ x, Hid (x = clusR R.tail) := ⟨_, Lib.hid rfl⟩
  rw [← hx.out] at HS
  clear hRe hRel hF hnn A0 h hhd hl
  go_enter Tryz.func72, Tryz.ntmps72
  go_wp2_with fail
  refine HN.out.mono ?_
  rintro e w1 ⟨rfl, A1⟩
  clear HN
  have AD := A1.out.drew
  have HFi : Hid (Calls Tryz.prog 109 #[.pointer (some ⟨w.heap.size, 0, none⟩)] w1.drew fun e W' => ∃ hv, e = .returned (.agg #[.string (ofL x.name), .int .i64 x.policy, hv, .int .i64 x.conns, .int .i64 x.pending, .int .i64 x.try_, .int .i64 x.fails, .int .i64 x.eject, .int .i64 x.panic]) ∧ W'.ownsRow w1.drew.heap.size ST 1 hv x.hosts.length (Texts.strs x.hosts) ∧ Al w g w.heap.size c vf (.slice pf nn cf) vv CL VL [] (!([] : List L).isEmpty) (false || wrongF R.tail FC || wrongH (R.tail.drop 8)) W') := Lib.hid (by
    rw [hx.out]
    exact (pcluster_any w.heap.size R.tail _ _ w1.drew AD.st).mono (fun e W' ⟨hv, x1, x2, x3, x4⟩ => ⟨hv, x1, x2, AD.words x3 x4⟩))
  have HAp : Hid (∀ p ∈ CL, ∀ k, p.2.ownBlock = some k → k < w1.drew.heap.size) := Lib.hid (fun p hp k hk => ((AD.oc.hc p hp).lt k hk).2)
  have HLo : Hid (g ≤ w1.drew.heap.size) := Lib.hid (Nat.le_of_lt AD.oc.box.lt)
  have d7 : w1.drew.cell? ⟨g, 7, none⟩ = some (.slice pf nn cf) := AD.oc.box.cell 7
  go_wp2_with fail
  go_region_law (first
        | (refine step_append_lies _ (by rfl) (.tmp 62) (.tmp 64) 23 (by rfl) g 38 i0 (.agg #[.string .empty, .int .i64 0, .slice none 0 0, .int .i64 0, .int .i64 0, .int .i64 0, .int .i64 0, .int .i64 0, .int .i64 0]) 9 96 Tryz.underlying23 hi hz0 hz1 hz2 (by rfl) (by decide) (.slice pf nn cf) nn (CL.flatMap (fun p => clusV p.1 p.2)) (by rfl) HR3 ⟨w2.heap.size, 0, none⟩ 1 1 (clusV x (.slice ph x.hosts.length ch)) (by rfl) (by rfl) HN (by simp [clusV, Value.oneCell']) (by omega) (by unfold maxLen; omega) (by omega) (Nat.le_of_lt A3.oc.box.lt) (w2.heap.size + 1) (by simp) ?_; intro g4 cap4 w4 hown4 hg4 hat4 hlt4; have hb4 := has_kept A3.oc.box hg4 (ConfOwn.row_far A3.oc.rc A3.oc.box (by decide)); have c4 : w4.cell? ⟨g, 7, none⟩ = some (.slice pf nn cf) := hb4.cell 7; have z4 := hb4.free 7)
        | (go_simp; go_at_call 109; refine HFi.out.mono ?_; rintro e w2 ⟨hv, rfl, hrow2, A2⟩; obtain ⟨ph, ch, rfl, _⟩ := row_form hrow2; have hlo2 := fun k hk => (hrow2.lt k hk).1; have k2 : w2.cell? ⟨g, 7, none⟩ = some (.slice pf nn cf) := A2.oc.box.cell 7; have A3 := A2.alloc (.cells #[.string (ofL x.name), .int .i64 x.policy, .slice ph x.hosts.length ch, .int .i64 x.conns, .int .i64 x.pending, .int .i64 x.try_, .int .i64 x.fails, .int .i64 x.eject, .int .i64 x.panic] 38); have k3 : (w2.alloc (.cells #[.string (ofL x.name), .int .i64 x.policy, .slice ph x.hosts.length ch, .int .i64 x.conns, .int .i64 x.pending, .int .i64 x.try_, .int .i64 x.fails, .int .i64 x.eject, .int .i64 x.panic] 38)).cell? ⟨g, 7, none⟩ = some (.slice pf nn cf) := A3.oc.box.cell 7; have HR3 := A3.oc.rc; rw [← HNN.out] at HR3; have HN := World.news_of_block (heap_alloc_new w2 (.cells #[.string (ofL x.name), .int .i64 x.policy, .slice ph x.hosts.length ch, .int .i64 x.conns, .int .i64 x.pending, .int .i64 x.try_, .int .i64 x.fails, .int .i64 x.eject, .int .i64 x.panic] 38))))
  all_goals
    obtain ⟨hs4, hb5⟩ := A3.app A3.oc.rc (by decide) hg4 g 7 (.slice (some ⟨g4, 0, none⟩) (nn + 1) cap4) (Nat.le_refl _) hgk
    have A4 := A3.turn (A3.oc.addC x (.slice ph x.hosts.length ch) (row_mono (row_below hrow2 ((Below.refl _ _).alloc (Nat.le_refl _) _)) HLo.out) (fun p hp k hk e => by have := HAp.out p hp k hk; have := hlo2 k e; omega) (by rw [← HNN.out]; exact hown4) hg4) hs4 hb5
    obtain ⟨lf, hlf⟩ : ∃ lf, Hid (lf = !(([] : List L)).isEmpty) := ⟨_, Lib.hid rfl⟩
    obtain ⟨wg, hwg⟩ : ∃ wg, Hid (wg = (wrongF R.tail FC || wrongH (R.tail.drop 8))) := ⟨_, Lib.hid rfl⟩
    rw [← hlf.out, show (false || wrongF R.tail FC || wrongH (R.tail.drop 8)) = wg from by rw [Bool.false_or, hwg.out]] at A4
    rw [← hwg.out] at HS
    obtain ⟨d1, d2⟩ := A4.cells
    have A5 := Lib.hid (fun b hb => A4.fin (spec := lineP c line) (b := b) hlf.out (by first | exact HS.out | (rw [HS.out]; simp)) hb)
    clear A4 hs4 hb5 hown4 hg4 hat4 hlt4 hb4 c4 z4 A3 HR3 HN A2 k2 k3 AD A1 HFi d7 hrow2 hlo2
    cases wg <;> cases lf
    all_goals
      go_wp2_with fail
      go_ret
      exact A5.out _ rfl
theorem line_vh (c : Conf) (line : L) (R : List L) (hR : R = cutB 32 line) (hhd : R.headD [] = VHOST) : lineP c line = if (!okW 119 (R.tail.headD [])) = false ∧ R.tail.tail = [] then some { c with vhosts := c.vhosts ++ [⟨textV (R.tail.headD []), []⟩] } else none := by
  unfold lineP
  dsimp only
  rw [← hR, hhd, if_neg (by decide), if_neg (by decide), if_pos rfl, readF_run ([119] : List UInt8) _ [] [] (by decide)]
  rw [show R.tail.drop ([119] : List UInt8).length = R.tail.tail from by simp [← List.drop_one, List.drop_drop]]
  rw [show wrongF R.tail ([119] : List UInt8) = !okW 119 (R.tail.headD []) from by simp [wrongF]]
  by_cases hc : (!okW 119 (R.tail.headD [])) = false ∧ R.tail.tail = []
  · rw [if_pos hc, if_pos hc]; rfl
  · rw [if_neg hc, if_neg hc]
set_option maxHeartbeats 6400000 in
theorem padd_vhost (g : Nat) (c : Conf) (vf vc vv : Value) (CL : List (Clus × Value)) (VL : List (Vhos × Value)) (line : L) (hl : line.length ≤ 1099511627776) (hhd : (cutB 32 line).headD [] = VHOST) (hF : Few14 c) (w : World) (h : OCs w g c vf vc vv CL VL) :
    Calls Tryz.prog 72 #[.pointer (some ⟨g, 0, none⟩), .string (ofL line), .bool false] w (AddPost w g (lineP c line)) := by
  have hRel : Rel line (cutB 32 line) := .inr ⟨cutB_ne _ _, rfl⟩
  obtain ⟨R, hRe⟩ : ∃ R, R = cutB 32 line := ⟨_, rfl⟩
  rw [← hRe] at hRel hhd
  have A0 : Al w g w.heap.size c vf vc vv CL VL R false false (w.alloc (.cells #[.string (ofL line), .bool false, .bool false] WT)) := ⟨⟨⟨line, Has.new w _ _, hRel, hl⟩⟩, h.alloc _, (Below.refl _ _).alloc (Nat.le_of_lt h.box.lt) _, h.box.lt, Nat.le_refl _⟩
  have HN := Lib.hid ((pnext_any _ R false false _ A0.st).mono (fun e W' ⟨x1, _, x3, x4⟩ => And.intro x1 (Lib.hid (A0.words x3 x4))))
  unfold WT at HN
  have HRe := Lib.hid hRe
  have hgk : g ≠ w.heap.size := Nat.ne_of_lt h.box.lt
  have teL : ((ofL VHOST).toList == [108, 105, 115, 116, 101, 110]) = false := (text_is _ _).trans (by decide)
  have teF : ((ofL VHOST).toList == [102, 105, 108, 116, 101, 114]) = false := (text_is _ _).trans (by decide)
  have teC : ((ofL VHOST).toList == [99, 108, 117, 115, 116, 101, 114]) = false := (text_is _ _).trans (by decide)
  have teV : ((ofL VHOST).toList == [118, 104, 111, 115, 116]) = true := (text_is _ _).trans (by decide)
  have teR : ((ofL VHOST).toList == [114, 111, 117, 116, 101]) = false := (text_is _ _).trans (by decide)
  rw [hhd] at HN
  have HS := Lib.hid (line_vh c line R hRe hhd)
  generalize ofL VHOST = Y at *
  obtain ⟨pf, cf, hvf, _⟩ := row_form h.rv
  have hfl := hF.nv
  rw [h.ev, List.length_map] at hfl
  obtain ⟨nn, hnn⟩ : ∃ nn, nn = VL.length := ⟨_, rfl⟩
  rw [← hnn] at hvf hfl
  have HNN := Lib.hid hnn
  subst hvf
  obtain ⟨i0, hi, hz0, hz1, hz2⟩ := info_parts infoV
  obtain ⟨x, hx⟩ : ∃ x, Hid (x = textV (R.tail.headD [])) := ⟨_, Lib.hid rfl⟩
  rw [← hx.out] at HS
  clear hRe hRel hF hnn A0 h hhd hl
  go_enter Tryz.func72, Tryz.ntmps72
  go_wp2_with fail
  refine HN.out.mono ?_
  rintro e w1 ⟨rfl, A1⟩
  clear HN
  have AD := A1.out.drew
  have HFi := Lib.hid ((PCfgM.ptext_any w.heap.size R.tail _ _ w1.drew AD.st).mono (fun e W' ⟨x1, x2⟩ => And.intro x1 (AD.took x2)))
  rw [← hx.out] at HFi
  have d8 : w1.drew.cell? ⟨g, 8, none⟩ = some (.slice pf nn cf) := AD.oc.box.cell 8
  go_wp2_with fail
  go_region_law (first
        | (refine step_append_lies _ (by rfl) (.tmp 74) (.tmp 77) 24 (by rfl) g 43 i0 (.agg #[.string .empty, .slice none 0 0]) 2 40 Tryz.underlying24 hi hz0 hz1 hz2 (by rfl) (by decide) (.slice pf nn cf) nn (VL.flatMap (fun p => vhosV p.1 p.2)) (by rfl) HR3 ⟨w2.heap.size, 0, none⟩ 1 1 (vhosV ⟨x, []⟩ (.slice none 0 0)) (by rfl) (by rfl) HN (by simp [vhosV, Value.oneCell']) (by omega) (by unfold maxLen; omega) (by omega) (Nat.le_of_lt A3.oc.box.lt) (w2.heap.size + 1) (by simp) ?_; intro g4 cap4 w4 hown4 hg4 hat4 hlt4; have hb4 := has_kept A3.oc.box hg4 (ConfOwn.row_far A3.oc.rv A3.oc.box (by decide)); have c4 : w4.cell? ⟨g, 8, none⟩ = some (.slice pf nn cf) := hb4.cell 8; have z4 := hb4.free 8)
        | (go_simp; go_at_call 110; refine HFi.out.mono ?_; rintro e w2 ⟨rfl, A2⟩; have k2 : w2.cell? ⟨g, 8, none⟩ = some (.slice pf nn cf) := A2.oc.box.cell 8; have A3 := A2.alloc (.cells #[.string (ofL x), .slice none 0 0] 43); have k3 : (w2.alloc (.cells #[.string (ofL x), .slice none 0 0] 43)).cell? ⟨g, 8, none⟩ = some (.slice pf nn cf) := A3.oc.box.cell 8; have HR3 := A3.oc.rv; rw [← HNN.out] at HR3; have HN := World.news_of_block (heap_alloc_new w2 (.cells #[.string (ofL x), .slice none 0 0] 43))))
  all_goals
    obtain ⟨hs4, hb5⟩ := A3.app A3.oc.rv (by decide) hg4 g 8 (.slice (some ⟨g4, 0, none⟩) (nn + 1) cap4) (Nat.le_refl _) hgk
    have A4 := A3.turn (A3.oc.addV x (by rw [← HNN.out]; exact hown4) hg4) hs4 hb5
    obtain ⟨lf, hlf⟩ : ∃ lf, Hid (lf = !(R.tail.tail).isEmpty) := ⟨_, Lib.hid rfl⟩
    obtain ⟨wg, hwg⟩ : ∃ wg, Hid (wg = (!okW 119 (R.tail.headD []))) := ⟨_, Lib.hid rfl⟩
    rw [← hlf.out, show (false || !okW 119 (R.tail.headD [])) = wg from by rw [Bool.false_or, hwg.out]] at A4
    rw [← hwg.out] at HS
    obtain ⟨d1, d2⟩ := A4.cells
    have A5 := Lib.hid (fun b hb => A4.fin (spec := lineP c line) (b := b) hlf.out (by first | exact HS.out | (rw [HS.out]; simp)) hb)
    clear A4 hs4 hb5 hown4 hg4 hat4 hlt4 hb4 c4 z4 A3 HR3 HN A2 k2 k3 AD A1 HFi d8 
    cases wg <;> cases lf
    all_goals
      go_wp2_with fail
      go_ret
      exact A5.out _ rfl
end Go.Proofs.YtfihehobkbfmiaaGreatDoor.PCfgP

/- Layer 14 of the program: addLine at a route's line. -/
namespace Go.Proofs.YtfihehobkbfmiaaGreatDoor.PCfgQ
open Go.ChangeShapes Go.WideShapes Go.ChangeAt Go.RowKit Bytes LexPure LexNum PathPure CutAt ConfPure ConfProg ConfMem Ret Mem RowKeep ConfOwn ConfCF PCfgLib PCfgT PCfgW PCfgM PCfgN PCfgO PCfgP
set_option maxRecDepth 100000
set_option linter.unusedVariables false
set_option linter.unusedSimpArgs false
theorem flag_val (w : L) : ((if w == [49] then (1 : Int) else 0) == 1) = (w == [49]) := by
  cases h : (w == [49]) <;> rfl
theorem rout_run (R : List L) : readF R FR [] [] = if wrongF R FR = false ∧ R.drop 13 = [] then some (numsF R FR, textsF R FR) else none := by
  rw [readF_run FR R [] [] (by decide)]
  rfl
theorem line_rt (c : Conf) (line : L) (R : List L) (hR : R = cutB 32 line) (hhd : R.headD [] = ROUTE) (V0 : List Vhos) (v : Vhos) (hv : c.vhosts = V0 ++ [v]) : lineP c line = if wrongF R.tail FR = false ∧ R.tail.drop 13 = [] then some { c with vhosts := V0 ++ [⟨v.domain, v.routes ++ [routR R.tail]⟩] } else none := by
  unfold lineP
  dsimp only
  rw [← hR, hhd, if_neg (by decide), if_neg (by decide), if_neg (by decide), if_pos rfl, rout_run]
  by_cases hc : wrongF R.tail FR = false ∧ R.tail.drop 13 = []
  · rw [if_pos hc, if_pos hc]
    dsimp only
    unfold addR
    rw [hv, List.getLast?_concat, List.dropLast_concat]
    simp only [Option.map_some, numsF, textsF, FR, valW, if_neg (show ¬ (98 : UInt8) = 119 by decide), if_neg (show ¬ (110 : UInt8) = 119 by decide), if_neg (show ¬ (110 : UInt8) = 98 by decide), if_true, List.getD_cons_zero, List.getD_cons_succ, flag_val]
    rfl
  · rw [if_neg hc, if_neg hc]
theorem line_rt0 (c : Conf) (line : L) (R : List L) (hR : R = cutB 32 line) (hhd : R.headD [] = ROUTE) (hv : c.vhosts = []) : lineP c line = none := by
  unfold lineP
  dsimp only
  rw [← hR, hhd, if_neg (by decide), if_neg (by decide), if_neg (by decide), if_pos rfl, rout_run]
  by_cases hc : wrongF R.tail FR = false ∧ R.tail.drop 13 = []
  · rw [if_pos hc]
    dsimp only
    unfold addR
    rw [hv]; rfl
  · rw [if_neg hc]
theorem OCs.lastc {w : World} {g : Nat} {c : Conf} {vf vc : Value} {CL : List (Clus × Value)} {V0 : List (Vhos × Value)} {v : Vhos} {hr : Value} {gv m capv : Nat} (h : OCs w g c vf vc (.slice (some ⟨gv, 0, none⟩) (m + 1) capv) CL (V0 ++ [(v, hr)])) (hm : m = V0.length) : w.cell? ⟨gv, m * 2 + 1, none⟩ = some hr ∧ w.frozen? ⟨gv, m * 2 + 1, none⟩ = false ∧ g ≤ gv := by
  subst hm
  have hl : (V0.flatMap (fun p => vhosV p.1 p.2)).length = V0.length * 2 := by
    clear h
    induction V0 with
    | nil => rfl
    | cons p V0 ih => rw [List.flatMap_cons, List.length_append, ih, List.length_cons]; show 2 + _ = _; omega
  have hrow := h.rv
  rw [List.length_append, List.length_singleton, List.flatMap_append, List.flatMap_singleton] at hrow
  refine ⟨?_, hrow.frozenAt _, (hrow.lt gv rfl).1⟩
  rw [hrow.cellAt _ (by omega), List.getElem?_append_right (by omega), hl, show V0.length * 2 + 1 - V0.length * 2 = 1 by omega]
  rfl
theorem row_lastc {w : World} {g : Nat} {V0 : List (Vhos × Value)} {v : Vhos} {hr : Value} {gv m capv : Nat} (h : w.ownsRow g VT 2 (.slice (some ⟨gv, 0, none⟩) (m + 1) capv) (V0 ++ [(v, hr)]).length ((V0 ++ [(v, hr)]).flatMap (fun p => vhosV p.1 p.2))) (hm : m = V0.length) : w.cell? ⟨gv, m * 2 + 1, none⟩ = some hr ∧ w.frozen? ⟨gv, m * 2 + 1, none⟩ = false := by
  subst hm
  have hl : (V0.flatMap (fun p => vhosV p.1 p.2)).length = V0.length * 2 := by
    clear h
    induction V0 with
    | nil => rfl
    | cons p V0 ih => rw [List.flatMap_cons, List.length_append, ih, List.length_cons]; show 2 + _ = _; omega
  rw [List.length_append, List.length_singleton, List.flatMap_append, List.flatMap_singleton] at h
  refine ⟨?_, h.frozenAt _⟩
  rw [h.cellAt _ (by omega), List.getElem?_append_right (by omega), hl, show V0.length * 2 + 1 - V0.length * 2 = 1 by omega]
  rfl
set_option maxHeartbeats 6400000 in
theorem padd_route0 (g : Nat) (c : Conf) (vf vc vv : Value) (CL : List (Clus × Value)) (VL : List (Vhos × Value)) (line : L) (hl : line.length ≤ 1099511627776) (hhd : (cutB 32 line).headD [] = ROUTE) (hv0 : VL = []) (hF : Few14 c) (w : World) (h : OCs w g c vf vc vv CL VL) :
    Calls Tryz.prog 72 #[.pointer (some ⟨g, 0, none⟩), .string (ofL line), .bool false] w (AddPost w g (lineP c line)) := by
  have hRel : Rel line (cutB 32 line) := .inr ⟨cutB_ne _ _, rfl⟩
  obtain ⟨R, hRe⟩ : ∃ R, R = cutB 32 line := ⟨_, rfl⟩
  rw [← hRe] at hRel hhd
  have A0 : Al w g w.heap.size c vf vc vv CL VL R false false (w.alloc (.cells #[.string (ofL line), .bool false, .bool false] WT)) := ⟨⟨⟨line, Has.new w _ _, hRel, hl⟩⟩, h.alloc _, (Below.refl _ _).alloc (Nat.le_of_lt h.box.lt) _, h.box.lt, Nat.le_refl _⟩
  have HN := Lib.hid ((pnext_any _ R false false _ A0.st).mono (fun e W' ⟨x1, _, x3, x4⟩ => And.intro x1 (Lib.hid (A0.words x3 x4))))
  unfold WT at HN
  have HRe := Lib.hid hRe
  have hgk : g ≠ w.heap.size := Nat.ne_of_lt h.box.lt
  have teL : ((ofL ROUTE).toList == [108, 105, 115, 116, 101, 110]) = false := (text_is _ _).trans (by decide)
  have teF : ((ofL ROUTE).toList == [102, 105, 108, 116, 101, 114]) = false := (text_is _ _).trans (by decide)
  have teC : ((ofL ROUTE).toList == [99, 108, 117, 115, 116, 101, 114]) = false := (text_is _ _).trans (by decide)
  have teV : ((ofL ROUTE).toList == [118, 104, 111, 115, 116]) = false := (text_is _ _).trans (by decide)
  have teR : ((ofL ROUTE).toList == [114, 111, 117, 116, 101]) = true := (text_is _ _).trans (by decide)
  rw [hhd] at HN
  have HS := Lib.hid (line_rt0 c line R hRe hhd (by rw [h.ev, hv0]; rfl))
  generalize ofL ROUTE = Y at *
  obtain ⟨pf, cf, hvf, _⟩ := row_form h.rv
  rw [hv0] at hvf
  subst hvf
  clear hRe hRel hF A0 h hhd hl
  go_enter Tryz.func72, Tryz.ntmps72
  go_wp2_with fail
  refine HN.out.mono ?_
  rintro e w1 ⟨rfl, A1⟩
  clear HN
  have d8 : w1.cell? ⟨g, 8, none⟩ = some (.slice pf ([] : List (Vhos × Value)).length cf) := A1.out.oc.box.cell 8
  replace d8 : w1.cell? ⟨g, 8, none⟩ = some (.slice pf 0 cf) := d8
  go_wp2_with fail
  go_ret
  exact add_no HS.out A1.out.below
set_option maxHeartbeats 6400000 in
theorem padd_route (g : Nat) (c : Conf) (vf vc vv : Value) (CL : List (Clus × Value)) (VL : List (Vhos × Value)) (line : L) (hl : line.length ≤ 1099511627776) (hhd : (cutB 32 line).headD [] = ROUTE) (V0 : List (Vhos × Value)) (v : Vhos) (hr : Value) (hv0 : VL = V0 ++ [(v, hr)]) (hF : Few14 c) (w : World) (h : OCs w g c vf vc vv CL VL) :
    Calls Tryz.prog 72 #[.pointer (some ⟨g, 0, none⟩), .string (ofL line), .bool false] w (AddPost w g (lineP c line)) := by
  have hRel : Rel line (cutB 32 line) := .inr ⟨cutB_ne _ _, rfl⟩
  obtain ⟨R, hRe⟩ : ∃ R, R = cutB 32 line := ⟨_, rfl⟩
  rw [← hRe] at hRel hhd
  have A0 : Al w g w.heap.size c vf vc vv CL VL R false false (w.alloc (.cells #[.string (ofL line), .bool false, .bool false] WT)) := ⟨⟨⟨line, Has.new w _ _, hRel, hl⟩⟩, h.alloc _, (Below.refl _ _).alloc (Nat.le_of_lt h.box.lt) _, h.box.lt, Nat.le_refl _⟩
  have HN := Lib.hid ((pnext_any _ R false false _ A0.st).mono (fun e W' ⟨x1, _, x3, x4⟩ => And.intro x1 (Lib.hid (A0.words x3 x4))))
  unfold WT at HN
  have HRe := Lib.hid hRe
  have hgk : g ≠ w.heap.size := Nat.ne_of_lt h.box.lt
  have teL : ((ofL ROUTE).toList == [108, 105, 115, 116, 101, 110]) = false := (text_is _ _).trans (by decide)
  have teF : ((ofL ROUTE).toList == [102, 105, 108, 116, 101, 114]) = false := (text_is _ _).trans (by decide)
  have teC : ((ofL ROUTE).toList == [99, 108, 117, 115, 116, 101, 114]) = false := (text_is _ _).trans (by decide)
  have teV : ((ofL ROUTE).toList == [118, 104, 111, 115, 116]) = false := (text_is _ _).trans (by decide)
  have teR : ((ofL ROUTE).toList == [114, 111, 117, 116, 101]) = true := (text_is _ _).trans (by decide)
  rw [hhd] at HN
  have hev := h.ev
  rw [hv0, List.map_append, List.map_singleton] at hev
  have HS := Lib.hid (line_rt c line R hRe hhd _ _ hev)
  generalize ofL ROUTE = Y at *
  subst hv0
  have hmem : ((v, hr) : Vhos × Value) ∈ V0 ++ [(v, hr)] := List.mem_append_right _ (List.mem_singleton.2 rfl)
  obtain ⟨gv, capv, hvv, _, _, hcp, _⟩ := row_at h.rv (by rw [List.length_append]; simp)
  rw [List.length_append, List.length_singleton] at hvv hcp
  obtain ⟨pf, cf, hvf, _⟩ := row_form (h.hv _ hmem)
  dsimp only at hvf
  have hfl := hF.nr v (by rw [hev]; exact List.mem_append_right _ (List.mem_singleton.2 rfl))
  have hml := hF.nv
  rw [hev, List.length_append, List.length_map, List.length_singleton] at hml
  obtain ⟨nn, hnn⟩ : ∃ nn, nn = v.routes.length := ⟨_, rfl⟩
  rw [← hnn] at hvf hfl
  have HNN := Lib.hid hnn
  obtain ⟨m, hm⟩ : ∃ m, m = V0.length := ⟨_, rfl⟩
  rw [← hm] at hvv hml hcp
  have HMm := Lib.hid hm
  subst hvf
  subst hvv
  obtain ⟨i0, hi, hz0, hz1, hz2⟩ := info_parts infoR
  obtain ⟨x, hx⟩ : ∃ x, Hid (x = routR R.tail) := ⟨_, Lib.hid rfl⟩
  rw [← hx.out] at HS
  have m0 : (0 : Int) ≤ (m : Int) := by omega
  have m1 : (m : Int) < (m : Int) + 1 := by omega
  have m2 : (m : Int) + 1 - 1 = (m : Int) := by omega
  have m4 : (m : Int) ≤ 274877906944 := by omega
  have m3 : ((m : Int) + 1 == 0) = false := beq_false_of_ne (by omega)
  clear hRe hRel hF hnn hm A0 h hhd hl hev hmem
  go_enter Tryz.func72, Tryz.ntmps72
  go_wp2_with fail
  refine HN.out.mono ?_
  rintro e w1 ⟨rfl, A1⟩
  clear HN
  have d8 : w1.cell? ⟨g, 8, none⟩ = some (.slice (some ⟨gv, 0, none⟩) (m + 1) capv) := A1.out.oc.box.cell 8
  have AD := A1.out.drew
  have d8d : w1.drew.cell? ⟨g, 8, none⟩ = some (.slice (some ⟨gv, 0, none⟩) (m + 1) capv) := AD.oc.box.cell 8
  go_wp2_with fail
  go_wp2_with fail
  go_region
  have AE := A1.out.drew.drew
  have HFi := Lib.hid ((proute_any w.heap.size R.tail _ _ w1.drew.drew AE.st).mono (fun e W' ⟨x1, x2, x3⟩ => And.intro x1 (AE.words x2 x3)))
  rw [← hx.out] at HFi
  unfold routV at HFi
  obtain ⟨dr, _, hgg⟩ := OCs.lastc AE.oc HMm.out
  have HGG := Lib.hid hgg
  have hmem : ((v, (.slice pf nn cf : Value)) : Vhos × Value) ∈ V0 ++ [(v, .slice pf nn cf)] := List.mem_append_right _ (List.mem_singleton.2 rfl)
  have HMem := Lib.hid hmem
  clear hmem hgg
  go_wp2_with fail
  go_region_law (first
        | (refine step_append_lies _ (by rfl) (.tmp 104) (.tmp 106) 41 (by rfl) g 45 i0 (.agg #[.bool false, .string .empty, .string .empty, .string .empty, .string .empty, .int .i64 0, .string .empty, .int .i64 0, .string .empty, .string .empty, .int .i64 0, .int .i64 0, .bool false]) 13 160 Tryz.underlying41 hi hz0 hz1 hz2 (by rfl) (by decide) (.slice pf nn cf) nn (v.routes.flatMap routV) (by rfl) HR3 ⟨w2.heap.size, 0, none⟩ 1 1 (routV x) (by rfl) (by rfl) HN (by simp [routV, Value.oneCell']) (by omega) (by unfold maxLen; omega) (by omega) (Nat.le_of_lt A3.oc.box.lt) (w2.heap.size + 1) (by simp) ?_; intro g4 cap4 w4 hown4 hg4 hat4 hlt4; have hrv4 := row_kept A3.oc.rv hg4 (row_apart A3.oc.rv (A3.oc.hv _ HMem.out) (by decide)); obtain ⟨c4, z4⟩ := row_lastc hrv4 HMm.out)
        | (go_simp; go_at_call 111; refine HFi.out.mono ?_; rintro e w2 ⟨rfl, A2⟩; have k2 := (OCs.lastc A2.oc HMm.out).1; have A3 := A2.alloc (.cells #[.bool x.pre, .string (ofL x.path), .string (ofL x.method), .string (ofL x.field), .string (ofL x.value), .int .i64 x.action, .string (ofL x.cluster), .int .i64 x.status, .string (ofL x.text), .string (ofL x.rewrite), .int .i64 x.retries, .int .i64 x.timeout, .bool x.upgrade] 45); have k3 := (OCs.lastc A3.oc HMm.out).1; have HR3 := A3.oc.hv _ HMem.out; dsimp only at HR3; rw [← HNN.out] at HR3; have HN := World.news_of_block (heap_alloc_new w2 (.cells #[.bool x.pre, .string (ofL x.path), .string (ofL x.method), .string (ofL x.field), .string (ofL x.value), .int .i64 x.action, .string (ofL x.cluster), .int .i64 x.status, .string (ofL x.text), .string (ofL x.rewrite), .int .i64 x.retries, .int .i64 x.timeout, .bool x.upgrade] 45))))
  all_goals
    obtain ⟨hs4, hb5⟩ := A3.app (A3.oc.hv _ HMem.out) (by decide) hg4 gv (m * 2 + 1) (.slice (some ⟨g4, 0, none⟩) (nn + 1) cap4) HGG.out (by
      obtain ⟨rest, hH, _⟩ := A3.st.ex
      intro e
      exact ConfOwn.row_far A3.oc.rv hH (by decide) (by rw [← e]; rfl))
    have A4 := A3.turn (by
      have := A3.oc.addR x (by rw [← HMm.out]) (by rw [← HNN.out]; exact hown4) hg4 (fun k hk => by
        rcases hat4 with h | h
        · left; rw [h]; exact hk
        · right
          have : k = g4 := by simpa [Value.ownBlock] using hk.symm
          rw [this, h]; simp)
      rw [← HMm.out] at this
      exact this) hs4 hb5
    obtain ⟨lf, hlf⟩ : ∃ lf, Hid (lf = !(R.tail.drop 13).isEmpty) := ⟨_, Lib.hid rfl⟩
    obtain ⟨wg, hwg⟩ : ∃ wg, Hid (wg = wrongF R.tail FR) := ⟨_, Lib.hid rfl⟩
    rw [← hlf.out, show (false || wrongF R.tail FR) = wg from by rw [Bool.false_or, hwg.out]] at A4
    rw [← hwg.out] at HS
    obtain ⟨d1, d2⟩ := A4.cells
    have A5 := Lib.hid (fun b hb => A4.fin (spec := lineP c line) (b := b) hlf.out (by first | exact HS.out | (rw [HS.out]; simp)) hb)
    clear A4 hs4 hb5 hown4 hg4 hat4 hlt4 hrv4 c4 z4 A3 HR3 HN A2 k2 k3 AD AE A1 HFi d8 d8d dr
    cases wg <;> cases lf
    all_goals
      go_wp2_with fail
      go_ret
      exact A5.out _ rfl
end Go.Proofs.YtfihehobkbfmiaaGreatDoor.PCfgQ
