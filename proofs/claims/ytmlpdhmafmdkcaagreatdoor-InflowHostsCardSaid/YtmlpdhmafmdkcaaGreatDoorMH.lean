/- Texts of this seat, one behind another: InflowHost, RValue, InflowHostsW. -/
import Derived.Lib.Hide
import Derived.Below
import Derived.Outline
import Derived.LoopTactic
import Derived.Test.YtmlpdhmafmdkcaaGreatDoorA3
import Derived.Test.YtmlpdhmafmdkcaaGreatDoorA1
import Derived.Test.YtmlpdhmafmdkcaaGreatDoorA5
import Derived.Test.YtmlpdhmafmdkcaaGreatDoorB
import Derived.Test.YtmlpdhmafmdkcaaGreatDoorMW2
/- Layer 11: whom a request is for. No program is named. -/
namespace Go.Proofs.YtmlpdhmafmdkcaaGreatDoor.InflowHost
open Bytes LexPure LexNum LexList FieldsPure HeadPure HeadWrit HeadLines CutAt HeadCut PathPure PathForm HostPure TargetPure FramePure ChunkPure ChunkHex ChunkText InflowPure InflowWrit
set_option maxRecDepth 20000
def GETM : List UInt8 := [71, 69, 84]
def HN : List UInt8 := [72, 111, 115, 116]
def HL : List UInt8 := [104, 111, 115, 116]
def XY : List UInt8 := [88, 58, 32, 121]
def ABS : List UInt8 := [104, 116, 116, 112, 58, 47, 47, 122, 58, 56, 47]
/-- a line 'Host: v' -/
def hostL (n v : List UInt8) : List UInt8 := n ++ 58 :: ([32] ++ v)
theorem host_v {n v : List UInt8} (hn : token n = true) (hv : value v = true) : field8 (hostL n v) = ((n, v), 0) ∧ bare (hostL n v) := ⟨field_ahead (by decide) hn hv, field_ahead_bare (by decide) hn hv⟩
def none11 : List UInt8 := startL GETM [47] ++ [13, 10] ++ XY ++ [13, 10, 13, 10]
def two11 (a b : List UInt8) : List UInt8 := startL GETM [47] ++ [13, 10] ++ hostL HN a ++ [13, 10] ++ hostL HL b ++ [13, 10, 13, 10]
def one11 (t a : List UInt8) : List UInt8 := startL GETM t ++ [13, 10] ++ hostL HN a ++ [13, 10, 13, 10]
theorem none_say : read11 9 none11 = .fail 400 := by
  have e : none11 = startL GETM [47] ++ 13 :: 10 :: (XY ++ 13 :: 10 :: (13 :: 10 :: [])) := by simp [none11]
  unfold read11
  rw [e, read_start (by decide) (by decide) (by decide) (by decide) (by decide), show (32 : Nat) = 31 + 1 from rfl, fields_line _ 31 _ _ (by unfold bare; decide) (by decide) (by decide), if_pos (by decide), fields_end]
  unfold rest11
  dsimp only
  rw [parse_root (by decide), if_neg (by decide)]
  rfl
theorem two_say {a b : List UInt8} (ha : value a = true) (hb : value b = true) (la : a.length ≤ 60) (lb : b.length ≤ 60) : read11 9 (two11 a b) = .fail 400 := by
  obtain ⟨f1, b1⟩ := host_v (n := HN) (by decide) ha
  obtain ⟨f2, b2⟩ := host_v (n := HL) (by decide) hb
  have l1 : (hostL HN a).length = a.length + 6 := by simp [hostL, HN]
  have l2 : (hostL HL b).length = b.length + 6 := by simp [hostL, HL]
  have e : two11 a b = startL GETM [47] ++ 13 :: 10 :: (hostL HN a ++ 13 :: 10 :: (hostL HL b ++ 13 :: 10 :: (13 :: 10 :: []))) := by simp [two11]
  unfold read11
  rw [e, read_start (by decide) (by decide) (by decide) (by decide) (by decide), show (32 : Nat) = 31 + 1 from rfl, fields_line _ 31 _ _ b1 (by omega) (by omega), f1, if_pos rfl, show (31 : Nat) = 30 + 1 from rfl, fields_line _ 30 _ _ b2 (by omega) (by omega), f2, if_pos rfl, fields_end]
  unfold rest11
  dsimp only
  rw [parse_root (by decide), if_neg (by decide)]
  dsimp only
  have h2 : getN ([] ++ [(HN, a)] ++ [(HL, b)]) HOSTN = 2 := rfl
  unfold host11
  dsimp only
  rw [h2, if_pos (by decide)]
/-- the request that is told -/
def rqH (t : List UInt8) (T : Tgt) (a h : List UInt8) (p : Int) : Rq := ⟨⟨GETM, t, 0, [], 1, [(HN, a)]⟩, T, h, p, [], false, keep9 1 [(HN, a)], []⟩
theorem one_say {t a : List UInt8} {T : Tgt} (ht : t.all seenB = true) (t0 : 0 < t.length) (tl : t.length ≤ 1024) (hp : parse6 GETM t = (T, 0)) (ha : value a = true) (la : a.length ≤ 60) :
    read11 9 (one11 t a) = if authE a ≠ 0 then .fail 400 else .whole (rqH t T a (if T.form = 2 ∨ T.form = 3 then T.host else authH a) (if T.form = 2 ∨ T.form = 3 then T.port else authP a)) (one11 t a).length := by
  obtain ⟨f1, b1⟩ := host_v (n := HN) (by decide) ha
  have l1 : (hostL HN a).length = a.length + 6 := by simp [hostL, HN]
  have e : one11 t a = startL GETM t ++ 13 :: 10 :: (hostL HN a ++ 13 :: 10 :: (13 :: 10 :: [])) := by simp [one11]
  have hlen : (startL GETM t).length + 2 + (hostL HN a).length + 2 + 2 = (one11 t a).length := by rw [e]; simp only [List.length_append, List.length_cons, List.length_nil]; omega
  unfold read11
  rw [e, read_start (by decide) (by decide) ht t0 tl, show (32 : Nat) = 31 + 1 from rfl, fields_line _ 31 _ _ b1 (by omega) (by omega), f1, if_pos rfl, fields_end, hlen, ← e]
  unfold rest11
  dsimp only
  rw [hp]
  dsimp only
  rw [if_neg (fun q => q rfl)]
  have h1 : getN ([] ++ [(HN, a)]) HOSTN = 1 := rfl
  have h2 : getV ([] ++ [(HN, a)]) HOSTN = a := rfl
  have h3 : getN ([] ++ [(HN, a)]) EXPECT = 0 := rfl
  have h4 : request9 1 ([] ++ [(HN, a)]) 9 = (1, 0, 0) := rfl
  unfold host11
  dsimp only
  rw [h1, h2, if_neg (by decide)]
  by_cases hE : authE a ≠ 0
  · rw [if_pos ⟨rfl, hE⟩, if_pos hE]
  · rw [if_neg (fun q => hE q.2), if_neg hE]
    have fin : ∀ (hn : List UInt8) (pn : Int), (match some (hn, pn) with
        | none => In.fail 400
        | some (hn, hp) =>
          if 0 < getN ([] ++ [(HN, a)]) EXPECT then .fail 417
          else if (request9 1 ([] ++ [(HN, a)]) 9).2.2 ≠ 0 then .fail (status11 (request9 1 ([] ++ [(HN, a)]) 9).2.2)
          else if GETM = TargetPure.CONNECT ∧ (request9 1 ([] ++ [(HN, a)]) 9).1 ≠ 1 then .fail 400
          else body11 ⟨⟨GETM, t, 0, [], 1, [] ++ [(HN, a)]⟩, T, hn, hp, [], decide ((request9 1 ([] ++ [(HN, a)]) 9).1 ≠ 1), keep9 1 ([] ++ [(HN, a)]), up11 ⟨GETM, t, 0, [], 1, [] ++ [(HN, a)]⟩ (request9 1 ([] ++ [(HN, a)]) 9).1⟩ (one11 t a).length (request9 1 ([] ++ [(HN, a)]) 9).1 (request9 1 ([] ++ [(HN, a)]) 9).2.1 9 (List.drop (one11 t a).length (one11 t a))) = .whole (rqH t T a hn pn) (one11 t a).length := by
      intro hn pn
      dsimp only
      rw [h3, h4, if_neg (by decide), if_neg (by decide), if_neg (by decide)]
      unfold body11
      rw [if_pos rfl]
      rfl
    by_cases hT : T.form = 2 ∨ T.form = 3
    · rw [if_pos hT, if_pos hT, if_pos hT]
      exact fin _ _
    · rw [if_neg hT, if_neg hT, if_neg hT, if_neg (by decide)]
      exact fin _ _
theorem abs_parse : parse6 GETM ABS = (⟨2, [122], 8, [47], [], false⟩, 0) := rfl
end Go.Proofs.YtmlpdhmafmdkcaaGreatDoor.InflowHost

/- Layer 4, the document's own Value. -/
namespace Go.Proofs.YtmlpdhmafmdkcaaGreatDoor.RValue
open Go.ChangeShapes Go.WideShapes Go.ChangeAt Go.RowKit LexPure Bytes Ret RBlank
set_option maxRecDepth 20000
theorem plain_true {b : UInt8} (h : plainB b = true) : ((b.toNat : Int) == 127) = false ∧ (¬ (b.toNat : Int) < 32 ∨ ((b.toNat : Int) < 32 ∧ ((b.toNat : Int) != 9) = false)) := by
  have := all_bytes (p := fun b => !plainB b || decide (((b.toNat : Int) == 127) = false ∧ (¬ (b.toNat : Int) < 32 ∨ ((b.toNat : Int) < 32 ∧ ((b.toNat : Int) != 9) = false)))) (by decide +kernel) b
  simpa only [h, Bool.not_true, Bool.false_or, decide_eq_true_eq] using this
theorem plain_false {b : UInt8} (h : plainB b = false) : ((b.toNat : Int) == 127) = true ∨ (((b.toNat : Int) == 127) = false ∧ (b.toNat : Int) < 32 ∧ ((b.toNat : Int) != 9) = true) := by
  have := all_bytes (p := fun b => plainB b || decide (((b.toNat : Int) == 127) = true ∨ (((b.toNat : Int) == 127) = false ∧ (b.toNat : Int) < 32 ∧ ((b.toNat : Int) != 9) = true))) (by decide +kernel) b
  simpa only [h, Bool.false_or, decide_eq_true_eq] using this
theorem head_at (s : ByteArray) (h : 0 < s.size) : (toL s).headD 0 = s[0] := by
  have := toL_get s 0 h
  cases hl : toL s with
  | nil => rw [hl] at this; cases this
  | cons c r => rw [hl] at this; simpa using this
theorem last_of (s : ByteArray) (j : Nat) (h : s.size = j + 1) : (toL s).getLastD 0 = s[j] := by
  have := toL_get s j (by omega)
  rw [List.getLastD_eq_getLast?, List.getLast?_eq_getElem?, toL_length, show s.size - 1 = j by omega, this]
  rfl
theorem rvalue_any (s : ByteArray) (hs : s.size ≤ maxLen) (w : World) :
    Calls Tryz.prog 9 #[.string s] w fun e w' => e = .returned (.bool (value (toL s))) ∧ w = w' := by
  unfold maxLen at hs
  go_enter Tryz.func9, Tryz.ntmps9
  go_wp2_with fail
  go_loop [3] (fun i => ∃ k : Nat, k ≤ s.size ∧ i = .int .i64 k ∧ Hid (((toL s).take k).all plainB = true)) (fun i => s.size - (intOf i).toNat)
  case atStart => exact ⟨0, Nat.zero_le _, rfl, Lib.hid rfl⟩
  case round =>
    obtain ⟨k, hk, rfl, ha⟩ := hrel
    by_cases hlt : k < s.size
    · have hki : (k : Int) < (s.size : Int) := by omega
      have HT := Lib.hid (toL_take_succ s k hlt)
      have HG := Lib.hid (toL_get s k hlt)
      by_cases hm : plainB s[k] = true
      · have HA : Hid (((toL s).take (k + 1)).all plainB = true) := Lib.hid (by rw [HT.out, List.all_append, ha.out]; simp [hm])
        have hp := plain_true hm
        clear HT HG ha hm
        obtain ⟨h1, hp⟩ := hp
        rcases hp with h2 | ⟨h2, h3⟩
        all_goals
          go_wp2_with fail
          go_round
          case rel => exact ⟨k + 1, by omega, by go_num, HA⟩
          case measure => simp [intOf]; omega
      · have hm : plainB s[k] = false := by simpa using hm
        have HV : Hid (value (toL s) = false) := Lib.hid (by
          unfold value
          rw [Bool.and_eq_false_iff]
          left
          rw [List.all_eq_false]
          exact ⟨s[k], List.mem_of_getElem? HG.out, by simp [hm]⟩)
        have hp := plain_false hm
        clear HT HG ha hm
        rcases hp with h1 | ⟨h1, h2, h3⟩
        all_goals
          go_wp2_with fail
          go_ret
          exact ⟨ret_bool HV.out.symm, rfl⟩
    · have ha' : (toL s).all plainB = true := by
        have := ha.out
        rwa [toL_take_all s (by omega)] at this
      have hki : ¬ (k : Int) < (s.size : Int) := by omega
      by_cases h0 : s.size = 0
      · have HV : Hid (value (toL s) = true) := Lib.hid (by
          unfold value
          rw [ha', List.isEmpty_iff.2 (List.length_eq_zero_iff.1 (by rw [toL_length]; exact h0))]
          rfl)
        have hq : ((s.size : Int) == 0) = true := by rw [h0]; rfl
        clear ha' ha
        go_wp2_with fail
        go_ret
        exact ⟨ret_bool HV.out.symm, rfl⟩
      · obtain ⟨j, hj⟩ : ∃ j, s.size = j + 1 := ⟨s.size - 1, by omega⟩
        have hV : value (toL s) = (!blankB (s[0]'(by omega)) && !blankB (s[j]'(by omega))) := by
          unfold value
          rw [ha', head_at s (by omega), last_of s j hj]
          have : (toL s).isEmpty = false := by
            cases hl : toL s with
            | nil => have := toL_length s; rw [hl] at this; simp at this; omega
            | cons => rfl
          rw [this]
          simp
        have HV := Lib.hid hV
        have HJ := Lib.hid hj
        have hq : ((s.size : Int) == 0) = false := by
          rw [beq_eq_false_iff_ne]
          omega
        clear ha' ha hV
        have p0 : 0 < s.size := by omega
        by_cases hb0 : blankB (s[0]'p0) = true
        · have HB := Lib.hid hb0
          have HV2 : Hid (value (toL s) = false) := Lib.hid (by rw [HV.out, hb0]; rfl)
          clear hb0
          go_wp2_with fail
          refine (rblank_any _ _).mono ?_
          rintro e w' ⟨rfl, rfl⟩
          rw [HB.out]
          go_wp2_with fail
          go_ret
          exact ⟨ret_bool HV2.out.symm, rfl⟩
        · have hb0 : blankB (s[0]'p0) = false := by simpa using hb0
          have HB := Lib.hid hb0
          have HV2 : Hid (value (toL s) = !blankB (s[j]'(by omega))) := Lib.hid (by rw [HV.out, hb0]; rfl)
          clear hb0
          go_wp2_with fail
          refine (rblank_any _ _).mono ?_
          rintro e w' ⟨rfl, rfl⟩
          rw [HB.out]
          go_wp2_with fail
          refine (rblank_any _ _).mono ?_
          rintro e w' ⟨rfl, rfl⟩
          generalize blankB (s[j]'(by omega)) = bb at *
          go_wp2_with fail
          go_ret
          exact ⟨ret_bool HV2.out.symm, rfl⟩
end Go.Proofs.YtmlpdhmafmdkcaaGreatDoor.RValue

/- A request names its host just once: InflowHosts returns true. -/
namespace Go.Proofs.YtmlpdhmafmdkcaaGreatDoor.InflowHostsW
open Go.ChangeShapes Go.WideShapes Go.ChangeAt Go.RowKit Bytes LexPure Ret Rows1 HeadPure HeadLines HostPure TargetPure InflowPure InflowHost QCell InObj InflowObj PUnder KeptRow L11Read L11Anchor RValue InflowWholeW Mem Step
set_option maxRecDepth 100000
/-- one piece, which holds one request, or none -/
theorem piece_call (X : ByteArray) (L : List UInt8) (hX : toL X = L) (hL : L.length ≤ 20000) (A : List Rq × Int × List UInt8) (hA : allOf 9 L = A) (h1 : A.1.length ≤ 1) (W : World) (g : Nat) (hg : g = W.heap.size) (hm : MaxInt W) :
    Calls Tryz.prog 8 #[.int .i64 9, .slice (some ⟨g, 0, none⟩) 1 1] (W.alloc (.cells #[.string X] 9))
      fun e w' => ∃ p cap P, e = .returned (.tuple #[.slice p A.1.length cap, .int .i64 A.2.1, .bool true]) ∧ Got (W.alloc (.cells #[.string X] 9)) w' (.slice p A.1.length cap) P ∧ P.map (·.1) = A.1 := by
  subst hg
  have hfl : ([toL X] : List (List UInt8)).flatten = L := by simp [hX]
  refine (read_any 9 _ _ (by unfold ChObj.InR; decide) _ (hm.below ((Below.refl _ _).alloc (Nat.le_refl _) _)) (texts1 W X) (by rw [hfl]; omega) (fun j => by
    match j with
    | 0 => rw [List.take_zero, List.flatten_nil, all_nil]; decide
    | j + 1 =>
      rw [show List.take (j + 1) [toL X] = [toL X] by simp, hfl, hA]
      omega)).mono ?_
  rintro e w' ⟨v, P, rfl, hG, hP⟩
  rw [hfl, hA] at hP ⊢
  have hl : P.length = A.1.length := by rw [← hP, List.length_map]
  obtain ⟨p, cap, rfl, _⟩ := row_form2 hG.row
  exact ⟨p, cap, P, by rw [hl], by rw [← hl]; exact hG, hP⟩
theorem fail_all {D : List UInt8} {s : Int} (h : read11 9 D = .fail s) : allOf 9 D = ([], s, D) := by rw [allOf_step, h]
theorem whole_all {D : List UInt8} {q : Rq} (h : read11 9 D = .whole q D.length) : allOf 9 D = ([q], 0, []) := by
  rw [allOf_step, h]
  dsimp only
  rw [List.drop_length, all_nil]
theorem idx2a (x y : ByteArray) (W : World) : (Instr.index 37 (.agg #[.string x, .string y]) (.int .i64 0)).run Tryz.prog W = .ok (.string x) W := by
  simp [Instr.index, run_underlying (P := Tryz.prog) Tryz.underlying37, asIntOf, go_sem, Tryz.sizeOf9]
theorem idx2b (x y : ByteArray) (W : World) : (Instr.index 37 (.agg #[.string x, .string y]) (.int .i64 1)).run Tryz.prog W = .ok (.string y) W := by
  simp [Instr.index, run_underlying (P := Tryz.prog) Tryz.underlying37, asIntOf, go_sem, Tryz.sizeOf9]
def GB : ByteArray := ⟨#[71, 69, 84, 32, 47, 32, 72, 84, 84, 80, 47, 49, 46, 49, 13, 10]⟩
def XB : ByteArray := ⟨#[88, 58, 32, 121, 13, 10, 13, 10]⟩
def HB_ : ByteArray := ⟨#[72, 111, 115, 116, 58, 32]⟩
def H2B : ByteArray := ⟨#[13, 10, 104, 111, 115, 116, 58, 32]⟩
def EB : ByteArray := ⟨#[13, 10, 13, 10]⟩
def AB : ByteArray := ⟨#[71, 69, 84, 32, 104, 116, 116, 112, 58, 47, 47, 122, 58, 56, 47, 32, 72, 84, 84, 80, 47, 49, 46, 49, 13, 10, 72, 111, 115, 116, 58, 32]⟩
theorem none_text : toL (GB ++ XB) = none11 := by rw [toL_append]; rfl
theorem two_text (a b : ByteArray) : toL (GB ++ HB_ ++ a ++ H2B ++ b ++ EB) = two11 (toL a) (toL b) := by
  simp only [toL_append]
  unfold two11 hostL startL
  simp [GB, HB_, H2B, EB, toL, HeadWrit.HTTP11, GETM, HN, HL]
theorem one_text (a : ByteArray) : toL (GB ++ HB_ ++ a ++ EB) = one11 [47] (toL a) := by
  simp only [toL_append]
  unfold one11 hostL startL
  simp [GB, HB_, EB, toL, HeadWrit.HTTP11, GETM, HN]
theorem abs_text (a : ByteArray) : toL (AB ++ a ++ EB) = one11 ABS (toL a) := by
  simp only [toL_append]
  unfold one11 hostL startL
  simp [AB, EB, toL, HeadWrit.HTTP11, GETM, HN, ABS]
theorem one_host {a : List UInt8} (ha : value a = true) (la : a.length ≤ 60) (hE : ¬ authE a ≠ 0) : authH a ≠ [] := by
  have h := one_say (t := [47]) (T := ⟨1, [], 0, [47], [], false⟩) (by decide) (by decide) (by decide) rfl ha la
  rw [if_neg hE] at h
  have := (InflowWholeP.whole_say h).host (show (0 : Int) < 1 by decide)
  simpa [rqH] using this
/-- the first request's cells, in a list of one -/
theorem one_cells {w w4 : World} {q : Rq} {P : List (Rq × Value)} {p : Option Addr} {cap : Nat} (hG : Got w w4 (.slice p 1 cap) P) (hP : P.map (·.1) = [q]) :
    ∃ gv, p = some ⟨gv, 0, none⟩ ∧ gv < w4.heap.size ∧ w4.cell? ⟨gv, 12, none⟩ = some (.string (ofL q.host)) ∧ w4.cell? ⟨gv, 13, none⟩ = some (.int .i64 q.port) := by
  obtain ⟨l, rfl⟩ : ∃ l, P = [(q, l)] := by
    match P, hP with
    | [(q2, l)], hP =>
      injection hP with h1 _
      exact ⟨l, by rw [show q2 = q from h1]⟩
  rcases hG.row.2 with ⟨_, hn⟩ | ⟨g5, cap5, cur, hv, _, hg5, _⟩
  · cases hn
  · injection hv with e1 e2 e3
    subst e1
    refine ⟨g5, rfl, (Array.getElem?_eq_some_iff.1 hg5).1, ?_, ?_⟩
    · have hc := hG.row.cells (g := g5) rfl 12 (.string (ofL q.host)) rfl
      rw [show (⟨g5, 0, none⟩ : Addr).add 12 = ⟨g5, 12, none⟩ from rfl] at hc
      exact hc
    · have hc := hG.row.cells (g := g5) rfl 13 (.int .i64 q.port) rfl
      rw [show (⟨g5, 0, none⟩ : Addr).add 13 = ⟨g5, 13, none⟩ from rfl] at hc
      exact hc
set_option maxHeartbeats 6400000 in
theorem walkIn (a b : ByteArray) (wa : a.size ≤ maxLen) (wb : b.size ≤ maxLen) (w : World) (hm : MaxInt w) :
    Calls Tryz.prog 4 #[.string a, .string b] w fun e w' => e = .returned (.bool true) ∧ Below w.heap.size w w' := by
  have HA := Lib.hid (anchor_any w hm)
  replace hm := Lib.hid hm
  have HVa := Lib.hid (rvalue_any a wa)
  have HVb := Lib.hid (rvalue_any b wb)
  clear wa wb
  go_enter Tryz.func4, Tryz.ntmps4
  go_wp2_with fail
  refine HA.out.mono ?_
  rintro e w1 ⟨rfl, hb1⟩
  have HB := Lib.hid hb1
  clear HA hb1
  go_wp2_with fail
  have I0 := idx2a a b
  have I1 := idx2b a b
  go_loop [25] (fun i => i = .int .i64 0 ∨ (i = .int .i64 1 ∧ Hid (value (toL a) = true ∧ a.size ≤ 60)) ∨ (i = .int .i64 2 ∧ Hid (value (toL a) = true ∧ a.size ≤ 60) ∧ Hid (value (toL b) = true ∧ b.size ≤ 60))) (fun i => 2 - (intOf i).toNat)
  case atStart => exact .inl rfl
  case round =>
   rcases hrel with rfl | ⟨rfl, KA⟩ | ⟨rfl, KA, KB⟩
   ·
    by_cases hv : value (toL a) = true
    · rw [hv] at HVa
      by_cases hz : 60 < a.size
      · have hzi : (60 : Int) < (a.size : Int) := by omega
        go_wp2_with fail
        refine (HVa.out _).mono ?_
        rintro e w2 ⟨rfl, rfl⟩
        go_wp2_with fail
        go_ret
        exact ⟨rfl, HB.out⟩
      · have hzi : ¬ (60 : Int) < (a.size : Int) := by omega
        have HN := Lib.hid (show value (toL a) = true ∧ a.size ≤ 60 from ⟨hv, by omega⟩)
        clear hv
        go_wp2_with fail
        refine (HVa.out _).mono ?_
        rintro e w2 ⟨rfl, rfl⟩
        go_wp2_with fail
        exact ⟨.inr (.inl ⟨rfl, HN⟩), by decide⟩
    · have hf : value (toL a) = false := by simpa using hv
      rw [hf] at HVa
      clear hv hf
      go_wp2_with fail
      refine (HVa.out _).mono ?_
      rintro e w2 ⟨rfl, rfl⟩
      go_wp2_with fail
      go_ret
      exact ⟨rfl, HB.out⟩
   ·
    by_cases hv : value (toL b) = true
    · rw [hv] at HVb
      by_cases hz : 60 < b.size
      · have hzi : (60 : Int) < (b.size : Int) := by omega
        go_wp2_with fail
        refine (HVb.out _).mono ?_
        rintro e w2 ⟨rfl, rfl⟩
        go_wp2_with fail
        go_ret
        exact ⟨rfl, HB.out⟩
      · have hzi : ¬ (60 : Int) < (b.size : Int) := by omega
        have HN := Lib.hid (show value (toL b) = true ∧ b.size ≤ 60 from ⟨hv, by omega⟩)
        clear hv
        go_wp2_with fail
        refine (HVb.out _).mono ?_
        rintro e w2 ⟨rfl, rfl⟩
        go_wp2_with fail
        exact ⟨.inr (.inr ⟨rfl, KA, HN⟩), by decide⟩
    · have hf : value (toL b) = false := by simpa using hv
      rw [hf] at HVb
      clear hv hf
      go_wp2_with fail
      refine (HVb.out _).mono ?_
      rintro e w2 ⟨rfl, rfl⟩
      go_wp2_with fail
      go_ret
      exact ⟨rfl, HB.out⟩
   · obtain ⟨va, la⟩ := KA.out
     obtain ⟨vb, lb⟩ := KB.out
     have la' : (toL a).length ≤ 60 := by rw [toL_length]; exact la
     have lb' : (toL b).length ≤ 60 := by rw [toL_length]; exact lb
     have HR0 := Lib.hid (piece_call (GB ++ XB) _ none_text (by decide) _ (fail_all none_say) (by simp))
     have HR2 := Lib.hid (piece_call (GB ++ HB_ ++ a ++ H2B ++ b ++ EB) _ (two_text a b) (by rw [← two_text, toL_length]; simp only [ByteArray.size_append]; have : GB.size + HB_.size + H2B.size + EB.size = 34 := rfl; omega) _ (fail_all (two_say va vb la' lb')) (by simp))
     have l1 : (one11 [47] (toL a)).length ≤ 20000 := by rw [← one_text, toL_length]; simp only [ByteArray.size_append]; have : GB.size + HB_.size + EB.size = 26 := rfl; omega
     have l2 : (one11 ABS (toL a)).length ≤ 20000 := by rw [← abs_text, toL_length]; simp only [ByteArray.size_append]; have : AB.size + EB.size = 36 := rfl; omega
     have s1 := one_say (t := [47]) (T := ⟨1, [], 0, [47], [], false⟩) (by decide) (by decide) (by decide) rfl va la'
     have s2 := one_say (t := ABS) (by decide) (by decide) (by decide) abs_parse va la'
     have ho := one_host va la'
     have q1 : 22 + a.size ≤ 9223372036854775807 := by omega
     have q2 : 16 + 6 + a.size ≤ 9223372036854775807 := by omega
     have q3 : 16 + 6 + a.size + 8 ≤ 9223372036854775807 := by omega
     have q4 : 16 + 6 + a.size + 8 + b.size ≤ 9223372036854775807 := by omega
     have q5 : 16 + 6 + a.size + 8 + b.size + 4 ≤ 9223372036854775807 := by omega
     have q6 : 16 + 6 + a.size + 4 ≤ 9223372036854775807 := by omega
     have q7 : 32 + a.size ≤ 9223372036854775807 := by omega
     have q8 : 32 + a.size + 4 ≤ 9223372036854775807 := by omega
     have d1 := piece_call (GB ++ HB_ ++ a ++ EB) _ (one_text a) l1
     have d2 := piece_call (AB ++ a ++ EB) _ (abs_text a) l2
     unfold GB HB_ H2B EB XB AB at *
     clear HVa HVb I0 I1 KA KB va vb la lb la' lb' l1 l2
     by_cases hE : authE (toL a) ≠ 0
     · rw [if_pos hE] at s1 s2
       have HR1 := Lib.hid (d1 _ (fail_all s1) (by simp))
       have HR3 := Lib.hid (d2 _ (fail_all s2) (by simp))
       clear s1 s2 d1 d2 ho hE
       go_wp2_with fail
       refine (HR0.out _ _ rfl (hm.out.below HB.out)).mono ?_
       rintro e w2 ⟨p2, c2, P2, rfl, hG2, _⟩
       replace HB := Lib.hid (below_chain (HB.out.alloc HB.out.size _) hG2.below)
       clear HR0 hG2
       go_wp2_with fail
       refine (HR2.out _ _ rfl (hm.out.below HB.out)).mono ?_
       rintro e w3 ⟨p3, c3, P3, rfl, hG3, _⟩
       replace HB := Lib.hid (below_chain (HB.out.alloc HB.out.size _) hG3.below)
       clear HR2 hG3
       go_wp2_with fail
       refine (HR1.out _ _ rfl (hm.out.below HB.out)).mono ?_
       rintro e w4 ⟨p4, c4, P4, rfl, hG4, _⟩
       replace HB := Lib.hid (below_chain (HB.out.alloc HB.out.size _) hG4.below)
       clear HR1 hG4
       go_wp2_with fail
       refine (HR3.out _ _ rfl (hm.out.below HB.out)).mono ?_
       rintro e w5 ⟨p5, c5, P5, rfl, hG5, _⟩
       replace HB := Lib.hid (below_chain (HB.out.alloc HB.out.size _) hG5.below)
       clear HR3 hG5
       dsimp only [List.length_nil]
       go_wp2_with fail
       go_ret
       exact ⟨rfl, HB.out⟩
     · rw [if_neg hE] at s1 s2
       replace ho := Lib.hid (ho hE)
       have HR1 := Lib.hid (d1 _ (whole_all s1) (by simp))
       have HR3 := Lib.hid (d2 _ (whole_all s2) (by simp))
       clear s1 s2 d1 d2 hE
       go_wp2_with fail
       refine (HR0.out _ _ rfl (hm.out.below HB.out)).mono ?_
       rintro e w2 ⟨p2, c2, P2, rfl, hG2, _⟩
       replace HB := Lib.hid (below_chain (HB.out.alloc HB.out.size _) hG2.below)
       clear HR0 hG2
       go_wp2_with fail
       refine (HR2.out _ _ rfl (hm.out.below HB.out)).mono ?_
       rintro e w3 ⟨p3, c3, P3, rfl, hG3, _⟩
       replace HB := Lib.hid (below_chain (HB.out.alloc HB.out.size _) hG3.below)
       clear HR2 hG3
       go_wp2_with fail
       refine (HR1.out _ _ rfl (hm.out.below HB.out)).mono ?_
       rintro e w4 ⟨p4, c4, P4, rfl, hG4, hP4⟩
       replace HB := Lib.hid (below_chain (HB.out.alloc HB.out.size _) hG4.below)
       obtain ⟨g4, rfl, z4, k4, _⟩ := one_cells hG4 hP4
       have K4 := Lib.hid (And.intro z4 k4)
       clear HR1 hG4 hP4 z4 k4
       go_wp2_with fail
       refine (HR3.out _ _ rfl (hm.out.below HB.out)).mono ?_
       rintro e w5 ⟨p5, c5, P5, rfl, hG5, hP5⟩
       replace HB := Lib.hid (below_chain (HB.out.alloc HB.out.size _) hG5.below)
       have K5 := ((((Below.refl w4.heap.size w4).alloc (Nat.le_refl _) _).trans (Below.mono hG5.below (by simp))).cell (p := ⟨g4, 12, none⟩) K4.out.1).trans K4.out.2
       obtain ⟨g5, rfl, _, k5, k6⟩ := one_cells hG5 hP5
       clear HR3 hG5 hP5 K4
       obtain ⟨H, hH⟩ : ∃ H, H = ofL (authH (toL a)) := ⟨_, rfl⟩
       have hN : H.toList.isEmpty = false := by
         have e : H.toList = authH (toL a) := by rw [ByteArray.toList_eq, hH]; exact toL_ofL _
         rw [e]
         have := ho.out
         cases hq : authH (toL a) with
         | nil => exact absurd hq this
         | cons => rfl
       have K6 : w5.cell? ⟨g4, 12, none⟩ = some (.string H) := by rw [K5, hH]; simp [rqH]
       have k7 : w5.cell? ⟨g5, 12, none⟩ = some (.string ⟨#[122]⟩) := by rw [k5]; simp [rqH]; rfl
       have k8 : w5.cell? ⟨g5, 13, none⟩ = some (.int .i64 8) := by rw [k6]; simp [rqH]
       clear K5 k5 k6 hH ho
       dsimp only [List.length_nil, List.length_cons]
       go_wp2_with fail
       all_goals
         go_ret
         exact ⟨rfl, HB.out⟩
theorem walk (a : ByteArray) (w1 : a.size ≤ maxLen) (_za : a.size ≤ 140737488351232) (b : ByteArray) (w2 : b.size ≤ maxLen) (_zb : b.size ≤ 140737488351232) (W : World) (hsh : W.ShapedOpen Tryz.prog) :
    Calls Tryz.prog 4 #[.string a, .string b] W fun e w' => e = .returned (.bool true) ∧ Below W.heap.size W w' :=
  walkIn a b w1 w2 W (MaxInt.of_shape hsh)
end Go.Proofs.YtmlpdhmafmdkcaaGreatDoor.InflowHostsW
