/- Texts of this seat, one behind another: InflowSmug, InflowSmugglesW. -/

import Derived.Test.YtlgohmghjffiaaaGreatDoorA3
import Derived.Test.YtlgohmghjffiaaaGreatDoorB
/- Layer 11: a request that two readers could frame in two ways is refused. No program is named. -/
namespace Go.Proofs.YtlgohmghjffiaaaGreatDoor.InflowSmug
open Bytes LexPure LexNum LexList FieldsPure HeadPure HeadWrit HeadLines CutAt HeadCut PathPure PathForm HostPure TargetPure FramePure ChunkPure ChunkHex ChunkText InflowPure InflowWrit
set_option maxRecDepth 20000
def POST : List UInt8 := [80, 79, 83, 84]
/-- the lines that are wrong -/
def badL (k : Nat) : List UInt8 :=
  match k with
  | 0 => CLN ++ 58 :: ([32] ++ [51]) ++ [13, 10] ++ TE_ ++ [13, 10]
  | 1 => CLN ++ 58 :: ([32] ++ [51]) ++ [13, 10] ++ (CLN ++ 58 :: ([32] ++ [52])) ++ [13, 10]
  | 2 => CLN ++ 58 :: ([32] ++ [51]) ++ [10]
  | 3 => TEF.1 ++ 58 :: ([32] ++ [99, 104, 117, 110, 107, 101, 100, 44, 32, 105, 100, 101, 110, 116, 105, 116, 121]) ++ [13, 10]
  | 4 => [67, 111, 110, 116, 101, 110, 116, 45, 76, 101, 110, 103, 116, 104, 32, 58, 32, 51] ++ [13, 10]
  | _ => CLN ++ 58 :: ([32] ++ [51, 44, 32, 51, 120]) ++ [13, 10]
def smug (k : Nat) (path x : List UInt8) : List UInt8 := startL POST (47 :: path) ++ [13, 10] ++ HOST_ ++ [13, 10] ++ badL k ++ [13, 10] ++ x
theorem rest_bad {h : H8} {n : Nat} {most : Int} {D : List UInt8} (he : getN h.fields EXPECT = 0) (hr : (request9 h.minor h.fields most).2.2 = 90) : rest11 h n most D = .fail 400 := by
  unfold rest11
  by_cases h1 : (parse6 h.method h.target).2 ≠ 0
  · rw [if_pos h1]
  rw [if_neg h1]
  cases hh : host11 h (parse6 h.method h.target).1 with
  | none => rfl
  | some p =>
    dsimp only
    rw [he, if_neg (by decide), hr, if_pos (by decide)]
    rfl
theorem one_line {v : List UInt8} (hv : value v = true) : field8 (CLN ++ 58 :: ([32] ++ v)) = ((CLN, v), 0) ∧ bare (CLN ++ 58 :: ([32] ++ v)) := ⟨field_ahead (by decide) (by decide) hv, field_ahead_bare (by decide) (by decide) hv⟩
theorem te_any {v : List UInt8} (hv : value v = true) : field8 (TEF.1 ++ 58 :: ([32] ++ v)) = ((TEF.1, v), 0) ∧ bare (TEF.1 ++ 58 :: ([32] ++ v)) := ⟨field_ahead (by decide) (by decide) hv, field_ahead_bare (by decide) (by decide) hv⟩
theorem smug_say (k : Nat) (hk : k ≤ 5) {path : List UInt8} (hp : path.all seenB = true) (hl : path.length ≤ 500) (x : List UInt8) : read11 100 (smug k path x) = .fail 400 := by
  have ht : (47 :: path).all seenB = true := by rw [List.all_cons, hp]; decide
  have hs : ∀ y, read8 false (startL POST (47 :: path) ++ 13 :: 10 :: (HOST_ ++ 13 :: 10 :: y)) = fields8 ⟨POST, 47 :: path, 0, [], 1, []⟩ 31 [HOSTF] ((startL POST (47 :: path)).length + 2 + HOST_.length + 2) y := fun y => by
    rw [read_start (by decide) (by decide) ht (by simp) (by rw [List.length_cons]; omega)]
    rw [show (32 : Nat) = 31 + 1 from rfl, fields_line _ 31 _ _ host_bare (by decide) (by decide), host_line, if_pos rfl]
    rfl
  have h5 : k = 0 ∨ k = 1 ∨ k = 2 ∨ k = 3 ∨ k = 4 ∨ k = 5 := by omega
  rcases h5 with rfl | rfl | rfl | rfl | rfl | rfl
  · obtain ⟨f1, b1⟩ := one_line (v := [51]) (by decide)
    have e : smug 0 path x = startL POST (47 :: path) ++ 13 :: 10 :: (HOST_ ++ 13 :: 10 :: ((CLN ++ 58 :: ([32] ++ [51])) ++ 13 :: 10 :: (TE_ ++ 13 :: 10 :: (13 :: 10 :: x)))) := by simp [smug, badL]
    unfold read11
    rw [e, hs, show (31 : Nat) = 30 + 1 from rfl, fields_line _ 30 _ _ b1 (by decide) (by decide), f1, if_pos rfl, show (30 : Nat) = 29 + 1 from rfl, fields_line _ 29 _ _ te_bare (by decide) (by decide), te_line, if_pos rfl, fields_end]
    exact rest_bad rfl (show (request9 1 [HOSTF, (CLN, [51]), TEF] 100).2.2 = 90 by decide)
  · obtain ⟨f1, b1⟩ := one_line (v := [51]) (by decide)
    obtain ⟨f2, b2⟩ := one_line (v := [52]) (by decide)
    have e : smug 1 path x = startL POST (47 :: path) ++ 13 :: 10 :: (HOST_ ++ 13 :: 10 :: ((CLN ++ 58 :: ([32] ++ [51])) ++ 13 :: 10 :: ((CLN ++ 58 :: ([32] ++ [52])) ++ 13 :: 10 :: (13 :: 10 :: x)))) := by simp [smug, badL]
    unfold read11
    rw [e, hs, show (31 : Nat) = 30 + 1 from rfl, fields_line _ 30 _ _ b1 (by decide) (by decide), f1, if_pos rfl, show (30 : Nat) = 29 + 1 from rfl, fields_line _ 29 _ _ b2 (by decide) (by decide), f2, if_pos rfl, fields_end]
    exact rest_bad rfl (show (request9 1 [HOSTF, (CLN, [51]), (CLN, [52])] 100).2.2 = 90 by decide)
  · obtain ⟨f1, b1⟩ := one_line (v := [51]) (by decide)
    have e : smug 2 path x = startL POST (47 :: path) ++ 13 :: 10 :: (HOST_ ++ 13 :: 10 :: ((CLN ++ 58 :: ([32] ++ [51])) ++ 10 :: (13 :: 10 :: x))) := by simp [smug, badL]
    unfold read11
    rw [e, hs, fields_ten _ _ _ _ b1 (by decide)]
    rfl
  · obtain ⟨f1, b1⟩ := te_any (v := [99, 104, 117, 110, 107, 101, 100, 44, 32, 105, 100, 101, 110, 116, 105, 116, 121]) (by decide)
    have e : smug 3 path x = startL POST (47 :: path) ++ 13 :: 10 :: (HOST_ ++ 13 :: 10 :: ((TEF.1 ++ 58 :: ([32] ++ [99, 104, 117, 110, 107, 101, 100, 44, 32, 105, 100, 101, 110, 116, 105, 116, 121])) ++ 13 :: 10 :: (13 :: 10 :: x))) := by simp [smug, badL]
    unfold read11
    rw [e, hs, show (31 : Nat) = 30 + 1 from rfl, fields_line _ 30 _ _ b1 (by decide) (by decide), f1, if_pos rfl, fields_end]
    exact rest_bad rfl (show (request9 1 [HOSTF, (TEF.1, [99, 104, 117, 110, 107, 101, 100, 44, 32, 105, 100, 101, 110, 116, 105, 116, 121])] 100).2.2 = 90 by decide)
  · have e : smug 4 path x = startL POST (47 :: path) ++ 13 :: 10 :: (HOST_ ++ 13 :: 10 :: ([67, 111, 110, 116, 101, 110, 116, 45, 76, 101, 110, 103, 116, 104, 32, 58, 32, 51] ++ 13 :: 10 :: (13 :: 10 :: x))) := by simp [smug, badL]
    unfold read11
    rw [e, hs, show (31 : Nat) = 30 + 1 from rfl, fields_line _ 30 _ _ (by unfold bare; decide) (by decide) (by decide), if_neg (by decide)]
    rfl
  · obtain ⟨f1, b1⟩ := one_line (v := [51, 44, 32, 51, 120]) (by decide)
    have e : smug 5 path x = startL POST (47 :: path) ++ 13 :: 10 :: (HOST_ ++ 13 :: 10 :: ((CLN ++ 58 :: ([32] ++ [51, 44, 32, 51, 120])) ++ 13 :: 10 :: (13 :: 10 :: x))) := by simp [smug, badL]
    unfold read11
    rw [e, hs, show (31 : Nat) = 30 + 1 from rfl, fields_line _ 30 _ _ b1 (by decide) (by decide), f1, if_pos rfl, fields_end]
    exact rest_bad rfl (show (request9 1 [HOSTF, (CLN, [51, 44, 32, 51, 120])] 100).2.2 = 90 by decide)
end Go.Proofs.YtlgohmghjffiaaaGreatDoor.InflowSmug

/- A request that two readers could frame in two ways is never told: InflowSmuggles returns true. -/
namespace Go.Proofs.YtlgohmghjffiaaaGreatDoor.InflowSmugglesW
open Go.ChangeShapes Go.WideShapes Go.ChangeAt Go.RowKit Bytes LexPure Ret Texts HeadPure HeadLines InflowPure InflowWrit InflowSmug QCell InObj InflowObj PUnder L11Anchor L11Read Mem Step
set_option maxRecDepth 100000
theorem texts3 (W : World) (a b c : ByteArray) : Texts (W.alloc (.cells #[.string a, .string b, .string c] 9)) (.slice (some ⟨W.heap.size, 0, none⟩) 3 3) [toL a, toL b, toL c] :=
  ⟨_, 3, rfl, by simp, fun _ => ⟨W.heap.size, 0, rfl, by simp, fun j hj => by
    have h := (Has.new W 9 #[.string a, .string b, .string c]).cell (0 + j)
    match j, hj with
    | 0, _ => rw [h]; simp [ofL_toL]
    | 1, _ => rw [h]; simp [ofL_toL]
    | 2, _ => rw [h]; simp [ofL_toL]⟩⟩
theorem smug_all (k : Nat) (hk : k ≤ 5) {path : List UInt8} (hp : path.all seenB = true) (hl : path.length ≤ 500) (x : List UInt8) : (allOf 100 (smug k path x)).1 = [] ∧ (allOf 100 (smug k path x)).2.1 = 400 := by
  rw [allOf_step, smug_say k hk hp hl x]
  exact ⟨rfl, rfl⟩
def badB (k : Nat) : ByteArray :=
  match k with
  | 0 => ⟨#[67, 111, 110, 116, 101, 110, 116, 45, 76, 101, 110, 103, 116, 104, 58, 32, 51, 13, 10, 84, 114, 97, 110, 115, 102, 101, 114, 45, 69, 110, 99, 111, 100, 105, 110, 103, 58, 32, 99, 104, 117, 110, 107, 101, 100, 13, 10]⟩
  | 1 => ⟨#[67, 111, 110, 116, 101, 110, 116, 45, 76, 101, 110, 103, 116, 104, 58, 32, 51, 13, 10, 67, 111, 110, 116, 101, 110, 116, 45, 76, 101, 110, 103, 116, 104, 58, 32, 52, 13, 10]⟩
  | 2 => ⟨#[67, 111, 110, 116, 101, 110, 116, 45, 76, 101, 110, 103, 116, 104, 58, 32, 51, 10]⟩
  | 3 => ⟨#[84, 114, 97, 110, 115, 102, 101, 114, 45, 69, 110, 99, 111, 100, 105, 110, 103, 58, 32, 99, 104, 117, 110, 107, 101, 100, 44, 32, 105, 100, 101, 110, 116, 105, 116, 121, 13, 10]⟩
  | 4 => ⟨#[67, 111, 110, 116, 101, 110, 116, 45, 76, 101, 110, 103, 116, 104, 32, 58, 32, 51, 13, 10]⟩
  | _ => ⟨#[67, 111, 110, 116, 101, 110, 116, 45, 76, 101, 110, 103, 116, 104, 58, 32, 51, 44, 32, 51, 120, 13, 10]⟩
def P6 : ByteArray := ⟨#[80, 79, 83, 84, 32, 47]⟩
def MIDB : ByteArray := ⟨#[32, 72, 84, 84, 80, 47, 49, 46, 49, 13, 10, 72, 111, 115, 116, 58, 32, 104, 13, 10]⟩
def CRB : ByteArray := ⟨#[13, 10]⟩
def Z5 : ByteArray := ⟨#[48, 13, 10, 13, 10]⟩
def GETB : ByteArray := ⟨#[71, 69, 84, 32, 47, 32, 72, 84, 84, 80, 47, 49, 46, 49, 13, 10, 72, 111, 115, 116, 58, 32, 104, 13, 10, 13, 10]⟩
theorem bad_text (k : Nat) : toL (badB k) = badL k := by
  match k with
  | 0 => rfl
  | 1 => rfl
  | 2 => rfl
  | 3 => rfl
  | 4 => rfl
  | _ + 5 => rfl
theorem first_text (k : Nat) (path : ByteArray) (x : List UInt8) : toL (P6 ++ path ++ MIDB ++ badB k ++ CRB) ++ x = smug k (toL path) x := by
  simp only [toL_append, bad_text]
  unfold smug startL HOST_
  simp [P6, MIDB, CRB, toL, POST, HeadWrit.HTTP11]
theorem smug_count (k : Nat) (hk : k ≤ 5) {path : ByteArray} (hp : (toL path).all seenB = true) (hl : path.size ≤ 500) (b c : List UInt8) : ∀ j, (allOf 100 (([toL (P6 ++ path ++ MIDB ++ badB k ++ CRB), b, c] : List (List UInt8)).take j).flatten).1.length ≤ 5001 := by
  intro j
  have key : ∀ x, (allOf 100 (toL (P6 ++ path ++ MIDB ++ badB k ++ CRB) ++ x)).1.length ≤ 5001 := fun x => by
    rw [first_text, (smug_all k hk hp (by rw [toL_length]; exact hl) x).1]
    decide
  match j with
  | 0 => rw [List.take_zero, List.flatten_nil, all_nil]; decide
  | 1 => exact key _
  | 2 => exact key _
  | _ + 3 => exact key _
def okP (c : UInt8) : Bool := decide (32 < c.toNat) && decide (c.toNat < 127) && c != 37 && c != 46 && c != 63 && c != 35
theorem okP_seen (c : UInt8) (h : okP c = true) : seenB c = true := by
  unfold okP at h
  unfold seenB
  simp only [Bool.and_eq_true] at h ⊢
  exact h.1.1.1.1
theorem okP_say (c : UInt8) : (okP c = true ∧ ¬ (c.toNat : Int) ≤ 32 ∧ ¬ 127 ≤ (c.toNat : Int) ∧ ((c.toNat : Int) == 37) = false ∧ ((c.toNat : Int) == 46) = false ∧ ((c.toNat : Int) == 63) = false ∧ ((c.toNat : Int) == 35) = false) ∨ ((c.toNat : Int) ≤ 32 ∨ (127 ≤ (c.toNat : Int)) ∨ (c.toNat : Int) = 37 ∨ (c.toNat : Int) = 46 ∨ (c.toNat : Int) = 63 ∨ (c.toNat : Int) = 35) := by
  have := all_bytes (p := fun c => decide ((okP c = true ∧ ¬ (c.toNat : Int) ≤ 32 ∧ ¬ 127 ≤ (c.toNat : Int) ∧ ((c.toNat : Int) == 37) = false ∧ ((c.toNat : Int) == 46) = false ∧ ((c.toNat : Int) == 63) = false ∧ ((c.toNat : Int) == 35) = false) ∨ ((c.toNat : Int) ≤ 32 ∨ (127 ≤ (c.toNat : Int)) ∨ (c.toNat : Int) = 37 ∨ (c.toNat : Int) = 46 ∨ (c.toNat : Int) = 63 ∨ (c.toNat : Int) = 35))) (by decide +kernel) c
  simpa only [decide_eq_true_eq] using this
theorem smug_call (k : Nat) (hk : k ≤ 5) (path tail : ByteArray) (hp : (toL path).all seenB = true) (hl : path.size ≤ 500) (sA : (P6 ++ path ++ MIDB ++ badB k ++ CRB).size ≤ 1000) (sT : (Z5 ++ tail).size ≤ 1048581) (W : World) (g : Nat) (hg : g = W.heap.size) (hm : MaxInt W) :
    Calls Tryz.prog 11 #[.int .i64 100, .slice (some ⟨g, 0, none⟩) 3 3] (W.alloc (.cells #[.string (P6 ++ path ++ MIDB ++ badB k ++ CRB), .string (Z5 ++ tail), .string GETB] 9))
      fun e w' => ∃ p cap, e = .returned (.tuple #[.slice p 0 cap, .int .i64 400, .bool true]) ∧ Below (W.alloc (.cells #[.string (P6 ++ path ++ MIDB ++ badB k ++ CRB), .string (Z5 ++ tail), .string GETB] 9)).heap.size (W.alloc (.cells #[.string (P6 ++ path ++ MIDB ++ badB k ++ CRB), .string (Z5 ++ tail), .string GETB] 9)) w' := by
  subst hg
  have e : ([toL (P6 ++ path ++ MIDB ++ badB k ++ CRB), toL (Z5 ++ tail), toL GETB] : List (List UInt8)).flatten = smug k (toL path) (toL (Z5 ++ tail) ++ (toL GETB ++ [])) := first_text k path _
  have hlen : ([toL (P6 ++ path ++ MIDB ++ badB k ++ CRB), toL (Z5 ++ tail), toL GETB] : List (List UInt8)).flatten.length ≤ 536870912 := by
    show (toL (P6 ++ path ++ MIDB ++ badB k ++ CRB) ++ (toL (Z5 ++ tail) ++ (toL GETB ++ []))).length ≤ _
    have h3 : GETB.size = 27 := rfl
    simp only [List.length_append, toL_length, List.length_nil]
    omega
  refine (read_any 100 _ _ (by unfold ChObj.InR; decide) _ (hm.below ((Below.refl _ _).alloc (Nat.le_refl _) _)) (texts3 W (P6 ++ path ++ MIDB ++ badB k ++ CRB) (Z5 ++ tail) GETB) hlen (smug_count k hk hp hl _ _)).mono ?_
  rintro e2 w' ⟨v, P, rfl, hG, hP⟩
  obtain ⟨h1, h2⟩ := smug_all k hk hp (by rw [toL_length]; exact hl) (toL (Z5 ++ tail) ++ (toL GETB ++ []))
  rw [e, h1] at hP
  rw [e, h2]
  have hP0 : P = [] := List.map_eq_nil_iff.1 hP
  subst hP0
  obtain ⟨p, cap, rfl, _⟩ := row_form2 hG.row
  exact ⟨p, cap, rfl, hG.below⟩
set_option maxHeartbeats 6400000 in
theorem walkIn (which : Int) (path tail : ByteArray) (hp : path.size ≤ 1048576) (ht : tail.size ≤ 1048576) (w : World) (hm : MaxInt w) :
    Calls Tryz.prog 3 #[.int .i64 which, .string path, .string tail] w fun e w' => e = .returned (.bool true) ∧ Below w.heap.size w w' := by
  have HA := Lib.hid (anchor_any w hm)
  replace hm := Lib.hid hm
  go_enter Tryz.func3, Tryz.ntmps3
  go_wp2_with fail
  refine HA.out.mono ?_
  rintro e w1 ⟨rfl, hb1⟩
  have HB := Lib.hid hb1
  clear HA hb1
  go_wp2_with fail
  go_loop [16] (fun i => ∃ k : Nat, k ≤ path.size ∧ i = .int .i64 k ∧ Hid (((toL path).take k).all okP = true)) (fun i => path.size - (intOf i).toNat)
  case atStart => exact ⟨0, Nat.zero_le _, rfl, Lib.hid rfl⟩
  case round =>
    obtain ⟨k, hk, rfl, ha⟩ := hrel
    by_cases hlt : k < path.size
    · have hki : (k : Int) < (path.size : Int) := by omega
      rcases okP_say path[k] with ⟨h0, h1, h2, h3, h4, h5, h6⟩ | h | h | h | h | h | h
      · have HN : Hid (((toL path).take (k + 1)).all okP = true) := Lib.hid (by rw [toL_take_succ path k hlt, List.all_append, ha.out]; simp [h0])
        clear ha h0
        go_wp2_with fail
        exact ⟨⟨k + 1, by omega, by go_num, HN⟩, by simp [intOf]; omega⟩
      all_goals
        have hub : (path[k].toNat : Int) ≤ 255 := by have := path[k].toNat_lt; omega
        clear ha
        go_wp2_with fail
        go_ret
        exact ⟨rfl, HB.out⟩
    · have hki : ¬ (k : Int) < (path.size : Int) := by omega
      have HP : Hid ((toL path).all seenB = true) := Lib.hid (by
        have h := ha.out
        rw [toL_take_all path (by omega)] at h
        exact List.all_eq_true.2 (fun c hc => okP_seen c (List.all_eq_true.1 h c hc)))
      clear ha
      by_cases w1a : which < 0
      · go_wp2_with fail
        go_ret
        exact ⟨rfl, HB.out⟩
      by_cases w2a : 5 < which
      · go_wp2_with fail
        go_ret
        exact ⟨rfl, HB.out⟩
      by_cases w3a : 500 < path.size
      · have w3i : (500 : Int) < (path.size : Int) := by omega
        go_wp2_with fail
        go_ret
        exact ⟨rfl, HB.out⟩
      have hps : path.size ≤ 500 := by omega
      have w3i : ¬ (500 : Int) < (path.size : Int) := by omega
      have hwh : which = 0 ∨ which = 1 ∨ which = 2 ∨ which = 3 ∨ which = 4 ∨ which = 5 := by omega
      clear w1a w2a w3a hp hlt
      have qA : 6 + path.size ≤ 9223372036854775807 := by omega
      have qB : 6 + path.size + 20 ≤ 9223372036854775807 := by omega
      have qT : 5 + tail.size ≤ 9223372036854775807 := by omega
      have sT : (Z5 ++ tail).size ≤ 1048581 := by rw [ByteArray.size_append]; show 5 + tail.size ≤ _; omega
      rcases hwh with rfl | rfl | rfl | rfl | rfl | rfl
      · have qC : 6 + path.size + 20 + 47 ≤ 9223372036854775807 := by omega
        have qD : 6 + path.size + 20 + 47 + 2 ≤ 9223372036854775807 := by omega
        have sA : (P6 ++ path ++ MIDB ++ badB 0 ++ CRB).size ≤ 1000 := by
          simp only [ByteArray.size_append]
          show 6 + path.size + 20 + 47 + 2 ≤ _
          omega
        have HR := Lib.hid (fun W g => smug_call 0 (by decide) path tail HP.out hps sA sT W g)
        unfold P6 MIDB CRB Z5 GETB badB at HR
        dsimp only at HR
        clear sA sT
        go_wp2_with fail
        refine (HR.out _ _ (by simp) (hm.out.below (HB.out.alloc HB.out.size _))).mono ?_
        rintro e w2 ⟨p2, c2, rfl, hb2⟩
        have HB2 := Lib.hid (below_chain (HB.out.alloc HB.out.size _ |>.alloc (Nat.le_trans HB.out.size (by simp)) _) hb2)
        clear HR hb2
        go_wp2_with fail
        go_ret
        exact ⟨rfl, HB2.out⟩
      · have qC : 6 + path.size + 20 + 38 ≤ 9223372036854775807 := by omega
        have qD : 6 + path.size + 20 + 38 + 2 ≤ 9223372036854775807 := by omega
        have sA : (P6 ++ path ++ MIDB ++ badB 1 ++ CRB).size ≤ 1000 := by
          simp only [ByteArray.size_append]
          show 6 + path.size + 20 + 38 + 2 ≤ _
          omega
        have HR := Lib.hid (fun W g => smug_call 1 (by decide) path tail HP.out hps sA sT W g)
        unfold P6 MIDB CRB Z5 GETB badB at HR
        dsimp only at HR
        clear sA sT
        go_wp2_with fail
        refine (HR.out _ _ (by simp) (hm.out.below (HB.out.alloc HB.out.size _))).mono ?_
        rintro e w2 ⟨p2, c2, rfl, hb2⟩
        have HB2 := Lib.hid (below_chain (HB.out.alloc HB.out.size _ |>.alloc (Nat.le_trans HB.out.size (by simp)) _) hb2)
        clear HR hb2
        go_wp2_with fail
        go_ret
        exact ⟨rfl, HB2.out⟩
      · have qC : 6 + path.size + 20 + 18 ≤ 9223372036854775807 := by omega
        have qD : 6 + path.size + 20 + 18 + 2 ≤ 9223372036854775807 := by omega
        have sA : (P6 ++ path ++ MIDB ++ badB 2 ++ CRB).size ≤ 1000 := by
          simp only [ByteArray.size_append]
          show 6 + path.size + 20 + 18 + 2 ≤ _
          omega
        have HR := Lib.hid (fun W g => smug_call 2 (by decide) path tail HP.out hps sA sT W g)
        unfold P6 MIDB CRB Z5 GETB badB at HR
        dsimp only at HR
        clear sA sT
        go_wp2_with fail
        refine (HR.out _ _ (by simp) (hm.out.below (HB.out.alloc HB.out.size _))).mono ?_
        rintro e w2 ⟨p2, c2, rfl, hb2⟩
        have HB2 := Lib.hid (below_chain (HB.out.alloc HB.out.size _ |>.alloc (Nat.le_trans HB.out.size (by simp)) _) hb2)
        clear HR hb2
        go_wp2_with fail
        go_ret
        exact ⟨rfl, HB2.out⟩
      · have qC : 6 + path.size + 20 + 38 ≤ 9223372036854775807 := by omega
        have qD : 6 + path.size + 20 + 38 + 2 ≤ 9223372036854775807 := by omega
        have sA : (P6 ++ path ++ MIDB ++ badB 3 ++ CRB).size ≤ 1000 := by
          simp only [ByteArray.size_append]
          show 6 + path.size + 20 + 38 + 2 ≤ _
          omega
        have HR := Lib.hid (fun W g => smug_call 3 (by decide) path tail HP.out hps sA sT W g)
        unfold P6 MIDB CRB Z5 GETB badB at HR
        dsimp only at HR
        clear sA sT
        go_wp2_with fail
        refine (HR.out _ _ (by simp) (hm.out.below (HB.out.alloc HB.out.size _))).mono ?_
        rintro e w2 ⟨p2, c2, rfl, hb2⟩
        have HB2 := Lib.hid (below_chain (HB.out.alloc HB.out.size _ |>.alloc (Nat.le_trans HB.out.size (by simp)) _) hb2)
        clear HR hb2
        go_wp2_with fail
        go_ret
        exact ⟨rfl, HB2.out⟩
      · have qC : 6 + path.size + 20 + 20 ≤ 9223372036854775807 := by omega
        have qD : 6 + path.size + 20 + 20 + 2 ≤ 9223372036854775807 := by omega
        have sA : (P6 ++ path ++ MIDB ++ badB 4 ++ CRB).size ≤ 1000 := by
          simp only [ByteArray.size_append]
          show 6 + path.size + 20 + 20 + 2 ≤ _
          omega
        have HR := Lib.hid (fun W g => smug_call 4 (by decide) path tail HP.out hps sA sT W g)
        unfold P6 MIDB CRB Z5 GETB badB at HR
        dsimp only at HR
        clear sA sT
        go_wp2_with fail
        refine (HR.out _ _ (by simp) (hm.out.below (HB.out.alloc HB.out.size _))).mono ?_
        rintro e w2 ⟨p2, c2, rfl, hb2⟩
        have HB2 := Lib.hid (below_chain (HB.out.alloc HB.out.size _ |>.alloc (Nat.le_trans HB.out.size (by simp)) _) hb2)
        clear HR hb2
        go_wp2_with fail
        go_ret
        exact ⟨rfl, HB2.out⟩
      · have qC : 6 + path.size + 20 + 23 ≤ 9223372036854775807 := by omega
        have qD : 6 + path.size + 20 + 23 + 2 ≤ 9223372036854775807 := by omega
        have sA : (P6 ++ path ++ MIDB ++ badB 5 ++ CRB).size ≤ 1000 := by
          simp only [ByteArray.size_append]
          show 6 + path.size + 20 + 23 + 2 ≤ _
          omega
        have HR := Lib.hid (fun W g => smug_call 5 (by decide) path tail HP.out hps sA sT W g)
        unfold P6 MIDB CRB Z5 GETB badB at HR
        dsimp only at HR
        clear sA sT
        go_wp2_with fail
        refine (HR.out _ _ (by simp) (hm.out.below (HB.out.alloc HB.out.size _))).mono ?_
        rintro e w2 ⟨p2, c2, rfl, hb2⟩
        have HB2 := Lib.hid (below_chain (HB.out.alloc HB.out.size _ |>.alloc (Nat.le_trans HB.out.size (by simp)) _) hb2)
        clear HR hb2
        go_wp2_with fail
        go_ret
        exact ⟨rfl, HB2.out⟩
theorem walk (which : Int) (_w : (Lit.int .i64 which).wf = true) (path : ByteArray) (_w1 : path.size ≤ maxLen) (hp : path.size ≤ 1048576) (tail : ByteArray) (_w2 : tail.size ≤ maxLen) (ht : tail.size ≤ 1048576) (W : World) (hsh : W.ShapedOpen Tryz.prog) :
    Calls Tryz.prog 3 #[.int .i64 which, .string path, .string tail] W fun e w' => e = .returned (.bool true) ∧ Below W.heap.size W w' :=
  walkIn which path tail hp ht W (MaxInt.of_shape hsh)
end Go.Proofs.YtlgohmghjffiaaaGreatDoor.InflowSmugglesW
