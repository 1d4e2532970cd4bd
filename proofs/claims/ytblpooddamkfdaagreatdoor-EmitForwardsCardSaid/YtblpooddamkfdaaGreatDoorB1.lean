/- Texts of this seat, one behind another: R8End, R8Version, FBox, HBox, RMarks, RToken, R8Start. -/
import Derived.Lib.Hide
import Derived.Outline
import Derived.LoopTactic
import Derived.Handy
import Derived.IntWalk
import Derived.Deep.QuietTactic
import Derived.BigQuiet
import Derived.Laws.ResultCell
import Derived.Below
import Derived.Laws.DeepStrings4
import Derived.Test.YtblpooddamkfdaaGreatDoorA1
/- Layer 8, the document's own End. -/
namespace Go.Proofs.YtblpooddamkfdaaGreatDoor.R8End
open Go.ChangeShapes Go.WideShapes Go.ChangeAt Go.RowKit LexPure Bytes Ret HeadPure
set_option maxRecDepth 20000
/-- a line's end as two numbers: its place (-1: none) and the error -/
def endP (a : Nat) : Line → Int × Int
  | .whole k => ((a : Int) + k, 0)
  | .bad e => (-1, e)
  | .wait => (-1, 0)
theorem ret_two {a b c d : Int} (h : a = b) (k : c = d) : Ending.returned (.tuple #[.int .i64 a, .int .i64 c]) = .returned (.tuple #[.int .i64 b, .int .i64 d]) := by rw [h, k]
theorem mark_end (b : UInt8) : (b = 10 ∧ ((b.toNat : Int) == 10) = true ∧ ((b.toNat : Int) != 10) = false) ∨ (b = 13 ∧ b ≠ 10 ∧ ((b.toNat : Int) == 10) = false ∧ ((b.toNat : Int) != 10) = true ∧ ((b.toNat : Int) == 13) = true) ∨ (b ≠ 10 ∧ b ≠ 13 ∧ ((b.toNat : Int) == 10) = false ∧ ((b.toNat : Int) != 10) = true ∧ ((b.toNat : Int) == 13) = false) := by
  have := all_bytes (p := fun b => decide ((b = 10 ∧ ((b.toNat : Int) == 10) = true ∧ ((b.toNat : Int) != 10) = false) ∨ (b = 13 ∧ b ≠ 10 ∧ ((b.toNat : Int) == 10) = false ∧ ((b.toNat : Int) != 10) = true ∧ ((b.toNat : Int) == 13) = true) ∨ (b ≠ 10 ∧ b ≠ 13 ∧ ((b.toNat : Int) == 10) = false ∧ ((b.toNat : Int) != 10) = true ∧ ((b.toNat : Int) == 13) = false))) (by decide +kernel) b
  exact of_decide_eq_true this
set_option maxHeartbeats 1600000 in
theorem r8end_any (s : ByteArray) (hs : s.size ≤ 140737488351232) (a most : Nat) (over : Int) (ha : a ≤ s.size) (w : World) :
    Calls Tryz.prog 46 #[.string s, .int .i64 (a : Int), .int .i64 (most : Int), .int .i64 over] w fun e w' => e = .returned (.tuple #[.int .i64 (endP a (scan most over 0 ((toL s).drop a))).1, .int .i64 (endP a (scan most over 0 ((toL s).drop a))).2]) ∧ w = w' := by
  go_enter Tryz.func46, Tryz.ntmps46
  go_wp2_with fail
  go_loop [10] (fun i => ∃ k : Nat, a ≤ k ∧ k ≤ s.size ∧ i = .int .i64 k ∧ Hid (scan most over 0 ((toL s).drop a) = scan most over (k - a) ((toL s).drop k))) (fun i => s.size - (intOf i).toNat)
  case atStart => exact ⟨a, Nat.le_refl _, ha, rfl, Lib.hid (by rw [Nat.sub_self])⟩
  case round =>
    obtain ⟨k, hak, hk, rfl, hq⟩ := hrel
    by_cases hlt : k < s.size
    · have hki : (k : Int) < (s.size : Int) := by omega
      have HE : Hid (scan most over 0 ((toL s).drop a) = scan most over (k - a) (s[k] :: (toL s).drop (k + 1))) := Lib.hid (by rw [hq.out, toL_drop s k hlt])
      clear hq
      rcases mark_end s[k] with ⟨c0, c1, c2⟩ | ⟨c0, c9, c1, c2, c3⟩ | ⟨c0, c9, c1, c2, c3⟩
      · have HV : Hid (scan most over 0 ((toL s).drop a) = .bad 80) := Lib.hid (by rw [HE.out, scan_cons, if_pos c0])
        clear HE c0 c2
        go_wp2_with fail
        go_ret2
        rw [HV.out]
        exact ⟨rfl, rfl⟩
      · by_cases hn : k + 1 < s.size
        · have hni : (k : Int) + 1 < (s.size : Int) := by omega
          have hng : ¬ (s.size : Int) ≤ (k : Int) + 1 := by omega
          have HD : Hid (scan most over 0 ((toL s).drop a) = if s[k + 1] = 10 then .whole (k - a) else .bad 80) := Lib.hid (by
            rw [HE.out, scan_cons, if_neg c9, if_pos c0, toL_drop s (k + 1) hn])
          rcases mark_end s[k + 1] with ⟨d0, d1, d2⟩ | ⟨_, d0, d1, d2, _⟩ | ⟨d0, _, d1, d2, _⟩
          · have HV : Hid (scan most over 0 ((toL s).drop a) = .whole (k - a)) := Lib.hid (by rw [HD.out, if_pos d0])
            clear HE HD c0 c9 c2 d0 d1
            go_wp2_with fail
            go_ret2
            rw [HV.out]
            exact ⟨ret_two (show (k : Int) = (a : Int) + ((k - a : Nat) : Int) by omega) rfl, rfl⟩
          · have HV : Hid (scan most over 0 ((toL s).drop a) = .bad 80) := Lib.hid (by rw [HD.out, if_neg d0])
            clear HE HD c0 c9 c2 d0 d1
            go_wp2_with fail
            go_ret2
            rw [HV.out]
            exact ⟨rfl, rfl⟩
          · have HV : Hid (scan most over 0 ((toL s).drop a) = .bad 80) := Lib.hid (by rw [HD.out, if_neg d0])
            clear HE HD c0 c9 c2 d0 d1
            go_wp2_with fail
            go_ret2
            rw [HV.out]
            exact ⟨rfl, rfl⟩
        · have hng : (s.size : Int) ≤ (k : Int) + 1 := by omega
          have HV : Hid (scan most over 0 ((toL s).drop a) = .wait) := Lib.hid (by
            rw [HE.out, scan_cons, if_neg c9, if_pos c0, List.drop_eq_nil_of_le (by rw [toL_length]; omega)])
          clear HE c0 c9 c2
          go_wp2_with fail
          go_ret2
          rw [HV.out]
          exact ⟨rfl, rfl⟩
      · by_cases hm : most ≤ k - a
        · have hmi : (most : Int) ≤ (k : Int) - (a : Int) := by omega
          have HV : Hid (scan most over 0 ((toL s).drop a) = .bad over) := Lib.hid (by rw [HE.out, scan_cons, if_neg c0, if_neg c9, if_pos hm])
          clear HE c0 c9 c2
          go_wp2_with fail
          go_ret2
          rw [HV.out]
          exact ⟨rfl, rfl⟩
        · have hmi : ¬ (most : Int) ≤ (k : Int) - (a : Int) := by omega
          have HV : Hid (scan most over 0 ((toL s).drop a) = scan most over (k + 1 - a) ((toL s).drop (k + 1))) := Lib.hid (by
            rw [HE.out, scan_cons, if_neg c0, if_neg c9, if_neg hm, show k - a + 1 = k + 1 - a by omega])
          clear HE c0 c9 c2
          go_wp2_with fail
          go_round
          case rel => exact ⟨k + 1, by omega, by omega, by go_num, HV⟩
          case measure => simp [intOf]; omega
    · have hki : ¬ (k : Int) < (s.size : Int) := by omega
      have HV : Hid (scan most over 0 ((toL s).drop a) = .wait) := Lib.hid (by rw [hq.out, List.drop_eq_nil_of_le (by rw [toL_length]; omega)]; rfl)
      clear hq
      go_wp2_with fail
      go_ret2
      rw [HV.out]
      exact ⟨rfl, rfl⟩
end Go.Proofs.YtblpooddamkfdaaGreatDoor.R8End

/- Layer 8, the document's own version, upTo. -/
namespace Go.Proofs.YtblpooddamkfdaaGreatDoor.R8Version
open Go.ChangeShapes Go.WideShapes Go.ChangeAt Go.RowKit LexPure Bytes Ret HeadPure R8End
set_option maxRecDepth 20000
theorem version_num (b0 b1 b2 b3 b4 b5 b6 b7 : UInt8) : version8 [b0, b1, b2, b3, b4, b5, b6, b7] =
    if (b0.toNat : Int) = 72 ∧ (b1.toNat : Int) = 84 ∧ (b2.toNat : Int) = 84 ∧ (b3.toNat : Int) = 80 ∧ (b4.toNat : Int) = 47 ∧ (b6.toNat : Int) = 46 ∧ (48 ≤ (b5.toNat : Int) ∧ (b5.toNat : Int) ≤ 57) ∧ (48 ≤ (b7.toNat : Int) ∧ (b7.toNat : Int) ≤ 57) then (if (b5.toNat : Int) = 49 then ((b7.toNat : Int) - 48, 0) else (0, 81)) else (0, 80) := by
  unfold version8 digitB
  have k : ∀ b : UInt8, (b = 72 ↔ (b.toNat : Int) = 72) ∧ (b = 84 ↔ (b.toNat : Int) = 84) ∧ (b = 80 ↔ (b.toNat : Int) = 80) ∧ (b = 47 ↔ (b.toNat : Int) = 47) ∧ (b = 46 ↔ (b.toNat : Int) = 46) ∧ (b = 49 ↔ (b.toNat : Int) = 49) ∧ ((decide (48 ≤ b.toNat) && decide (b.toNat ≤ 57)) = true ↔ 48 ≤ (b.toNat : Int) ∧ (b.toNat : Int) ≤ 57) := fun b => by
    have := all_bytes (p := fun b => decide ((b = 72 ↔ (b.toNat : Int) = 72) ∧ (b = 84 ↔ (b.toNat : Int) = 84) ∧ (b = 80 ↔ (b.toNat : Int) = 80) ∧ (b = 47 ↔ (b.toNat : Int) = 47) ∧ (b = 46 ↔ (b.toNat : Int) = 46) ∧ (b = 49 ↔ (b.toNat : Int) = 49) ∧ ((decide (48 ≤ b.toNat) && decide (b.toNat ≤ 57)) = true ↔ 48 ≤ (b.toNat : Int) ∧ (b.toNat : Int) ≤ 57))) (by decide +kernel) b
    exact of_decide_eq_true this
  simp only [k]
theorem eight (s : ByteArray) (h : s.size = 8) : toL s = [s[0], s[1], s[2], s[3], s[4], s[5], s[6], s[7]] := by
  have e := List.drop_zero (l := toL s)
  rw [← e, toL_drop s 0 (by omega), toL_drop s 1 (by omega), toL_drop s 2 (by omega), toL_drop s 3 (by omega), toL_drop s 4 (by omega), toL_drop s 5 (by omega), toL_drop s 6 (by omega), toL_drop s 7 (by omega), List.drop_eq_nil_of_le (by rw [toL_length]; omega)]
theorem version_other {l : List UInt8} (h : l.length ≠ 8) : version8 l = (0, 80) := by
  unfold version8
  split
  · exact absurd rfl h
  · rfl
set_option maxHeartbeats 1600000 in
theorem r8version_any (s : ByteArray) (w : World) :
    Calls Tryz.prog 69 #[.string s] w fun e w' => e = .returned (.tuple #[.int .i64 (version8 (toL s)).1, .int .i64 (version8 (toL s)).2]) ∧ w = w' := by
  by_cases h8 : s.size = 8
  · rw [eight s h8, version_num]
    have hz : ((s.size : Int) != 8) = false := by rw [h8]; rfl
    have i0 : (0 : Int) < (s.size : Int) := by omega
    have i1 : (1 : Int) < (s.size : Int) := by omega
    have i2 : (2 : Int) < (s.size : Int) := by omega
    have i3 : (3 : Int) < (s.size : Int) := by omega
    have i4 : (4 : Int) < (s.size : Int) := by omega
    have i5 : (5 : Int) < (s.size : Int) := by omega
    have i6 : (6 : Int) < (s.size : Int) := by omega
    have i7 : (7 : Int) < (s.size : Int) := by omega
    have hu : (s[7].toNat : Int) ≤ 255 := by have := s[7].toNat_lt; omega
    have n : ∀ (b : Nat) (c : Int), (((b : Int) != c) = true ∧ (b : Int) ≠ c) ∨ (((b : Int) != c) = false ∧ (b : Int) = c) := fun b c => by
      by_cases h : (b : Int) = c
      · exact .inr ⟨by rw [h]; exact bne_self_eq_false _, h⟩
      · exact .inl ⟨bne_iff_ne.2 h, h⟩
    have r : ∀ b : Nat, ((b : Int) < 48 ∧ decide ((b : Int) < 48) = true) ∨ (57 < (b : Int) ∧ decide ((b : Int) < 48) = false ∧ decide ((57 : Int) < b) = true) ∨ ((48 ≤ (b : Int) ∧ (b : Int) ≤ 57) ∧ decide ((b : Int) < 48) = false ∧ decide ((57 : Int) < b) = false) := fun b => by
      rcases (show (b : Int) < 48 ∨ 57 < (b : Int) ∨ (48 ≤ (b : Int) ∧ (b : Int) ≤ 57) by omega) with h | h | h
      · exact .inl ⟨h, decide_eq_true h⟩
      · exact .inr (.inl ⟨h, decide_eq_false (by omega), decide_eq_true h⟩)
      · exact .inr (.inr ⟨h, decide_eq_false (by omega), decide_eq_false (by omega)⟩)
    rcases n s[0].toNat 72 with ⟨a0, f0⟩ | ⟨a0, f0⟩
    · rw [if_neg (by omega)]
      clear r n f0
      go_enter Tryz.func69, Tryz.ntmps69
      go_wp2_with fail
      go_ret2
      exact ⟨rfl, rfl⟩
    rcases n s[1].toNat 84 with ⟨a1, f1⟩ | ⟨a1, f1⟩
    · rw [if_neg (by omega)]
      clear r n f0 f1
      go_enter Tryz.func69, Tryz.ntmps69
      go_wp2_with fail
      go_ret2
      exact ⟨rfl, rfl⟩
    rcases n s[2].toNat 84 with ⟨a2, f2⟩ | ⟨a2, f2⟩
    · rw [if_neg (by omega)]
      clear r n f0 f1 f2
      go_enter Tryz.func69, Tryz.ntmps69
      go_wp2_with fail
      go_ret2
      exact ⟨rfl, rfl⟩
    rcases n s[3].toNat 80 with ⟨a3, f3⟩ | ⟨a3, f3⟩
    · rw [if_neg (by omega)]
      clear r n f0 f1 f2 f3
      go_enter Tryz.func69, Tryz.ntmps69
      go_wp2_with fail
      go_ret2
      exact ⟨rfl, rfl⟩
    rcases n s[4].toNat 47 with ⟨a4, f4⟩ | ⟨a4, f4⟩
    · rw [if_neg (by omega)]
      clear r n f0 f1 f2 f3 f4
      go_enter Tryz.func69, Tryz.ntmps69
      go_wp2_with fail
      go_ret2
      exact ⟨rfl, rfl⟩
    rcases n s[6].toNat 46 with ⟨a6, f6⟩ | ⟨a6, f6⟩
    · rw [if_neg (by omega)]
      clear r n f0 f1 f2 f3 f4 f6
      go_enter Tryz.func69, Tryz.ntmps69
      go_wp2_with fail
      go_ret2
      exact ⟨rfl, rfl⟩
    rcases r s[5].toNat with ⟨g5, b5⟩ | ⟨g5, b5, c5⟩ | ⟨g5, b5, c5⟩
    · rw [if_neg (by omega)]
      clear r n f0 f1 f2 f3 f4 f6 g5
      go_enter Tryz.func69, Tryz.ntmps69
      go_wp2_with fail
      go_ret2
      exact ⟨rfl, rfl⟩
    · rw [if_neg (by omega)]
      clear r n f0 f1 f2 f3 f4 f6 g5
      go_enter Tryz.func69, Tryz.ntmps69
      go_wp2_with fail
      go_ret2
      exact ⟨rfl, rfl⟩
    rcases r s[7].toNat with ⟨g7, b7⟩ | ⟨g7, b7, c7⟩ | ⟨g7, b7, c7⟩
    · rw [if_neg (by omega)]
      clear r n f0 f1 f2 f3 f4 f6 g5 g7
      go_enter Tryz.func69, Tryz.ntmps69
      go_wp2_with fail
      go_ret2
      exact ⟨rfl, rfl⟩
    · rw [if_neg (by omega)]
      clear r n f0 f1 f2 f3 f4 f6 g5 g7
      go_enter Tryz.func69, Tryz.ntmps69
      go_wp2_with fail
      go_ret2
      exact ⟨rfl, rfl⟩
    rw [if_pos ⟨f0, f1, f2, f3, f4, f6, g5, g7⟩]
    rcases n s[5].toNat 49 with ⟨a5, f5⟩ | ⟨a5, f5⟩
    · rw [if_neg f5]
      clear r n f0 f1 f2 f3 f4 f6 g5 g7 f5
      go_enter Tryz.func69, Tryz.ntmps69
      go_wp2_with fail
      go_ret2
      exact ⟨rfl, rfl⟩
    · rw [if_pos f5]
      clear r n f0 f1 f2 f3 f4 f6 g5 f5
      go_enter Tryz.func69, Tryz.ntmps69
      go_wp2_with fail
      go_ret2
      exact ⟨rfl, rfl⟩
  · have hz : ((s.size : Int) != 8) = true := bne_iff_ne.2 (by omega)
    rw [version_other (by rw [toL_length]; exact h8)]
    go_enter Tryz.func69, Tryz.ntmps69
    go_wp2_with fail
    go_ret2
    exact ⟨rfl, rfl⟩
theorem upto_step {l : List UInt8} {c : UInt8} : upB (c :: l) = if c != 32 then c :: upB l else [] := by
  unfold upB
  rw [List.takeWhile_cons]
theorem mark_32 (b : UInt8) : (b = 32 ∧ ((b.toNat : Int) != 32) = false) ∨ (b ≠ 32 ∧ ((b.toNat : Int) != 32) = true) := by
  have := all_bytes (p := fun b => decide ((b = 32 ∧ ((b.toNat : Int) != 32) = false) ∨ (b ≠ 32 ∧ ((b.toNat : Int) != 32) = true))) (by decide +kernel) b
  exact of_decide_eq_true this
theorem ret_int {a b : Int} (h : a = b) : Ending.returned (.int .i64 a) = .returned (.int .i64 b) := by rw [h]
theorem r8upto_any (s : ByteArray) (hs : s.size ≤ 140737488351232) (a : Nat) (ha : a ≤ s.size) (w : World) :
    Calls Tryz.prog 68 #[.string s, .int .i64 (a : Int)] w fun e w' => e = .returned (.int .i64 ((a + (upB ((toL s).drop a)).length : Nat) : Int)) ∧ w = w' := by
  go_enter Tryz.func68, Tryz.ntmps68
  go_wp2_with fail
  go_loop [1] (fun i => ∃ k : Nat, k ≤ s.size ∧ i = .int .i64 k ∧ Hid (a + (upB ((toL s).drop a)).length = k + (upB ((toL s).drop k)).length)) (fun i => s.size - (intOf i).toNat)
  case atStart => exact ⟨a, ha, rfl, Lib.hid rfl⟩
  case round =>
    obtain ⟨k, hk, rfl, hq⟩ := hrel
    by_cases hlt : k < s.size
    · have hki : (k : Int) < (s.size : Int) := by omega
      have HE : Hid (a + (upB ((toL s).drop a)).length = k + (upB (s[k] :: (toL s).drop (k + 1))).length) := Lib.hid (by rw [hq.out, toL_drop s k hlt])
      clear hq
      rcases mark_32 s[k] with ⟨c0, c1⟩ | ⟨c0, c1⟩
      · have HV : Hid (a + (upB ((toL s).drop a)).length = k) := Lib.hid (by rw [HE.out, upto_step, c0]; rfl)
        clear HE c0
        go_wp2_with fail
        go_ret
        exact ⟨ret_int (show (k : Int) = (a : Int) + ((upB ((toL s).drop a)).length : Int) by have := HV.out; omega), rfl⟩
      · have HV : Hid (a + (upB ((toL s).drop a)).length = k + 1 + (upB ((toL s).drop (k + 1))).length) := Lib.hid (by
          rw [HE.out, upto_step, if_pos (bne_iff_ne.2 c0), List.length_cons]
          omega)
        clear HE c0
        go_wp2_with fail
        go_round
        case rel => exact ⟨k + 1, by omega, by go_num, HV⟩
        case measure => simp [intOf]; omega
    · have hki : ¬ (k : Int) < (s.size : Int) := by omega
      have HV : Hid (a + (upB ((toL s).drop a)).length = k) := Lib.hid (by rw [hq.out, List.drop_eq_nil_of_le (by rw [toL_length]; omega)]; rfl)
      clear hq
      go_wp2_with fail
      go_ret
      exact ⟨ret_int (show (k : Int) = (a : Int) + ((upB ((toL s).drop a)).length : Int) by have := HV.out; omega), rfl⟩
end Go.Proofs.YtblpooddamkfdaaGreatDoor.R8Version

/- Layer 8: a field in memory. -/
namespace Go.Proofs.YtblpooddamkfdaaGreatDoor.HBox
open Go.ChangeShapes Go.WideShapes Go.ChangeAt Go.RowKit LexPure Bytes FieldsPure HeadPure Mem
set_option maxRecDepth 20000
theorem below_drew {B : Nat} {a W : World} (h : Below B a W) : Below B a W.drew := h.trans ⟨rfl, rfl, rfl, Nat.le_refl _, fun _ _ => rfl⟩
theorem below_drewN {B : Nat} {a W : World} (h : Below B a W) (n : Nat) : Below B a (W.drewN n) := h.trans ⟨rfl, rfl, rfl, Nat.le_refl _, fun _ _ => rfl⟩
/-! ### one field -/
def fc (x : HField) : Array Value := #[.string (ofL x.1), .string (ofL x.2)]
def fv (x : HField) : Value := .agg #[.string (ofL x.1), .string (ofL x.2)]
structure FBox (w : World) (g : Nat) (x : HField) : Prop where
  has : Has w g 36 (fc x)
def fput (W : World) (g : Nat) (x : HField) : World := (W.setCell ⟨g, 0, none⟩ (.string (ofL x.1))).setCell ⟨g, 1, none⟩ (.string (ofL x.2))
theorem FBox.put {W : World} {g : Nat} {u : HField} (h : FBox W g u) (x : HField) : FBox (fput W g x) g x :=
  ⟨by have := (h.has.set_ 0 (.string (ofL x.1))).set_ 1 (.string (ofL x.2)); unfold fput; simpa [fc] using this⟩
theorem fload {w : World} {g : Nat} {x : HField} (h : FBox w g x) : (loadVar 36 ⟨g, 0, none⟩).run Tryz.prog w = .ok (fv x) w :=
  run_loadVar_row w g 36 36 _ _ _ h.has.at_ Tryz.underlying36 rfl (by kernel_rfl)
theorem FBox.cells {w : World} {g : Nat} {x : HField} (h : FBox w g x) : w.cell? ⟨g, 0, none⟩ = some (.string (ofL x.1)) ∧ w.cell? ⟨g, 1, none⟩ = some (.string (ofL x.2)) := ⟨(h.has.cell 0).trans rfl, (h.has.cell 1).trans rfl⟩
theorem FBox.frees {w : World} {g : Nat} {x : HField} (h : FBox w g x) : w.frozen? ⟨g, 0, none⟩ = false ∧ w.frozen? ⟨g, 1, none⟩ = false := ⟨h.has.free 0, h.has.free 1⟩
theorem FBox.below {w w' : World} {g B : Nat} {x : HField} (h : FBox w g x) (hb : Below B w w') (hg : g < B) : FBox w' g x := ⟨h.has.below hb hg⟩
/-- the box of a call that answers a field -/
structure FOne (w W : World) (g : Nat) (x : HField) : Prop where
  at_ : g = w.heap.size
  below : Below w.heap.size w W
  box : FBox W g x
  size : g + 1 ≤ W.heap.size
theorem FOne.start (w : World) : FOne w (w.alloc (.cells #[.string ⟨#[]⟩, .string ⟨#[]⟩] 36)) w.heap.size ([], []) :=
  ⟨rfl, (Below.refl w.heap.size w).alloc (Nat.le_refl _) _, ⟨Has.new w _ _⟩, by simp⟩
theorem FOne.call {w W W' : World} {g : Nat} {x : HField} (h : FOne w W g x) (hb : Below W.heap.size W W') : FOne w W' g x :=
  ⟨h.at_, below_chain h.below hb, h.box.below hb (by have := h.size; omega), Nat.le_trans h.size hb.size⟩
theorem FOne.put {w W : World} {g : Nat} {u : HField} (h : FOne w W g u) (x : HField) : Below w.heap.size w (fput W g x) :=
  (h.below.setCell (p := ⟨g, 0, none⟩) (by rw [h.at_]; exact Nat.le_refl _) _).setCell (p := ⟨g, 1, none⟩) (by rw [h.at_]; exact Nat.le_refl _) _
def frv (r : HField × Int) : Value := .tuple #[fv r.1, .int .i64 r.2]
theorem end_fbox {W : World} {g : Nat} {x : HField} {v : Int} {tmps : Array Value} {p u : Tmp} (hp : tmps.getD p undef = .pointer (some ⟨g, 0, none⟩)) (hu : tmps.getD u undef = .int .i64 v) (h : FBox W g x) :
    (((asAddr (tmps.getD p undef)).run Tryz.prog W).andThen fun a w₁ => ((loadVar 36 a).run Tryz.prog w₁).andThen fun v w₂ => .ok (.tuple #[v, tmps.getD u undef]) w₂) = .ok (frv (x, v)) W := by
  rw [hp, hu]
  have := fload h
  simp [asAddr, Result.andThen, this, frv]
end Go.Proofs.YtblpooddamkfdaaGreatDoor.HBox

/- Layer 8: fields and heads in memory. -/
namespace Go.Proofs.YtblpooddamkfdaaGreatDoor.HBox
open Go.ChangeShapes Go.WideShapes Go.ChangeAt Go.RowKit LexPure Bytes FieldsPure HeadPure Flds Mem
set_option maxRecDepth 20000
/-! ### a head: its fields' list is a value of its own -/
def hc (h : H8) (l : Value) : Array Value := #[.string (ofL h.method), .string (ofL h.target), .int .i64 h.status, .string (ofL h.reason), .int .i64 h.minor, l]
def hv (h : H8) (l : Value) : Value := .agg #[.string (ofL h.method), .string (ofL h.target), .int .i64 h.status, .string (ofL h.reason), .int .i64 h.minor, l]
structure HBox (w : World) (g : Nat) (h : H8) (l : Value) : Prop where
  has : Has w g 25 (hc h l)
def hput (W : World) (g : Nat) (h : H8) (l : Value) : World :=
  (((((W.setCell ⟨g, 0, none⟩ (.string (ofL h.method))).setCell ⟨g, 1, none⟩ (.string (ofL h.target))).setCell ⟨g, 2, none⟩ (.int .i64 h.status)).setCell ⟨g, 3, none⟩ (.string (ofL h.reason))).setCell ⟨g, 4, none⟩ (.int .i64 h.minor)).setCell ⟨g, 5, none⟩ l
theorem HBox.put {W : World} {g : Nat} {u : H8} {m : Value} (b : HBox W g u m) (h : H8) (l : Value) : HBox (hput W g h l) g h l :=
  ⟨by have := (((((b.has.set_ 0 (.string (ofL h.method))).set_ 1 (.string (ofL h.target))).set_ 2 (.int .i64 h.status)).set_ 3 (.string (ofL h.reason))).set_ 4 (.int .i64 h.minor)).set_ 5 l; unfold hput; simpa [hc] using this⟩
theorem HBox.setF {W : World} {g : Nat} {u : H8} {m : Value} (b : HBox W g u m) (l : Value) : HBox (W.setCell ⟨g, 5, none⟩ l) g u l :=
  ⟨by have := b.has.set_ 5 l; simpa [hc] using this⟩
theorem hload {w : World} {g : Nat} {h : H8} {l : Value} (b : HBox w g h l) : (loadVar 25 ⟨g, 0, none⟩).run Tryz.prog w = .ok (hv h l) w :=
  run_loadVar_row w g 25 25 _ _ _ b.has.at_ Tryz.underlying25 rfl (by kernel_rfl)
theorem HBox.cells {w : World} {g : Nat} {h : H8} {l : Value} (b : HBox w g h l) : w.cell? ⟨g, 0, none⟩ = some (.string (ofL h.method)) ∧ w.cell? ⟨g, 1, none⟩ = some (.string (ofL h.target)) ∧ w.cell? ⟨g, 2, none⟩ = some (.int .i64 h.status) ∧ w.cell? ⟨g, 3, none⟩ = some (.string (ofL h.reason)) ∧ w.cell? ⟨g, 4, none⟩ = some (.int .i64 h.minor) ∧ w.cell? ⟨g, 5, none⟩ = some l :=
  ⟨(b.has.cell 0).trans rfl, (b.has.cell 1).trans rfl, (b.has.cell 2).trans rfl, (b.has.cell 3).trans rfl, (b.has.cell 4).trans rfl, (b.has.cell 5).trans rfl⟩
theorem HBox.frees {w : World} {g : Nat} {h : H8} {l : Value} (b : HBox w g h l) : w.frozen? ⟨g, 0, none⟩ = false ∧ w.frozen? ⟨g, 1, none⟩ = false ∧ w.frozen? ⟨g, 2, none⟩ = false ∧ w.frozen? ⟨g, 3, none⟩ = false ∧ w.frozen? ⟨g, 4, none⟩ = false ∧ w.frozen? ⟨g, 5, none⟩ = false :=
  ⟨b.has.free 0, b.has.free 1, b.has.free 2, b.has.free 3, b.has.free 4, b.has.free 5⟩
theorem HBox.below {w w' : World} {g B : Nat} {h : H8} {l : Value} (b : HBox w g h l) (hb : Below B w w') (hg : g < B) : HBox w' g h l := ⟨b.has.below hb hg⟩
theorem HBox.far {w : World} {g : Nat} {h : H8} {l : Value} (b : HBox w g h l) {p : Addr} (hp : g ≠ p.block) (u : Value) : HBox (w.setCell p u) g h l := ⟨b.has.far hp u⟩
theorem HBox.drew {w : World} {g : Nat} {h : H8} {l : Value} (b : HBox w g h l) : HBox w.drew g h l := ⟨b.has.drew⟩
/-- the box of a call that answers a head -/
structure HOne (w W : World) (g : Nat) (h : H8) (l : Value) : Prop where
  at_ : g = w.heap.size
  below : Below w.heap.size w W
  box : HBox W g h l
  size : g + 1 ≤ W.heap.size
theorem HOne.start (w : World) : HOne w (w.alloc (.cells #[.string ⟨#[]⟩, .string ⟨#[]⟩, .int .i64 0, .string ⟨#[]⟩, .int .i64 0, .slice none 0 0] 25)) w.heap.size zero8 (.slice none 0 0) :=
  ⟨rfl, (Below.refl w.heap.size w).alloc (Nat.le_refl _) _, ⟨Has.new w _ _⟩, by simp⟩
theorem HOne.call {w W W' : World} {g : Nat} {h : H8} {l : Value} (b : HOne w W g h l) (hb : Below W.heap.size W W') : HOne w W' g h l :=
  ⟨b.at_, below_chain b.below hb, b.box.below hb (by have := b.size; omega), Nat.le_trans b.size hb.size⟩
theorem below_hput {B : Nat} {a W : World} {g : Nat} (b : Below B a W) (hg : B ≤ g) (h : H8) (l : Value) : Below B a (hput W g h l) :=
  (((((b.setCell (p := ⟨g, 0, none⟩) hg _).setCell (p := ⟨g, 1, none⟩) hg _).setCell (p := ⟨g, 2, none⟩) hg _).setCell (p := ⟨g, 3, none⟩) hg _).setCell (p := ⟨g, 4, none⟩) hg _).setCell (p := ⟨g, 5, none⟩) hg _
theorem HOne.put {w W : World} {g : Nat} {u : H8} {m : Value} (b : HOne w W g u m) (h : H8) (l : Value) : Below w.heap.size w (hput W g h l) := below_hput b.below (by rw [b.at_]; exact Nat.le_refl _) h l
def hrv (h : H8) (l : Value) (e : Int) : Value := .tuple #[hv h l, .int .i64 e]
theorem end_hbox {W : World} {g : Nat} {h : H8} {l : Value} {v : Int} {tmps : Array Value} {p u : Tmp} (hp : tmps.getD p undef = .pointer (some ⟨g, 0, none⟩)) (hu : tmps.getD u undef = .int .i64 v) (b : HBox W g h l) :
    (((asAddr (tmps.getD p undef)).run Tryz.prog W).andThen fun a w₁ => ((loadVar 25 a).run Tryz.prog w₁).andThen fun v w₂ => .ok (.tuple #[v, tmps.getD u undef]) w₂) = .ok (hrv h l v) W := by
  rw [hp, hu]
  have := hload b
  simp [asAddr, Result.andThen, this, hrv]
def hrv3 (h : H8) (l : Value) (n e : Int) : Value := .tuple #[hv h l, .int .i64 n, .int .i64 e]
theorem end_hbox3 {W : World} {g : Nat} {h : H8} {l : Value} {n v : Int} {tmps : Array Value} {p t u : Tmp} (hp : tmps.getD p undef = .pointer (some ⟨g, 0, none⟩)) (ht : tmps.getD t undef = .int .i64 n) (hu : tmps.getD u undef = .int .i64 v) (b : HBox W g h l) :
    (((asAddr (tmps.getD p undef)).run Tryz.prog W).andThen fun a w₁ => ((loadVar 25 a).run Tryz.prog w₁).andThen fun v w₂ => .ok (.tuple #[v, tmps.getD t undef, tmps.getD u undef]) w₂) = .ok (hrv3 h l n v) W := by
  rw [hp, ht, hu]
  have := hload b
  simp [asAddr, Result.andThen, this, hrv3]
theorem results_cell_tmp2 {fn : Func} {p t u : Tmp} {ty : TypeId} (h : fn.results = #[.cell p ty, .tmp t, .tmp u]) (tmps : Array Value) (P : Program) (w : World) :
    (results fn tmps).run P w =
      ((asAddr (tmps.getD p undef)).run P w).andThen fun a w₁ => ((loadVar ty a).run P w₁).andThen fun v w₂ => .ok (.tuple #[v, tmps.getD t undef, tmps.getD u undef]) w₂ := by
  simp only [results, h]
  simp [Sem.run_bind, Result.andThen]
theorem row_hput {W : World} {base n size : Nat} {e : TypeId} {v : Value} {xs : List Value} {g : Nat} (h : W.ownsRow base e size v n xs) (hg : g < base) (H : H8) (l : Value) : (hput W g H l).ownsRow base e size v n xs :=
  ownsRow_setCell_below (ownsRow_setCell_below (ownsRow_setCell_below (ownsRow_setCell_below (ownsRow_setCell_below (ownsRow_setCell_below h hg _) hg _) hg _) hg _) hg _) hg _
theorem box_hput {W : World} {g k : Nat} {H u : H8} {l m : Value} (b : HBox W g u m) (hg : g ≠ k) : HBox (hput W k H l) g u m :=
  (((((b.far (p := ⟨k, 0, none⟩) hg _).far (p := ⟨k, 1, none⟩) hg _).far (p := ⟨k, 2, none⟩) hg _).far (p := ⟨k, 3, none⟩) hg _).far (p := ⟨k, 4, none⟩) hg _).far (p := ⟨k, 5, none⟩) hg _
theorem size_hput (W : World) (g : Nat) (H : H8) (l : Value) : (hput W g H l).heap.size = W.heap.size := by simp [hput]
end Go.Proofs.YtblpooddamkfdaaGreatDoor.HBox

/- Layer 4, the document's own Marks. -/
namespace Go.Proofs.YtblpooddamkfdaaGreatDoor.RMarks
open Go.ChangeShapes Go.WideShapes Go.ChangeAt Go.RowKit LexPure Bytes Ret
set_option maxRecDepth 20000
theorem rmarks_any (c : UInt8) (w : World) :
    Calls Tryz.prog 65 #[.int .u8 (c.toNat : Int)] w fun e w' => e = .returned (.bool (markB c)) ∧ w = w' := by
  unfold markB
  generalize (c.toNat : Int) = c
  go_enter Tryz.func65, Tryz.ntmps65
  go_wp2_with fail
  all_goals
    go_ret
    refine ⟨ret_bool ?_, rfl⟩
    try simp only [beq_eq_false_iff_ne, beq_iff_eq, ne_eq] at *
    first
      | exact Eq.symm (decide_eq_true (p := MarkP _) (by unfold MarkP; omega))
      | exact Eq.symm (decide_eq_false (p := MarkP _) (by unfold MarkP; omega))
end Go.Proofs.YtblpooddamkfdaaGreatDoor.RMarks

/- Layer 4, the document's own Token. -/
namespace Go.Proofs.YtblpooddamkfdaaGreatDoor.RToken
open Go.ChangeShapes Go.WideShapes Go.ChangeAt Go.RowKit LexPure Bytes Ret RMarks
set_option maxRecDepth 20000
theorem rtoken_any (s : ByteArray) (hs : s.size ≤ maxLen) (w : World) :
    Calls Tryz.prog 40 #[.string s] w fun e w' => e = .returned (.bool (token (toL s))) ∧ w = w' := by
  unfold maxLen at hs
  go_enter Tryz.func40, Tryz.ntmps40
  go_wp2_with fail
  go_loop [3] (fun i => ∃ k : Nat, k ≤ s.size ∧ i = .int .i64 k ∧ Hid (((toL s).take k).all markB = true)) (fun i => s.size - (intOf i).toNat)
  case atStart => exact ⟨0, Nat.zero_le _, rfl, Lib.hid rfl⟩
  case round =>
    obtain ⟨k, hk, rfl, ha⟩ := hrel
    by_cases hlt : k < s.size
    · have hki : (k : Int) < (s.size : Int) := by omega
      have HT := Lib.hid (toL_take_succ s k hlt)
      have HG := Lib.hid (toL_get s k hlt)
      by_cases hm : markB s[k] = true
      · have HA : Hid (((toL s).take (k + 1)).all markB = true) := Lib.hid (by rw [HT.out, List.all_append, ha.out]; simp [hm])
        have HM := Lib.hid hm
        clear hm
        go_wp2_with fail
        refine (rmarks_any _ _).mono ?_
        rintro e w' ⟨rfl, rfl⟩
        rw [HM.out]
        go_wp2_with fail
        go_round
        case rel => exact ⟨k + 1, by omega, by go_num, HA⟩
        case measure => simp [intOf]; omega
      · have hm : markB s[k] = false := by simpa using hm
        have HV : Hid (token (toL s) = false) := Lib.hid (by
          unfold token
          rw [Bool.and_eq_false_iff]
          left
          rw [List.all_eq_false]
          exact ⟨s[k], List.mem_of_getElem? HG.out, by simp [hm]⟩)
        have HM := Lib.hid hm
        clear hm
        go_wp2_with fail
        refine (rmarks_any _ _).mono ?_
        rintro e w' ⟨rfl, rfl⟩
        rw [HM.out]
        go_wp2_with fail
        go_ret
        exact ⟨ret_bool HV.out.symm, rfl⟩
    · have ha' : (toL s).all markB = true := by
        have := ha.out
        rwa [toL_take_all s (by omega)] at this
      have HV : Hid (token (toL s) = decide (0 < s.size)) := Lib.hid (by
        unfold token
        rw [ha']
        have := toL_length s
        cases h : toL s with
        | nil => rw [h] at this; simp at this; simp [← this]
        | cons c r => rw [h] at this; simp at this; simp; omega)
      clear ha'
      go_wp2_with fail
      go_ret
      exact ⟨ret_bool HV.out.symm, rfl⟩
end Go.Proofs.YtblpooddamkfdaaGreatDoor.RToken

/- Layer 8, the document's own Start. -/
namespace Go.Proofs.YtblpooddamkfdaaGreatDoor.R8Start
open Go.ChangeShapes Go.WideShapes Go.ChangeAt Go.RowKit LexPure Bytes Ret FieldsPure HeadPure HBox Mem R8End R8Version RToken
set_option maxRecDepth 20000
theorem up_take (s : List UInt8) : upB s = s.take (upB s).length := by
  unfold upB
  induction s with
  | nil => rfl
  | cons c s ih =>
    rw [List.takeWhile_cons]
    split
    · rw [List.length_cons, List.take_succ_cons, ← ih]
    · rfl
theorem up_le (s : List UInt8) : (upB s).length ≤ s.length := by
  have := congrArg List.length (up_take s)
  rw [List.length_take] at this
  omega
theorem seen_cases (b : UInt8) : (seenB b = false ∧ (b.toNat : Int) ≤ 32) ∨ (seenB b = false ∧ ¬ (b.toNat : Int) ≤ 32 ∧ (127 : Int) ≤ (b.toNat : Int)) ∨ (seenB b = true ∧ ¬ (b.toNat : Int) ≤ 32 ∧ ¬ (127 : Int) ≤ (b.toNat : Int)) := by
  unfold seenB
  rcases (show b.toNat ≤ 32 ∨ 127 ≤ b.toNat ∨ (32 < b.toNat ∧ b.toNat < 127) by omega) with h | h | h
  · exact .inl ⟨by rw [decide_eq_false (by omega)]; rfl, by omega⟩
  · exact .inr (.inl ⟨by rw [decide_eq_false (p := b.toNat < 127) (by omega), Bool.and_false], by omega, by omega⟩)
  · exact .inr (.inr ⟨by rw [decide_eq_true h.1, decide_eq_true h.2]; rfl, by omega, by omega⟩)
/-- a start line that is none -/
theorem start_bad {l : List UInt8} (h : ¬ ((upB l).length < l.length ∧ (upB l).length ≤ 16 ∧ token (upB l) = true)) : start8 l = (zero8, 80) := by
  unfold start8
  rw [if_neg h]
theorem start_bad2 {l : List UInt8} (h : ¬ ((upB (l.drop ((upB l).length + 1))).length < (l.drop ((upB l).length + 1)).length ∧ 0 < (upB (l.drop ((upB l).length + 1))).length ∧ (upB (l.drop ((upB l).length + 1))).all seenB = true)) : start8 l = (zero8, 80) := by
  unfold start8
  by_cases h1 : (upB l).length < l.length ∧ (upB l).length ≤ 16 ∧ token (upB l) = true
  · rw [if_pos h1]
    simp only
    rw [if_neg h]
  · rw [if_neg h1]
theorem start_good {l : List UInt8} (h1 : (upB l).length < l.length ∧ (upB l).length ≤ 16 ∧ token (upB l) = true) (h : (upB (l.drop ((upB l).length + 1))).length < (l.drop ((upB l).length + 1)).length ∧ 0 < (upB (l.drop ((upB l).length + 1))).length ∧ (upB (l.drop ((upB l).length + 1))).all seenB = true) :
    start8 l = if (version8 (l.drop ((upB l).length + 1 + (upB (l.drop ((upB l).length + 1))).length + 1))).2 = 0 then (⟨upB l, upB (l.drop ((upB l).length + 1)), 0, [], (version8 (l.drop ((upB l).length + 1 + (upB (l.drop ((upB l).length + 1))).length + 1))).1, []⟩, 0) else (zero8, (version8 (l.drop ((upB l).length + 1 + (upB (l.drop ((upB l).length + 1))).length + 1))).2) := by
  unfold start8
  rw [if_pos h1]
  simp only
  rw [if_pos h, List.drop_drop, Nat.add_assoc ((upB l).length + 1)]
set_option maxHeartbeats 1600000 in
theorem r8start_any (s : ByteArray) (hs : s.size ≤ 140737488351232) (w : World) :
    Calls Tryz.prog 47 #[.string s] w fun e w' => e = .returned (hrv (start8 (toL s)).1 (.slice none 0 0) (start8 (toL s)).2) ∧ Below w.heap.size w w' := by
  have HO := Lib.hid (HOne.start w)
  obtain ⟨x, hx⟩ : ∃ x, x = start8 (toL s) := ⟨_, rfl⟩
  rw [← hx]
  replace hx := Lib.hid hx
  obtain ⟨a, ha⟩ : ∃ a, a = (upB (toL s)).length := ⟨_, rfl⟩
  have hal : a ≤ s.size := by rw [ha, ← toL_length]; exact up_le _
  have HU : Hid (∀ w, Calls Tryz.prog 68 #[.string s, .int .i64 0] w fun e w' => e = .returned (.int .i64 (a : Int)) ∧ w' = w) := Lib.hid (fun w => (r8upto_any s hs 0 (Nat.zero_le _) w).mono (fun e w' h => ⟨by rw [h.1, List.drop_zero, Nat.zero_add, ← ha], h.2.symm⟩))
  have eM : toL (s.extract 0 a) = upB (toL s) := by rw [toL_extract, List.drop_zero, up_take (toL s), ← ha]
  have HT := Lib.hid (fun w => (rtoken_any (s.extract 0 a) (by unfold maxLen; rw [ByteArray.size_extract]; omega) w).mono (fun e w' h => (⟨h.1, h.2.symm⟩ : e = .returned (.bool (token (toL (s.extract 0 a)))) ∧ w' = w)))
  rw [eM] at HT
  have eM2 : Hid (s.extract 0 a = ofL (upB (toL s))) := Lib.hid (by rw [← eM, ofL_toL])
  replace ha := Lib.hid ha
  clear eM
  go_enter Tryz.func47, Tryz.ntmps47
  go_wp2_with fail
  generalize w.alloc (.cells #[.string ⟨#[]⟩, .string ⟨#[]⟩, .int .i64 0, .string ⟨#[]⟩, .int .i64 0, .slice none 0 0] 25) = W at HO ⊢
  obtain ⟨g, hg⟩ : ∃ g, g = w.heap.size := ⟨_, rfl⟩
  rw [← hg] at HO ⊢
  replace hg := Lib.hid hg
  refine (HU.out _).mono ?_
  rintro e w' ⟨rfl, rfl⟩
  clear HU
  obtain ⟨d0, d1, d2, d3, d4, d5⟩ := HO.out.box.cells
  obtain ⟨z0, z1, z2, z3, z4, z5⟩ := HO.out.box.frees
  have HE := Lib.hid (HO.out.box.put zero8 (.slice none 0 0))
  have HB := Lib.hid (HO.out.put zero8 (.slice none 0 0))
  by_cases h1 : a < s.size
  rotate_left
  · have hi : (s.size : Int) ≤ (a : Int) := by omega
    have HV : x = (zero8, 80) := by rw [hx.out]; refine start_bad (fun h => h1 ?_); have := h.1; rw [← ha.out, toL_length] at this; exact this
    subst HV
    clear hx HO eM2 HT
    go_wp2_with fail
    refine bodyPost_ret (v := hrv zero8 (.slice none 0 0) 80) ?_ rfl ⟨rfl, HB.out⟩
    rw [results_cell_tmp rfl]
    exact end_hbox rfl rfl HE.out
  have hi : ¬ (s.size : Int) ≤ (a : Int) := by omega
  by_cases h2 : a ≤ 16
  rotate_left
  · have hj : (16 : Int) < (a : Int) := by omega
    have HV : x = (zero8, 80) := by rw [hx.out]; refine start_bad (fun h => h2 ?_); have := h.2.1; rw [← ha.out] at this; exact this
    subst HV
    clear hx HO eM2 HT
    go_wp2_with fail
    refine bodyPost_ret (v := hrv zero8 (.slice none 0 0) 80) ?_ rfl ⟨rfl, HB.out⟩
    rw [results_cell_tmp rfl]
    exact end_hbox rfl rfl HE.out
  have hj : ¬ (16 : Int) < (a : Int) := by omega
  cases h3 : token (upB (toL s)) with
  | false =>
    have HV : x = (zero8, 80) := by rw [hx.out]; refine start_bad (fun h => ?_); rw [h3] at h; exact absurd h.2.2 (by decide)
    subst HV
    rw [h3] at HT
    clear hx HO eM2 h3
    go_wp2_with fail
    refine (HT.out _).mono ?_
    rintro e w' ⟨rfl, rfl⟩
    go_wp2_with fail
    refine bodyPost_ret (v := hrv zero8 (.slice none 0 0) 80) ?_ rfl ⟨rfl, HB.out⟩
    rw [results_cell_tmp rfl]
    exact end_hbox rfl rfl HE.out
  | true =>
    rw [h3] at HT
    have H1 : Hid ((upB (toL s)).length < (toL s).length ∧ (upB (toL s)).length ≤ 16 ∧ token (upB (toL s)) = true) := Lib.hid ⟨by rw [← ha.out, toL_length]; exact h1, by rw [← ha.out]; exact h2, h3⟩
    obtain ⟨R, hR⟩ : ∃ R, R = (toL s).drop (a + 1) := ⟨_, rfl⟩
    obtain ⟨b, hb⟩ : ∃ b, b = a + 1 + (upB R).length := ⟨_, rfl⟩
    have hRl : R.length = s.size - (a + 1) := by rw [hR, List.length_drop, toL_length]
    have hbl : a + 1 ≤ b ∧ b ≤ s.size := by have := up_le R; omega
    have HU : Hid (∀ w, Calls Tryz.prog 68 #[.string s, .int .i64 ((a : Int) + 1)] w fun e w' => e = .returned (.int .i64 (b : Int)) ∧ w' = w) := Lib.hid (fun w => (r8upto_any s hs (a + 1) h1 w).mono (fun e w' h => ⟨by rw [h.1, ← hR, ← hb], h.2.symm⟩))
    have hRe := ha.out
    have HX2 : (¬ ((upB R).length < R.length ∧ 0 < (upB R).length ∧ (upB R).all seenB = true) → Hid (x = (zero8, 80))) := fun h => Lib.hid (by rw [hx.out]; exact start_bad2 (by rw [← ha.out, ← hR]; exact h))
    have HX3 : ((upB R).length < R.length ∧ 0 < (upB R).length ∧ (upB R).all seenB = true → Hid (x = if (version8 ((toL s).drop (b + 1))).2 = 0 then (⟨upB (toL s), upB R, 0, [], (version8 ((toL s).drop (b + 1))).1, []⟩, 0) else (zero8, (version8 ((toL s).drop (b + 1))).2))) := fun h => Lib.hid (by
      rw [hx.out, start_good H1.out (by rw [← ha.out, ← hR]; exact h), ← ha.out, ← hR, ← hb])
    have HR : Hid (R = (toL s).drop (a + 1)) := Lib.hid hR
    have Hb : Hid (b = a + 1 + (upB R).length ∧ R.length = s.size - (a + 1)) := Lib.hid ⟨hb, hRl⟩
    clear hRe hR hb hRl hx H1 h3 ha
    obtain ⟨hb1, hb2⟩ := hbl
    go_wp2_with fail
    refine (HT.out _).mono ?_
    rintro e w' ⟨rfl, rfl⟩
    clear HT
    go_wp2_with fail
    refine (HU.out _).mono ?_
    rintro e w' ⟨rfl, rfl⟩
    clear HU
    by_cases h4 : b < s.size
    rotate_left
    · have hk : (s.size : Int) ≤ (b : Int) := by omega
      have HV := (HX2 (by rintro ⟨h, _⟩; have := Hb.out; omega)).out
      subst HV
      clear HX2 HX3 HO eM2
      go_wp2_with fail
      refine bodyPost_ret (v := hrv zero8 (.slice none 0 0) 80) ?_ rfl ⟨rfl, HB.out⟩
      rw [results_cell_tmp rfl]
      exact end_hbox rfl rfl HE.out
    have hk : ¬ (s.size : Int) ≤ (b : Int) := by omega
    by_cases h5 : b = a + 1
    · have HV := (HX2 (by rintro ⟨_, h, _⟩; have := Hb.out; omega)).out
      subst HV
      clear HX2 HX3 HO eM2
      have hl : ((b : Int) == (a : Int) + 1) = true := by rw [beq_iff_eq]; omega
      clear h5
      go_wp2_with fail
      refine bodyPost_ret (v := hrv zero8 (.slice none 0 0) 80) ?_ rfl ⟨rfl, HB.out⟩
      rw [results_cell_tmp rfl]
      exact end_hbox rfl rfl HE.out
    have hl : ((b : Int) == (a : Int) + 1) = false := beq_eq_false_iff_ne.2 (by omega)
    replace h5 := Lib.hid h5
    go_wp2_with fail
    go_loop [6] (fun i => ∃ k : Nat, a + 1 ≤ k ∧ k ≤ b ∧ i = .int .i64 k ∧ Hid ((R.take (k - (a + 1))).all seenB = true)) (fun i => s.size - (intOf i).toNat)
    case atStart => exact ⟨a + 1, Nat.le_refl _, hb1, rfl, Lib.hid (by rw [Nat.sub_self]; rfl)⟩
    case round =>
      obtain ⟨k, hk1, hk2, rfl, hq⟩ := hrel
      by_cases hlt : k < b
      · have hkb : (k : Int) < (b : Int) := by omega
        have hks : (k : Int) < (s.size : Int) := by omega
        have hkn : k < s.size := by omega
        have hG : R[k - (a + 1)]? = some s[k] := by rw [HR.out, List.getElem?_drop, show a + 1 + (k - (a + 1)) = k by omega, toL_get s k hkn]
        rcases seen_cases s[k] with ⟨c0, c1⟩ | ⟨c0, c1, c2⟩ | ⟨c0, c1, c2⟩
        · have HV := (HX2 (by
            rintro ⟨_, _, h⟩
            rw [up_take R] at h
            have := List.all_eq_true.1 h s[k] (List.mem_of_getElem? (i := k - (a + 1)) (by rw [List.getElem?_take, if_pos (by have := Hb.out; omega), hG]))
            rw [c0] at this
            cases this)).out
          subst HV
          clear HX2 HX3 HO eM2 hG c0 hq
          go_wp2_with fail
          refine bodyPost_ret (v := hrv zero8 (.slice none 0 0) 80) ?_ rfl ⟨rfl, HB.out⟩
          rw [results_cell_tmp rfl]
          exact end_hbox rfl rfl HE.out
        · have HV := (HX2 (by
            rintro ⟨_, _, h⟩
            rw [up_take R] at h
            have := List.all_eq_true.1 h s[k] (List.mem_of_getElem? (i := k - (a + 1)) (by rw [List.getElem?_take, if_pos (by have := Hb.out; omega), hG]))
            rw [c0] at this
            cases this)).out
          subst HV
          clear HX2 HX3 HO eM2 hG c0 hq
          go_wp2_with fail
          refine bodyPost_ret (v := hrv zero8 (.slice none 0 0) 80) ?_ rfl ⟨rfl, HB.out⟩
          rw [results_cell_tmp rfl]
          exact end_hbox rfl rfl HE.out
        · have HQ : Hid ((R.take (k + 1 - (a + 1))).all seenB = true) := Lib.hid (by
            rw [show k + 1 - (a + 1) = (k - (a + 1)) + 1 by omega, List.take_add_one, List.all_append, hq.out, hG]
            simp [c0])
          clear HX2 HX3 hG c0 hq
          go_wp2_with fail
          go_round
          case rel => exact ⟨k + 1, by omega, by omega, by go_num, HQ⟩
          case measure => simp [intOf]; omega
      · have hkb : ¬ (k : Int) < (b : Int) := by omega
        have hke : k = b := by omega
        have HV := HX3 ⟨by have := Hb.out; omega, by have := Hb.out; have := h5.out; omega, by
          rw [up_take R]
          have := hq.out
          rwa [show k - (a + 1) = (upB R).length by have := Hb.out; omega] at this⟩
        have e5 : toL (s.extract (b + 1) s.size) = (toL s).drop (b + 1) := by rw [toL_extract, toL_take_all s (Nat.le_refl _)]
        have HZ := Lib.hid (fun w => (r8version_any (s.extract (b + 1) s.size) w).mono (fun e w' h => (⟨h.1, h.2.symm⟩ : e = .returned (.tuple #[.int .i64 (version8 (toL (s.extract (b + 1) s.size))).1, .int .i64 (version8 (toL (s.extract (b + 1) s.size))).2]) ∧ w' = w)))
        rw [e5] at HZ
        have e6 : Hid (s.extract (a + 1) b = ofL (upB R)) := Lib.hid (by
          rw [← ofL_toL (s.extract (a + 1) b), toL_extract, up_take R, show (upB R).length = b - (a + 1) by have := Hb.out; omega, HR.out, List.drop_take])
        clear HX2 HX3 hq e5 hkb
        generalize version8 ((toL s).drop (b + 1)) = v at *
        obtain ⟨m, er⟩ := v
        by_cases h6 : er = 0
        · have HV2 : x = (⟨upB (toL s), upB R, 0, [], m, []⟩, 0) := by rw [HV.out, if_pos h6]
          subst HV2
          subst h6
          have HE := HO.out.box.put ⟨upB (toL s), upB R, 0, [], m, []⟩ (.slice none 0 0)
          have HB := HO.out.put ⟨upB (toL s), upB R, 0, [], m, []⟩ (.slice none 0 0)
          unfold hput at HE HB
          simp only [← eM2.out, ← e6.out] at HE HB
          replace HE := Lib.hid HE
          replace HB := Lib.hid HB
          clear HV HO eM2 e6
          go_wp2_with fail
          refine (HZ.out _).mono ?_
          rintro e w' ⟨rfl, rfl⟩
          go_wp2_with fail
          go_region
          go_wp2_with fail
          refine bodyPost_ret (v := hrv ⟨upB (toL s), upB R, 0, [], m, []⟩ (.slice none 0 0) 0) ?_ rfl ⟨rfl, below_drew HB.out⟩
          rw [results_cell_tmp rfl]
          exact end_hbox rfl rfl HE.out.drew
        · have HV2 : x = (zero8, er) := by rw [HV.out, if_neg h6]
          subst HV2
          have h7 : (er != 0) = true := bne_iff_ne.2 h6
          clear HV HO eM2 e6 h6
          go_wp2_with fail
          refine (HZ.out _).mono ?_
          rintro e w' ⟨rfl, rfl⟩
          go_wp2_with fail
          refine bodyPost_ret (v := hrv zero8 (.slice none 0 0) er) ?_ rfl ⟨rfl, HB.out⟩
          rw [results_cell_tmp rfl]
          exact end_hbox rfl rfl HE.out
end Go.Proofs.YtblpooddamkfdaaGreatDoor.R8Start
