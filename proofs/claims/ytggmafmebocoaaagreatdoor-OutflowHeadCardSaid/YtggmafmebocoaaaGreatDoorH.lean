/- Texts of this seat, one behind another: OutHeadP, OutflowHeadW. -/
import Derived.RegionTactic
import Derived.ChangeAlike
import Derived.BigRegion
import Derived.Test.YtggmafmebocoaaaGreatDoorP
import Derived.Test.YtggmafmebocoaaaGreatDoorB
/- Layer 12: responses that end with their head. No program is named. -/
namespace Go.Proofs.YtggmafmebocoaaaGreatDoor.OutHeadP
open Bytes LexPure LexNum FieldsPure HeadPure FramePure ChunkPure OutPure OutSay
set_option maxRecDepth 20000
def METH : Nat → List UInt8
  | 0 => [72, 69, 65, 68]
  | 1 => [71, 69, 84]
  | _ => [80, 85, 84]
def STAT : Nat → List UInt8
  | 0 => [50, 48, 48]
  | 1 => [50, 48, 52]
  | _ => [51, 48, 52]
def FLD : Nat → List UInt8
  | 0 => []
  | 1 => [67, 111, 110, 116, 101, 110, 116, 45, 76, 101, 110, 103, 116, 104, 58, 32, 53, 13, 10]
  | 2 => [84, 114, 97, 110, 115, 102, 101, 114, 45, 69, 110, 99, 111, 100, 105, 110, 103, 58, 32, 99, 104, 117, 110, 107, 101, 100, 13, 10]
  | _ => [67, 111, 110, 116, 101, 110, 116, 45, 76, 101, 110, 103, 116, 104, 58, 32, 120, 13, 10]
def HT2 : List UInt8 := [72, 84, 84, 80, 47, 49, 46, 49, 32]
def XT2 : List UInt8 := [32, 88, 13, 10]
def headL (i j : Nat) : List UInt8 := HT2 ++ STAT i ++ XT2 ++ FLD j ++ [13, 10]
theorem head_read : ∀ (i : Fin 3) (j : Fin 4), (match read8 true (headL i.1 j.1) with | .done h n => n == (headL i.1 j.1).length && !interim h.status && decide (response9 (METH i.1) h.status h.minor h.fields = (1, 0, 0)) && keep9 h.minor h.fields | _ => false) = true := by decide +kernel
theorem head_len (i j : Nat) : (METH i).length ≤ 4 ∧ (STAT i).length = 3 ∧ (FLD j).length ≤ 28 := by
  refine ⟨?_, ?_, ?_⟩
  · unfold METH; split <;> decide
  · unfold STAT; split <;> decide
  · unfold FLD; split <;> decide
theorem head_next {i j : Nat} (hi : i < 3) (hj : j < 4) (tail : List UInt8) : ∃ h, nextO (METH i) (feedO st0 (headL i j ++ tail)) = (.head h, 0, ⟨.fin, tail, false, 1, true⟩) := by
  have h := head_read ⟨i, hi⟩ ⟨j, hj⟩
  dsimp only at h
  cases hr : read8 true (headL i j) with
  | wait => rw [hr] at h; cases h
  | bad e => rw [hr] at h; cases h
  | done hd n =>
    rw [hr] at h
    simp only [Bool.and_eq_true, beq_iff_eq, Bool.not_eq_true', decide_eq_true_eq] at h
    obtain ⟨⟨⟨e1, e2⟩, e3⟩, e4⟩ := h
    have ha := read_append true (headL i j) tail (by rw [hr]; exact fun y => by cases y)
    rw [hr] at ha
    have hh := heads_done ha e2
    refine ⟨hd, ?_⟩
    have hf : feedO st0 (headL i j ++ tail) = ⟨.head, headL i j ++ tail, false, 0, false⟩ := rfl
    rw [hf]
    unfold nextO errO stepO
    simp only [hh, e3, e4]
    simp [isN, doneM, openM, e1]
end Go.Proofs.YtggmafmebocoaaaGreatDoor.OutHeadP

/- To a HEAD, and with the status 204 or 304, a response ends with its head: OutflowHead returns true. -/
namespace Go.Proofs.YtggmafmebocoaaaGreatDoor.OutflowHeadW
open Go.ChangeShapes Go.WideShapes Go.ChangeAt Go.RowKit Bytes LexPure Ret FieldsPure HeadPure OutPure OutSay OutHeadP OutBox OutObj POutUse L12Read L12Anchor PLib Mem Step
set_option maxRecDepth 100000
set_option linter.unusedVariables false
set_option linter.unusedSimpArgs false
/-- a list of texts written down -/
theorem three_at (W : World) (f : Nat → List UInt8) (i : Nat) (hi : i < 3) : (W.alloc (.cells #[.string (ofL (f 0)), .string (ofL (f 1)), .string (ofL (f 2))] 9)).cell? ⟨W.heap.size, i, none⟩ = some (.string (ofL (f i))) := by
  rcases (show i = 0 ∨ i = 1 ∨ i = 2 by omega) with rfl | rfl | rfl
  · exact ((Has.new W _ _).cell 0).trans rfl
  · exact ((Has.new W _ _).cell 1).trans rfl
  · exact ((Has.new W _ _).cell 2).trans rfl
theorem four_at (W : World) (f : Nat → List UInt8) (i : Nat) (hi : i < 4) : (W.alloc (.cells #[.string (ofL (f 0)), .string (ofL (f 1)), .string (ofL (f 2)), .string (ofL (f 3))] 9)).cell? ⟨W.heap.size, i, none⟩ = some (.string (ofL (f i))) := by
  rcases (show i = 0 ∨ i = 1 ∨ i = 2 ∨ i = 3 by omega) with rfl | rfl | rfl | rfl
  · exact ((Has.new W _ _).cell 0).trans rfl
  · exact ((Has.new W _ _).cell 1).trans rfl
  · exact ((Has.new W _ _).cell 2).trans rfl
  · exact ((Has.new W _ _).cell 3).trans rfl
set_option maxHeartbeats 6400000 in
theorem walkIn (wh fl : Int) (tail : ByteArray) (w : World) (hm : MaxInt w) :
    Calls Tryz.prog 7 #[.int .i64 wh, .int .i64 fl, .string tail] w fun e w' => e = .returned (.bool true) ∧ Below w.heap.size w w' := by
  have HA := Lib.hid (anchor_any w hm)
  replace hm := Lib.hid hm
  rcases (show (0 ≤ wh ∧ wh ≤ 2 ∧ 0 ≤ fl ∧ fl ≤ 3 ∧ tail.size ≤ 1000) ∨ wh < 0 ∨ (0 ≤ wh ∧ 2 < wh) ∨ (0 ≤ wh ∧ wh ≤ 2 ∧ fl < 0) ∨ (0 ≤ wh ∧ wh ≤ 2 ∧ 0 ≤ fl ∧ 3 < fl) ∨ (0 ≤ wh ∧ wh ≤ 2 ∧ 0 ≤ fl ∧ fl ≤ 3 ∧ 1000 < tail.size) by omega) with ⟨a1, a2, a3, a4, a5⟩ | a1 | ⟨a1, a2⟩ | ⟨a1, a2, a3⟩ | ⟨a1, a2, a3, a4⟩ | ⟨a1, a2, a3, a4, a5⟩
  · obtain ⟨i, rfl⟩ : ∃ i : Nat, wh = (i : Int) := ⟨wh.toNat, by omega⟩
    obtain ⟨j, rfl⟩ : ∃ j : Nat, fl = (j : Int) := ⟨fl.toNat, by omega⟩
    have hi : i < 3 := by omega
    have hj : j < 4 := by omega
    have hii : (i : Int) < 3 := by omega
    have hjj : (j : Int) < 4 := by omega
    have a5i : ¬ (1000 : Int) < (tail.size : Int) := by omega
    have m3 := fun W => three_at W METH i hi
    have s3 := fun W => three_at W STAT i hi
    have f4 := fun W => four_at W FLD j hj
    obtain ⟨lm, ls, lf⟩ := head_len i j
    have sS : (ofL (STAT i)).size = 3 := by rw [ofL_size]; exact ls
    have sF : (ofL (FLD j)).size ≤ 28 := by rw [ofL_size]; exact lf
    simp only [show ofL (METH 0) = ⟨#[72, 69, 65, 68]⟩ from rfl, show ofL (METH 1) = ⟨#[71, 69, 84]⟩ from rfl, show ofL (METH 2) = ⟨#[80, 85, 84]⟩ from rfl] at m3
    simp only [show ofL (STAT 0) = ⟨#[50, 48, 48]⟩ from rfl, show ofL (STAT 1) = ⟨#[50, 48, 52]⟩ from rfl, show ofL (STAT 2) = ⟨#[51, 48, 52]⟩ from rfl] at s3
    simp only [show ofL (FLD 0) = ⟨#[]⟩ from rfl, show ofL (FLD 1) = ⟨#[67, 111, 110, 116, 101, 110, 116, 45, 76, 101, 110, 103, 116, 104, 58, 32, 53, 13, 10]⟩ from rfl, show ofL (FLD 2) = ⟨#[84, 114, 97, 110, 115, 102, 101, 114, 45, 69, 110, 99, 111, 100, 105, 110, 103, 58, 32, 99, 104, 117, 110, 107, 101, 100, 13, 10]⟩ from rfl, show ofL (FLD 3) = ⟨#[67, 111, 110, 116, 101, 110, 116, 45, 76, 101, 110, 103, 116, 104, 58, 32, 120, 13, 10]⟩ from rfl] at f4
    go_enter Tryz.func7, Tryz.ntmps7
    go_wp2_with fail
    refine HA.out.mono ?_
    rintro e w1 ⟨rfl, hb1⟩
    have HB := Lib.hid hb1
    clear HA hb1
    have HB6 := Lib.hid (HB.out.alloc HB.out.size (.cells #[.string ⟨#[72, 69, 65, 68]⟩, .string ⟨#[71, 69, 84]⟩, .string ⟨#[80, 85, 84]⟩] 9))
    have tST : toL (ofL (STAT i)) = STAT i := toL_ofL _
    have tFD : toL (ofL (FLD j)) = FLD j := toL_ofL _
    have tM : toL (ofL (METH i)) = METH i := toL_ofL _
    have s3l : ([Value.string ⟨#[50, 48, 48]⟩, Value.string ⟨#[50, 48, 52]⟩, Value.string ⟨#[51, 48, 52]⟩] : List Value)[i]'(by simpa using hi) = .string (ofL (STAT i)) := by
      rcases (show i = 0 ∨ i = 1 ∨ i = 2 by omega) with rfl | rfl | rfl <;> rfl
    have f4l : ([Value.string ⟨#[]⟩, Value.string ⟨#[67, 111, 110, 116, 101, 110, 116, 45, 76, 101, 110, 103, 116, 104, 58, 32, 53, 13, 10]⟩, Value.string ⟨#[84, 114, 97, 110, 115, 102, 101, 114, 45, 69, 110, 99, 111, 100, 105, 110, 103, 58, 32, 99, 104, 117, 110, 107, 101, 100, 13, 10]⟩, Value.string ⟨#[67, 111, 110, 116, 101, 110, 116, 45, 76, 101, 110, 103, 116, 104, 58, 32, 120, 13, 10]⟩] : List Value)[j]'(by simpa using hj) = .string (ofL (FLD j)) := by
      rcases (show j = 0 ∨ j = 1 ∨ j = 2 ∨ j = 3 by omega) with rfl | rfl | rfl | rfl <;> rfl
    replace tST := Lib.hid tST
    replace tFD := Lib.hid tFD
    replace tM := Lib.hid tM
    go_wp2_with fail
    generalize w1.alloc (.cells #[.string ⟨#[72, 69, 65, 68]⟩, .string ⟨#[71, 69, 84]⟩, .string ⟨#[80, 85, 84]⟩] 9) = W6 at HB6 ⊢
    generalize hST : ofL (STAT i) = ST at *
    generalize hFD : ofL (FLD j) = FD at *
    generalize hM : ofL (METH i) = M at *
    clear hST hFD hM HB lm ls lf m3
    have e1 : ((⟨#[72, 84, 84, 80, 47, 49, 46, 49, 32]⟩ : ByteArray) ++ ST).size = 12 := by rw [ByteArray.size_append, sS]; rfl
    have e2 : ((⟨#[72, 84, 84, 80, 47, 49, 46, 49, 32]⟩ : ByteArray) ++ ST ++ ⟨#[32, 88, 13, 10]⟩).size = 16 := by rw [ByteArray.size_append, e1]; rfl
    have e3 : ((⟨#[72, 84, 84, 80, 47, 49, 46, 49, 32]⟩ : ByteArray) ++ ST ++ ⟨#[32, 88, 13, 10]⟩ ++ FD).size = 16 + FD.size := by rw [ByteArray.size_append, e2]
    have q1 : 9 + ST.size ≤ 9223372036854775807 := by omega
    have q2 : ((⟨#[72, 84, 84, 80, 47, 49, 46, 49, 32]⟩ : ByteArray) ++ ST).size + 4 ≤ 9223372036854775807 := by omega
    have q3 : ((⟨#[72, 84, 84, 80, 47, 49, 46, 49, 32]⟩ : ByteArray) ++ ST ++ ⟨#[32, 88, 13, 10]⟩).size + FD.size ≤ 9223372036854775807 := by omega
    have q4 : ((⟨#[72, 84, 84, 80, 47, 49, 46, 49, 32]⟩ : ByteArray) ++ ST ++ ⟨#[32, 88, 13, 10]⟩ ++ FD).size + 2 ≤ 9223372036854775807 := by omega
    have HBa : Hid (∀ o1 o2, Below w.heap.size w ((W6.alloc o1).alloc o2).drew) := Lib.hid (fun o1 o2 => ((HB6.out.alloc HB6.out.size o1).alloc (HB6.out.alloc HB6.out.size o1).size o2).drew)
    have HN : Hid (∀ W, Below w.heap.size w W → Calls Tryz.prog 12 #[.string M] W fun e W' => ∃ g, e = .returned (.pointer (some ⟨g, 0, none⟩)) ∧ OF w W' g M st0) := Lib.hid (fun W hb => new_any M hb)
    have hS : Hid (toL (((⟨#[72, 84, 84, 80, 47, 49, 46, 49, 32]⟩ : ByteArray) ++ ST ++ ⟨#[32, 88, 13, 10]⟩ ++ FD ++ ⟨#[13, 10]⟩) ++ tail) = headL i j ++ toL tail) := Lib.hid (by
      rw [toL_append, toL_append, toL_append, toL_append, toL_append, tST.out, tFD.out]
      rfl)
    have e4 : ((⟨#[72, 84, 84, 80, 47, 49, 46, 49, 32]⟩ : ByteArray) ++ ST ++ ⟨#[32, 88, 13, 10]⟩ ++ FD ++ ⟨#[13, 10]⟩).size = 18 + FD.size := by rw [ByteArray.size_append, e3, show (⟨#[13, 10]⟩ : ByteArray).size = 2 from rfl]; omega
    have q5 : ((⟨#[72, 84, 84, 80, 47, 49, 46, 49, 32]⟩ : ByteArray) ++ ST ++ ⟨#[32, 88, 13, 10]⟩ ++ FD ++ ⟨#[13, 10]⟩).size + tail.size ≤ 9223372036854775807 := by omega
    have hz : (((⟨#[72, 84, 84, 80, 47, 49, 46, 49, 32]⟩ : ByteArray) ++ ST ++ ⟨#[32, 88, 13, 10]⟩ ++ FD ++ ⟨#[13, 10]⟩) ++ tail).size ≤ 2000 := by rw [ByteArray.size_append, e4]; omega
    have hmt : (tail.toList.isEmpty = true ∧ tail.toList = []) ∨ (tail.toList.isEmpty = false ∧ ¬ tail.toList = []) := by
      cases hx : tail.toList with
      | nil => exact .inl ⟨rfl, rfl⟩
      | cons c r => exact .inr ⟨rfl, fun h => by cases h⟩
    have hru : reuseO ⟨.nothing, toL tail, false, 1, true⟩ = tail.toList.isEmpty := by
      unfold reuseO
      rw [ByteArray.toList_eq]
      show (decide (1 = 1 ∨ (1 : Int) = 2 ∨ (1 : Int) = 3) && (true && true && decide ((toL tail).length = 0) && true)) = (toL tail).isEmpty
      cases toL tail with
      | nil => rfl
      | cons c r => simp
    have htt : (tail.toList == tail.toList) = true := by simp
    replace hru := Lib.hid hru
    go_region
    all_goals
      clear s3 f4 s3l f4l e1 e2 e3 q1 q2 q3 q4 a1 a2 a3 a4 hii hjj a5i
      go_wp2_with fail
      refine (HN.out _ (HBa.out _ _)).mono ?_
      rintro e w7 ⟨g, rfl, hO⟩
      clear HN HBa HB6
      have HF := Lib.hid (hO.feed (((⟨#[72, 84, 84, 80, 47, 49, 46, 49, 32]⟩ : ByteArray) ++ ST ++ ⟨#[32, 88, 13, 10]⟩ ++ FD ++ ⟨#[13, 10]⟩) ++ tail) (by show 0 + _ ≤ _; omega))
      rw [hS.out] at HF
      clear hO
      go_wp2_with fail
      refine HF.out.mono ?_
      rintro e w8 ⟨rfl, F8, hO⟩
      obtain ⟨h0, hn1⟩ := head_next hi hj (toL tail)
      rw [← tM.out] at hn1
      have HX1 := Lib.hid (hO.next hm.out (by show ([] ++ (headL i j ++ toL tail)).length ≤ _; rw [List.nil_append, ← hS.out, toL_length]; omega))
      rw [hn1] at HX1
      have hn1 := Lib.hid hn1
      clear HF hO
      go_wp2_with fail
      refine HX1.out.mono ?_
      rintro e w9 ⟨K, H1, d1, er, p1, cap1, F9, rfl, hN, hO, _⟩
      obtain ⟨rfl, rfl⟩ : K = 1 ∧ er = 0 := by
        obtain ⟨x1, _, _, x4⟩ := hN.out
        rw [hn1.out] at x1 x4
        exact ⟨x1, x4⟩
      have hO1 : OB w w9 g M ⟨.fin, toL tail, false, 1, true⟩ F9 := hO.out
      have k9 : (w9.alloc (.cells #[.int .i64 1, .string (ofL H1.method), .string (ofL H1.target), .int .i64 H1.status, .string (ofL H1.reason), .int .i64 H1.minor, .slice p1 H1.fields.length cap1, .string (ofL d1)] PT)).cell? ⟨w9.heap.size, 0, none⟩ = some (.int .i64 1) := ((Has.new w9 PT _).cell 0).trans rfl
      have l9 : w9.heap.size < (w9.alloc (.cells #[.int .i64 1, .string (ofL H1.method), .string (ofL H1.target), .int .i64 H1.status, .string (ofL H1.reason), .int .i64 H1.minor, .slice p1 H1.fields.length cap1, .string (ofL d1)] PT)).heap.size := by simp
      have n9 : ¬ F9 w9.heap.size := fun x => by have := hO1.rdr.lt _ x; omega
      have hO2 := hO1.call (W' := w9.alloc (.cells #[.int .i64 1, .string (ofL H1.method), .string (ofL H1.target), .int .i64 H1.status, .string (ofL H1.reason), .int .i64 H1.minor, .slice p1 H1.fields.length cap1, .string (ofL d1)] PT)) ((Below.refl _ _).alloc (Nat.le_refl _) _)
      clear HX1 hN hO hO1 hn1
      dsimp only
      iterate 18 go_step
      generalize w9.alloc (.cells #[.int .i64 1, .string (ofL H1.method), .string (ofL H1.target), .int .i64 H1.status, .string (ofL H1.reason), .int .i64 H1.minor, .slice p1 H1.fields.length cap1, .string (ofL d1)] PT) = W9 at k9 l9 hO2 ⊢
      generalize w9.heap.size = b9 at k9 l9 n9 ⊢
      have HX2 := Lib.hid (hO2.next hm.out (by show (toL tail).length ≤ _; rw [toL_length]; omega))
      rw [next_fin] at HX2
      clear hO2
      go_wp2_with fail
      refine HX2.out.mono ?_
      rintro e w10 ⟨K, H2, d2, er, p2, cap2, F10, rfl, hN, hO, hS2⟩
      obtain ⟨rfl, rfl⟩ : K = 3 ∧ er = 0 := by
        obtain ⟨x1, _, _, x4⟩ := hN.out
        rw [next_fin] at x1 x4
        exact ⟨x1, x4⟩
      have hO1 : OB w w10 g M ⟨.nothing, toL tail, false, 1, true⟩ F10 := hO.out
      have al10 : Below w10.heap.size w10 (w10.alloc (.cells #[.int .i64 3, .string (ofL H2.method), .string (ofL H2.target), .int .i64 H2.status, .string (ofL H2.reason), .int .i64 H2.minor, .slice p2 H2.fields.length cap2, .string (ofL d2)] PT)) := (Below.refl _ _).alloc (Nat.le_refl _) _
      have l10a : b9 < w10.heap.size := Nat.lt_of_lt_of_le l9 hS2.out.size
      have m9 : (w10.alloc (.cells #[.int .i64 3, .string (ofL H2.method), .string (ofL H2.target), .int .i64 H2.status, .string (ofL H2.reason), .int .i64 H2.minor, .slice p2 H2.fields.length cap2, .string (ofL d2)] PT)).cell? ⟨b9, 0, none⟩ = some (.int .i64 1) := (al10.cell (p := ⟨b9, 0, none⟩) l10a).trans ((hS2.out.cell l9 n9).trans k9)
      have k10 : (w10.alloc (.cells #[.int .i64 3, .string (ofL H2.method), .string (ofL H2.target), .int .i64 H2.status, .string (ofL H2.reason), .int .i64 H2.minor, .slice p2 H2.fields.length cap2, .string (ofL d2)] PT)).cell? ⟨w10.heap.size, 0, none⟩ = some (.int .i64 3) := ((Has.new w10 PT _).cell 0).trans rfl
      have l10 : w10.heap.size < (w10.alloc (.cells #[.int .i64 3, .string (ofL H2.method), .string (ofL H2.target), .int .i64 H2.status, .string (ofL H2.reason), .int .i64 H2.minor, .slice p2 H2.fields.length cap2, .string (ofL d2)] PT)).heap.size := by simp
      have n10 : ¬ F10 w10.heap.size := fun x => by have := hO1.rdr.lt _ x; omega
      have n10b : ¬ F10 b9 := fun x => by
        rcases hS2.out.grow b9 x with y | y
        · exact n9 y
        · omega
      have hO2 := hO1.call al10
      clear HX2 hN hO hO1 hS2 k9 n9
      dsimp only
      iterate 18 go_step
      generalize w10.alloc (.cells #[.int .i64 3, .string (ofL H2.method), .string (ofL H2.target), .int .i64 H2.status, .string (ofL H2.reason), .int .i64 H2.minor, .slice p2 H2.fields.length cap2, .string (ofL d2)] PT) = W10 at m9 k10 l10 hO2 al10 ⊢
      have l9b : b9 < W10.heap.size := by omega
      generalize w10.heap.size = b10 at k10 l10 n10 l10a al10 ⊢
      have HX3 := Lib.hid (hO2.next hm.out (by show (toL tail).length ≤ _; rw [toL_length]; omega))
      rw [next_nothing] at HX3
      clear hO2 al10
      go_wp2_with fail
      refine HX3.out.mono ?_
      rintro e w11 ⟨K, H3, d3, er, p3, cap3, F11, rfl, hN, hO, hS3⟩
      obtain ⟨rfl, rfl⟩ : K = 0 ∧ er = 0 := by
        obtain ⟨x1, _, _, x4⟩ := hN.out
        rw [next_nothing] at x1 x4
        exact ⟨x1, x4⟩
      have hO1 : OF w w11 g M ⟨.nothing, toL tail, false, 1, true⟩ := ⟨F11, hO.out⟩
      have al11 : Below w11.heap.size w11 (w11.alloc (.cells #[.int .i64 0, .string (ofL H3.method), .string (ofL H3.target), .int .i64 H3.status, .string (ofL H3.reason), .int .i64 H3.minor, .slice p3 H3.fields.length cap3, .string (ofL d3)] PT)) := (Below.refl _ _).alloc (Nat.le_refl _) _
      have r9 : (w11.alloc (.cells #[.int .i64 0, .string (ofL H3.method), .string (ofL H3.target), .int .i64 H3.status, .string (ofL H3.reason), .int .i64 H3.minor, .slice p3 H3.fields.length cap3, .string (ofL d3)] PT)).cell? ⟨b9, 0, none⟩ = some (.int .i64 1) := (al11.cell (p := ⟨b9, 0, none⟩) (Nat.lt_of_lt_of_le l9b hS3.out.size)).trans ((hS3.out.cell l9b n10b).trans m9)
      have r10 : (w11.alloc (.cells #[.int .i64 0, .string (ofL H3.method), .string (ofL H3.target), .int .i64 H3.status, .string (ofL H3.reason), .int .i64 H3.minor, .slice p3 H3.fields.length cap3, .string (ofL d3)] PT)).cell? ⟨b10, 0, none⟩ = some (.int .i64 3) := (al11.cell (p := ⟨b10, 0, none⟩) (Nat.lt_of_lt_of_le l10 hS3.out.size)).trans ((hS3.out.cell l10 n10).trans k10)
      have hO2 := hO1.call al11
      clear HX3 hN hO hO1 hS3 m9 k10 l9b l10 n10 n10b al11 l9 l10a
      dsimp only
      iterate 18 go_step
      generalize w11.alloc (.cells #[.int .i64 0, .string (ofL H3.method), .string (ofL H3.target), .int .i64 H3.status, .string (ofL H3.reason), .int .i64 H3.minor, .slice p3 H3.fields.length cap3, .string (ofL d3)] PT) = W11 at r9 r10 hO2 ⊢
      generalize w11.heap.size = b11
      have HE := Lib.hid hO2.ended
      have HL := Lib.hid (hO2.len (by show (toL tail).length ≤ _; rw [toL_length]; omega))
      dsimp only [doneM] at HE
      dsimp only at HL
      rw [toL_length] at HL
      clear hO2
      go_wp2_with fail
      refine HE.out.mono ?_
      rintro e w12 ⟨rfl, rfl⟩
      clear HE r9 r10
      go_wp2_with fail
      refine HL.out.mono ?_
      rintro e w13 ⟨rfl, hO⟩
      have HR := Lib.hid (hO.reuse (by show (toL tail).length ≤ _; rw [toL_length]; omega))
      rw [hru.out] at HR
      have htl : ((tail.size : Int) == (tail.size : Int)) = true := by simp
      clear HL hO
      go_wp2_with fail
      refine HR.out.mono ?_
      rintro e w14 ⟨rfl, hO⟩
      have HRs := Lib.hid (hO.rest (by show (toL tail).length ≤ _; rw [toL_length]; omega))
      dsimp only at HRs
      rw [ofL_toL] at HRs
      clear HR hO
      rcases hmt with ⟨t1, t2⟩ | ⟨t1, t2⟩
      all_goals
        go_wp2_with fail
        refine HRs.out.mono ?_
        rintro e w15 ⟨rfl, hO⟩
        have HB := Lib.hid hO.below
        clear HRs hO
        go_wp2_with fail
        go_ret
        exact ⟨rfl, HB.out⟩
  all_goals
    go_enter Tryz.func7, Tryz.ntmps7
    go_wp2_with fail
    refine HA.out.mono ?_
    rintro e w1 ⟨rfl, hb1⟩
    have HB := Lib.hid hb1
    clear HA hb1
    go_wp2_with fail
    go_ret
    exact ⟨rfl, HB.out⟩
theorem walk (wh : Int) (_w0 : (Lit.int .i64 wh).wf = true) (fl : Int) (_w1 : (Lit.int .i64 fl).wf = true) (tail : ByteArray) (_w2 : tail.size ≤ maxLen) (_z2 : tail.size ≤ 140737488351232) (W : World) (hsh : W.ShapedOpen Tryz.prog) :
    Calls Tryz.prog 7 #[.int .i64 wh, .int .i64 fl, .string tail] W fun e W' => e = .returned (.bool true) ∧ Below W.heap.size W W' := walkIn wh fl tail W (MaxInt.of_shape hsh)
end Go.Proofs.YtggmafmebocoaaaGreatDoor.OutflowHeadW
