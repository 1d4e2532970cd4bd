/- Texts of this seat, one behind another: PChFit, CutAt, CutLays, PCutLib, HeadCut, FBox, PField8, PChEnd, PChLine, PBuildT, PChPart, PChStr, InEmb, FramePure, HostPure, PathPure, PathForm, PathLen, PEsc, TargetPure, InflowPure. -/
import Derived.Outline
import Derived.LoopTactic
import Derived.Handy
import Derived.Lib.IndexMore
import Derived.Shelf.Strings.Search2
import Derived.Shelf.Strings.Search3
import Derived.Shelf.Strings.Cut
import Derived.Test.YtmlpdhmafmdkcaaGreatDoorProg
import Derived.Lib.IndexBytes
import Derived.Lib.Hide
import Derived.Below
import Derived.RegionTactic
import Derived.ChangeAlike
import Derived.BigRegion
import Derived.Laws.ResultCell
import Derived.Maps.AppendAt
import Derived.Lib.FrozenHead
import Derived.Deep.DeepAppendWide
import Derived.Test.YtmlpdhmafmdkcaaGreatDoorA1
/- Layer 10 of the program: may a byte stand next (fitsSize, fitsTrailer, fits). -/
namespace Go.Proofs.YtmlpdhmafmdkcaaGreatDoor.PChFit
open Go.ChangeShapes Go.WideShapes Go.ChangeAt Go.RowKit Bytes LexPure LexNum ChunkPure ChunkText ChObj Mem Step Ret Rows1 PText PTrim PToken PHex
set_option maxRecDepth 20000
/-- string([]byte{c}) -/
theorem one_text (w : World) (c : UInt8) :
    (Go.convert 46 9 (.slice (some ⟨w.heap.size, 0, none⟩) 1 1)).run Tryz.prog (w.alloc (.cells #[.int .u8 (c.toNat : Int)] 5)) = .ok (.string (ofL [c])) (w.alloc (.cells #[.int .u8 (c.toNat : Int)] 5)) :=
  run_convert_bytes_back _ 46 9 5 ⟨w.heap.size, 0, none⟩ 1 [c] Tryz.underlying46 Tryz.underlying5 Tryz.underlying9 (fun j hj => by
    match j, hj with
    | 0, _ =>
      rw [show (⟨w.heap.size, 0, none⟩ : Addr).add 0 = ⟨w.heap.size, 0, none⟩ by unfold Addr.add; simp]
      exact (Has.new w 5 #[.int .u8 (c.toNat : Int)]).cell 0)
theorem digit_say (c : UInt8) : numOk 16 (min 1 15) [c] = decide (dig c < 16) := by
  unfold numOk
  rw [show (min 1 15 : Int) = 1 from rfl]
  simp
theorem value_one (c : UInt8) : value (trim [c]) = plainB c := by
  have := all_bytes (p := fun c => value (trim [c]) == plainB c) (by decide +kernel) c
  simpa using this
theorem token_one (c : UInt8) : token [c] = markB c := by
  unfold token
  simp
theorem ext_say (c : UInt8) : extB c = decide ((c.toNat : Int) = 9 ∨ (32 ≤ (c.toNat : Int) ∧ (c.toNat : Int) ≤ 126)) := by
  have := all_bytes (p := fun c => extB c == decide ((c.toNat : Int) = 9 ∨ (32 ≤ (c.toNat : Int) ∧ (c.toNat : Int) ≤ 126))) (by decide +kernel) c
  simpa using this
theorem toNat_eq (c : UInt8) (n : UInt8) : (c.toNat : Int) = (n.toNat : Int) ↔ c = n := by
  constructor
  · intro h
    exact UInt8.toNat_inj.1 (by omega)
  · intro h; rw [h]
set_option maxHeartbeats 1600000 in
theorem pfsize_any {w : World} {F : Nat → Prop} {g : Nat} {most : Int} {r : Raw} {v : Value} (h : Cod w F g most r v) (hp : r.part = parted r.line) (hl : r.line.length ≤ 512) (c : UInt8) :
    Calls Tryz.prog 103 #[.pointer (some ⟨g, 0, none⟩), .int .u8 (c.toNat : Int)] w fun e w' => e = .returned (.bool (fitsSize r.line c)) ∧ Below w.heap.size w w' := by
  have d5 := h.c5
  have d4 := h.c4
  obtain ⟨p, cap, rfl⟩ := h.form
  have e59 : (c.toNat : Int) = 59 ↔ c = 59 := toNat_eq c 59
  rw [hp] at d5
  unfold fitsSize
  cases hpt : parted r.line with
  | true =>
    rw [hpt] at d5
    rw [if_pos rfl, ext_say]
    generalize (c.toNat : Int) = x at *
    clear h hp e59 hpt d4
    go_enter Tryz.func103, Tryz.ntmps103
    go_wp2_with fail
    all_goals
      go_ret
      refine ⟨ret_bool ?_, Below.refl _ _⟩
    all_goals by_cases e1 : x = 9 <;> by_cases e2 : 32 ≤ x <;> by_cases e3 : x ≤ 126 <;> first | (exfalso; omega) | simp [e1, e2, e3] | (subst e1; decide)
  | false =>
    rw [hpt] at d5
    rw [if_neg (by decide)]
    by_cases hc : c = 59
    · rw [if_pos hc]
      subst hc
      have hq : (!r.line.isEmpty) = decide (0 < r.line.length) := by cases r.line <;> simp
      rw [hq]
      clear h hp e59 hpt hq
      go_enter Tryz.func103, Tryz.ntmps103
      go_wp2_with fail
      go_ret
      exact ⟨rfl, Below.refl _ _⟩
    · rw [if_neg hc]
      have hx : ¬ (c.toNat : Int) = 59 := fun h => hc (e59.1 h)
      have HC := one_text w c
      have HH := Lib.hid (fun w => (phex_any (ofL [c]) (by rw [ofL_size, List.length_singleton]; decide) 1 w))
      rw [toL_ofL, digit_say] at HH
      have HB := Lib.hid ((Below.refl w.heap.size w).alloc (Nat.le_refl _) (.cells #[.int .u8 (c.toNat : Int)] 5))
      have HD := fun w' hb => Lib.hid ((h.below (w' := w') hb).c4)
      replace HD := Lib.hid HD
      generalize (c.toNat : Int) = x at *
      generalize hdd : decide (dig c < 16) = dd at *
      generalize numR 16 (min 1 15) [c] = nn at *
      clear h hp e59 hpt hc hdd
      go_enter Tryz.func103, Tryz.ntmps103
      go_wp2_with fail
      refine (HH.out _).mono ?_
      rintro e w' ⟨rfl, rfl⟩
      have d6 := (HD.out _ HB.out).out
      generalize w.alloc (.cells #[.int .u8 x] 5) = W at *
      clear HH HC HD d4 d5
      cases dd with
      | true =>
        go_wp2_with fail
        go_ret
        exact ⟨ret_bool (by rw [Bool.true_and]; exact decide_eq_decide.2 (by omega)), HB.out⟩
      | false =>
        go_wp2_with fail
        go_ret
        exact ⟨rfl, HB.out⟩
set_option maxHeartbeats 1600000 in
theorem pftrail_any {w : World} {F : Nat → Prop} {g : Nat} {most : Int} {r : Raw} {v : Value} (h : Cod w F g most r v) (hp : r.part = parted r.line) (_hl : r.line.length ≤ 512) (c : UInt8) :
    Calls Tryz.prog 104 #[.pointer (some ⟨g, 0, none⟩), .int .u8 (c.toNat : Int)] w fun e w' => e = .returned (.bool (fitsTrail r.line c)) ∧ Below w.heap.size w w' := by
  obtain ⟨p, cap, rfl⟩ := h.form
  have e58 : (c.toNat : Int) = 58 ↔ c = 58 := toNat_eq c 58
  have HC := one_text w c
  have HB := Lib.hid ((Below.refl w.heap.size w).alloc (Nat.le_refl _) (.cells #[.int .u8 (c.toNat : Int)] 5))
  have hk := h.below HB.out
  have d5 := hk.c5
  have d4 := hk.c4
  have q5 := h.c5
  have HT := Lib.hid (fun w => (ptoken_any (ofL [c]) (by rw [ofL_size, List.length_singleton]; decide) w))
  have HM := Lib.hid (fun w => (ptrim_any (ofL [c]) (by rw [ofL_size, List.length_singleton]; decide) w))
  have HV := Lib.hid (fun w => (pvalue_any (ofL (trim [c])) (by rw [ofL_size]; have := trim_length [c]; simp only [List.length_singleton] at this; unfold maxLen; omega) w))
  rw [toL_ofL, token_one] at HT
  rw [toL_ofL] at HM
  rw [toL_ofL, value_one] at HV
  rw [hp] at d5 q5
  unfold fitsTrail
  cases hpt : parted r.line with
  | true =>
    rw [hpt] at d5 q5
    rw [if_pos rfl]
    generalize (c.toNat : Int) = x at *
    clear h hk hp e58 hpt d4 HT
    go_enter Tryz.func104, Tryz.ntmps104
    go_wp2_with fail
    refine (HM.out _).mono ?_
    rintro e w1 ⟨rfl, hb1⟩
    go_wp2_with fail
    refine (HV.out _).mono ?_
    rintro e w2 ⟨rfl, hb2⟩
    go_wp2_with fail
    go_ret
    exact ⟨rfl, below_chain HB.out (below_chain hb1 hb2)⟩
  | false =>
    rw [hpt] at d5 q5
    rw [if_neg (by decide)]
    by_cases hc : c = 58
    · rw [if_pos hc]
      have hx : (c.toNat : Int) = 58 := e58.2 hc
      rw [hx] at HC HB d4 d5 ⊢
      have hq : (!r.line.isEmpty) = decide (0 < r.line.length) := by cases r.line <;> simp
      rw [hq]
      clear h hk hp e58 hpt hq HT HM HV
      go_enter Tryz.func104, Tryz.ntmps104
      go_wp2_with fail
      go_ret
      exact ⟨rfl, HB.out⟩
    · rw [if_neg hc]
      have hx : ¬ (c.toNat : Int) = 58 := fun h => hc (e58.1 h)
      generalize (c.toNat : Int) = x at *
      generalize markB c = mk at *
      clear h hk hp e58 hpt hc HM HV
      go_enter Tryz.func104, Tryz.ntmps104
      go_wp2_with fail
      refine (HT.out _).mono ?_
      rintro e w1 ⟨rfl, rfl⟩
      go_wp2_with fail
      go_ret
      exact ⟨rfl, HB.out⟩
set_option maxHeartbeats 1600000 in
theorem pfits_any {w : World} {F : Nat → Prop} {g : Nat} {r : Raw} {v : Value} {m : M} (h : Cod w F g m.most r v) (hr : Rel r m) (hl : m.line.length ≤ 512) (c : UInt8) :
    Calls Tryz.prog 83 #[.pointer (some ⟨g, 0, none⟩), .int .u8 (c.toNat : Int)] w fun e w' => e = .returned (.bool (fits m.ph m.line c)) ∧ Below w.heap.size w w' := by
  have d2 := h.c2
  have d4 := h.c4
  obtain ⟨p, cap, rfl⟩ := h.form
  have hpt : r.part = parted r.line := by rw [hr.part, hr.line]
  have HS := Lib.hid (pfsize_any h hpt (by rw [hr.line]; exact hl) c)
  have HT := Lib.hid (pftrail_any h hpt (by rw [hr.line]; exact hl) c)
  rw [hr.next] at d2
  rw [hr.line] at d4 HS HT
  generalize (c.toNat : Int) = x at *
  clear hpt h hl
  unfold fits
  cases hph : m.ph with
  | size =>
    rw [hph] at d2
    unfold phN at d2
    clear hr hph HT
    dsimp only at d2 ⊢
    rcases Nat.lt_or_ge m.line.length 64 with h1 | h1
    · have h2 : (m.line.length : Int) < 64 := by omega
      rw [decide_eq_true h1, Bool.true_and]
      go_enter Tryz.func83, Tryz.ntmps83
      go_wp2_with fail
      refine HS.out.mono ?_
      rintro e w' ⟨rfl, hb⟩
      go_wp2_with fail
      go_ret
      exact ⟨rfl, hb⟩
    · have h2 : ¬ (m.line.length : Int) < 64 := by omega
      rw [decide_eq_false (by omega), Bool.false_and]
      go_enter Tryz.func83, Tryz.ntmps83
      go_wp2_with fail
      go_ret
      exact ⟨rfl, Below.refl _ _⟩
  | trail n =>
    rw [hph] at d2
    unfold phN at d2
    clear hr hph HS
    dsimp only at d2 ⊢
    rcases Nat.lt_or_ge m.line.length 512 with h1 | h1
    · have h2 : (m.line.length : Int) < 512 := by omega
      rw [decide_eq_true h1, Bool.true_and]
      go_enter Tryz.func83, Tryz.ntmps83
      go_wp2_with fail
      refine HT.out.mono ?_
      rintro e w' ⟨rfl, hb⟩
      go_wp2_with fail
      go_ret
      exact ⟨rfl, hb⟩
    · have h2 : ¬ (m.line.length : Int) < 512 := by omega
      rw [decide_eq_false (by omega), Bool.false_and]
      go_enter Tryz.func83, Tryz.ntmps83
      go_wp2_with fail
      go_ret
      exact ⟨rfl, Below.refl _ _⟩
  | data n =>
    rw [hph] at d2
    unfold phN at d2
    clear hr hph HS HT
    dsimp only at d2 ⊢
    go_enter Tryz.func83, Tryz.ntmps83
    go_wp2_with fail
    go_ret
    exact ⟨rfl, Below.refl _ _⟩
  | after =>
    rw [hph] at d2
    unfold phN at d2
    clear hr hph HS HT
    dsimp only at d2 ⊢
    go_enter Tryz.func83, Tryz.ntmps83
    go_wp2_with fail
    go_ret
    exact ⟨rfl, Below.refl _ _⟩
  | done =>
    rw [hph] at d2
    unfold phN at d2
    clear hr hph HS HT
    dsimp only at d2 ⊢
    go_enter Tryz.func83, Tryz.ntmps83
    go_wp2_with fail
    go_ret
    exact ⟨rfl, Below.refl _ _⟩
  | bad n =>
    rw [hph] at d2
    unfold phN at d2
    clear hr hph HS HT
    dsimp only at d2 ⊢
    go_enter Tryz.func83, Tryz.ntmps83
    go_wp2_with fail
    go_ret
    exact ⟨rfl, Below.refl _ _⟩
end Go.Proofs.YtmlpdhmafmdkcaaGreatDoor.PChFit

/- A text cut at its first byte of a kind: ahead of it, behind it. No program is named. -/
namespace Go.Proofs.YtmlpdhmafmdkcaaGreatDoor.CutAt
open Bytes
def aheadOf (x : UInt8) (s : List UInt8) : List UInt8 := s.takeWhile (fun c => c != x)
def behind (x : UInt8) (s : List UInt8) : List UInt8 := (s.dropWhile (fun c => c != x)).tail
def hasB (x : UInt8) (s : List UInt8) : Bool := s.any (fun c => c == x)
theorem index_tail (x : UInt8) (c : UInt8) (l : List UInt8) (h : (c == x) = false) : Go.Lib.index (c :: l) [x] = if Go.Lib.index l [x] == -1 then -1 else Go.Lib.index l [x] + 1 := by
  have hp : ([x] : List UInt8).isPrefixOf (c :: l) = false := by
    have : ¬ x = c := fun e => by rw [← e, beq_self_eq_true] at h; cases h
    simp [List.isPrefixOf, this]
  rw [Go.Lib.index, hp]
  rfl
theorem cut_say (x : UInt8) (s : List UInt8) : (Go.Lib.cut s [x]).1 = aheadOf x s ∧ (Go.Lib.cut s [x]).2.1 = behind x s ∧ (Go.Lib.cut s [x]).2.2 = hasB x s := by
  unfold aheadOf behind hasB Go.Lib.cut
  induction s with
  | nil =>
    have : Go.Lib.index [] [x] = -1 := by simp [Go.Lib.index]
    rw [this]
    exact ⟨rfl, rfl, rfl⟩
  | cons c l ih =>
    by_cases hc : c = x
    · subst hc
      have hix : Go.Lib.index (c :: l) [c] = 0 := by rw [Go.Lib.index]; simp [List.isPrefixOf]
      rw [hix]
      simp
    · have hq : (c == x) = false := by simpa using hc
      have hn : (c != x) = true := by simp [hc]
      rw [index_tail x c l hq, List.takeWhile_cons, hn, List.dropWhile_cons, hn, List.any_cons, hq]
      have hge := Go.Lib.index_ge l [x]
      by_cases hm : Go.Lib.index l [x] = -1
      · rw [hm] at ih ⊢
        simp at ih ⊢
        exact ⟨ih.1, ih.2⟩
      · obtain ⟨i, hi⟩ : ∃ i : Nat, Go.Lib.index l [x] = i := ⟨(Go.Lib.index l [x]).toNat, by omega⟩
        rw [hi] at ih ⊢
        have h1 : ((i : Int) == -1) = false := beq_eq_false_iff_ne.2 (by omega)
        have h3 : ((i : Int) + 1).toNat = i + 1 := by omega
        have h4 : (0 : Int) ≤ (i : Int) + 1 := by omega
        have h5 : (0 : Int) ≤ (i : Int) := by omega
        simp only [h1, h3, h4, h5, if_true, Bool.false_eq_true, if_false, Bool.false_or] at ih ⊢
        rw [show i + 1 + ([x] : List UInt8).length = (i + [x].length) + 1 from rfl, List.take_succ_cons, List.drop_succ_cons]
        exact ⟨by rw [← ih.1]; simp, ih.2.1, ih.2.2⟩
end Go.Proofs.YtmlpdhmafmdkcaaGreatDoor.CutAt

/-
  DERIVED: THE SHELF's CONTRACTS AT THIS DUMP, IN PLAIN WORDS (tools/lay-plain.mjs out of 'YtmlpdhmafmdkcaaGreatDoorCutLaysT.lean', which tools/lay-shelf.mjs wrote): THE SAME DECLARATIONS UNDER THE SAME NAMES: 'import', 'namespace', 'open', 'def', 'theorem' AND NOTHING ELSE: no command of the shelf's: FOR A HAND-IN. Each laying: the table of numbers ('.._ren') and one theorem, a field a fact of the dump's own or the kernel's comparison; each contract: ONE APPLICATION.
-/
namespace Go.Proofs
open Go.Shelf
def Tryz.lays219_ren : Go.Shelf.Ren := ⟨fun | 219 => 86 | 217 => 107 | 225 => 108 | 224 => 109 | 267 => 110 | 266 => 127 | 314 => 128 | n => n, fun | 9 => 9 | 3 => 3 | 4 => 4 | 5 => 5 | 46 => 148 | 146 => 161 | 51 => 160 | n => n, fun | 1 => 0 | n => n⟩
theorem Tryz.lays219 : Go.Proofs.Lays.n219 Tryz.prog Tryz.lays219_ren := {
  mixed := by kernel_rfl
  f217 := Tryz.func107.trans (congrArg some (by kernel_rfl))
  f219 := Tryz.func86.trans (congrArg some (by kernel_rfl))
  f224 := Tryz.func109.trans (congrArg some (by kernel_rfl))
  f225 := Tryz.func108.trans (congrArg some (by kernel_rfl))
  f266 := Tryz.func127.trans (congrArg some (by kernel_rfl))
  f267 := Tryz.func110.trans (congrArg some (by kernel_rfl))
  f314 := Tryz.func128.trans (congrArg some (by kernel_rfl))
  t3 := Tryz.underlying3
  a3 := Tryz.isAgg3
  z3 := Tryz.sizeOf3
  v3 := Tryz.zeroValue3
  t4 := Tryz.underlying4
  a4 := Tryz.isAgg4
  z4 := Tryz.sizeOf4
  v4 := Tryz.zeroValue4
  t5 := Tryz.underlying5
  a5 := Tryz.isAgg5
  z5 := Tryz.sizeOf5
  v5 := Tryz.zeroValue5
  t9 := Tryz.underlying9
  a9 := Tryz.isAgg9
  z9 := Tryz.sizeOf9
  v9 := Tryz.zeroValue9
  t46 := Tryz.underlying148
  a46 := Tryz.isAgg148
  z46 := Tryz.sizeOf148
  v46 := Tryz.zeroValue148
  t51 := Tryz.underlying160
  a51 := Tryz.isAgg160
  z51 := Tryz.sizeOf160
  v51 := Tryz.zeroValue160
  t146 := Tryz.underlying161
  a146 := Tryz.isAgg161
  z146 := Tryz.sizeOf161
  v146 := Tryz.zeroValue161
  g1 := by kernel_rfl }
def Tryz.lays144_ren : Go.Shelf.Ren := ⟨fun | 144 => 96 | 143 => 118 | 219 => 86 | 217 => 107 | 225 => 108 | 224 => 109 | 267 => 110 | 266 => 127 | 314 => 128 | n => n, fun | 9 => 9 | 4 => 4 | 3 => 3 | 5 => 5 | 46 => 148 | 146 => 161 | 51 => 160 | n => n, fun | 1 => 0 | n => n⟩
theorem Tryz.lays144 : Go.Proofs.Lays.n144 Tryz.prog Tryz.lays144_ren := {
  mixed := by kernel_rfl
  f143 := Tryz.func118.trans (congrArg some (by kernel_rfl))
  f144 := Tryz.func96.trans (congrArg some (by kernel_rfl))
  f217 := Tryz.func107.trans (congrArg some (by kernel_rfl))
  f219 := Tryz.func86.trans (congrArg some (by kernel_rfl))
  f224 := Tryz.func109.trans (congrArg some (by kernel_rfl))
  f225 := Tryz.func108.trans (congrArg some (by kernel_rfl))
  f266 := Tryz.func127.trans (congrArg some (by kernel_rfl))
  f267 := Tryz.func110.trans (congrArg some (by kernel_rfl))
  f314 := Tryz.func128.trans (congrArg some (by kernel_rfl))
  t3 := Tryz.underlying3
  a3 := Tryz.isAgg3
  z3 := Tryz.sizeOf3
  v3 := Tryz.zeroValue3
  t4 := Tryz.underlying4
  a4 := Tryz.isAgg4
  z4 := Tryz.sizeOf4
  v4 := Tryz.zeroValue4
  t5 := Tryz.underlying5
  a5 := Tryz.isAgg5
  z5 := Tryz.sizeOf5
  v5 := Tryz.zeroValue5
  t9 := Tryz.underlying9
  a9 := Tryz.isAgg9
  z9 := Tryz.sizeOf9
  v9 := Tryz.zeroValue9
  t46 := Tryz.underlying148
  a46 := Tryz.isAgg148
  z46 := Tryz.sizeOf148
  v46 := Tryz.zeroValue148
  t51 := Tryz.underlying160
  a51 := Tryz.isAgg160
  z51 := Tryz.sizeOf160
  v51 := Tryz.zeroValue160
  t146 := Tryz.underlying161
  a146 := Tryz.isAgg161
  z146 := Tryz.sizeOf161
  v146 := Tryz.zeroValue161
  g1 := by kernel_rfl }
end Go.Proofs

/- strings.Cut at a piece of one byte, at whatever size. -/
namespace Go.Proofs.YtmlpdhmafmdkcaaGreatDoor.PCutLib
open Go.ChangeShapes Go.WideShapes Go.ChangeAt Go.RowKit Bytes Ret CutAt
set_option maxRecDepth 20000
theorem lib_at (x : UInt8) (s : ByteArray) (w : World) :
    Calls Tryz.prog 86 #[.string s, .string ⟨#[x]⟩] w fun e w' => e = .returned (.int .i64 (Lib.index (toL s) [x])) ∧ w' = w := by
  have h := Any.stringslite_Index_one Tryz.lays219 s x w
  rw [← Lib.index_one] at h
  exact h
theorem ret_cut {a b c d : ByteArray} {p q : Bool} (h : a = c) (k : b = d) (l : p = q) : Ending.returned (.tuple #[.string a, .string b, .bool p]) = .returned (.tuple #[.string c, .string d, .bool q]) := by rw [h, k, l]
theorem lite_cut (x : UInt8) (s : ByteArray) (hs : s.size ≤ 140737488351232) (w : World) :
    Calls Tryz.prog 66 #[.string s, .string ⟨#[x]⟩] w fun e w' => e = .returned (.tuple #[.string (ofL (aheadOf x (toL s))), .string (ofL (behind x (toL s))), .bool (hasB x (toL s))]) ∧ Below w.heap.size w w' := by
  have HI := Lib.hid (fun w => lib_at x s w)
  obtain ⟨h1, h2, h3⟩ := cut_say x (toL s)
  unfold Lib.cut at h1 h2 h3
  have hge := Lib.index_ge (toL s) [x]
  have hle := Lib.index_le (toL s) [x]
  by_cases hm : Lib.index (toL s) [x] = -1
  · rw [hm] at h1 h2 h3 HI
    have HA : Hid (s = ofL (aheadOf x (toL s))) := Lib.hid (by rw [← h1]; exact (ofL_toL s).symm)
    have HB : Hid ((⟨#[]⟩ : ByteArray) = ofL (behind x (toL s))) := Lib.hid (by rw [← h2]; rfl)
    have HQ : Hid (false = hasB x (toL s)) := Lib.hid (by rw [← h3]; rfl)
    clear h1 h2 h3 hge hle hm
    go_enter Tryz.func66, Tryz.ntmps66
    go_wp2_with fail
    refine (HI.out _).mono ?_
    rintro e w' ⟨rfl, rfl⟩
    go_wp2_with fail
    go_ret3
    exact ⟨ret_cut HA.out HB.out HQ.out, Below.refl _ _⟩
  · obtain ⟨i, hi⟩ : ∃ i : Nat, Lib.index (toL s) [x] = i := ⟨(Lib.index (toL s) [x]).toNat, by omega⟩
    rw [hi] at h1 h2 h3 HI
    have hp : (0 : Int) ≤ (i : Int) := by omega
    simp only [hp, if_true, Int.toNat_natCast, List.length_singleton] at h1 h2 h3
    have hlt : i < s.size := by
      rcases Nat.lt_or_ge i (toL s).length with h | h
      · rwa [toL_length] at h
      · exfalso
        have e1 : aheadOf x (toL s) = toL s := by rw [← h1, List.take_of_length_le h]
        have e2 : hasB x (toL s) = true := h3.symm
        unfold aheadOf at e1
        unfold hasB at e2
        rw [List.any_eq_true] at e2
        obtain ⟨c, hc, hq⟩ := e2
        have hall : (toL s).all (fun c => c != x) = true := by
          rw [← e1]
          exact List.all_takeWhile
        have := List.all_eq_true.1 hall c hc
        simp only [bne_iff_ne, ne_eq, beq_iff_eq] at this hq
        exact this hq
    have HA : Hid (s.extract 0 i = ofL (aheadOf x (toL s))) := Lib.hid (toL_inj (by rw [toL_extract, toL_ofL, ← h1, List.drop_zero]))
    have HB : Hid (s.extract (i + 1) s.size = ofL (behind x (toL s))) := Lib.hid (toL_inj (by rw [toL_extract, toL_ofL, ← h2, List.take_of_length_le (by rw [toL_length]; exact Nat.le_refl _)]))
    have HQ : Hid (true = hasB x (toL s)) := Lib.hid h3
    have c1 : (i : Int) ≤ (s.size : Int) := by omega
    have c2 : (i : Int) + 1 ≤ (s.size : Int) := by omega
    have c3 : (0 : Int) ≤ (i : Int) + 1 := by omega
    have c4 : (s.size : Int) ≤ 140737488351232 := by omega
    clear h1 h2 h3 hge hle hm hi hlt
    go_enter Tryz.func66, Tryz.ntmps66
    go_wp2_with fail
    refine (HI.out _).mono ?_
    rintro e w' ⟨rfl, rfl⟩
    go_wp2_with fail
    go_region
    go_wp2_with fail
    go_ret3
    exact ⟨ret_cut HA.out HB.out HQ.out, ⟨rfl, rfl, rfl, Nat.le_refl _, fun _ _ => rfl⟩⟩
theorem full_cut (x : UInt8) (s : ByteArray) (hs : s.size ≤ 140737488351232) (w : World) :
    Calls Tryz.prog 45 #[.string s, .string ⟨#[x]⟩] w fun e w' => e = .returned (.tuple #[.string (ofL (aheadOf x (toL s))), .string (ofL (behind x (toL s))), .bool (hasB x (toL s))]) ∧ Below w.heap.size w w' := by
  have H := Lib.hid (lite_cut x s hs)
  clear hs
  go_enter Tryz.func45, Tryz.ntmps45
  go_wp2_with fail
  refine (H.out _).mono ?_
  rintro e w' ⟨rfl, hb⟩
  go_wp2_with fail
  go_ret3
  exact ⟨rfl, hb⟩
end Go.Proofs.YtmlpdhmafmdkcaaGreatDoor.PCutLib

/- Layer 8, lines cut at blanks, at a dot, at a colon: another way to the same answers. No program is named. -/
namespace Go.Proofs.YtmlpdhmafmdkcaaGreatDoor.HeadCut
open Bytes LexPure LexNum FieldsPure HeadPure CutAt
set_option maxRecDepth 20000
theorem cut_drop (x : UInt8) : ∀ s : List UInt8, behind x s = s.drop ((aheadOf x s).length + 1)
  | [] => rfl
  | c :: s => by
    unfold behind aheadOf
    rw [List.dropWhile_cons, List.takeWhile_cons]
    split
    · rw [List.length_cons, List.drop_succ_cons]
      exact cut_drop x s
    · rfl
theorem ahead_take (x : UInt8) : ∀ s : List UInt8, aheadOf x s = s.take (aheadOf x s).length
  | [] => rfl
  | c :: s => by
    unfold aheadOf
    rw [List.takeWhile_cons]
    split
    · rw [List.length_cons, List.take_succ_cons]
      exact congrArg _ (ahead_take x s)
    · rfl
theorem cut_at {x : UInt8} {b : List UInt8} : ∀ {a : List UInt8}, (∀ c ∈ a, c ≠ x) → aheadOf x (a ++ x :: b) = a ∧ behind x (a ++ x :: b) = b ∧ hasB x (a ++ x :: b) = true
  | [], _ => by simp [aheadOf, behind, hasB]
  | c :: a, h => by
    have hc : (c != x) = true := bne_iff_ne.2 (h c (List.mem_cons_self))
    obtain ⟨h1, h2, h3⟩ := cut_at (b := b) (a := a) (fun d hd => h d (List.mem_cons_of_mem _ hd))
    unfold aheadOf behind hasB at *
    rw [List.cons_append, List.takeWhile_cons, if_pos hc, List.dropWhile_cons, if_pos hc, List.any_cons, h1, h2, h3, Bool.or_true]
    exact ⟨rfl, rfl, rfl⟩
theorem cut_none {x : UInt8} : ∀ {a : List UInt8}, (∀ c ∈ a, c ≠ x) → aheadOf x a = a ∧ behind x a = [] ∧ hasB x a = false
  | [], _ => ⟨rfl, rfl, rfl⟩
  | c :: a, h => by
    have hc : (c != x) = true := bne_iff_ne.2 (h c (List.mem_cons_self))
    have hq : (c == x) = false := beq_eq_false_iff_ne.2 (h c (List.mem_cons_self))
    obtain ⟨h1, h2, h3⟩ := cut_none (a := a) (fun d hd => h d (List.mem_cons_of_mem _ hd))
    unfold aheadOf behind hasB at *
    rw [List.takeWhile_cons, if_pos hc, List.dropWhile_cons, if_pos hc, List.any_cons, h1, h2, h3, hq]
    exact ⟨rfl, rfl, rfl⟩
theorem cut_or (x : UInt8) : ∀ s : List UInt8, (∃ a b, s = a ++ x :: b ∧ ∀ c ∈ a, c ≠ x) ∨ (∀ c ∈ s, c ≠ x)
  | [] => .inr (fun c h => by cases h)
  | c :: s => by
    by_cases hc : c = x
    · exact .inl ⟨[], s, by rw [hc]; rfl, fun d h => by cases h⟩
    · rcases cut_or x s with ⟨a, b, h, h2⟩ | h
      · exact .inl ⟨c :: a, b, by rw [h]; rfl, fun d hd => by rcases List.mem_cons.1 hd with rfl | hd; exact hc; exact h2 d hd⟩
      · exact .inr (fun d hd => by rcases List.mem_cons.1 hd with rfl | hd; exact hc; exact h d hd)
theorem dig_digit (c : UInt8) : decide (dig c < 10) = digitB c ∧ (digitB c = true → (dig c : Int) = (c.toNat : Int) - 48 ∧ c ≠ 32) := by
  have := all_bytes (p := fun c => decide (decide (dig c < 10) = digitB c ∧ (digitB c = true → (dig c : Int) = (c.toNat : Int) - 48 ∧ c ≠ 32))) (by decide +kernel) c
  exact of_decide_eq_true this
/-! ### the version -/
theorem one_digit (f : List UInt8) : numOk 10 1 f = true ↔ ∃ a, f = [a] ∧ digitB a = true := by
  unfold numOk
  cases f with
  | nil => simp
  | cons a f =>
    cases f with
    | nil => simp [(dig_digit a).1.symm]
    | cons b f => simp; omega
theorem one_worth {a : UInt8} (h : digitB a = true) : numR 10 1 [a] = (a.toNat : Int) - 48 := by
  unfold numR
  rw [(one_digit [a]).2 ⟨a, rfl, h⟩, ← ((dig_digit a).2 h).1]
  simp [numV]
def HTTPS : List UInt8 := [72, 84, 84, 80, 47]
def verR (s : List UInt8) : List UInt8 := if HTTPS.isPrefixOf s = true then s.drop 5 else s
def verP (s : List UInt8) : Int × Int :=
  if HTTPS.isPrefixOf s = true ∧ numOk 10 1 (aheadOf 46 (verR s)) = true ∧ numOk 10 1 (behind 46 (verR s)) = true then (if numR 10 1 (aheadOf 46 (verR s)) = 1 then (numR 10 1 (behind 46 (verR s)), 0) else (0, 81)) else (0, 80)
theorem version_prog (s : List UInt8) : version8 s = verP s := by
  by_cases h : HTTPS.isPrefixOf s = true ∧ numOk 10 1 (aheadOf 46 (verR s)) = true ∧ numOk 10 1 (behind 46 (verR s)) = true
  · have hv : verR s = s.drop 5 := by unfold verR; rw [if_pos h.1]
    unfold verP
    rw [if_pos h]
    rw [hv] at h ⊢
    obtain ⟨h1, h2, h3⟩ := h
    obtain ⟨a, e2, d2⟩ := (one_digit _).1 h2
    obtain ⟨b, e3, d3⟩ := (one_digit _).1 h3
    obtain ⟨t, ht⟩ := List.isPrefixOf_iff_prefix.1 h1
    have hs : s = HTTPS ++ [a, 46, b] := by
      rw [← ht] at e2 e3 ⊢
      have hd : (HTTPS ++ t).drop 5 = t := rfl
      rw [hd] at e2 e3
      rcases cut_or 46 t with ⟨x, y, hxy, hx⟩ | hx
      · have := cut_at (b := y) hx
        rw [← hxy] at this
        rw [hxy, ← this.1, ← this.2.1, e2, e3]
        rfl
      · rw [(cut_none hx).2.1] at e3
        cases e3
    rw [e2, e3, one_worth d2, one_worth d3, hs]
    show (if _ then _ else _) = _
    rw [if_pos ⟨rfl, rfl, rfl, rfl, rfl, rfl, d2, d3⟩]
    by_cases h1 : a = 49
    · subst h1
      rw [if_pos rfl, if_pos (by decide)]
    · rw [if_neg h1, if_neg]
      intro h
      exact h1 (UInt8.toNat_inj.1 (by show a.toNat = 49; omega))
  · unfold verP
    rw [if_neg h]
    unfold version8
    split
    · rename_i c1 c2 c3 c4 c5 a c6 b
      rw [if_neg]
      rintro ⟨rfl, rfl, rfl, rfl, rfl, rfl, d2, d3⟩
      refine h ⟨rfl, ?_⟩
      have hv : verR [72, 84, 84, 80, 47, a, 46, b] = [a] ++ 46 :: [b] := by
        unfold verR
        rw [if_pos (show HTTPS.isPrefixOf [72, 84, 84, 80, 47, a, 46, b] = true from rfl)]
        rfl
      have ha : ∀ c ∈ [a], c ≠ 46 := by
        intro c hc
        rw [List.mem_singleton] at hc
        subst hc
        intro e
        subst e
        exact absurd d2 (by decide)
      obtain ⟨e1, e2, _⟩ := cut_at (b := [b]) ha
      rw [hv, e1, e2]
      exact ⟨(one_digit _).2 ⟨a, rfl, d2⟩, (one_digit _).2 ⟨b, rfl, d3⟩⟩
    · rfl
/-- a version of its form has eight bytes and no blank -/
theorem version_form {s : List UInt8} (h : (version8 s).2 ≠ 80) : s.length = 8 ∧ ∀ c ∈ s, c ≠ 32 := by
  unfold version8 at h
  split at h
  · rename_i c1 c2 c3 c4 c5 a c6 b
    by_cases hc : c1 = 72 ∧ c2 = 84 ∧ c3 = 84 ∧ c4 = 80 ∧ c5 = 47 ∧ c6 = 46 ∧ digitB a = true ∧ digitB b = true
    · obtain ⟨rfl, rfl, rfl, rfl, rfl, rfl, d2, d3⟩ := hc
      refine ⟨rfl, ?_⟩
      have ha := ((dig_digit a).2 d2).2
      have hb := ((dig_digit b).2 d3).2
      intro c hc
      simp only [List.mem_cons, List.not_mem_nil, or_false] at hc
      rcases hc with rfl | rfl | rfl | rfl | rfl | rfl | rfl | rfl <;> first | exact ha | exact hb | decide
    · rw [if_neg hc] at h
      exact absurd rfl h
  · exact absurd rfl h
theorem version_nil : version8 [] = (0, 80) := rfl
/-! ### the start line -/
def startP (l : List UInt8) : H8 × Int :=
  if (aheadOf 32 l).length ≤ 16 ∧ token (aheadOf 32 l) = true ∧ (aheadOf 32 (behind 32 l)).all seenB = true ∧ aheadOf 32 (behind 32 l) ≠ [] then
    (if (version8 (behind 32 (behind 32 l))).2 = 0 then (⟨aheadOf 32 l, aheadOf 32 (behind 32 l), 0, [], (version8 (behind 32 (behind 32 l))).1, []⟩, 0) else (zero8, (version8 (behind 32 (behind 32 l))).2))
  else (zero8, 80)
theorem start_prog (l : List UInt8) : start8 l = startP l := by
  unfold start8 startP
  rw [show upB l = aheadOf 32 l from rfl, ← cut_drop]
  generalize hr : behind 32 l = r
  simp only
  rw [show upB r = aheadOf 32 r from rfl, ← cut_drop]
  have hlr : (aheadOf 32 l).length < l.length ∨ r = [] := by
    rw [← hr, cut_drop]
    rcases Nat.lt_or_ge (aheadOf 32 l).length l.length with h | h
    · exact .inl h
    · exact .inr (List.drop_eq_nil_of_le (by omega))
  have hlv : (aheadOf 32 r).length < r.length ∨ version8 (behind 32 r) = (0, 80) := by
    rcases Nat.lt_or_ge (aheadOf 32 r).length r.length with h | h
    · exact .inl h
    · exact .inr (by rw [cut_drop, List.drop_eq_nil_of_le (by omega)]; rfl)
  have hpos : 0 < (aheadOf 32 r).length ↔ aheadOf 32 r ≠ [] := List.length_pos_iff
  by_cases h1 : (aheadOf 32 l).length ≤ 16 ∧ token (aheadOf 32 l) = true ∧ (aheadOf 32 r).all seenB = true ∧ aheadOf 32 r ≠ []
  · rw [if_pos h1]
    obtain ⟨a1, a2, a3, a4⟩ := h1
    have hl : (aheadOf 32 l).length < l.length := by
      rcases hlr with h | h
      · exact h
      · rw [h] at a4; exact absurd rfl a4
    rw [if_pos (show (aheadOf 32 l).length < l.length ∧ (aheadOf 32 l).length ≤ 16 ∧ token (aheadOf 32 l) = true from ⟨hl, a1, a2⟩)]
    rcases hlv with h | h
    · rw [if_pos (show (aheadOf 32 r).length < r.length ∧ 0 < (aheadOf 32 r).length ∧ (aheadOf 32 r).all seenB = true from ⟨h, hpos.2 a4, a3⟩)]
    · rw [h]
      simp
  · rw [if_neg h1]
    by_cases h2 : (aheadOf 32 l).length < l.length ∧ (aheadOf 32 l).length ≤ 16 ∧ token (aheadOf 32 l) = true
    · rw [if_pos h2, if_neg]
      rintro ⟨_, b2, b3⟩
      exact h1 ⟨h2.2.1, h2.2.2, b3, hpos.1 b2⟩
    · rw [if_neg h2]
/-! ### the status line -/
theorem plain_blank (c : UInt8) (h : blankB c = true) : plainB c = true := by
  have := all_bytes (p := fun c => !blankB c || plainB c) (by decide +kernel) c
  rw [h] at this
  simpa using this
theorem drop_plain (s : List UInt8) : (s.dropWhile blankB).all plainB = s.all plainB := by
  induction s with
  | nil => rfl
  | cons c s ih =>
    rw [List.dropWhile_cons]
    split
    · rename_i h
      rw [ih, List.all_cons, plain_blank c h, Bool.true_and]
    · rfl
theorem trim_plain (s : List UInt8) : (trim s).all plainB = s.all plainB := by
  unfold trim
  rw [List.all_reverse, drop_plain, List.all_reverse, drop_plain]
theorem value_trim' (s : List UInt8) : value (trim s) = s.all plainB := by
  unfold value
  rw [trim_plain]
  cases h : s.all plainB with
  | false => rfl
  | true =>
    rw [Bool.true_and]
    cases ht : trim s with
    | nil => rfl
    | cons c r =>
      have h1 : blankB c = false := trim_head c r ht
      have h2 : blankB ((c :: r).getLastD 0) = false := by
        rw [List.getLastD_eq_getLast?, ← List.head?_reverse]
        cases hr : (c :: r).reverse with
        | nil => simp at hr
        | cons d t =>
          exact trim_last d t (by rw [ht]; exact hr)
      rw [List.headD_cons, h1, h2]
      rfl
def statusP (l : List UInt8) : H8 × Int :=
  if numOk 10 3 (aheadOf 32 (behind 32 l)) = true ∧ 100 ≤ numR 10 3 (aheadOf 32 (behind 32 l)) ∧ numR 10 3 (aheadOf 32 (behind 32 l)) ≤ 599 ∧ (behind 32 (behind 32 l)).all plainB = true then
    (if (version8 (aheadOf 32 l)).2 = 0 then (⟨[], [], numR 10 3 (aheadOf 32 (behind 32 l)), behind 32 (behind 32 l), (version8 (aheadOf 32 l)).1, []⟩, 0) else (zero8, (version8 (aheadOf 32 l)).2))
  else (zero8, 80)
theorem three_digits {d : List UInt8} (h : numOk 10 3 d = true) (h1 : 100 ≤ numR 10 3 d) : d.length = 3 := by
  unfold numR at h1
  rw [if_pos h] at h1
  unfold numOk at h
  simp only [Bool.and_eq_true, decide_eq_true_eq] at h
  obtain ⟨⟨h2, h3⟩, h4⟩ := h
  have hlt := numV_lt 10 d h4
  rcases (show d.length = 0 ∨ d.length = 1 ∨ d.length = 2 ∨ d.length = 3 by omega) with e | e | e | e
  · rw [e] at hlt; omega
  · rw [e] at hlt; omega
  · rw [e] at hlt; omega
  · exact e
theorem ok_bare {d : List UInt8} (h : numOk 10 3 d = true) : ∀ c ∈ d, c ≠ 32 := by
  unfold numOk at h
  simp only [Bool.and_eq_true] at h
  intro c hc
  have := List.all_eq_true.1 h.2 c hc
  rw [(dig_digit c).1] at this
  exact ((dig_digit c).2 this).2
theorem status_prog (l : List UInt8) : status8 l = statusP l := by
  by_cases hC : 12 ≤ l.length ∧ l[8]? = some 32 ∧ numOk 10 3 ((l.drop 9).take 3) = true ∧ 100 ≤ numR 10 3 ((l.drop 9).take 3) ∧ numR 10 3 ((l.drop 9).take 3) < 600 ∧ (l.length = 12 ∨ l[12]? = some 32) ∧ (l.drop 13).all plainB = true
  · have e8 : status8 l = if (version8 (l.take 8)).2 = 0 then (⟨[], [], numR 10 3 ((l.drop 9).take 3), l.drop 13, (version8 (l.take 8)).1, []⟩, 0) else (zero8, (version8 (l.take 8)).2) := by
      unfold status8
      rw [if_pos hC]
    rw [e8]
    obtain ⟨c1, c2, c3, c4, c5, c6, c7⟩ := hC
    have hl8 : l = l.take 8 ++ 32 :: l.drop 9 := by
      have h8 : 8 < l.length := by omega
      rw [List.getElem?_eq_getElem h8] at c2
      injection c2 with c2
      rw [← c2, ← List.drop_eq_getElem_cons h8, List.take_append_drop]
    by_cases hv : (version8 (l.take 8)).2 = 80
    · -- the version isn't of its form
      rw [hv, if_neg (by decide)]
      unfold statusP
      by_cases hp : numOk 10 3 (aheadOf 32 (behind 32 l)) = true ∧ 100 ≤ numR 10 3 (aheadOf 32 (behind 32 l)) ∧ numR 10 3 (aheadOf 32 (behind 32 l)) ≤ 599 ∧ (behind 32 (behind 32 l)).all plainB = true
      · rw [if_pos hp]
        have hv2 : (version8 (aheadOf 32 l)).2 = 80 := by
          rcases Decidable.em ((version8 (aheadOf 32 l)).2 = 80) with h | h
          · exact h
          · exfalso
            obtain ⟨f1, f2⟩ := version_form h
            have : aheadOf 32 l = l.take 8 := by rw [ahead_take, f1]
            rw [this] at h
            exact h hv
        rw [hv2, if_neg (by decide)]
      · rw [if_neg hp]
    · obtain ⟨_, f2⟩ := version_form hv
      obtain ⟨g1, g2, _⟩ := cut_at (b := l.drop 9) f2
      rw [← hl8] at g1 g2
      have h9 : l.drop 9 = (l.drop 9).take 3 ++ l.drop 12 := by
        conv => lhs; rw [← List.take_append_drop 3 (l.drop 9), List.drop_drop]
      have hb := ok_bare c3
      have hd : aheadOf 32 (l.drop 9) = (l.drop 9).take 3 ∧ behind 32 (l.drop 9) = l.drop 13 := by
        rcases c6 with h | h
        · have e12 : l.drop 12 = [] := List.drop_eq_nil_of_le (by omega)
          have e13 : l.drop 13 = [] := List.drop_eq_nil_of_le (by omega)
          have := cut_none hb
          rw [e12, List.append_nil] at h9
          rw [← h9] at this
          rw [e13, ← h9]
          exact ⟨this.1, this.2.1⟩
        · have h12 : 12 < l.length := by
            rcases Nat.lt_or_ge 12 l.length with h2 | h2
            · exact h2
            · rw [List.getElem?_eq_none h2] at h; cases h
          have e12 : l.drop 12 = 32 :: l.drop 13 := by
            rw [List.getElem?_eq_getElem h12] at h
            injection h with h
            rw [← h, ← List.drop_eq_getElem_cons h12]
          have := cut_at (b := l.drop 13) hb
          rw [← e12, ← h9] at this
          exact ⟨this.1, this.2.1⟩
      unfold statusP
      rw [g2, hd.1, hd.2, g1, if_pos (show numOk 10 3 ((l.drop 9).take 3) = true ∧ 100 ≤ numR 10 3 ((l.drop 9).take 3) ∧ numR 10 3 ((l.drop 9).take 3) ≤ 599 ∧ (l.drop 13).all plainB = true from ⟨c3, c4, by omega, c7⟩)]
  · have e8 : status8 l = (zero8, 80) := by
      unfold status8
      rw [if_neg hC]
    rw [e8]
    unfold statusP
    by_cases hp : numOk 10 3 (aheadOf 32 (behind 32 l)) = true ∧ 100 ≤ numR 10 3 (aheadOf 32 (behind 32 l)) ∧ numR 10 3 (aheadOf 32 (behind 32 l)) ≤ 599 ∧ (behind 32 (behind 32 l)).all plainB = true
    · rw [if_pos hp]
      rcases Decidable.em ((version8 (aheadOf 32 l)).2 = 80) with h | h
      · rw [h, if_neg (by decide)]
      · exfalso
        obtain ⟨f1, f2⟩ := version_form h
        obtain ⟨p1, p2, p3, p4⟩ := hp
        have h3 := three_digits p1 p2
        rcases cut_or 32 l with ⟨a, b, hab, ha⟩ | ha
        · obtain ⟨g1, g2, _⟩ := cut_at (b := b) ha
          rw [← hab] at g1 g2
          rw [g1] at f1
          have hb : b = l.drop 9 := by rw [hab, List.drop_append, f1, List.drop_eq_nil_of_le (by omega)]; rfl
          have hl8 : l[8]? = some 32 := by rw [hab, List.getElem?_append_right (by omega), f1]; rfl
          rw [g2] at p1 p2 p3 p4 h3
          have hbl : l.length = 9 + b.length := by rw [hab, List.length_append, List.length_cons]; omega
          rcases cut_or 32 b with ⟨x, y, hxy, hx⟩ | hx
          · obtain ⟨k1, k2, _⟩ := cut_at (b := y) hx
            rw [← hxy] at k1 k2
            rw [k1] at p1 p2 p3 h3
            rw [k2] at p4
            have e1 : (l.drop 9).take 3 = x := by rw [← hb, hxy, ← h3, List.take_left']; rfl
            have e2 : l.drop 13 = y := by
              rw [show l.drop 13 = (l.drop 9).drop 4 by rw [List.drop_drop], ← hb, hxy, List.drop_append, h3, List.drop_eq_nil_of_le (by omega)]
              rfl
            have e3 : l[12]? = some 32 := by
              rw [show l[12]? = (l.drop 9)[3]? by rw [List.getElem?_drop], ← hb, hxy, List.getElem?_append_right (by omega), h3]
              rfl
            refine hC ⟨?_, hl8, by rw [e1]; exact p1, by rw [e1]; exact p2, by rw [e1]; omega, .inr e3, by rw [e2]; exact p4⟩
            rw [hbl, hxy, List.length_append]
            omega
          · obtain ⟨k1, k2, _⟩ := cut_none hx
            rw [k1] at p1 p2 p3 h3
            have e1 : (l.drop 9).take 3 = b := by rw [← hb, List.take_of_length_le (by omega)]
            have e2 : l.drop 13 = [] := List.drop_eq_nil_of_le (by omega)
            exact hC ⟨by omega, hl8, by rw [e1]; exact p1, by rw [e1]; exact p2, by rw [e1]; omega, .inl (by omega), by rw [e2]; rfl⟩
        · rw [(cut_none ha).2.1] at h3
          cases h3
    · rw [if_neg hp]
/-! ### a field's line -/
def fieldP (l : List UInt8) : HField × Int :=
  if hasB 58 l = true ∧ token (aheadOf 58 l) = true ∧ value (trim (behind 58 l)) = true then ((aheadOf 58 l, trim (behind 58 l)), 0) else (([], []), 70)
theorem field_prog (l : List UInt8) : field8 l = fieldP l := by
  unfold field8 fieldP
  rw [show nameB l = aheadOf 58 l from rfl, ← cut_drop]
  have : (aheadOf 58 l).length < l.length ↔ hasB 58 l = true := by
    rcases cut_or 58 l with ⟨a, b, hab, ha⟩ | ha
    · obtain ⟨g1, _, g3⟩ := cut_at (b := b) ha
      rw [← hab] at g1 g3
      rw [g1, g3, hab, List.length_append, List.length_cons]
      constructor
      · intro; rfl
      · intro; omega
    · obtain ⟨g1, _, g3⟩ := cut_none ha
      rw [g1, g3]
      constructor
      · intro h; omega
      · intro h; cases h
  simp only [this]
end Go.Proofs.YtmlpdhmafmdkcaaGreatDoor.HeadCut

/- Layer 8: a field in memory. -/
namespace Go.Proofs.YtmlpdhmafmdkcaaGreatDoor.HBox
open Go.ChangeShapes Go.WideShapes Go.ChangeAt Go.RowKit LexPure Bytes FieldsPure HeadPure Mem
set_option maxRecDepth 20000
theorem below_drew {B : Nat} {a W : World} (h : Below B a W) : Below B a W.drew := h.trans ⟨rfl, rfl, rfl, Nat.le_refl _, fun _ _ => rfl⟩
theorem below_drewN {B : Nat} {a W : World} (h : Below B a W) (n : Nat) : Below B a (W.drewN n) := h.trans ⟨rfl, rfl, rfl, Nat.le_refl _, fun _ _ => rfl⟩
/-! ### one field -/
def fc (x : HField) : Array Value := #[.string (ofL x.1), .string (ofL x.2)]
def fv (x : HField) : Value := .agg #[.string (ofL x.1), .string (ofL x.2)]
structure FBox (w : World) (g : Nat) (x : HField) : Prop where
  has : Has w g 117 (fc x)
def fput (W : World) (g : Nat) (x : HField) : World := (W.setCell ⟨g, 0, none⟩ (.string (ofL x.1))).setCell ⟨g, 1, none⟩ (.string (ofL x.2))
theorem FBox.put {W : World} {g : Nat} {u : HField} (h : FBox W g u) (x : HField) : FBox (fput W g x) g x :=
  ⟨by have := (h.has.set_ 0 (.string (ofL x.1))).set_ 1 (.string (ofL x.2)); unfold fput; simpa [fc] using this⟩
theorem fload {w : World} {g : Nat} {x : HField} (h : FBox w g x) : (loadVar 117 ⟨g, 0, none⟩).run Tryz.prog w = .ok (fv x) w :=
  run_loadVar_row w g 117 117 _ _ _ h.has.at_ Tryz.underlying117 rfl (by kernel_rfl)
theorem FBox.cells {w : World} {g : Nat} {x : HField} (h : FBox w g x) : w.cell? ⟨g, 0, none⟩ = some (.string (ofL x.1)) ∧ w.cell? ⟨g, 1, none⟩ = some (.string (ofL x.2)) := ⟨(h.has.cell 0).trans rfl, (h.has.cell 1).trans rfl⟩
theorem FBox.frees {w : World} {g : Nat} {x : HField} (h : FBox w g x) : w.frozen? ⟨g, 0, none⟩ = false ∧ w.frozen? ⟨g, 1, none⟩ = false := ⟨h.has.free 0, h.has.free 1⟩
theorem FBox.below {w w' : World} {g B : Nat} {x : HField} (h : FBox w g x) (hb : Below B w w') (hg : g < B) : FBox w' g x := ⟨h.has.below hb hg⟩
/-- the box of a call that answers a field -/
structure FOne (w W : World) (g : Nat) (x : HField) : Prop where
  at_ : g = w.heap.size
  below : Below w.heap.size w W
  box : FBox W g x
  size : g + 1 ≤ W.heap.size
theorem FOne.start (w : World) : FOne w (w.alloc (.cells #[.string ⟨#[]⟩, .string ⟨#[]⟩] 117)) w.heap.size ([], []) :=
  ⟨rfl, (Below.refl w.heap.size w).alloc (Nat.le_refl _) _, ⟨Has.new w _ _⟩, by simp⟩
theorem FOne.call {w W W' : World} {g : Nat} {x : HField} (h : FOne w W g x) (hb : Below W.heap.size W W') : FOne w W' g x :=
  ⟨h.at_, below_chain h.below hb, h.box.below hb (by have := h.size; omega), Nat.le_trans h.size hb.size⟩
theorem FOne.put {w W : World} {g : Nat} {u : HField} (h : FOne w W g u) (x : HField) : Below w.heap.size w (fput W g x) :=
  (h.below.setCell (p := ⟨g, 0, none⟩) (by rw [h.at_]; exact Nat.le_refl _) _).setCell (p := ⟨g, 1, none⟩) (by rw [h.at_]; exact Nat.le_refl _) _
def frv (r : HField × Int) : Value := .tuple #[fv r.1, .int .i64 r.2]
theorem end_fbox {W : World} {g : Nat} {x : HField} {v : Int} {tmps : Array Value} {p u : Tmp} (hp : tmps.getD p undef = .pointer (some ⟨g, 0, none⟩)) (hu : tmps.getD u undef = .int .i64 v) (h : FBox W g x) :
    (((asAddr (tmps.getD p undef)).run Tryz.prog W).andThen fun a w₁ => ((loadVar 117 a).run Tryz.prog w₁).andThen fun v w₂ => .ok (.tuple #[v, tmps.getD u undef]) w₂) = .ok (frv (x, v)) W := by
  rw [hp, hu]
  have := fload h
  simp [asAddr, Result.andThen, this, frv]
end Go.Proofs.YtmlpdhmafmdkcaaGreatDoor.HBox

/- Layer 8 of the program: Field. -/
namespace Go.Proofs.YtmlpdhmafmdkcaaGreatDoor.PField8
open Go.ChangeShapes Go.WideShapes Go.ChangeAt Go.RowKit LexPure Bytes Ret FieldsPure HeadPure CutAt HeadCut HBox Mem PCutLib PToken PTrim PText
set_option maxRecDepth 20000
set_option maxHeartbeats 1600000 in
theorem pfield_any (s : ByteArray) (hs : s.size ≤ 140737488351232) (w : World) :
    Calls Tryz.prog 65 #[.string s] w fun e w' => e = .returned (frv (field8 (toL s))) ∧ Below w.heap.size w w' := by
  have HO := Lib.hid (FOne.start w)
  obtain ⟨x, hx⟩ : ∃ x, x = field8 (toL s) := ⟨_, rfl⟩
  rw [← hx]
  rw [field_prog] at hx
  unfold fieldP at hx
  have l1 : (aheadOf 58 (toL s)).length ≤ s.size := by rw [ahead_take, List.length_take, toL_length]; omega
  have l2 : (behind 58 (toL s)).length ≤ s.size := by rw [cut_drop, List.length_drop, toL_length]; omega
  have l3 := trim_length (behind 58 (toL s))
  have HC := Lib.hid (fun w => full_cut 58 s hs w)
  have HT := Lib.hid (fun w => (ptoken_any (ofL (aheadOf 58 (toL s))) (by unfold maxLen; rw [ofL_size]; omega) w).mono (fun e w' h => (⟨h.1, h.2.symm⟩ : e = .returned (.bool (token (toL (ofL (aheadOf 58 (toL s)))))) ∧ w' = w)))
  have HR := Lib.hid (fun w => ptrim_any (ofL (behind 58 (toL s))) (by unfold maxLen; rw [ofL_size]; omega) w)
  have HL := Lib.hid (fun w => pvalue_any (ofL (trim (behind 58 (toL s)))) (by unfold maxLen; rw [ofL_size]; omega) w)
  rw [toL_ofL] at HT HR HL
  generalize hasB 58 (toL s) = q at *
  generalize aheadOf 58 (toL s) = A at *
  generalize behind 58 (toL s) = R at *
  generalize trim R = B at *
  generalize token A = tk at *
  generalize value B = vb at *
  clear l1 l2 l3 hs
  replace hx := Lib.hid hx
  go_enter Tryz.func65, Tryz.ntmps65
  go_wp2_with fail
  generalize w.alloc (.cells #[.string ⟨#[]⟩, .string ⟨#[]⟩] 117) = W at HO ⊢
  obtain ⟨g, hg⟩ : ∃ g, g = w.heap.size := ⟨_, rfl⟩
  rw [← hg] at HO ⊢
  replace hg := Lib.hid hg
  refine (HC.out _).mono ?_
  rintro e w1 ⟨rfl, hb1⟩
  replace HO := Lib.hid (HO.out.call hb1)
  clear hb1 HC
  go_wp2_with fail
  refine (HR.out _).mono ?_
  rintro e w2 ⟨rfl, hb2⟩
  replace HO := Lib.hid (HO.out.call hb2)
  clear hb2 HR
  cases q with
  | false =>
    have HX : x = (([], []), 70) := by rw [hx.out, if_neg]; rintro ⟨h, _⟩; cases h
    subst HX
    obtain ⟨d0, d1⟩ := HO.out.box.cells
    obtain ⟨z0, z1⟩ := HO.out.box.frees
    have HE := Lib.hid (HO.out.box.put ([], []))
    have HB := Lib.hid (HO.out.put ([], []))
    clear hx HO
    go_wp2_with fail
    refine bodyPost_ret (v := frv (([], []), 70)) ?_ rfl ⟨rfl, HB.out⟩
    rw [results_cell_tmp rfl]
    exact end_fbox rfl rfl HE.out
  | true =>
  cases tk with
  | false =>
    have HX : x = (([], []), 70) := by rw [hx.out, if_neg]; rintro ⟨_, h, _⟩; cases h
    subst HX
    obtain ⟨d0, d1⟩ := HO.out.box.cells
    obtain ⟨z0, z1⟩ := HO.out.box.frees
    have HE := Lib.hid (HO.out.box.put ([], []))
    have HB := Lib.hid (HO.out.put ([], []))
    clear hx HO
    go_wp2_with fail
    refine (HT.out _).mono ?_
    rintro e w' ⟨rfl, rfl⟩
    go_wp2_with fail
    refine bodyPost_ret (v := frv (([], []), 70)) ?_ rfl ⟨rfl, HB.out⟩
    rw [results_cell_tmp rfl]
    exact end_fbox rfl rfl HE.out
  | true =>
  cases vb with
  | false =>
    have HX : x = (([], []), 70) := by rw [hx.out, if_neg]; rintro ⟨_, _, h⟩; cases h
    subst HX
    clear hx
    go_wp2_with fail
    refine (HT.out _).mono ?_
    rintro e w' ⟨rfl, rfl⟩
    go_wp2_with fail
    refine (HL.out _).mono ?_
    rintro e w3 ⟨rfl, hb3⟩
    replace HO := Lib.hid (HO.out.call hb3)
    clear hb3
    obtain ⟨d0, d1⟩ := HO.out.box.cells
    obtain ⟨z0, z1⟩ := HO.out.box.frees
    have HE := Lib.hid (HO.out.box.put ([], []))
    have HB := Lib.hid (HO.out.put ([], []))
    clear HO
    go_wp2_with fail
    refine bodyPost_ret (v := frv (([], []), 70)) ?_ rfl ⟨rfl, HB.out⟩
    rw [results_cell_tmp rfl]
    exact end_fbox rfl rfl HE.out
  | true =>
    have HX : x = ((A, B), 0) := by rw [hx.out]; rfl
    subst HX
    clear hx
    go_wp2_with fail
    refine (HT.out _).mono ?_
    rintro e w' ⟨rfl, rfl⟩
    go_wp2_with fail
    refine (HL.out _).mono ?_
    rintro e w3 ⟨rfl, hb3⟩
    replace HO := Lib.hid (HO.out.call hb3)
    clear hb3
    obtain ⟨d0, d1⟩ := HO.out.box.cells
    obtain ⟨z0, z1⟩ := HO.out.box.frees
    have HE := Lib.hid (HO.out.box.put (A, B))
    have HB := Lib.hid (HO.out.put (A, B))
    unfold fput at HE HB
    clear HO
    go_wp2_with fail
    refine bodyPost_ret (v := frv ((A, B), 0)) ?_ rfl ⟨rfl, HB.out⟩
    rw [results_cell_tmp rfl]
    exact end_fbox rfl rfl HE.out
end Go.Proofs.YtmlpdhmafmdkcaaGreatDoor.PField8

/- Layer 10 of the program: the end of a line (endSize, endTrailer, endLine). -/
namespace Go.Proofs.YtmlpdhmafmdkcaaGreatDoor.PChEnd
open Go.ChangeShapes Go.WideShapes Go.ChangeAt Go.RowKit Bytes LexPure LexNum HeadPure CutAt ChunkPure ChunkText ChObj Mem Step Ret Rows1 PHex PCutLib PField8 HBox
set_option maxRecDepth 20000
/-- a decoder whose line has just been taken -/
structure Fresh (r : Raw) (n : Nat) : Prop where
  size : r.size = n
  line : r.line = []
  part : r.part = false
  cr : r.cr = false
  ref : r.ref = 0
theorem sizeL_say (l : List UInt8) : (numOk 16 (min 8 15) (aheadOf 59 l) = false ∧ sizeL l = -1) ∨
    (numOk 16 (min 8 15) (aheadOf 59 l) = true ∧ sizeL l = numR 16 (min 8 15) (aheadOf 59 l) ∧ 0 ≤ sizeL l ∧ sizeL l < 4294967296) := by
  unfold sizeL aheadOf
  rw [show (min 8 15 : Int) = 8 from rfl]
  cases h : numOk 16 8 (l.takeWhile (fun c => c != 59)) with
  | false => exact .inl ⟨rfl, by rw [if_neg (by decide)]⟩
  | true =>
    refine .inr ⟨rfl, by rw [if_pos rfl], ?_⟩
    rw [if_pos rfl]
    unfold numR
    rw [h, if_pos rfl]
    unfold numOk at h
    simp only [Bool.and_eq_true, decide_eq_true_eq] at h
    have h1 := numV_lt 16 _ h.2
    have h2 : 16 ^ (l.takeWhile (fun c => c != 59)).length ≤ 16 ^ 8 := Nat.pow_le_pow_right (by decide) (by omega)
    have h3 : (16 : Nat) ^ 8 = 4294967296 := rfl
    omega
theorem errN_fail (m : M) (e : Int) : errN (fail m e) = e := rfl
theorem good_fail (m : M) (e : Int) : good (fail m e) = false := rfl
set_option maxHeartbeats 1600000 in
theorem pesize_any {w : World} {F : Nat → Prop} {g : Nat} {r : Raw} {v : Value} {m : M} (h : Cod w F g m.most r v) (f : Fresh r m.size) (hn : r.next = 0) (ht : r.trail = 0) (hph : m.ph = .size) (L : ByteArray) (hL : toL L = m.line) (hsz : L.size ≤ 512) (hz : Sane m) :
    Calls Tryz.prog 101 #[.pointer (some ⟨g, 0, none⟩), .string L] w fun e w' => e = .returned (.int .i64 (errN (endLine m))) ∧ CSF w F w' g m.most (endLine m) := by
  have HC := Lib.hid (full_cut 59 L (by omega) w)
  have hlen : (aheadOf 59 (toL L)).length ≤ maxLen := by
    have : (aheadOf 59 (toL L)).length ≤ (toL L).length := by unfold aheadOf; exact (List.takeWhile_prefix _).length_le
    rw [toL_length] at this
    unfold maxLen
    omega
  have HH := Lib.hid (fun w => phex_any (ofL (aheadOf 59 (toL L))) (by rw [ofL_size]; exact hlen) 8 w)
  rw [toL_ofL] at HH
  have HS := Lib.hid (CS.start h)
  have hsay := sizeL_say m.line
  rw [← hL] at hsay
  have hend : endLine m = if sizeL (toL L) < 0 then fail m 100 else if m.most < m.size + sizeL (toL L) then fail m 101 else if sizeL (toL L) = 0 then goOn m (.trail 0) else goOn m (.data (sizeL (toL L)).toNat) := by
    rw [hL]
    unfold endLine
    rw [hph]
  generalize behind 59 (toL L) = R at *
  generalize hasB 59 (toL L) = q at *
  generalize aheadOf 59 (toL L) = A at *
  generalize sizeL (toL L) = S at *
  clear hlen h hL hsz
  rcases hsay with ⟨h1, h2⟩ | ⟨h1, h2, h3, h4⟩
  · rw [h1] at HH
    have HE : Hid (endLine m = fail m 100) := Lib.hid (by rw [hend, if_pos (by omega)])
    rw [HE.out]
    generalize numR 16 (min 8 15) A = nn at *
    clear hend h1 h2
    have href := f.ref
    go_enter Tryz.func101, Tryz.ntmps101
    go_wp2_with fail
    refine HC.out.mono ?_
    rintro e w1 ⟨rfl, hb1⟩
    go_wp2_with fail
    refine (HH.out _).mono ?_
    rintro e w2 ⟨rfl, rfl⟩
    go_wp2_with fail
    go_ret
    exact ⟨rfl, F, r, v, HS.out.call hb1, href, fun hg => by cases hg⟩
  · rw [h1, ← h2] at HH
    have e1 := HS.out.cod.c0
    have e2 := HS.out.cod.c1
    rw [f.size] at e2
    have k1 : (0 : Int) ≤ (m.size : Int) := by omega
    obtain ⟨⟨z1, z2⟩, z3⟩ := hz
    replace f := Lib.hid f
    replace hend := Lib.hid hend
    have kw : IntKind.i64.wrap (m.most - (m.size : Int)) = m.most - (m.size : Int) := IntWalk.i64_in _ (by omega)
    clear h2 e1 e2 z1 z2 z3
    by_cases hov : m.most < (m.size : Int) + S
    · have HE : Hid (endLine m = fail m 101) := Lib.hid (by rw [hend.out, if_neg (by omega), if_pos hov])
      rw [HE.out, errN_fail]
      have HP : Hid (∀ w', CS w F w' F g m.most r v → CSF w F w' g m.most (fail m 101)) := Lib.hid (fun w' k => ⟨F, r, v, k, f.out.ref, fun hg => by cases hg⟩)
      have hsz := f.out.size
      have hov2 : m.most - (m.size : Int) < S := by omega
      clear hov
      have hov := hov2
      clear hov2
      rw [← kw] at hov
      generalize (m.size : Int) = z at *
      generalize m.most = most at *
      clear hend kw
      go_enter Tryz.func101, Tryz.ntmps101
      go_wp2_with fail
      refine HC.out.mono ?_
      rintro e w1 ⟨rfl, hb1⟩
      go_wp2_with fail
      refine (HH.out _).mono ?_
      rintro e w2 ⟨rfl, rfl⟩
      replace HS := Lib.hid (HS.out.call hb1)
      have d0 := HS.out.cod.c0
      have d1 := HS.out.cod.c1
      rw [hsz] at d1
      clear hb1 HC HH hsz
      go_wp2_with fail
      go_quiet (fail)
      go_wp2_with fail
      go_ret
      exact ⟨rfl, HP.out _ (HS.out.call ⟨rfl, rfl, rfl, Nat.le_refl _, fun _ _ => rfl⟩)⟩
    · have HE : Hid (endLine m = if S = 0 then goOn m (.trail 0) else goOn m (.data S.toNat)) := Lib.hid (by rw [hend.out, if_neg (by omega), if_neg hov])
      have hsz := f.out.size
      have hov0 : ¬ m.most - (m.size : Int) < S := by omega
      clear hov
      have hov := hov0
      rw [← kw] at hov
      have k3 := hov0
      by_cases h0 : S = 0
      · have HG : Hid (∀ w', CS w F w' F g m.most { r with left := S, next := 3 } v → CSF w F w' g m.most (goOn m (.trail 0))) := Lib.hid (fun w' k =>
          ⟨F, _, v, k, f.out.ref, fun _ => ⟨f.out.size, rfl, fun n hn => (by cases hn), f.out.line, f.out.part, f.out.cr, fun n hn => (by cases hn; exact ht), fun _ => ht⟩⟩)
        rw [HE.out, if_pos h0, show errN (goOn m (.trail 0)) = 0 from rfl]
        generalize (m.size : Int) = z at *
        generalize m.most = most at *
        replace h0 := Lib.hid h0
        clear hend kw hov0 f HE
        go_enter Tryz.func101, Tryz.ntmps101
        go_wp2_with fail
        refine HC.out.mono ?_
        rintro e w1 ⟨rfl, hb1⟩
        go_wp2_with fail
        refine (HH.out _).mono ?_
        rintro e w2 ⟨rfl, rfl⟩
        replace HS := Lib.hid (HS.out.call hb1)
        have d0 := HS.out.cod.c0
        have d1 := HS.out.cod.c1
        rw [hsz] at d1
        have HD : Hid (∀ W, (∃ n, w1.drewN n = W) → CS w F W F g most r v) := Lib.hid (fun W ⟨n, hn⟩ => by rw [← hn]; exact HS.out.call ⟨rfl, rfl, rfl, Nat.le_refl _, fun _ _ => rfl⟩)
        clear hb1 HC HH
        go_wp2_with fail
        go_quiet (fail)
        generalize hW : w1.drewN _ = W
        replace HD := Lib.hid (HD.out W ⟨_, hW⟩)
        have q3 := HD.out.cod.c3
        have q2 := HD.out.cod.c2
        have z3 := HD.out.cod.free 3
        have z2 := HD.out.cod.free 2
        clear hW HS d0 d1
        obtain rfl := h0.out
        have hov3 : decide (IntKind.i64.wrap (most - z) < 0) = false := decide_eq_false (Int.not_lt.2 hov)
        clear h1 h0
        rw [hov3]
        clear hov hov3
        go_wp2_with fail
        go_ret
        refine ⟨rfl, HG.out _ ?_⟩
        exact ((HD.out.set 3 (.int .i64 0) { r with left := 0 } rfl rfl).set 2 (.int .i64 1) { r with left := 0, next := 1 } rfl rfl).set 2 (.int .i64 3) { r with left := 0, next := 3 } rfl rfl
      · have hS1 : 0 < S := by omega
        have HG : Hid (∀ w', CS w F w' F g m.most { r with left := S, next := 1 } v → CSF w F w' g m.most (goOn m (.data S.toNat))) := Lib.hid (fun w' k =>
          ⟨F, _, v, k, f.out.ref, fun _ => ⟨f.out.size, rfl, fun n hn => (by cases hn; show S = (S.toNat : Int); omega), f.out.line, f.out.part, f.out.cr, fun n hn => (by cases hn), fun _ => ht⟩⟩)
        rw [HE.out, if_neg h0, show errN (goOn m (.data S.toNat)) = 0 from rfl]
        generalize (m.size : Int) = z at *
        generalize m.most = most at *
        clear hend kw hov0 f HE
        go_enter Tryz.func101, Tryz.ntmps101
        go_wp2_with fail
        refine HC.out.mono ?_
        rintro e w1 ⟨rfl, hb1⟩
        go_wp2_with fail
        refine (HH.out _).mono ?_
        rintro e w2 ⟨rfl, rfl⟩
        replace HS := Lib.hid (HS.out.call hb1)
        have d0 := HS.out.cod.c0
        have d1 := HS.out.cod.c1
        rw [hsz] at d1
        have HD : Hid (∀ W, (∃ n, w1.drewN n = W) → CS w F W F g most r v) := Lib.hid (fun W ⟨n, hn⟩ => by rw [← hn]; exact HS.out.call ⟨rfl, rfl, rfl, Nat.le_refl _, fun _ _ => rfl⟩)
        clear hb1 HC HH
        go_wp2_with fail
        go_quiet (fail)
        generalize hW : w1.drewN _ = W
        replace HD := Lib.hid (HD.out W ⟨_, hW⟩)
        have q3 := HD.out.cod.c3
        have q2 := HD.out.cod.c2
        have z3 := HD.out.cod.free 3
        have z2 := HD.out.cod.free 2
        clear hW HS d0 d1
        go_wp2_with fail
        go_ret
        refine ⟨rfl, HG.out _ ?_⟩
        exact (HD.out.set 3 (.int .i64 S) { r with left := S } rfl rfl).set 2 (.int .i64 1) { r with left := S, next := 1 } rfl rfl
set_option maxHeartbeats 1600000 in
theorem petrail_any {w : World} {F : Nat → Prop} {g : Nat} {r : Raw} {v : Value} {m : M} {n : Nat} (h : Cod w F g m.most r v) (f : Fresh r m.size) (hn : r.next = 3) (ht : r.trail = n) (hph : m.ph = .trail n) (hle : n ≤ 32) (L : ByteArray) (hL : toL L = m.line) (hsz : L.size ≤ 512) :
    Calls Tryz.prog 102 #[.pointer (some ⟨g, 0, none⟩), .string L] w fun e w' => e = .returned (.int .i64 (errN (endLine m))) ∧ CSF w F w' g m.most (endLine m) := by
  have HS := Lib.hid (CS.start h)
  have hend : endLine m = if toL L = [] then goOn m .done else if (field8 (toL L)).2 ≠ 0 ∨ n = 32 then fail m 100 else goOn m (.trail (n + 1)) := by
    rw [hL]
    unfold endLine
    rw [hph]
  have z2 := h.free 2
  have z7 := h.free 7
  have d2 := h.c2
  by_cases h0 : L.size = 0
  · have h1 : L.toList = [] := by
      rw [ByteArray.toList_eq]
      exact List.length_eq_zero_iff.1 (by rw [← h0]; exact toL_length L)
    have h2 : L.toList.isEmpty = true := by rw [h1]; rfl
    rw [if_pos (show toL L = [] by rw [ByteArray.toList_eq] at h1; exact h1)] at hend
    rw [hend, show errN (goOn m .done) = 0 from rfl]
    replace f := Lib.hid f
    clear hend hL hsz h
    go_enter Tryz.func102, Tryz.ntmps102
    go_wp2_with fail
    go_ret
    refine ⟨rfl, F, _, v, HS.out.set 2 (.int .i64 4) { r with next := 4 } rfl rfl, f.out.ref, fun _ => ⟨f.out.size, rfl, fun n hn => (by cases hn), f.out.line, f.out.part, f.out.cr, fun n hn => (by cases hn), fun h => ?_⟩⟩
    exact absurd h (by show ¬ (4 : Int) ≤ 2; decide)
  · have h1 : ¬ L.toList = [] := fun h => by
      rw [ByteArray.toList_eq] at h
      have h2 := toL_length L
      rw [show toL L = [] from h] at h2
      simp at h2
      omega
    have h2 : L.toList.isEmpty = false := by
      cases h : L.toList with
      | nil => exact absurd h h1
      | cons => rfl
    rw [if_neg (show ¬ toL L = [] by rw [ByteArray.toList_eq] at h1; exact h1)] at hend
    generalize hE : endLine m = E at hend ⊢
    clear hE
    have HF := Lib.hid (fun w => pfield_any L (by omega) w)
    generalize field8 (toL L) = x at *
    obtain ⟨⟨x1, x2⟩, er⟩ := x
    unfold frv fv at HF
    dsimp only at HF hend
    replace f := Lib.hid f
    replace hend := Lib.hid hend
    clear hL hsz h h0 z2 z7 d2
    go_enter Tryz.func102, Tryz.ntmps102
    go_wp2_with fail
    refine (HF.out _).mono ?_
    rintro e w1 ⟨rfl, hb1⟩
    replace hb1 := Lib.hid hb1
    clear HF h1 h2
    dsimp only
    iterate 12 go_step
    have HB := Lib.hid (FOne.start w1)
    generalize w1.alloc (.cells #[.string ⟨#[]⟩, .string ⟨#[]⟩] 117) = W at HB ⊢
    obtain ⟨B, hB⟩ : ∃ B, B = w1.heap.size := ⟨_, rfl⟩
    rw [← hB] at HB ⊢
    obtain ⟨e0, e1⟩ := HB.out.box.cells
    obtain ⟨u0, u1⟩ := HB.out.box.frees
    have HQ : Hid (CS w F (fput W B (x1, x2)) F g m.most r v) := Lib.hid (HS.out.call (below_chain hb1.out (HB.out.put (x1, x2))))
    have q7 := HQ.out.cod.c7
    have z7 := HQ.out.cod.free 7
    rw [ht] at q7
    unfold fput at HQ q7 z7
    dsimp only at HQ q7 z7
    replace hB := Lib.hid hB
    clear HB HS hb1
    by_cases he : er = 0
    · subst he
      have hno : ((0 : Int) != 0) = false := rfl
      by_cases h32 : n = 32
      · have HE : Hid (E = fail m 100) := Lib.hid (by rw [hend.out, if_pos (.inr h32)])
        have hni : (n : Int) = 32 := by omega
        have HP : Hid (∀ w', CS w F w' F g m.most r v → CSF w F w' g m.most (fail m 100)) := Lib.hid (fun w' k => ⟨F, r, v, k, f.out.ref, fun hg => by cases hg⟩)
        clear hend
        go_wp2_with fail
        go_ret
        rw [HE.out]
        exact ⟨rfl, HP.out _ HQ.out⟩
      · have HE : Hid (E = goOn m (.trail (n + 1))) := Lib.hid (by rw [hend.out, if_neg (by intro h; rcases h with h | h; exact h rfl; exact h32 h)])
        have hni : ¬ (n : Int) = 32 := by omega
        clear hend
        go_wp2_with fail
        go_ret
        rw [HE.out]
        refine ⟨rfl, F, _, v, HQ.out.set 7 (.int .i64 ((n : Int) + 1)) { r with trail := (n : Int) + 1 } rfl rfl, f.out.ref, fun _ => ⟨f.out.size, hn, fun n hn => (by cases hn), f.out.line, f.out.part, f.out.cr, fun k hk => (by cases hk; rfl), fun h => ?_⟩⟩
        have : r.next ≤ 2 := h
        omega
    · have hno : (er != 0) = true := bne_iff_ne.2 he
      have HE : Hid (E = fail m 100) := Lib.hid (by rw [hend.out, if_pos (.inl he)])
      have HP : Hid (∀ w', CS w F w' F g m.most r v → CSF w F w' g m.most (fail m 100)) := Lib.hid (fun w' k => ⟨F, r, v, k, f.out.ref, fun hg => by cases hg⟩)
      clear hend he
      go_wp2_with fail
      go_ret
      rw [HE.out]
      exact ⟨rfl, HP.out _ HQ.out⟩
end Go.Proofs.YtmlpdhmafmdkcaaGreatDoor.PChEnd

/- Layer 10 of the program: a line's end and a byte of a line (endLine, readByte). -/
namespace Go.Proofs.YtmlpdhmafmdkcaaGreatDoor.PChLine
open Go.ChangeShapes Go.WideShapes Go.ChangeAt Go.RowKit Bytes LexPure LexNum HeadPure CutAt ChunkPure ChunkText ChObj Mem Step Ret Rows1 PChFit PChEnd
set_option maxRecDepth 20000
theorem CSF.then {w W w' : World} {F F1 : Nat → Prop} {g : Nat} {most : Int} {r : Raw} {v : Value} {m : M} (h : CS w F W F1 g most r v) (k : CSF W F1 w' g most m) : CSF w F w' g most m := by
  obtain ⟨F', r', v', k1, k2⟩ := k
  exact ⟨F', r', v', h.then k1, k2⟩
set_option maxHeartbeats 1600000 in
theorem peline_any {w : World} {F : Nat → Prop} {g : Nat} {r : Raw} {v : Value} {m : M} (h : Cod w F g m.most r v) (hr : Rel r m) (href : r.ref = 0) (hph : m.ph = .size ∨ m.ph = .after ∨ ∃ n, m.ph = .trail n ∧ n ≤ 32) (hl : m.line.length ≤ 512) (hz : Sane m) :
    Calls Tryz.prog 82 #[.pointer (some ⟨g, 0, none⟩)] w fun e w' => e = .returned (.int .i64 (errN (endLine m))) ∧ CSF w F w' g m.most (endLine m) := by
  have HV := own_string (P := Tryz.prog) (w := w) h.row 46 9 Tryz.underlying46 Tryz.underlying5 Tryz.underlying9
  rw [hr.line] at HV
  have d4 := h.c4
  have d5 := h.c5
  have d6 := h.c6
  have z4 := h.free 4
  have z5 := h.free 5
  have z6 := h.free 6
  have HK : CS w F (((w.setCell ⟨g, 4, none⟩ (.slice none 0 0)).setCell ⟨g, 5, none⟩ (.bool false)).setCell ⟨g, 6, none⟩ (.bool false)) F g m.most { r with line := [], part := false, cr := false } (.slice none 0 0) :=
    (((CS.start h).setLine (.slice none 0 0) [] (World.ownsRow_nil _ _ _ _) (fun b hb => by cases hb) (fun _ => rfl)).set 5 (.bool false) { r with line := [], part := false } rfl rfl).set 6 (.bool false) { r with line := [], part := false, cr := false } rfl rfl
  have HFr : Fresh { r with line := [], part := false, cr := false } m.size := ⟨hr.size, rfl, rfl, rfl, href⟩
  have q2 := HK.cod.c2
  have z2 := HK.cod.free 2
  obtain ⟨L, hL⟩ : ∃ L, L = ofL m.line := ⟨_, rfl⟩
  have tL : toL L = m.line := by rw [hL, toL_ofL]
  have sL : L.size ≤ 512 := by rw [hL, ofL_size]; exact hl
  rw [← hL] at HV
  generalize hW : ((w.setCell ⟨g, 4, none⟩ (.slice none 0 0)).setCell ⟨g, 5, none⟩ (.bool false)).setCell ⟨g, 6, none⟩ (.bool false) = W at *
  have hnx : ({ r with line := [], part := false, cr := false } : Raw).next = r.next := rfl
  dsimp only at q2
  rw [hr.next] at q2
  replace HK := Lib.hid HK
  rcases hph with hp | hp | ⟨n, hp, hn⟩
  · have HE := Lib.hid (pesize_any HK.out.cod HFr (by show r.next = 0; rw [hr.next, hp]; rfl) (hr.none (by rw [hr.next, hp]; decide)) hp L tL sL hz)
    rw [hp] at q2
    unfold phN at q2
    dsimp only at q2
    generalize hEE : endLine m = E at HE ⊢
    clear hEE hL tL sL HFr h hr
    go_enter Tryz.func82, Tryz.ntmps82
    go_wp2_with fail
    refine HE.out.mono ?_
    rintro e w' ⟨rfl, hk⟩
    go_wp2_with fail
    go_ret
    exact ⟨rfl, CSF.then HK.out hk⟩
  · have hE : endLine m = goOn m .size := by unfold endLine; rw [hp]
    rw [hE, show errN (goOn m .size) = 0 from rfl]
    have ht0 : r.trail = 0 := hr.none (by rw [hr.next, hp]; decide)
    have HP : Hid (CSF w F (W.setCell ⟨g, 2, none⟩ (.int .i64 0)) g m.most (goOn m .size)) := Lib.hid
      ⟨F, _, _, HK.out.set 2 (.int .i64 0) { r with line := [], part := false, cr := false, next := 0 } rfl rfl, href, fun _ => ⟨hr.size, rfl, fun n hn => (by cases hn), rfl, rfl, rfl, fun n hn => (by cases hn), fun _ => ht0⟩⟩
    rw [hp] at q2
    unfold phN at q2
    dsimp only at q2
    clear hE hL tL sL HFr h hr
    go_enter Tryz.func82, Tryz.ntmps82
    go_wp2_with fail
    go_ret
    exact ⟨rfl, HP.out⟩
  · have HE := Lib.hid (petrail_any HK.out.cod HFr (by show r.next = 3; rw [hr.next, hp]; rfl) (hr.trail n hp) hp hn L tL sL)
    rw [hp] at q2
    unfold phN at q2
    dsimp only at q2
    generalize hEE : endLine m = E at HE ⊢
    clear hEE hL tL sL HFr h hr
    go_enter Tryz.func82, Tryz.ntmps82
    go_wp2_with fail
    refine HE.out.mono ?_
    rintro e w' ⟨rfl, hk⟩
    go_wp2_with fail
    go_ret
    exact ⟨rfl, CSF.then HK.out hk⟩
/-- append one byte to the line -/
theorem parted_snoc (l : List UInt8) (c : UInt8) : parted (l ++ [c]) = (parted l || (c == 59 || c == 58)) := by
  unfold parted
  simp
theorem infoB : (Tryz.prog.info? 5).map (fun i => (i.zero, i.size, i.bytes)) = some (some (.int .u8 0), 1, 1) := by kernel_rfl
theorem CS.append {w W W4 : World} {F F1 : Nat → Prop} {g : Nat} {most : Int} {r : Raw} {v v4 : Value} {l : List UInt8} (h : CS w F W F1 g most r v) (hg : W.grownBy W4 v.ownBlock) (hrow : W4.ownsRow 0 5 1 v4 l.length (bvs l)) (hat : v4.ownBlock = v.ownBlock ∨ v4.ownBlock = some W.heap.size) (hl : l ≠ []) :
    CS w F (W4.setCell ⟨g, 4, none⟩ v4) (fun k => F1 k ∨ v4.ownBlock = some k) g most { r with line := l } v4 := by
  have hne : ∀ b, v4.ownBlock = some b → b ≠ g := by
    intro b hb
    rcases hat with e | e
    · rw [hb] at e
      exact (h.cod.own b e.symm).2
    · rw [hb] at e
      injection e with e
      have := h.cod.has.lt
      omega
  have hgrow : ∀ k, (F1 k ∨ v4.ownBlock = some k) → F1 k ∨ (W.heap.size ≤ k ∧ k < W4.heap.size) := by
    intro k hk
    rcases hk with hk | hk
    · exact .inl hk
    · rcases hat with e | e
      · exact .inl (h.cod.own k (by rw [← e]; exact hk)).1
      · have hlt := row_lt hrow hk
        rw [hk] at e
        injection e with e
        exact .inr ⟨by omega, hlt⟩
  have hh : Has W4 g 90 (cells most r v) := h.cod.has.grown hg (fun e => (h.cod.own g e.symm).2 rfl)
  have hs : ∀ {W5 : World}, W5 = W4.setCell ⟨g, 4, none⟩ v4 → W5.heap.size = W4.heap.size := fun e => by rw [e]; simp [World.setCell]
  refine ⟨⟨hh.set_ 4 v4, (Step.set_ (F := fun k => k = g) W4 rfl 4 v4).row hrow hne, fun b hb => ⟨.inr hb, hne b hb⟩, .inl h.cod.mine, fun e => absurd e hl, fun k hk => ?_⟩, ?_⟩
  · rw [hs rfl]
    rcases hgrow k hk with h1 | h1
    · exact Nat.lt_of_lt_of_le (h.cod.lt k h1) hg.size
    · exact h1.2
  · refine h.step.trans (((Step.of_grown hg (fun k hk => (h.cod.own k hk).1)).trans (Step.set_ W4 h.cod.mine 4 v4)).regrow (fun k hk => ?_))
    rw [hs rfl]
    exact hgrow k hk
theorem CS.after {w W W4 : World} {F F1 : Nat → Prop} {g : Nat} {most : Int} {r : Raw} {v : Value} (h : CS w F W F1 g most r v) (hg : W.grownBy W4 v.ownBlock) : W4.cell? ⟨g, 4, none⟩ = some v ∧ W4.frozen? ⟨g, 4, none⟩ = false := by
  have hh : Has W4 g 90 (cells most r v) := h.cod.has.grown hg (fun e => (h.cod.own g e.symm).2 rfl)
  exact ⟨hh.cell 4, hh.free 4⟩
theorem CS.setPart {w W : World} {F F' : Nat → Prop} {g : Nat} {most : Int} {r : Raw} {v : Value} (h : CS w F W F' g most r v) (b : Bool) : CS w F (W.setCell ⟨g, 5, none⟩ (.bool b)) F' g most { r with part := b } v :=
  h.set 5 (.bool b) { r with part := b } rfl rfl
set_option maxHeartbeats 1600000 in
theorem prbyte_any {w : World} {F : Nat → Prop} {g : Nat} {r : Raw} {v : Value} {m : M} (h : Cod w F g m.most r v) (hr : Rel r m) (href : r.ref = 0) (hph : m.ph = .size ∨ m.ph = .after ∨ ∃ n, m.ph = .trail n ∧ n ≤ 32) (hl : m.line.length ≤ 512) (hz : Sane m) (c : UInt8) :
    Calls Tryz.prog 64 #[.pointer (some ⟨g, 0, none⟩), .int .u8 (c.toNat : Int)] w fun e w' => e = .returned (.int .i64 (errN (lineStep m c))) ∧ CSF w F w' g m.most (lineStep m c) := by
  have d6 := h.c6
  rw [hr.cr] at d6
  have z6 := h.free 6
  cases hcr : m.cr with
  | true =>
    rw [hcr] at d6
    by_cases hc : c = 10
    · have hS : lineStep m c = endLine m := by unfold lineStep; rw [if_pos hcr, if_pos hc]
      have HE := Lib.hid (peline_any h hr href hph hl hz)
      have hx : (c.toNat : Int) = 10 := (toNat_eq c 10).2 hc
      rw [hS, hx]
      generalize endLine m = E at HE ⊢
      clear hS h hr hc hcr hph
      go_enter Tryz.func64, Tryz.ntmps64
      go_wp2_with fail
      refine HE.out.mono ?_
      rintro e w' ⟨rfl, hk⟩
      go_wp2_with fail
      go_ret
      exact ⟨rfl, hk⟩
    · have hS : lineStep m c = fail m 100 := by unfold lineStep; rw [if_pos hcr, if_neg hc]
      have hx : ¬ (c.toNat : Int) = 10 := fun h => hc ((toNat_eq c 10).1 h)
      have HP : Hid (CSF w F w g m.most (fail m 100)) := Lib.hid ⟨F, r, v, CS.start h, href, fun hg => by cases hg⟩
      rw [hS, errN_fail]
      generalize (c.toNat : Int) = x at *
      clear hS h hr hc hcr hph
      go_enter Tryz.func64, Tryz.ntmps64
      go_wp2_with fail
      go_ret
      exact ⟨rfl, HP.out⟩
  | false =>
    rw [hcr] at d6
    by_cases hc : c = 13
    · have hS : lineStep m c = { m with cr := true } := by unfold lineStep; rw [if_neg (by rw [hcr]; decide), if_pos hc]
      have hx : (c.toNat : Int) = 13 := (toNat_eq c 13).2 hc
      have HP : Hid (CSF w F (w.setCell ⟨g, 6, none⟩ (.bool true)) g m.most { m with cr := true }) := Lib.hid
        ⟨F, _, _, (CS.start h).set 6 (.bool true) { r with cr := true } rfl rfl, href, fun _ => ⟨hr.size, hr.next, hr.left, hr.line, hr.part, rfl, hr.trail, hr.none⟩⟩
      have hen : errN { m with cr := true } = 0 := by
        rcases hph with hp | hp | ⟨n, hp, _⟩ <;> (unfold errN; simp only [hp])
      rw [hS, hx, hen]
      clear hS h hr hc hcr hph hen
      go_enter Tryz.func64, Tryz.ntmps64
      go_wp2_with fail
      go_ret
      exact ⟨rfl, HP.out⟩
    · have hx : ¬ (c.toNat : Int) = 13 := fun h => hc ((toNat_eq c 13).1 h)
      have HF := Lib.hid (pfits_any h hr hl c)
      cases hf : fits m.ph m.line c with
      | false =>
        have hS : lineStep m c = fail m 100 := by unfold lineStep; rw [if_neg (by rw [hcr]; decide), if_neg hc, if_neg (by rw [hf]; decide)]
        rw [hf] at HF
        have HP : Hid (∀ w', Below w.heap.size w w' → CSF w F w' g m.most (fail m 100)) := Lib.hid (fun w' hb => ⟨F, r, v, (CS.start h).call hb, href, fun hg => by cases hg⟩)
        rw [hS, errN_fail]
        generalize (c.toNat : Int) = x at *
        clear hS h hr hc hcr hph hf
        go_enter Tryz.func64, Tryz.ntmps64
        go_wp2_with fail
        refine HF.out.mono ?_
        rintro e w1 ⟨rfl, hb1⟩
        go_wp2_with fail
        go_ret
        exact ⟨rfl, HP.out _ hb1⟩
      | true =>
        have hS : lineStep m c = { m with line := m.line ++ [c] } := by unfold lineStep; rw [if_neg (by rw [hcr]; decide), if_neg hc, if_pos hf]
        rw [hf] at HF
        have hen : errN { m with line := m.line ++ [c] } = 0 := by
          rcases hph with hp | hp | ⟨n, hp, _⟩ <;> (unfold errN; simp only [hp])
        rw [hS, hen]
        have HS := Lib.hid (CS.start h)
        have HPt : Hid (parted (m.line ++ [c]) = (r.part || (((c.toNat : Int) == 59) || ((c.toNat : Int) == 58)))) := Lib.hid (by
          rw [parted_snoc, hr.part]
          have e1 : ((c.toNat : Int) == 59) = (c == 59) := by rw [Bool.eq_iff_iff, beq_iff_eq, beq_iff_eq]; exact toNat_eq c 59
          have e2 : ((c.toNat : Int) == 58) = (c == 58) := by rw [Bool.eq_iff_iff, beq_iff_eq, beq_iff_eq]; exact toNat_eq c 58
          rw [e1, e2])
        clear hS hcr hph hf h
        go_enter Tryz.func64, Tryz.ntmps64
        go_wp2_with fail
        refine HF.out.mono ?_
        rintro e w1 ⟨rfl, hb1⟩
        replace HS := Lib.hid (HS.out.call hb1)
        have HA : Hid (CS w F (w1.alloc (.cells #[.int .u8 (c.toNat : Int)] 5)) F g m.most r v) := Lib.hid (HS.out.call ((Below.refl _ _).alloc (Nat.le_refl _) _))
        have d4 := HA.out.cod.c4
        have e4 := HS.out.cod.c4
        have hrow := HA.out.cod.row
        have hll : r.line.length ≤ 512 := by rw [hr.line]; exact hl
        clear HF hb1 d6 z6 HS
        obtain ⟨i0, hi, hx0⟩ : ∃ i0, Tryz.prog.info? 5 = some i0 ∧ (i0.zero, i0.size, i0.bytes) = (some (.int .u8 0), 1, 1) := by
          have := infoB
          cases hq : Tryz.prog.info? 5 with
          | none => rw [hq] at this; cases this
          | some i0 => rw [hq] at this; exact ⟨i0, rfl, Option.some.inj this⟩
        injection hx0 with hz0 hx1
        injection hx1 with hz1 hz2
        go_wp2_with (at_builtin; refine wpList_append_own_at _ rfl (.tmp 36) (.tmp 38) 46 rfl 0 5 i0 (.int .u8 0) 1 1 Tryz.underlying46 hi hz0 hz1 hz2 rfl (by decide) _ _ _ rfl hrow ⟨w1.heap.size, 0, none⟩ 1 1 [.int .u8 (c.toNat : Int)] rfl rfl (cell_one_new _ _ _) (fun x hx => by simp at hx; subst hx; rfl) (by unfold maxLen; omega) (by omega) (Nat.zero_le _) ?_; intro v4 w4 hown4 hg4 _ hat4; obtain ⟨q4, z4⟩ := CS.after HA.out hg4; obtain ⟨p4, cap4, rfl, _⟩ := row_form hown4; have HQ := Lib.hid (CS.append HA.out hg4 (l := r.line ++ [c]) (by rw [List.length_append, bvs_append]; exact hown4) hat4 (by simp)); have c5 := HQ.out.cod.c5; have y5 := HQ.out.cod.free 5; clear hown4 hg4 hat4 hrow d4 e4)
        all_goals
          go_ret
          refine ⟨rfl, _, _, _, PChLine.CS.setPart HQ.out _, href, fun _ => ⟨hr.size, hr.next, hr.left, (by show r.line ++ [c] = m.line ++ [c]; rw [hr.line]), ?_, hr.cr, hr.trail, hr.none⟩⟩
          show _ = parted (m.line ++ [c])
          rw [HPt.out]
          clear HQ HA HPt
        all_goals dsimp only
        all_goals clear q4 z4 c5 y5 hi hz0 hz1 hz2 hll hen hc hl hz href hr
        all_goals simp [*]
end Go.Proofs.YtmlpdhmafmdkcaaGreatDoor.PChLine

/- A strings.Builder that a call has made itself: its writes and its text, in the words of lists of bytes. -/
namespace Go.Proofs.YtmlpdhmafmdkcaaGreatDoor.PBuildT
open Go.ChangeShapes Go.WideShapes Go.ChangeAt Go.RowKit Bytes
theorem extra166 : Builder.Extra Tryz.prog Tryz.lays166_ren := {
  sizeBuilder := by kernel_rfl
  liesBuilder := by kernel_rfl
  t5 := Tryz.underlying5
  a5 := Tryz.isAgg5
  z5 := Tryz.sizeOf5
  v5 := Tryz.zeroValue5
  infoByte := by kernel_rfl
  cellsByte := by kernel_rfl
  sizeByte := by kernel_rfl
  neB5 := by decide }
theorem extra169 : Builder.Extra Tryz.prog Tryz.lays169_ren := {
  sizeBuilder := by kernel_rfl
  liesBuilder := by kernel_rfl
  t5 := Tryz.underlying5
  a5 := Tryz.isAgg5
  z5 := Tryz.sizeOf5
  v5 := Tryz.zeroValue5
  infoByte := by kernel_rfl
  cellsByte := by kernel_rfl
  sizeByte := by kernel_rfl
  neB5 := by decide }
/-- the builder in block b, made by the call that began in world w, holds acc -/
def Bld (w : World) (b : Nat) (acc : List UInt8) (wr : World) : Prop := Lib.IsBuilder 51 5 w.heap.size b (Lib.byteCells acc) wr ∧ Below w.heap.size w wr
theorem Bld.start (w : World) : Bld w w.heap.size [] (w.alloc (.cells #[.pointer none, .slice none 0 0] 51)) :=
  ⟨Lib.fresh_isBuilder _ _ w, (Below.refl _ w).alloc (Nat.le_refl _) _⟩
theorem at_below {T e : TypeId} {B b : Nat} {p : Value} {bs : List Value} {w w' : World} (h : Lib.BuilderAt T e B b p bs w) (hb : Below w.heap.size w w') : Lib.BuilderAt T e B b p bs w' := by
  obtain ⟨hB, v, hv, hown, hne⟩ := h
  have hlt : b < w.heap.size := (Array.getElem?_eq_some_iff.1 hv).1
  refine ⟨hB, v, by rw [hb.block b hlt]; exact hv, ⟨hown.1, ?_⟩, hne⟩
  rcases hown.2 with h0 | ⟨g, cap, cur, h1, h2, h3, h4⟩
  · exact .inl h0
  · exact .inr ⟨g, cap, cur, h1, h2, by rw [hb.block g (Array.getElem?_eq_some_iff.1 h3).1]; exact h3, h4⟩
theorem Bld.keep {w wr w' : World} {b : Nat} {acc : List UInt8} (h : Bld w b acc wr) (hb : Below wr.heap.size wr w') : Bld w b acc w' :=
  ⟨h.1.elim (fun x => .inl (at_below x hb)) (fun x => .inr (at_below x hb)), ⟨hb.os.trans h.2.os, hb.tape.trans h.2.tape, hb.output.trans h.2.output, Nat.le_trans h.2.size hb.size, fun i hi => (hb.block i (Nat.lt_of_lt_of_le hi h.2.size)).trans (h.2.block i hi)⟩⟩
theorem bld_text {w wr : World} {b : Nat} {acc : List UInt8} (h : Bld w b acc wr) (s : ByteArray) (hl : acc.length + s.size ≤ 140737488355328) :
    Calls Tryz.prog 16 #[.pointer (some ⟨b, 0, none⟩), .string s] wr fun e w' => e = .returned (.tuple #[.int .i64 s.size, .nilIface]) ∧ Bld w b (acc ++ toL s) w' := by
  refine (Any.Builder_WriteString Tryz.lays166 extra166 w.heap.size b _ s wr h.1 (by rw [Lib.byteCells_length]; exact hl) h.2.size).mono ?_
  rintro e w' ⟨rfl, h1, h2⟩
  refine ⟨rfl, ?_, h.2.trans h2⟩
  rw [Lib.byteCells_append]
  exact .inr h1
theorem bld_out {w wr : World} {b : Nat} {acc : List UInt8} (h : Bld w b acc wr) :
    Calls Tryz.prog 29 #[.pointer (some ⟨b, 0, none⟩)] wr fun e w' => e = .returned (.string (ofL acc)) ∧ Below w.heap.size w w' := by
  refine (Any.Builder_String_any Tryz.lays169 extra169 w.heap.size b acc wr h.1 h.2.size).mono ?_
  rintro e w' ⟨rfl, h2⟩
  exact ⟨rfl, h.2.trans h2⟩
end Go.Proofs.YtmlpdhmafmdkcaaGreatDoor.PBuildT

/- Layer 10 of the program: a chunk's bytes, and the builder beside the decoder. -/
namespace Go.Proofs.YtmlpdhmafmdkcaaGreatDoor.PChPart
open Go.ChangeShapes Go.WideShapes Go.ChangeAt Go.RowKit Bytes LexPure LexNum HeadPure ChunkPure ChunkText ChObj Mem Step Ret Rows1 PChLine PBuildT
set_option maxRecDepth 20000
theorem run_part : ∀ (l : List UInt8) (m : M) (k : Nat), m.ph = .data k → l.length < k → run m l = (⟨m.most, m.size + l.length, .data (k - l.length), m.line, m.cr⟩, l, l.length)
  | [], m, k, hp, _ => by
    show (m, [], 0) = ((⟨m.most, m.size, .data k, m.line, m.cr⟩ : M), [], 0)
    rw [← hp]
  | c :: l, m, k, hp, hl => by
    rw [List.length_cons] at hl
    have hs : stop m = false := by unfold stop; rw [hp]
    rw [run_cons hs]
    have h1 : bstep m c = (⟨m.most, m.size + 1, .data (k - 1), m.line, m.cr⟩, [c]) := by
      unfold bstep
      rw [hp]
      show ((⟨m.most, m.size + 1, if k ≤ 1 then Ph.after else Ph.data (k - 1), m.line, m.cr⟩ : M), [c]) = _
      rw [if_neg (by omega)]
    rw [h1]
    have ih := run_part l ⟨m.most, m.size + 1, .data (k - 1), m.line, m.cr⟩ (k - 1) rfl (by omega)
    rw [ih]
    simp only [List.length_cons]
    have e1 : m.size + 1 + l.length = m.size + (l.length + 1) := by omega
    have e2 : k - 1 - l.length = k - (l.length + 1) := by omega
    rw [e1, e2]
    rfl
/-- n bytes of a chunk more -/
def more (m : M) (k n : Nat) : M := ⟨m.most, m.size + n, if n = k then .after else .data (k - n), m.line, m.cr⟩
theorem run_more {m : M} {k : Nat} {l : List UInt8} (hp : m.ph = .data k) (hl : l.length ≤ k) (h0 : l ≠ []) : run m l = (more m k l.length, l, l.length) := by
  unfold more
  by_cases h : l.length = k
  · rw [if_pos h]
    exact run_data l m (by rw [h]; exact hp) h0
  · rw [if_neg h]
    exact run_part l m k hp (by omega)
set_option maxHeartbeats 1600000 in
/-- countBytes -/
theorem pcount_any {w : World} {F : Nat → Prop} {g : Nat} {r : Raw} {v : Value} {m : M} {k n : Nat} (h : Cod w F g m.most r v) (hr : Rel r m) (href : r.ref = 0) (hp : m.ph = .data k) (hn : n ≤ k) (hk : k < 4294967296) (hz : (m.size : Int) + n ≤ 9223372036854775807) :
    Calls Tryz.prog 63 #[.pointer (some ⟨g, 0, none⟩), .int .i64 n] w fun e w' => e = .returned (.tuple #[]) ∧ ∃ r', CS w F w' F g m.most r' v ∧ Out r' (more m k n) := by
  have d1 := h.c1
  have d3 := h.c3
  have d2 := h.c2
  have z1 := h.free 1
  have z2 := h.free 2
  have z3 := h.free 3
  rw [hr.size] at d1
  rw [hr.left k hp] at d3
  have ht : r.trail = 0 := hr.none (by rw [hr.next, hp]; show (1 : Int) ≤ 2; decide)
  have h1 := ((CS.start h).set 1 (.int .i64 ((m.size : Int) + n)) { r with size := (m.size : Int) + n } rfl rfl).set 3 (.int .i64 ((k : Int) - n)) { r with size := (m.size : Int) + n, left := (k : Int) - n } rfl rfl
  have b1 : (0 : Int) ≤ (m.size : Int) := by omega
  have b2 : (m.size : Int) + n ≤ 9223372036854775807 := by omega
  have b3 : (0 : Int) ≤ (n : Int) := by omega
  have b4 : (n : Int) ≤ (k : Int) := by omega
  have b5 : (k : Int) ≤ 4294967295 := by omega
  by_cases he : n = k
  · subst he
    rw [Int.sub_self] at h1
    have HP : Hid (∃ r', CS w F ((((w.setCell ⟨g, 1, none⟩ (.int .i64 ((m.size : Int) + n))).setCell ⟨g, 3, none⟩ (.int .i64 0)).setCell ⟨g, 2, none⟩ (.int .i64 2))) F g m.most r' v ∧ Out r' (more m n n)) := Lib.hid
      ⟨_, h1.set 2 (.int .i64 2) { r with size := (m.size : Int) + n, left := 0, next := 2 } rfl rfl, href, fun _ => by
        unfold more
        rw [if_pos rfl]
        exact ⟨by show (m.size : Int) + n = ((m.size + n : Nat) : Int); omega, rfl, fun n hn => (by cases hn), hr.line, hr.part, hr.cr, fun n hn => (by cases hn), fun _ => ht⟩⟩
    clear h hr h1
    go_enter Tryz.func63, Tryz.ntmps63
    go_wp2_with fail
    go_end0
    exact ⟨rfl, HP.out⟩
  · have hei : ((k : Int) - (n : Int) == 0) = false := beq_eq_false_iff_ne.2 (by omega)
    replace hk : k ≤ 4294967295 := by omega
    have HP : Hid (∃ r', CS w F (((w.setCell ⟨g, 1, none⟩ (.int .i64 ((m.size : Int) + n))).setCell ⟨g, 3, none⟩ (.int .i64 ((k : Int) - n)))) F g m.most r' v ∧ Out r' (more m k n)) := Lib.hid
      ⟨_, h1, href, fun _ => by
        unfold more
        rw [if_neg he]
        exact ⟨by show (m.size : Int) + n = ((m.size + n : Nat) : Int); omega, by show r.next = 1; rw [hr.next, hp]; rfl, fun j hj => (by cases hj; show (k : Int) - n = ((k - n : Nat) : Int); omega), hr.line, hr.part, hr.cr, fun n hn => (by cases hn), fun _ => ht⟩⟩
    clear h hr h1
    go_enter Tryz.func63, Tryz.ntmps63
    go_wp2_with fail
    go_end0
    exact ⟨rfl, HP.out⟩
/-! ### the builder beside it -/
/-- the builder in block b holds acc; none of its blocks is F's -/
structure Bl (B b : Nat) (acc : List UInt8) (F : Nat → Prop) (w : World) : Prop where
  is : ∃ p v, B ≤ b ∧ w.heap[b]? = some (.cells #[p, v] 51 (0, 0)) ∧ w.ownsRow B 5 1 v (Lib.byteCells acc).length (Lib.byteCells acc) ∧ v.ownBlock ≠ some b ∧ (p = .pointer none ∨ p = .pointer (some ⟨b, 0, none⟩)) ∧ ¬ F b ∧ ∀ j, v.ownBlock = some j → ¬ F j
  size : B ≤ w.heap.size
theorem Bl.builder {B b : Nat} {acc : List UInt8} {F : Nat → Prop} {w : World} (h : Bl B b acc F w) : Lib.IsBuilder 51 5 B b (Lib.byteCells acc) w := by
  obtain ⟨p, v, h1, h2, h3, h4, h5, _⟩ := h.is
  rcases h5 with rfl | rfl
  · exact .inl ⟨h1, v, h2, h3, h4⟩
  · exact .inr ⟨h1, v, h2, h3, h4⟩
theorem Bl.start (w : World) {F : Nat → Prop} (hF : ∀ k, F k → k < w.heap.size) : Bl w.heap.size w.heap.size [] F (w.alloc (.cells #[.pointer none, .slice none 0 0] 51)) :=
  ⟨⟨.pointer none, .slice none 0 0, Nat.le_refl _, heap_alloc_new w _, World.ownsRow_nil _ _ _ _, by simp [Value.ownBlock], .inl rfl, fun h => by have := hF _ h; omega, fun j hj => by simp [Value.ownBlock] at hj⟩, by simp⟩
theorem Bl.step {B b : Nat} {acc : List UInt8} {F F' : Nat → Prop} {w w' : World} (h : Bl B b acc F w) (hs : Step w w' F F') : Bl B b acc F' w' := by
  obtain ⟨p, v, h1, h2, h3, h4, h5, h6, h7⟩ := h.is
  have hlt : b < w.heap.size := (Array.getElem?_eq_some_iff.1 h2).1
  refine ⟨⟨p, v, h1, by rw [hs.block b hlt h6]; exact h2, hs.row h3 h7, h4, h5, fun h => ?_, fun j hj h => ?_⟩, Nat.le_trans h.size hs.size⟩
  · rcases hs.grow b h with q | q
    · exact h6 q
    · omega
  · rcases hs.grow j h with q | q
    · exact h7 j hj q
    · have := row_lt h3 hj
      omega
theorem Bl.less {B b : Nat} {acc : List UInt8} {F G : Nat → Prop} {w : World} (h : Bl B b acc F w) (hG : ∀ k, G k → F k) : Bl B b acc G w := by
  obtain ⟨p, v, h1, h2, h3, h4, h5, h6, h7⟩ := h.is
  exact ⟨⟨p, v, h1, h2, h3, h4, h5, fun q => h6 (hG b q), fun j hj q => h7 j hj (hG j q)⟩, h.size⟩
/-- a write: the decoder is one block below -/
theorem Bl.write {B b g : Nat} {acc : List UInt8} {F : Nat → Prop} {w : World} (h : Bl B b acc F w) (hg : g < B) (s : ByteArray) (hl : acc.length + s.size ≤ 140737488355328) :
    Calls Tryz.prog 16 #[.pointer (some ⟨b, 0, none⟩), .string s] w fun e w' => e = .returned (.tuple #[.int .i64 s.size, .nilIface]) ∧ Bl B b (acc ++ toL s) (fun k => k = g) w' ∧ Below B w w' := by
  refine (Any.Builder_WriteString Tryz.lays166 extra166 B b _ s w h.builder (by rw [Lib.byteCells_length]; exact hl) h.size).mono ?_
  rintro e w' ⟨rfl, h1, h2⟩
  refine ⟨rfl, ?_, h2⟩
  obtain ⟨q1, v, q2, q3, q4⟩ := h1
  refine ⟨⟨_, v, q1, q2, ?_, q4, .inr rfl, fun e => by omega, fun j hj e => ?_⟩, Nat.le_trans h.size h2.size⟩
  · rw [Lib.byteCells_append]
    exact q3
  · have := (q3.lt j hj).1
    omega
theorem Bl.out {B b : Nat} {acc : List UInt8} {F : Nat → Prop} {w : World} (h : Bl B b acc F w) :
    Calls Tryz.prog 29 #[.pointer (some ⟨b, 0, none⟩)] w fun e w' => e = .returned (.string (ofL acc)) ∧ Below B w w' :=
  Any.Builder_String_any Tryz.lays169 extra169 B b acc w h.builder h.size
/-- what lies from the call's first new block on may turn, while there is no line -/
theorem CS.write {w W W' : World} {F F' : Nat → Prop} {g : Nat} {most : Int} {r : Raw} {v : Value} (h : CS w F W F' g most r v) (hl : r.line = []) (hg : g < w.heap.size) (hb : Below w.heap.size W W') : CS w F W' (fun k => k = g) g most r v := by
  have hn := h.cod.nil hl
  subst hn
  refine ⟨h.cod.alone.far (G := fun k => w.heap.size ≤ k) (G' := fun k => w.heap.size ≤ k) ⟨hb.os, hb.tape, hb.output, hb.size, fun k hk hn => hb.block k (by omega), fun _ h => .inl h⟩ (fun k hk hn => by omega), ?_⟩
  exact (h.step.less (G := fun k => k = g) (fun k hk => by rw [hk]; exact h.cod.mine)).beyond (G := fun k => w.heap.size ≤ k) (G' := fun k => w.heap.size ≤ k) ⟨hb.os, hb.tape, hb.output, hb.size, fun k hk hn => hb.block k (by omega), fun _ h => .inl h⟩ (fun j hj => hj)
end Go.Proofs.YtmlpdhmafmdkcaaGreatDoor.PChPart

/- strings.Builder's String beside another row of the call's own: only the builder's row turns. -/
namespace Go.Proofs.YtmlpdhmafmdkcaaGreatDoor.PChStr
open Go.ChangeShapes Go.WideShapes Go.ChangeAt Go.RowKit Bytes Mem Step Rows1 PBuildT PChPart
set_option maxRecDepth 100000
theorem freeze_far (w : World) (p : Addr) (n k : Nat) (h : k ≠ p.block) : (w.freeze p n).heap[k]? = w.heap[k]? := by
  unfold World.freeze
  split
  · rfl
  · simp only [Array.getElem?_modify]
    rw [if_neg (fun e => h e.symm)]
theorem freeze_size (w : World) (p : Addr) (n : Nat) : (w.freeze p n).heap.size = w.heap.size := by
  unfold World.freeze
  split <;> simp
theorem freeze_rest (w : World) (p : Addr) (n : Nat) : (w.freeze p n).os = w.os ∧ (w.freeze p n).tape = w.tape ∧ (w.freeze p n).output = w.output := by
  unfold World.freeze
  split <;> exact ⟨rfl, rfl, rfl⟩
theorem freeze_step (w : World) (g n : Nat) : Step w (w.drew.freeze ⟨g, 0, none⟩ n) (fun k => k = g) (fun k => k = g) := by
  obtain ⟨h1, h2, h3⟩ := freeze_rest w.drew ⟨g, 0, none⟩ n
  exact ⟨h1, h2, h3, by rw [freeze_size]; exact Nat.le_refl _, fun k _ hk => freeze_far w.drew ⟨g, 0, none⟩ n k hk, fun _ h => .inl h⟩
set_option maxHeartbeats 2000000 in
theorem str_row {B b g cap : Nat} {p : Value} {l : List UInt8} {w : World} (h0 : 0 < l.length) (hbk : w.heap[b]? = some (.cells #[p, .slice (some ⟨g, 0, none⟩) l.length cap] 51 (0, 0)))
    (hown : w.ownsRow B 5 1 (.slice (some ⟨g, 0, none⟩) l.length cap) l.length (Lib.byteCells l)) :
    Calls Tryz.prog 29 #[.pointer (some ⟨b, 0, none⟩)] w fun e w' => e = .returned (.string (ofL l)) ∧ Step w w' (fun k => k = g) (fun k => k = g) := by
  have hs := freeze_step w g l.length
  have c1 : w.drew.cell? ⟨b, 1, none⟩ = some (.slice (some ⟨g, 0, none⟩) l.length cap) := by
    have : w.drew.heap[b]? = some (.cells #[p, .slice (some ⟨g, 0, none⟩) l.length cap] 51 (0, 0)) := hbk
    rw [Lib.cell_of_heap this]; rfl
  rcases hown.2 with ⟨hv, _⟩ | ⟨g2, cap2, cur, hv, hbg, hg, hlc, hcm, hcs, htk⟩
  · cases hv
  · injection hv with e1 e2 e3
    injection e1 with e1
    injection e1 with e1
    subst e1
    subst e3
    have hSD : (Builtin.unsafeSliceData_ #[46] 93 #[.slice (some ⟨g, 0, none⟩) l.length cap]).run Tryz.prog w.drew = .ok (.pointer (some ⟨g, 0, none⟩)) w.drew :=
      Lib.run_unsafeSliceData_row _ _ _ _ _ _ (by omega)
    have hUS : (Builtin.unsafeString_ #[93, 3] 9 #[.pointer (some ⟨g, 0, none⟩), .int .i64 l.length]).run Tryz.prog w.drew = .ok (.string ⟨l.toArray⟩) (w.drew.freeze ⟨g, 0, none⟩ l.length) := by
      refine Lib.run_unsafeString_row w.drew 93 3 9 5 Tryz.underlying93 (by kernel_rfl) g cur.size (by have hg' : w.drew.heap[g]? = some (.cells cur 5 (0, 0)) := hg; simp [World.shape?, hg']) l (by intro e; rw [e] at h0; simp at h0) (by omega) (by unfold maxLen at hcm; omega) ?_
      intro j x hx
      exact hown.cells (g := g) rfl j (.int .u8 x.toNat) (by simp [Lib.byteCells, hx])
    replace hs := Lib.hid hs
    clear hg hcs htk hlc hcm hown hbk
    go_enter Tryz.func29, Tryz.ntmps29
    go_wp2_with fail
    go_region
    all_goals
      go_wp2_with fail
      go_ret
      exact ⟨rfl, hs.out⟩
theorem Bl.text {B b : Nat} {acc : List UInt8} {F : Nat → Prop} {w : World} (h : Bl B b acc F w) :
    Calls Tryz.prog 29 #[.pointer (some ⟨b, 0, none⟩)] w fun e w' => e = .returned (.string (ofL acc)) ∧ ∃ G, Step w w' G G ∧ ∀ k, G k → B ≤ k ∧ ¬ F k := by
  obtain ⟨p, v, h1, h2, h3, h4, h5, h6, h7⟩ := h.is
  cases acc with
  | nil =>
    have key : ∀ (e : Ending) (w' : World), (e = .returned (.string ⟨#[]⟩) ∧ Below w.heap.size w w') → e = .returned (.string (ofL [])) ∧ ∃ G, Step w w' G G ∧ ∀ k, G k → B ≤ k ∧ ¬ F k :=
      fun e w' ⟨q1, q2⟩ => ⟨q1, fun _ => False, Step.of_below q2 _, fun _ h => h.elim⟩
    rcases h3.2 with ⟨rfl, _⟩ | ⟨g, cap, cur, rfl, hbg, hg, _, _, _, _⟩
    · exact (Any.Builder_String_nil Tryz.lays169 extra169 w.heap.size b p w h2).mono key
    · by_cases hc0 : cap = 0
      · subst hc0
        exact (Any.Builder_String_noroom Tryz.lays169 extra169 w.heap.size b g p cur w (Nat.le_refl _) h2 hg).mono key
      · exact (Any.Builder_String_room Tryz.lays169 extra169 w.heap.size b g cap p w hc0 h2).mono key
  | cons x r =>
    have hl : (Lib.byteCells (x :: r)).length = (x :: r).length := Lib.byteCells_length _
    rw [hl] at h3
    rcases h3.2 with ⟨_, q⟩ | ⟨g, cap, cur, hv, hbg, rest⟩
    · cases q
    · subst hv
      refine (str_row (l := x :: r) (by simp) h2 h3).mono ?_
      rintro e w' ⟨rfl, hs⟩
      exact ⟨rfl, _, hs, fun k hk => by rw [hk]; exact ⟨hbg, h7 g rfl⟩⟩
end Go.Proofs.YtmlpdhmafmdkcaaGreatDoor.PChStr

/- A strings.Builder that is a part of a struct in memory: its writes, its text, its reset. -/
namespace Go.Proofs.YtmlpdhmafmdkcaaGreatDoor.InEmb
open Go.ChangeShapes Go.WideShapes Go.ChangeAt Go.RowKit Bytes Mem Step PChStr
set_option maxRecDepth 100000
/-! ### an append to a row of bytes whose head may be frozen, and where the row then lies -/
theorem append_near {w : World} (t u ty e : TypeId) (i : TypeInfo) (ht : Tryz.prog.underlying t = some (.slice e)) (hu : Tryz.prog.underlying u = some .string) (hi : Tryz.prog.info? e = some i) (hz : i.zero = some (.int .u8 0)) (hsize : i.size = 1) (hby : i.bytes = 1)
    (v : Value) (n : Nat) (xs : List Value) (hown : w.ownsRowF 0 e 1 v n xs) (s : ByteArray) (h63 : n + s.size ≤ maxLen) (hbytes : n + s.size ≤ 140737488355328) :
    ∃ v' w', (Builtin.append_ #[t, u] ty #[v, .string s]).run Tryz.prog w = .ok v' w' ∧ w'.ownsRowF 0 e 1 v' (n + s.size) (xs ++ Lib.strCells s) ∧ w.grownBy w' v.ownBlock ∧ ∀ k, v'.ownBlock = some k → v.ownBlock = some k ∨ w.heap.size ≤ k := by
  obtain ⟨v', w', h1, h2, h3, _⟩ := Lib.run_append_own_stringF (P := Tryz.prog) w 0 t u ty e i ht hu hi hz hsize hby v n xs hown s h63 hbytes (Nat.zero_le _)
  refine ⟨v', w', h1, h2, h3, ?_⟩
  rcases hown.2 with ⟨rfl, rfl⟩ | ⟨g, cap, cur, fz, rfl, _, hg, hfz, hnc, hcm, hcs, htake⟩
  · obtain ⟨v2, w2, k1, k2, _⟩ := Lib.run_append_own_string (P := Tryz.prog) w w.heap.size t u ty e i ht hu hi hz hsize hby (.slice none 0 0) 0 xs ⟨hown.1, .inl ⟨rfl, rfl⟩⟩ s h63 hbytes (Nat.le_refl _)
    rw [h1] at k1
    injection k1 with e1 e2
    subst e1
    subst e2
    exact fun k hk => .inr (k2.lt k hk).1
  · by_cases hroom : n + s.size ≤ cap
    · have hr := Lib.run_append_room_stringF (P := Tryz.prog) w t u ty e i ht hu hi hsize g n cap cur fz hg (by simpa using hfz) s hroom (by rw [Nat.mul_one] at hcs; omega)
      rw [h1] at hr
      injection hr with e1 e2
      subst e1
      exact fun k hk => .inl hk
    · have hxl : xs.length = n := by simpa using hown.1
      have hr := Lib.run_append_grow_string (P := Tryz.prog) w t u ty e i (.int .u8 0) ht hu hi hz ⟨g, 0, none⟩ n cap xs (by rw [hsize]; simpa using hxl) (hown.cells (g := g) rfl) s (by omega) (by simp only [maxLen] at h63; omega) (by rw [hby]; exact growslice_fits (by omega) (by omega))
      rw [h1] at hr
      injection hr with e1 e2
      subst e1
      intro k hk
      simp [Value.ownBlock] at hk
      exact .inr (by omega)
/-- a row of bytes in a new block, spare cells behind it -/
theorem fresh_row (w : World) (e : TypeId) (ys : List Value) (cs : Array Value) (m cap : Nat) (hm : ys.length = m) (h1 : m ≤ cap) (h2 : cap ≤ maxLen) (hcs : cs = ys.toArray ++ Builtin.zeroCells (Value.int .u8 0).cells (cap - m)) :
    (w.alloc (.cells cs e)).ownsRowF 0 e 1 (.slice (some ⟨w.heap.size, 0, none⟩) m cap) m ys := by
  subst hcs
  refine ⟨by omega, .inr ⟨w.heap.size, cap, _, (0, 0), rfl, Nat.zero_le _, heap_alloc_new w _, Nat.zero_le _, h1, h2, ?_, ?_⟩⟩
  · rw [Array.size_append, size_zeroCells, List.size_toArray, hm, show (Value.int IntKind.u8 0).cells.size = 1 from rfl]
    omega
  · rw [Nat.mul_one, Array.toList_append]
    exact List.take_left' hm
theorem fresh_grown (w : World) (o : Obj) (row : Option Nat) : w.grownBy (w.drew.alloc o) row := ⟨rfl, rfl, rfl, by simp, fun k hk _ => heap_alloc_old w.drew o hk⟩
theorem bytes_cells (s : ByteArray) : (s.data.map fun b => Value.int .u8 b.toNat) = (Lib.strCells s).toArray := by
  apply Array.ext'
  simp [Lib.strCells]
theorem append_at {w : World} (t u ty e : TypeId) (i : TypeInfo) (ht : Tryz.prog.underlying t = some (.slice e)) (hu : Tryz.prog.underlying u = some .string) (hi : Tryz.prog.info? e = some i) (hz : i.zero = some (.int .u8 0)) (hsize : i.size = 1) (hby : i.bytes = 1)
    (v : Value) (n : Nat) (xs : List Value) (hown : w.ownsRowF 0 e 1 v n xs) (s : ByteArray) (h63 : n + s.size ≤ maxLen) (hbytes : n + s.size ≤ 211106232532992) :
    ∃ v' w', (Builtin.append_ #[t, u] ty #[v, .string s]).run Tryz.prog w = .ok v' w' ∧ w'.ownsRowF 0 e 1 v' (n + s.size) (xs ++ Lib.strCells s) ∧ w.grownBy w' v.ownBlock ∧ ∀ k, v'.ownBlock = some k → v.ownBlock = some k ∨ w.heap.size ≤ k := by
  by_cases hsm : n + s.size ≤ 140737488355328
  · exact append_near t u ty e i ht hu hi hz hsize hby v n xs hown s h63 hsm
  have hxl : xs.length = n := by simpa using hown.1
  have hall : (xs ++ Lib.strCells s).length = n + s.size := by rw [List.length_append, hxl, Lib.strCells_length]
  have h63i : ((n + s.size : Nat) : Int) ≤ 9223372036854775807 := by omega
  rcases hown.2 with ⟨rfl, rfl⟩ | ⟨g, cap, cur, fz, rfl, _, hg, hfz, hnc, hcm, hcs, htake⟩
  · have hx : xs = [] := List.eq_nil_of_length_eq_zero hxl
    subst hx
    have hr := run_append_nil_string (P := Tryz.prog) w t u ty e i (.int .u8 0) ht hu hi hz s (by omega) (by omega) (by rw [hby]; omega)
    rw [Nat.zero_add] at h63 ⊢
    rw [List.nil_append] at hall ⊢
    refine ⟨_, _, hr, fresh_row w.drew e (Lib.strCells s) _ _ _ (Lib.strCells_length s) (grownCap_ge _ _ _ _) (grownCap_le_maxLen _ _ _ _ h63) (congrArg (· ++ _) (bytes_cells s)), fresh_grown w _ _, fun k hk => ?_⟩
    simp [Value.ownBlock] at hk
    exact .inr (by omega)
  · by_cases hroom : n + s.size ≤ cap
    · rw [Nat.mul_one] at hcs hfz htake
      have hr := Lib.run_append_room_stringF (P := Tryz.prog) w t u ty e i ht hu hi hsize g n cap cur fz hg hfz s hroom (by omega)
      rw [htake] at hr
      refine ⟨_, _, hr, ⟨by rw [Nat.mul_one]; exact hall, .inr ⟨g, cap, _, fz, rfl, Nat.zero_le _, setRow_heap w g cur _ e _ hg, by omega, hroom, hcm, ?_, ?_⟩⟩, ⟨rfl, rfl, rfl, by simp, fun k _ hk => setRow_other w g k _ (fun e => hk (by simp [Value.ownBlock, e]))⟩, fun k hk => .inl hk⟩
      · rw [Nat.mul_one, List.size_toArray, List.length_append, hall, List.length_drop, Array.length_toList, hcs]
        omega
      · rw [Nat.mul_one]
        exact List.take_left' hall
    · have hr := Lib.run_append_grow_string (P := Tryz.prog) w t u ty e i (.int .u8 0) ht hu hi hz ⟨g, 0, none⟩ n cap xs (by rw [hsize]; simpa using hxl) (hown.cells (g := g) rfl) s (by omega) h63i (by rw [hby]; exact growslice_fits_wide (by omega) (by omega))
      refine ⟨_, _, hr, fresh_row w.drew e (xs ++ Lib.strCells s) _ _ _ hall (grownCap_ge _ _ _ _) (grownCap_le_maxLen _ _ _ _ h63) (by simp), fresh_grown w _ _, fun k hk => ?_⟩
      simp [Value.ownBlock] at hk
      exact .inr (by omega)
theorem wpList_append_string_at {ops : Array Oper} {rest : List Oper} {o : Oper} {a : Act} {w : World} {Q : Exit → Act → World → Prop} (hgd : o.guard = none) (sl x : Operand) (t u : TypeId)
    (ho : o.op = .call { callee := .builtin .append, args := #[sl, x], argTypes := #[t, u] }) (e : TypeId) (i : TypeInfo) (ht : Tryz.prog.underlying t = some (.slice e)) (hu : Tryz.prog.underlying u = some .string) (hi : Tryz.prog.info? e = some i) (hz : i.zero = some (.int .u8 0)) (hsize : i.size = 1) (hby : i.bytes = 1)
    (v : Value) (n : Nat) (xs : List Value) (hs : a.eval sl = v) (hown : w.ownsRowF 0 e 1 v n xs) (s : ByteArray) (hx : a.eval x = .string s) (h63 : n + s.size ≤ maxLen) (hbytes : n + s.size ≤ 211106232532992)
    (h : ∀ v' w', w'.ownsRowF 0 e 1 v' (n + s.size) (xs ++ Lib.strCells s) → w.grownBy w' v.ownBlock → (∀ k, v'.ownBlock = some k → v.ownBlock = some k ∨ w.heap.size ≤ k) → wpList Tryz.prog ops Q rest (a.put o.dst v') w') : wpList Tryz.prog ops Q (o :: rest) a w := by
  refine wpList_plain hgd fun K hK => ?_
  obtain ⟨v', w', hr, h2, h3, h4⟩ := append_at t u o.type e i ht hu hi hz hsize hby v n xs hown s h63 hbytes
  unfold Oper.wp execOp
  simp only [ho, resolve, invoke, builtin, Sem.run_bind, Sem.run_pure, Result.andThen_ok, List.map_toArray, List.map_cons, List.map_nil, hs, hx, hr]
  exact hK _ _ (h v' w' h2 h3 h4)
/-! ### rows of bytes -/
/-- the row v holds the bytes l; of its head a stretch may be frozen -/
def RowB (w : World) (v : Value) (l : List UInt8) : Prop := w.ownsRowF 0 5 1 v l.length (Lib.byteCells l)
theorem RowB.nil (w : World) : RowB w (.slice none 0 0) [] := World.ownsRowF_nil _ _ _ _
theorem RowB.form {w : World} {v : Value} {l : List UInt8} (h : RowB w v l) : ∃ p cap, v = .slice p l.length cap := by
  rcases h.2 with ⟨hv, hn⟩ | ⟨g, cap, cur, fz, hv, _⟩
  · exact ⟨none, 0, by rw [hv, hn]⟩
  · exact ⟨_, cap, hv⟩
theorem RowB.lt {w : World} {v : Value} {l : List UInt8} (h : RowB w v l) {k : Nat} (hk : v.ownBlock = some k) : k < w.heap.size := (World.ownsRowF.lt h k hk).2
theorem RowB.step {w w' : World} {F F' : Nat → Prop} {v : Value} {l : List UInt8} (h : RowB w v l) (hs : Step w w' F F') (hn : ∀ b, v.ownBlock = some b → ¬ F b) : RowB w' v l := by
  refine ⟨h.1, ?_⟩
  rcases h.2 with hx | ⟨g, cap, cur, fz, rfl, hb, hgg, rest⟩
  · exact .inl hx
  · refine .inr ⟨g, cap, cur, fz, rfl, hb, ?_, rest⟩
    rw [hs.block g (Array.getElem?_eq_some_iff.1 hgg).1 (hn g rfl)]
    exact hgg
theorem RowB.far {w : World} {v : Value} {l : List UInt8} {g : Nat} {T : TypeId} {cs : Array Value} (h : RowB w v l) (hh : Has w g T cs) (hT : T ≠ 5) : v.ownBlock ≠ some g := Lib.ownBlock_neF h hh.at_ hT
theorem strCells_bytes (s : ByteArray) : Lib.strCells s = Lib.byteCells (toL s) := rfl
/-! ### the builder -/
/-- a builder may lie at place o of the n cells of a T -/
structure Spot (T : TypeId) (o n : Nat) : Prop where
  lies : liesAt Tryz.prog Tryz.prog.depth T (n / Tryz.prog.cellsOf T) o 51 1 = true
  ne : T ≠ 5
  room : o + 1 < n
def selfP (b o : Nat) : Value := .pointer (some ⟨b, o, none⟩)
structure Emb (w : World) (b o : Nat) (T : TypeId) (cs : Array Value) (p v : Value) (l : List UInt8) : Prop where
  has : Has w b T cs
  c0 : cs[o]? = some p
  c1 : cs[o + 1]? = some v
  me : p = .pointer none ∨ p = selfP b o
  row : RowB w v l
section
variable {w w' : World} {b o n : Nat} {T : TypeId} {cs : Array Value} {p v : Value} {l : List UInt8}
theorem Emb.own (h : Emb w b o T cs p v l) (hp : Spot T o n) : v.ownBlock ≠ some b := h.row.far h.has hp.ne
theorem Emb.step (h : Emb w b o T cs p v l) {F F' : Nat → Prop} (hs : Step w w' F F') (hb : ¬ F b) (hv : ∀ k, v.ownBlock = some k → ¬ F k) : Emb w' b o T cs p v l :=
  ⟨hs.has h.has hb, h.c0, h.c1, h.me, h.row.step hs hv⟩
/-- another cell is stored -/
theorem Emb.put (h : Emb w b o T cs p v l) (hp : Spot T o n) (i : Nat) (u : Value) (h0 : i ≠ o) (h1 : i ≠ o + 1) : Emb (w.setCell ⟨b, i, none⟩ u) b o T (cs.setIfInBounds i u) p v l :=
  ⟨h.has.set_ i u, by rw [Array.getElem?_setIfInBounds_ne h0]; exact h.c0, by rw [Array.getElem?_setIfInBounds_ne h1]; exact h.c1, h.me,
    h.row.step (Step.set_ (F := fun k => k = b) w rfl i u) (fun k hk e => h.own hp (by rw [hk, e]))⟩
end
/-- from here on it is its own -/
def Used (w w' : World) (b o : Nat) (T : TypeId) (cs : Array Value) (v : Value) (l : List UInt8) : Prop := Emb w' b o T cs (selfP b o) v l ∧ Step w w' (fun k => k = b) (fun k => k = b)
set_option maxHeartbeats 2000000 in
theorem emb_check {w : World} {b o n : Nat} {T : TypeId} {cs : Array Value} {p v : Value} {l : List UInt8} (hp : Spot T o n) (hn : cs.size = n) (h : Emb w b o T cs p v l) :
    Calls Tryz.prog 22 #[.pointer (some ⟨b, o, none⟩)] w fun e w' => e = .returned (.tuple #[]) ∧ Used w w' b o T (cs.setIfInBounds o (selfP b o)) v l := by
  have c0 := (h.has.cell o).trans h.c0
  have z0 := h.has.free o
  have hsh : w.shape? b = some (T, n) := by
    have := h.has.at_
    simp [World.shape?, this, hn]
  have hoff : o < n := by have := hp.room; omega
  obtain ⟨j, hj, hjs⟩ := Option.map_eq_some_iff.1 PBuildT.extra166.sizeBuilder
  obtain ⟨cs1, hcs1⟩ : ∃ cs1, cs1 = cs.setIfInBounds o (selfP b o) := ⟨_, rfl⟩
  rw [← hcs1]
  rcases h.me with hm | hm
  · subst hm
    have HU : Hid (Used w (w.setCell ⟨b, o, none⟩ (.pointer (some ⟨b, o, none⟩))) b o T cs1 v l) := Lib.hid (by
      rw [hcs1]
      exact ⟨⟨h.has.set_ o _, by rw [Array.getElem?_setIfInBounds_self_of_lt (by omega)], by rw [Array.getElem?_setIfInBounds_ne (by omega)]; exact h.c1, .inr rfl, h.row.step (Step.set_ (F := fun k => k = b) w rfl o _) (fun k hk e => h.own hp (by rw [hk, e]))⟩, Step.set_ (F := fun k => k = b) w rfl o _⟩)
    have lies := hp.lies
    clear h hn hp hcs1
    go_enter Tryz.func22, Tryz.ntmps22
    go_wp2_with fail
    rw [Lib.run_to_unsafe w ⟨b, o, none⟩ Tryz.underlying49 Tryz.underlying75 hj (by rw [hjs]; decide) hsh hoff]
    simp only [Result.andThen]
    rw [Oper.upon_value]
    go_wp2_with fail
    rw [run_callFunc_extern Tryz.func31 (by kernel_rfl) (by kernel_rfl) (by kernel_rfl) (e := Extern.AbiNoEscape.same) (by kernel_rfl)]
    rw [Lib.run_noEscape]
    simp only [Result.andThen]
    rw [Oper.upon_value]
    go_wp2_with fail
    rw [Lib.run_from_unsafe w ⟨b, o, none⟩ Tryz.underlying75 Tryz.underlying49 hj hsh lies]
    simp only [Result.andThen]
    rw [Oper.upon_value]
    go_wp2_with fail
    go_end0
    exact ⟨rfl, HU.out⟩
  · subst hm
    have HU : Hid (Used w w b o T cs1 v l) := Lib.hid (by
      rw [hcs1]
      exact ⟨⟨by
      have e : cs.setIfInBounds o (selfP b o) = cs := by
        apply Array.ext_getElem?
        intro i
        by_cases hi : o = i
        · subst hi
          rw [Array.getElem?_setIfInBounds_self_of_lt (by omega)]
          exact h.c0.symm
        · rw [Array.getElem?_setIfInBounds_ne hi]
      rw [e]
      exact h.has, by rw [Array.getElem?_setIfInBounds_self_of_lt (by omega)], by rw [Array.getElem?_setIfInBounds_ne (by omega)]; exact h.c1, .inr rfl, h.row⟩, Step.refl w _⟩)
    unfold selfP at c0
    clear h hn hp hcs1
    go_enter Tryz.func22, Tryz.ntmps22
    go_wp2_with fail
    rw [Lib.run_neq_ptr_same w _ Tryz.underlying49 hj]
    go_wp2_with fail
    go_end0
    exact ⟨rfl, HU.out⟩
/-- what a write leaves -/
def Wrote (w w' : World) (b o : Nat) (T : TypeId) (cs : Array Value) (v : Value) (l m : List UInt8) : Prop :=
  ∃ v', Emb w' b o T (cs.setIfInBounds (o + 1) v') (selfP b o) v' (l ++ m) ∧ Step w w' (fun k => k = b ∨ v.ownBlock = some k) (fun k => k = b ∨ v'.ownBlock = some k)
set_option maxHeartbeats 2000000 in
theorem emb_write {w : World} {b o n : Nat} {T : TypeId} {cs : Array Value} {p v : Value} {l : List UInt8} (hp : Spot T o n) (hn : cs.size = n) (h : Emb w b o T cs p v l) (s : ByteArray) (hl : l.length + s.size ≤ 211106232532992) :
    Calls Tryz.prog 16 #[.pointer (some ⟨b, o, none⟩), .string s] w fun e w' => e = .returned (.tuple #[.int .i64 s.size, .nilIface]) ∧ Wrote w w' b o T (cs.setIfInBounds o (selfP b o)) v l (toL s) := by
  have HC := Lib.hid (emb_check hp hn h)
  have hcn : (cs.setIfInBounds o (selfP b o)).size = n := by rw [Array.size_setIfInBounds]; exact hn
  generalize cs.setIfInBounds o (selfP b o) = cs1 at *
  obtain ⟨i0, hi, hz0, hz1, hz2⟩ := info_parts PBuildT.extra166.infoByte
  have hi' : Tryz.prog.info? 5 = some i0 := hi
  clear hi
  go_enter Tryz.func16, Tryz.ntmps16
  go_wp2_with fail
  refine HC.out.mono ?_
  rintro e w1 ⟨rfl, hE, hS⟩
  have d0 := (hE.has.cell o).trans hE.c0
  have d1 := (hE.has.cell (o + 1)).trans hE.c1
  have hrow := hE.row
  have hlt := hE.has.lt
  have hne := hE.own hp
  have hroom := hp.room
  have HE := Lib.hid hE
  have HS := Lib.hid hS
  clear HC hE hS h
  go_wp2_with (at_builtin; refine wpList_append_string_at rfl _ _ 46 9 rfl 5 i0 Tryz.underlying46 Tryz.underlying9 hi' hz0 hz1 hz2 _ _ _ rfl hrow s rfl (by unfold maxLen; omega) hl ?_)
  intro v' w2 hown' hgrow hat
  have hrow2 : RowB w2 v' (l ++ toL s) := by
    unfold RowB
    rw [List.length_append, toL_length, Lib.byteCells_append, ← strCells_bytes]
    exact hown'
  have hh2 : Has w2 b T cs1 := HE.out.has.grown hgrow (fun e => hne e.symm)
  obtain ⟨pp, cap, hv'⟩ := hrow2.form
  rw [List.length_append, toL_length] at hv'
  subst hv'
  have f1 := hh2.free (o + 1)
  have e1 := (hh2.cell (o + 1)).trans HE.out.c1
  have HW : Hid (Wrote w (w2.setCell ⟨b, o + 1, none⟩ (.slice pp (l.length + s.size) cap)) b o T cs1 v l (toL s)) := Lib.hid (by
    have hne2 := hrow2.far hh2 hp.ne
    have hs3 := Step.set_ (F := fun k => k = b ∨ v.ownBlock = some k) w2 (g := b) (.inl rfl) (o + 1) (.slice pp (l.length + s.size) cap)
    have hall := ((HS.out.up (G := fun k => k = b ∨ v.ownBlock = some k) (fun k hk => .inl hk)).trans (Step.of_grown hgrow (fun k hk => .inr hk))).trans hs3
    refine ⟨_, ⟨hh2.set_ (o + 1) _, by rw [Array.getElem?_setIfInBounds_ne (by omega)]; exact HE.out.c0, by rw [Array.getElem?_setIfInBounds_self_of_lt (by omega)], .inr rfl, hrow2.step (Step.set_ (F := fun k => k = b) w2 rfl (o + 1) _) (fun k hk e => hne2 (by rw [hk, e]))⟩, hall.regrow (fun k hk => ?_)⟩
    rcases hk with hk | hk
    · exact .inl (.inl hk)
    · rcases hat k hk with q | q
      · exact .inl (.inr q)
      · exact .inr ⟨Nat.le_trans HS.out.size q, by have := hrow2.lt hk; simpa [World.setCell] using this⟩)
  clear hrow hgrow hown' hat hrow2 hh2 HE HS
  go_wp2_with fail
  go_ret2
  exact ⟨rfl, HW.out⟩
/-- reading leaves it as it is; of its row the head is frozen -/
def Kept1 (w w' : World) (b o : Nat) (T : TypeId) (cs : Array Value) (p v : Value) (l : List UInt8) : Prop := Emb w' b o T cs p v l ∧ Step w w' (fun k => v.ownBlock = some k) (fun k => v.ownBlock = some k)
theorem rowB_freeze {w : World} {g n cap : Nat} {l : List UInt8} (h : RowB w (.slice (some ⟨g, 0, none⟩) n cap) l) (hn : n = l.length) : RowB (w.drew.freeze ⟨g, 0, none⟩ n) (.slice (some ⟨g, 0, none⟩) n cap) l := by
  subst hn
  refine ⟨h.1, ?_⟩
  rcases h.2 with ⟨hv, _⟩ | ⟨g2, cap2, cur, fz, hv, hbg, hg, hfz, rest⟩
  · cases hv
  · injection hv with e1 _ e3
    injection e1 with e1
    injection e1 with e1
    subst e1
    subst e3
    have hg' : w.drew.heap[g]? = some (.cells cur 5 fz) := hg
    unfold World.freeze
    split
    · exact .inr ⟨g, _, cur, fz, rfl, hbg, hg', hfz, rest⟩
    · obtain ⟨lo, hi⟩ := fz
      refine .inr ⟨g, _, cur, (if lo == hi then (0, 0 + l.length) else (min lo 0, max hi (0 + l.length))), rfl, hbg, ?_, ?_, rest⟩
      · simp [Array.getElem?_modify, hg']
      · simp only at hfz
        split <;> simp <;> omega
theorem text_row {w : World} {b o n g cap : Nat} {T : TypeId} {cs : Array Value} {p : Value} {l : List UInt8} (hp : Spot T o n) (h0 : l ≠ []) (h : Emb w b o T cs p (.slice (some ⟨g, 0, none⟩) l.length cap) l) :
    Calls Tryz.prog 29 #[.pointer (some ⟨b, o, none⟩)] w fun e w' => e = .returned (.string (ofL l)) ∧ Kept1 w w' b o T cs p (.slice (some ⟨g, 0, none⟩) l.length cap) l := by
  have hl0 : l.length ≠ 0 := by simpa using h0
  have hst := freeze_step w g l.length
  have hgb : g ≠ b := fun e => h.own hp (by rw [e]; rfl)
  have HK : Hid (Kept1 w (w.drew.freeze ⟨g, 0, none⟩ l.length) b o T cs p (.slice (some ⟨g, 0, none⟩) l.length cap) l) := Lib.hid
    ⟨⟨hst.has h.has (fun e => hgb e.symm), h.c0, h.c1, h.me, rowB_freeze h.row rfl⟩, by
      have e : (fun k => (Value.slice (some ⟨g, 0, none⟩) l.length cap).ownBlock = some k) = (fun k => k = g) := by
        funext k
        simp only [Value.ownBlock, Option.some.injEq, eq_iff_iff]
        exact ⟨fun q => q.symm, fun q => q.symm⟩
      rw [e]
      exact hst⟩
  have c1 : w.drew.cell? ⟨b, o + 1, none⟩ = some (.slice (some ⟨g, 0, none⟩) l.length cap) := (h.has.drew.cell (o + 1)).trans h.c1
  rcases h.row.2 with ⟨hv, _⟩ | ⟨g2, cap2, cur, fz, hv, hbg, hg, hfz, hlc, hcm, hcs, htk⟩
  · cases hv
  · injection hv with e1 e2 e3
    injection e1 with e1
    injection e1 with e1
    subst e1
    subst e3
    have hSD : (Builtin.unsafeSliceData_ #[46] 93 #[.slice (some ⟨g, 0, none⟩) l.length cap]).run Tryz.prog w.drew = .ok (.pointer (some ⟨g, 0, none⟩)) w.drew :=
      Lib.run_unsafeSliceData_row _ _ _ _ _ _ (by omega)
    have hUS : (Builtin.unsafeString_ #[93, 3] 9 #[.pointer (some ⟨g, 0, none⟩), .int .i64 l.length]).run Tryz.prog w.drew = .ok (.string ⟨l.toArray⟩) (w.drew.freeze ⟨g, 0, none⟩ l.length) := by
      refine Lib.run_unsafeString_row w.drew 93 3 9 5 Tryz.underlying93 (by kernel_rfl) g cur.size (by have hg' : w.drew.heap[g]? = some (.cells cur 5 fz) := hg; simp [World.shape?, hg']) l h0 (by omega) (by unfold maxLen at hcm; omega) ?_
      intro j x hx
      exact World.ownsRowF.cells h.row (g := g) rfl j (.int .u8 x.toNat) (by simp [Lib.byteCells, hx])
    clear hg hcs htk hlc hcm h hst hfz h0 hp
    go_enter Tryz.func29, Tryz.ntmps29
    go_wp2_with fail
    go_region
    all_goals
      go_wp2_with fail
      go_ret
      exact ⟨rfl, HK.out⟩
theorem text_nil {w : World} {b o n : Nat} {T : TypeId} {cs : Array Value} {p : Value} (_hp : Spot T o n) (h : Emb w b o T cs p (.slice none 0 0) []) :
    Calls Tryz.prog 29 #[.pointer (some ⟨b, o, none⟩)] w fun e w' => e = .returned (.string (ofL [])) ∧ Kept1 w w' b o T cs p (.slice none 0 0) [] := by
  have hUS : ∀ W q, (Builtin.unsafeString_ #[93, 3] 9 #[.pointer q, .int .i64 0]).run Tryz.prog W = .ok (.string .empty) W := fun W q => Lib.run_unsafeString_none W _ _ _ q
  have c1 : w.drew.cell? ⟨b, o + 1, none⟩ = some (.slice none 0 0) := (h.has.drew.cell (o + 1)).trans h.c1
  have hSD : (Builtin.unsafeSliceData_ #[46] 93 #[.slice none 0 0]).run Tryz.prog w.drew = .ok (.pointer none) w.drew := rfl
  have HK : Hid (Kept1 w w.drew b o T cs p (.slice none 0 0) []) := Lib.hid ⟨h.step (Step.drew w (fun _ => False)) id (fun _ _ => id), Step.drew w _⟩
  clear h
  go_enter Tryz.func29, Tryz.ntmps29
  go_wp2_with fail
  go_region
  all_goals
    go_wp2_with fail
    go_ret
    exact ⟨rfl, HK.out⟩
theorem text_room {w : World} {b o n g cap : Nat} {T : TypeId} {cs : Array Value} {p : Value} (_hp : Spot T o n) (hc : cap ≠ 0) (h : Emb w b o T cs p (.slice (some ⟨g, 0, none⟩) 0 cap) []) :
    Calls Tryz.prog 29 #[.pointer (some ⟨b, o, none⟩)] w fun e w' => e = .returned (.string (ofL [])) ∧ Kept1 w w' b o T cs p (.slice (some ⟨g, 0, none⟩) 0 cap) [] := by
  have hUS : ∀ W q, (Builtin.unsafeString_ #[93, 3] 9 #[.pointer q, .int .i64 0]).run Tryz.prog W = .ok (.string .empty) W := fun W q => Lib.run_unsafeString_none W _ _ _ q
  have c1 : w.drew.cell? ⟨b, o + 1, none⟩ = some (.slice (some ⟨g, 0, none⟩) 0 cap) := (h.has.drew.cell (o + 1)).trans h.c1
  have hSD : (Builtin.unsafeSliceData_ #[46] 93 #[.slice (some ⟨g, 0, none⟩) 0 cap]).run Tryz.prog w.drew = .ok (.pointer (some ⟨g, 0, none⟩)) w.drew :=
    Lib.run_unsafeSliceData_row _ _ _ _ _ _ hc
  have HK : Hid (Kept1 w w.drew b o T cs p (.slice (some ⟨g, 0, none⟩) 0 cap) []) := Lib.hid ⟨h.step (Step.drew w (fun _ => False)) id (fun _ _ => id), Step.drew w _⟩
  clear h hc
  go_enter Tryz.func29, Tryz.ntmps29
  go_wp2_with fail
  go_region
  all_goals
    go_wp2_with fail
    go_ret
    exact ⟨rfl, HK.out⟩
theorem text_noroom {w : World} {b o n g : Nat} {T : TypeId} {cs : Array Value} {p : Value} (_hp : Spot T o n) (h : Emb w b o T cs p (.slice (some ⟨g, 0, none⟩) 0 0) []) :
    Calls Tryz.prog 29 #[.pointer (some ⟨b, o, none⟩)] w fun e w' => e = .returned (.string (ofL [])) ∧ Kept1 w w' b o T cs p (.slice (some ⟨g, 0, none⟩) 0 0) [] := by
  have hUS : ∀ W q, (Builtin.unsafeString_ #[93, 3] 9 #[.pointer q, .int .i64 0]).run Tryz.prog W = .ok (.string .empty) W := fun W q => Lib.run_unsafeString_none W _ _ _ q
  have c0 : w.cell? ⟨b, o + 1, none⟩ = some (.slice (some ⟨g, 0, none⟩) 0 0) := (h.has.cell (o + 1)).trans h.c1
  have c1 : w.drew.cell? ⟨b, o + 1, none⟩ = some (.slice (some ⟨g, 0, none⟩) 0 0) := c0
  have c3 : (w.alloc (.view ⟨g, 0, none⟩ 5)).drew.cell? ⟨b, o + 1, none⟩ = some (.slice (some ⟨g, 0, none⟩) 0 0) := ((h.has.alloc _).drew.cell (o + 1)).trans h.c1
  have c2 : (w.drew.alloc (.view ⟨g, 0, none⟩ 5)).cell? ⟨b, o + 1, none⟩ = some (.slice (some ⟨g, 0, none⟩) 0 0) := c3
  obtain ⟨cur, fz, hg⟩ : ∃ cur fz, w.drew.heap[g]? = some (.cells cur 5 fz) := by
    rcases h.row.2 with ⟨hv, _⟩ | ⟨g2, cap2, cur, fz, hv, _, hg, _⟩
    · cases hv
    · injection hv with e1
      injection e1 with e1
      injection e1 with e1
      subst e1
      exact ⟨cur, fz, hg⟩
  have hSD : (Builtin.unsafeSliceData_ #[46] 93 #[.slice (some ⟨g, 0, none⟩) 0 0]).run Tryz.prog w.drew = .ok (.pointer (some ⟨w.drew.heap.size, 0, none⟩)) (w.drew.alloc (.view ⟨g, 0, none⟩ 5)) :=
    Lib.run_unsafeSliceData_zero w.drew _ _ 5 Tryz.underlying93 ⟨g, 0, none⟩ 0 (5, cur.size) (by simp [World.shape?, hg])
  have HK : Hid (Kept1 w (w.drew.alloc (.view ⟨g, 0, none⟩ 5)) b o T cs p (.slice (some ⟨g, 0, none⟩) 0 0) []) := Lib.hid
    ⟨h.step ((Step.drew w (fun _ => False)).trans (Step.alloc _ _ _)) id (fun _ _ => id), (Step.drew w _).trans (Step.alloc _ _ _)⟩
  clear h hg
  go_enter Tryz.func29, Tryz.ntmps29
  go_wp2_with fail
  go_region
  all_goals
    go_wp2_with fail
    go_ret
    exact ⟨rfl, HK.out⟩
theorem emb_text {w : World} {b o n : Nat} {T : TypeId} {cs : Array Value} {p v : Value} {l : List UInt8} (hp : Spot T o n) (h : Emb w b o T cs p v l) :
    Calls Tryz.prog 29 #[.pointer (some ⟨b, o, none⟩)] w fun e w' => e = .returned (.string (ofL l)) ∧ Kept1 w w' b o T cs p v l := by
  have h' := h
  rcases h.row.2 with ⟨rfl, h0⟩ | ⟨g, cap, cur, fz, rfl, _⟩
  · obtain rfl := List.length_eq_zero_iff.1 h0
    exact text_nil hp h'
  · by_cases h0 : l = []
    · subst h0
      by_cases hc : cap = 0
      · subst hc
        exact text_noroom hp h'
      · exact text_room hp hc h'
    · exact text_row hp h0 h'
set_option maxHeartbeats 2000000 in
theorem emb_reset {w : World} {b o n : Nat} {T : TypeId} {cs : Array Value} {p v : Value} {l : List UInt8} (hp : Spot T o n) (hn : cs.size = n) (h : Emb w b o T cs p v l) :
    Calls Tryz.prog 30 #[.pointer (some ⟨b, o, none⟩)] w fun e w' => e = .returned (.tuple #[]) ∧ Emb w' b o T ((cs.setIfInBounds o (.pointer none)).setIfInBounds (o + 1) (.slice none 0 0)) (.pointer none) (.slice none 0 0) [] ∧ Step w w' (fun k => k = b) (fun k => k = b) := by
  have c0 := (h.has.cell o).trans h.c0
  have c1 := (h.has.cell (o + 1)).trans h.c1
  have z0 := h.has.free o
  have z1 := h.has.free (o + 1)
  have hr := hp.room
  obtain ⟨pp, cap, rfl⟩ := h.row.form
  have HQ : Hid (Emb ((w.setCell ⟨b, o, none⟩ (.pointer none)).setCell ⟨b, o + 1, none⟩ (.slice none 0 0)) b o T ((cs.setIfInBounds o (.pointer none)).setIfInBounds (o + 1) (.slice none 0 0)) (.pointer none) (.slice none 0 0) [] ∧ Step w ((w.setCell ⟨b, o, none⟩ (.pointer none)).setCell ⟨b, o + 1, none⟩ (.slice none 0 0)) (fun k => k = b) (fun k => k = b)) := Lib.hid
    ⟨⟨(h.has.set_ o _).set_ (o + 1) _, by rw [Array.getElem?_setIfInBounds_ne (by omega), Array.getElem?_setIfInBounds_self_of_lt (by omega)], by rw [Array.getElem?_setIfInBounds_self_of_lt (by rw [Array.size_setIfInBounds]; omega)], .inl rfl, RowB.nil _⟩, (Step.set_ (F := fun k => k = b) w rfl o _).trans (Step.set_ (F := fun k => k = b) _ rfl (o + 1) _)⟩
  have me := h.me
  clear h hp hn
  rcases me with rfl | rfl
  · go_enter Tryz.func30, Tryz.ntmps30
    go_wp2_with fail
    go_end0
    exact ⟨rfl, HQ.out⟩
  · unfold selfP at c0
    go_enter Tryz.func30, Tryz.ntmps30
    go_wp2_with fail
    go_end0
    exact ⟨rfl, HQ.out⟩
end Go.Proofs.YtmlpdhmafmdkcaaGreatDoor.InEmb

/- Layer 9: how a body is framed, over lists of fields. No program is named. -/
namespace Go.Proofs.YtmlpdhmafmdkcaaGreatDoor.FramePure
open Bytes LexPure LexNum FieldsPure
set_option maxRecDepth 20000
def CLEN : List UInt8 := [99, 111, 110, 116, 101, 110, 116, 45, 108, 101, 110, 103, 116, 104]
def TENC : List UInt8 := [116, 114, 97, 110, 115, 102, 101, 114, 45, 101, 110, 99, 111, 100, 105, 110, 103]
def CHUNKED : List UInt8 := [99, 104, 117, 110, 107, 101, 100]
def CLOSE : List UInt8 := [99, 108, 111, 115, 101]
def KEEPA : List UInt8 := [107, 101, 101, 112, 45, 97, 108, 105, 118, 101]
/-- the lengths: the pieces between commas of the values of the length's fields, empty ones too -/
def lens (G : List HField) : List (List UInt8) := (G.filter (hit CLEN)).flatMap (fun f => (pieces f.2).map trim)
/-- one more length: what is told so far (-1: none yet), and the new one; none: they aren't right -/
def lenStep (n : Int) (p : List UInt8) : Option Int := if numOk 10 15 p = true ∧ (n < 0 ∨ numR 10 15 p = n) then some (numR 10 15 p) else none
def lenFrom : Int → List (List UInt8) → Int
  | n, [] => n
  | n, p :: l => match lenStep n p with
    | none => -1
    | some m => lenFrom m l
def lenN (G : List HField) : Int := lenFrom (-1) (lens G)
theorem numR_pos (base : Nat) (d : Int) (p : List UInt8) : 0 ≤ numR base d p := by
  unfold numR
  split
  · omega
  · exact Int.le_refl 0
/-- where a number is told, each length is right and is that number -/
theorem len_all : ∀ (l : List (List UInt8)) (n : Int), 0 ≤ lenFrom n l → (∀ p ∈ l, numOk 10 15 p = true ∧ numR 10 15 p = lenFrom n l) ∧ (0 ≤ n → lenFrom n l = n)
  | [], n, _ => ⟨fun p hp => (by cases hp), fun _ => rfl⟩
  | p :: l, n, h => by
    unfold lenFrom at h ⊢
    unfold lenStep at h ⊢
    by_cases hc : numOk 10 15 p = true ∧ (n < 0 ∨ numR 10 15 p = n)
    · rw [if_pos hc] at h ⊢
      simp only at h ⊢
      obtain ⟨h1, h2⟩ := len_all l _ h
      have h3 := h2 (numR_pos 10 15 p)
      refine ⟨fun q hq => ?_, fun hn => ?_⟩
      · rcases List.mem_cons.1 hq with rfl | hq
        · exact ⟨hc.1, h3.symm⟩
        · exact h1 q hq
      · rw [h3]
        rcases hc.2 with h | h
        · omega
        · exact h
    · rw [if_neg hc] at h
      simp at h
theorem len_least : ∀ (l : List (List UInt8)) (n : Int), -1 ≤ n → -1 ≤ lenFrom n l
  | [], n, h => h
  | p :: l, n, h => by
    unfold lenFrom lenStep
    by_cases hc : numOk 10 15 p = true ∧ (n < 0 ∨ numR 10 15 p = n)
    · rw [if_pos hc]
      exact len_least l _ (by have := numR_pos 10 15 p; omega)
    · rw [if_neg hc]
      exact Int.le_refl _
/-- 1: just chunked; 2: others, then chunked once; 3: anything else -/
def codeN (l : List (List UInt8)) : Nat :=
  match l.reverse with
  | [] => 3
  | x :: r => if lower x = CHUNKED ∧ r.all (fun y => !(lower y == CHUNKED)) = true then (if r = [] then 1 else 2) else 3
def request9 (minor : Int) (G : List HField) (most : Int) : Int × Int × Int :=
  if 0 < getN G TENC then
    (if minor = 0 ∨ 0 < getN G CLEN ∨ codeN (elems G TENC) = 3 then (0, 0, 90)
     else if codeN (elems G TENC) = 2 then (0, 0, 91) else (3, 0, 0))
  else if getN G CLEN = 0 then (1, 0, 0)
  else if lenN G < 0 then (0, 0, 90)
  else if most < lenN G then (0, 0, 101) else (2, lenN G, 0)
def response9 (method : List UInt8) (status minor : Int) (G : List HField) : Int × Int × Int :=
  if status = 101 then (5, 0, 0)
  else if (100 ≤ status ∧ status < 200) ∨ status = 204 ∨ status = 304 then (1, 0, 0)
  else if method = [67, 79, 78, 78, 69, 67, 84] ∧ 200 ≤ status ∧ status < 300 then (5, 0, 0)
  else if method = [72, 69, 65, 68] then (1, 0, 0)
  else if 0 < getN G TENC then
    (if minor = 0 ∨ 0 < getN G CLEN then (0, 0, 90) else if codeN (elems G TENC) = 1 then (3, 0, 0) else (0, 0, 91))
  else if getN G CLEN = 0 then (4, 0, 0)
  else if lenN G < 0 then (0, 0, 90) else (2, lenN G, 0)
def keep9 (minor : Int) (G : List HField) : Bool := !hasE G CONNECTION CLOSE && (minor != 0 || hasE G CONNECTION KEEPA)
theorem code_one (l : List (List UInt8)) : codeN l = 1 ↔ ∃ x, l = [x] ∧ lower x = CHUNKED := by
  unfold codeN
  constructor
  · intro h
    cases hr : l.reverse with
    | nil => rw [hr] at h; simp at h
    | cons x r =>
      rw [hr] at h
      simp only at h
      split at h
      · rename_i hc
        split at h
        · rename_i h0
          subst h0
          exact ⟨x, by rw [← List.reverse_reverse l, hr]; rfl, hc.1⟩
        · cases h
      · cases h
  · rintro ⟨x, rfl, hx⟩
    simp [hx]
theorem code_three (l : List (List UInt8)) : codeN l = 1 ∨ codeN l = 2 ∨ codeN l = 3 := by
  unfold codeN
  split
  · exact .inr (.inr rfl)
  · split
    · split
      · exact .inl rfl
      · exact .inr (.inl rfl)
    · exact .inr (.inr rfl)
theorem elements_sub {v p : List UInt8} (h : p ∈ elements v) : p ∈ (pieces v).map trim := by
  unfold elements at h
  exact (List.mem_filter.1 h).1
theorem lens_cons (f : HField) (G : List HField) : lens (f :: G) = if hit CLEN f then (pieces f.2).map trim ++ lens G else lens G := by
  unfold lens
  rw [List.filter_cons]
  split
  · rw [List.flatMap_cons]
  · rfl
theorem lens_mem {G : List HField} {f : HField} {p : List UInt8} (hf : f ∈ G) (hh : hit CLEN f = true) (hp : p ∈ (pieces f.2).map trim) : p ∈ lens G :=
  List.mem_flatMap.2 ⟨f, List.mem_filter.2 ⟨hf, hh⟩, hp⟩
/-! ### small letters -/
def lowF (f : HField) : HField := (lower f.1, lower f.2)
theorem hit_low (n : List UInt8) (f : HField) : hit n (lowF f) = hit n f := by unfold hit lowF; exact alike_lower_left _ _
theorem getN_low (G : List HField) (n : List UInt8) : getN (G.map lowF) n = getN G n := by
  unfold getN
  rw [List.countP_map]
  congr 1
  funext f
  exact hit_low n f
theorem filter_low (G : List HField) (n : List UInt8) : (G.map lowF).filter (hit n) = (G.filter (hit n)).map lowF := by
  rw [List.filter_map]
  congr 2
  funext f
  exact hit_low n f
theorem pieces_low : ∀ s : List UInt8, pieces (lower s) = (pieces s).map lower
  | [] => rfl
  | c :: s => by
    unfold lower
    rw [List.map_cons]
    have ih := pieces_low s
    unfold lower at ih
    unfold pieces
    rw [small_comma, ih]
    by_cases h : (c == 44) = true
    · rw [if_pos h, if_pos h]
      rfl
    · rw [if_neg h, if_neg h]
      cases pieces s with
      | nil => rfl
      | cons p ps => rfl
theorem drop_low (s : List UInt8) : (s.map small).dropWhile blankB = (s.dropWhile blankB).map small := by
  induction s with
  | nil => rfl
  | cons c s ih =>
    rw [List.map_cons, List.dropWhile_cons, List.dropWhile_cons, small_blank]
    split
    · exact ih
    · rfl
theorem trim_low (s : List UInt8) : trim (lower s) = lower (trim s) := by
  unfold trim lower
  rw [drop_low, ← List.map_reverse, drop_low, ← List.map_reverse]
theorem elements_low (s : List UInt8) : elements (lower s) = (elements s).map lower := by
  unfold elements
  rw [pieces_low, List.map_map, List.filter_map, List.filter_map, List.map_map]
  have e : trim ∘ lower = lower ∘ trim := by funext x; exact trim_low x
  have e2 : ((fun e : List UInt8 => !e.isEmpty) ∘ trim ∘ lower) = ((fun e : List UInt8 => !e.isEmpty) ∘ trim) := by
    rw [e]
    funext x
    show (!(lower (trim x)).isEmpty) = !(trim x).isEmpty
    unfold lower
    rw [List.isEmpty_map]
  rw [e2, e]
theorem elems_low (G : List HField) (n : List UInt8) : elems (G.map lowF) n = (elems G n).map lower := by
  unfold elems
  rw [filter_low, List.flatMap_map, List.map_flatMap]
  congr 1
  funext f
  exact elements_low f.2
theorem dig_small (c : UInt8) : decide (dig (small c) < 10) = decide (dig c < 10) ∧ (dig c < 10 → dig (small c) = dig c) := by
  have := all_bytes (p := fun c => decide (decide (dig (small c) < 10) = decide (dig c < 10) ∧ (dig c < 10 → dig (small c) = dig c))) (by decide +kernel) c
  exact of_decide_eq_true this
theorem ok_low (d : Int) (p : List UInt8) : numOk 10 d (lower p) = numOk 10 d p := by
  unfold numOk lower
  rw [List.all_map, List.length_map]
  congr 1
  · cases p <;> rfl
  · congr 1
    funext c
    exact (dig_small c).1
theorem fold_low : ∀ (p : List UInt8) (n : Nat), p.all (fun c => decide (dig c < 10)) = true → (p.map small).foldl (fun n c => 10 * n + dig c) n = p.foldl (fun n c => 10 * n + dig c) n
  | [], n, _ => rfl
  | c :: p, n, h => by
    rw [List.all_cons, Bool.and_eq_true] at h
    rw [List.map_cons, List.foldl_cons, List.foldl_cons, (dig_small c).2 (of_decide_eq_true h.1)]
    exact fold_low p _ h.2
theorem num_low (d : Int) (p : List UInt8) : numR 10 d (lower p) = numR 10 d p := by
  unfold numR
  rw [ok_low]
  by_cases h : numOk 10 d p = true
  · rw [if_pos h, if_pos h]
    unfold numOk at h
    simp only [Bool.and_eq_true] at h
    unfold numV lower
    rw [fold_low p 0 h.2]
  · rw [if_neg h, if_neg h]
theorem lenFrom_low : ∀ (l : List (List UInt8)) (n : Int), lenFrom n (l.map lower) = lenFrom n l
  | [], n => rfl
  | p :: l, n => by
    rw [List.map_cons]
    unfold lenFrom lenStep
    rw [ok_low, num_low]
    by_cases hc : numOk 10 15 p = true ∧ (n < 0 ∨ numR 10 15 p = n)
    · rw [if_pos hc]
      exact lenFrom_low l _
    · rw [if_neg hc]
theorem lens_low (G : List HField) : lens (G.map lowF) = (lens G).map lower := by
  unfold lens
  rw [filter_low, List.flatMap_map, List.map_flatMap]
  congr 1
  funext f
  show (pieces (lower f.2)).map trim = ((pieces f.2).map trim).map lower
  rw [pieces_low, List.map_map, List.map_map]
  congr 1
  funext x
  exact trim_low x
theorem len_low (G : List HField) : lenN (G.map lowF) = lenN G := by
  unfold lenN
  rw [lens_low, lenFrom_low]
theorem code_low (l : List (List UInt8)) : codeN (l.map lower) = codeN l := by
  unfold codeN
  rw [← List.map_reverse]
  cases l.reverse with
  | nil => rfl
  | cons x r =>
    simp only [List.map_cons, lower_lower, List.all_map, Function.comp_def]
    cases r <;> rfl
theorem has_low (G : List HField) (n e : List UInt8) : hasE (G.map lowF) n e = hasE G n e := by
  unfold hasE
  rw [elems_low, List.any_map]
  congr 1
  funext x
  exact alike_lower_left _ _
theorem request_low (minor : Int) (G : List HField) (most : Int) : request9 minor (G.map lowF) most = request9 minor G most := by
  unfold request9
  rw [getN_low, getN_low, elems_low, code_low, len_low]
theorem response_low (m : List UInt8) (status minor : Int) (G : List HField) : response9 m status minor (G.map lowF) = response9 m status minor G := by
  unfold response9
  rw [getN_low, getN_low, elems_low, code_low, len_low]
theorem keep_low (minor : Int) (G : List HField) : keep9 minor (G.map lowF) = keep9 minor G := by
  unfold keep9
  rw [has_low, has_low]
end Go.Proofs.YtmlpdhmafmdkcaaGreatDoor.FramePure

/- Layer 6: a host, an authority, over lists of bytes. No program is named. -/
namespace Go.Proofs.YtmlpdhmafmdkcaaGreatDoor.HostPure
open LexPure Bytes LexNum CutAt
def alnum (c : UInt8) : Bool := (decide (48 ≤ c.toNat) && decide (c.toNat ≤ 57)) || (decide (65 ≤ c.toNat) && decide (c.toNat ≤ 90)) || (decide (97 ≤ c.toNat) && decide (c.toNat ≤ 122))
def hostC (c : UInt8) : Bool := alnum c || c == 45 || c == 46
/-- two dots side by side -/
def dotted : List UInt8 → Bool
  | a :: b :: s => (a == 46 && b == 46) || dotted (b :: s)
  | _ => false
def host (s : List UInt8) : Bool := !s.isEmpty && decide (s.length ≤ 64) && !dotted s && s.all hostC && alnum (s.headD 0) && alnum (s.getLastD 0)
def portOk (d : List UInt8) : Bool := numOk 10 5 d && decide (1 ≤ numR 10 5 d) && decide (numR 10 5 d ≤ 65535)
def authO (s : List UInt8) : Option (List UInt8 × Int) :=
  if host (aheadOf 58 s) then
    if hasB 58 s then (if portOk (behind 58 s) then some (lower (aheadOf 58 s), numR 10 5 (behind 58 s)) else none)
    else some (lower (aheadOf 58 s), 0)
  else none
def authH (s : List UInt8) : List UInt8 := match authO s with | some (h, _) => h | none => []
def authP (s : List UInt8) : Int := match authO s with | some (_, p) => p | none => 0
def authE (s : List UInt8) : Int := if (authO s).isSome then 0 else 61

/-! ### bytes -/
theorem small_alnum (b : UInt8) : alnum (small b) = alnum b := by
  have := all_bytes (p := fun b => alnum (small b) == alnum b) (by decide +kernel) b
  simpa using this
theorem small_hostC (b : UInt8) : hostC (small b) = hostC b := by
  have := all_bytes (p := fun b => hostC (small b) == hostC b) (by decide +kernel) b
  simpa using this
theorem small_46 (b : UInt8) : (small b == 46) = (b == 46) := by
  have := all_bytes (p := fun b => (small b == 46) == (b == 46)) (by decide +kernel) b
  simpa using this
theorem small_58 (b : UInt8) : (small b == 58) = (b == 58) := by
  have := all_bytes (p := fun b => (small b == 58) == (b == 58)) (by decide +kernel) b
  simpa using this
theorem small_58n (b : UInt8) : (small b != 58) = (b != 58) := by unfold bne; rw [small_58]
theorem small_dig (b : UInt8) : dig (small b) = dig b := by
  have := all_bytes (p := fun b => dig (small b) == dig b) (by decide +kernel) b
  simpa using this
theorem hostC_58 (b : UInt8) (h : hostC b = true) : (b != 58) = true := by
  have := all_bytes (p := fun b => !hostC b || (b != 58)) (by decide +kernel) b
  rw [h] at this
  simpa using this

/-! ### small letters -/
theorem dotted_lower : ∀ s : List UInt8, dotted (lower s) = dotted s
  | [] => rfl
  | [_] => rfl
  | a :: b :: s => by
    have ih := dotted_lower (b :: s)
    unfold lower at ih ⊢
    rw [List.map_cons] at ih
    rw [List.map_cons, List.map_cons, dotted, dotted, ih, small_46, small_46]
theorem headD_lower (s : List UInt8) : alnum ((lower s).headD 0) = alnum (s.headD 0) := by
  cases s with
  | nil => rfl
  | cons c s => exact small_alnum c
theorem getLastD_lower (s : List UInt8) : alnum ((lower s).getLastD 0) = alnum (s.getLastD 0) := by
  unfold lower
  rw [List.getLastD_eq_getLast?, List.getLastD_eq_getLast?, List.getLast?_map]
  cases s.getLast? with
  | none => rfl
  | some c => exact small_alnum c
theorem host_lower (s : List UInt8) : host (lower s) = host s := by
  unfold host
  rw [dotted_lower, headD_lower, getLastD_lower, lower_length]
  have h1 : (lower s).isEmpty = s.isEmpty := by cases s <;> rfl
  have h2 : (lower s).all hostC = s.all hostC := by
    unfold lower
    rw [List.all_map]
    congr 1
    funext c
    exact small_hostC c
  rw [h1, h2]
theorem ahead_lower (s : List UInt8) : aheadOf 58 (lower s) = lower (aheadOf 58 s) := by
  unfold aheadOf lower
  rw [List.takeWhile_map]
  congr 2
  funext c
  exact small_58n c
theorem behind_lower (s : List UInt8) : behind 58 (lower s) = lower (behind 58 s) := by
  unfold behind lower
  rw [List.dropWhile_map, List.map_tail]
  congr 3
  funext c
  exact small_58n c
theorem has_lower (s : List UInt8) : hasB 58 (lower s) = hasB 58 s := by
  unfold hasB lower
  rw [List.any_map]
  congr 1
  funext c
  exact small_58 c
theorem numV_lower (b : Nat) (s : List UInt8) : numV b (lower s) = numV b s := by
  unfold numV lower
  rw [List.foldl_map]
  congr 1
  funext n c
  rw [small_dig]
theorem numOk_lower (b : Nat) (d : Int) (s : List UInt8) : numOk b d (lower s) = numOk b d s := by
  unfold numOk
  rw [lower_length]
  have h1 : (lower s).isEmpty = s.isEmpty := by cases s <;> rfl
  have h2 : (lower s).all (fun c => decide (dig c < b)) = s.all (fun c => decide (dig c < b)) := by
    unfold lower
    rw [List.all_map]
    congr 1
    funext c
    simp only [Function.comp_apply, small_dig]
  rw [h1, h2]
theorem numR_lower (b : Nat) (d : Int) (s : List UInt8) : numR b d (lower s) = numR b d s := by
  unfold numR
  rw [numOk_lower, numV_lower]
theorem portOk_lower (s : List UInt8) : portOk (lower s) = portOk s := by
  unfold portOk
  rw [numOk_lower, numR_lower]
/-- the case of letters doesn't matter -/
theorem authO_lower (s : List UInt8) : authO (lower s) = authO s := by
  unfold authO
  rw [ahead_lower, has_lower, behind_lower, host_lower, portOk_lower, numR_lower, lower_lower]

/-! ### what is told is an authority that means itself -/
theorem ahead_all {s : List UInt8} (h : s.all (fun c => c != 58) = true) (r : List UInt8) : aheadOf 58 (s ++ 58 :: r) = s ∧ behind 58 (s ++ 58 :: r) = r ∧ hasB 58 (s ++ 58 :: r) = true := by
  have h' : ∀ a ∈ s, (a != 58) = true := List.all_eq_true.1 h
  refine ⟨?_, ?_, ?_⟩
  · unfold aheadOf
    rw [List.takeWhile_append_of_pos h', List.takeWhile_cons]
    simp
  · unfold behind
    rw [List.dropWhile_append_of_pos h', List.dropWhile_cons]
    simp
  · unfold hasB
    simp
theorem ahead_self {s : List UInt8} (h : s.all (fun c => c != 58) = true) : aheadOf 58 s = s ∧ hasB 58 s = false := by
  have h' : ∀ a ∈ s, (a != 58) = true := List.all_eq_true.1 h
  refine ⟨?_, ?_⟩
  · have := List.takeWhile_append_of_pos (l₂ := []) h'
    rw [List.append_nil] at this
    unfold aheadOf
    rw [this]
    simp
  · unfold hasB
    rw [List.any_eq_false]
    intro a ha
    simpa using h' a ha
theorem host_no58 {s : List UInt8} (h : host s = true) : s.all (fun c => c != 58) = true := by
  unfold host at h
  simp only [Bool.and_eq_true] at h
  rw [List.all_eq_true]
  exact fun c hc => hostC_58 c (List.all_eq_true.1 h.1.1.2 c hc)
theorem authO_some {s h : List UInt8} {p : Int} (e : authO s = some (h, p)) : host h = true ∧ lower h = h ∧ 0 ≤ p ∧ p ≤ 65535 := by
  unfold authO at e
  split at e
  · rename_i hh
    split at e
    · split at e
      · rename_i hp
        unfold portOk at hp
        simp only [Bool.and_eq_true, decide_eq_true_eq] at hp
        injection e with e
        injection e with e1 e2
        subst e1; subst e2
        exact ⟨by rw [host_lower]; exact hh, lower_lower _, by omega, hp.2⟩
      · cases e
    · injection e with e
      injection e with e1 e2
      subst e1; subst e2
      exact ⟨by rw [host_lower]; exact hh, lower_lower _, by decide, by decide⟩
  · cases e
theorem authO_host {h : List UInt8} (hh : host h = true) (hl : lower h = h) : authO h = some (h, 0) := by
  obtain ⟨h1, h2⟩ := ahead_self (host_no58 hh)
  unfold authO
  rw [h1, h2, hh, hl]
  rfl
theorem authO_port {h : List UInt8} (hh : host h = true) (hl : lower h = h) : authO (h ++ [58, 48, 48, 48, 56, 48]) = some (h, 80) := by
  obtain ⟨h1, h2, h3⟩ := ahead_all (host_no58 hh) [48, 48, 48, 56, 48]
  unfold authO
  rw [h1, h2, h3, hh, hl]
  rfl
theorem auth_none {s : List UInt8} (h : authO s = none) : authH s = [] ∧ authP s = 0 ∧ authE s = 61 := by
  unfold authH authP authE; rw [h]; exact ⟨rfl, rfl, rfl⟩
theorem auth_some {s h : List UInt8} {p : Int} (e : authO s = some (h, p)) : authH s = h ∧ authP s = p ∧ authE s = 0 := by
  unfold authH authP authE; rw [e]; exact ⟨rfl, rfl, rfl⟩
theorem host_len {s : List UInt8} (h : host s = true) : s.length ≤ 64 := by
  unfold host at h
  simp only [Bool.and_eq_true, decide_eq_true_eq] at h
  exact h.1.1.1.1.2
theorem host_ne {s : List UInt8} (h : host s = true) : s ≠ [] := by
  intro e
  subst e
  cases h
end Go.Proofs.YtmlpdhmafmdkcaaGreatDoor.HostPure

/- Paths: escapes, pieces, the normal form. No program is named. -/
namespace Go.Proofs.YtmlpdhmafmdkcaaGreatDoor.PathPure
open LexPure Bytes

/-- a plain byte -/
def plainP (n : Nat) : Bool := n == 45 || n == 46 || n == 95 || n == 126 || (decide (48 ≤ n) && decide (n ≤ 57)) || (decide (65 ≤ n) && decide (n ≤ 90)) || (decide (97 ≤ n) && decide (n ≤ 122))
/-- a byte that a path may have, but for the sign of an escape -/
def okc (c : UInt8) : Bool := decide (33 ≤ c.toNat) && decide (c.toNat ≤ 126) && c != 63 && c != 35
/-- a large digit -/
def hx (n : Nat) : UInt8 := UInt8.ofNat (if n < 10 then 48 + n else 55 + n)
/-- how a byte that was escaped is written -/
def wr (n : Nat) : List UInt8 := if plainP n then [UInt8.ofNat n] else [37, hx (n / 16), hx (n % 16)]
def two (a b : UInt8) : Nat := 16 * dig a + dig b
def isHex (c : UInt8) : Bool := decide (dig c < 16)
/-- plain escapes undone, the others in large digits -/
def esc : List UInt8 → Option (List UInt8)
  | [] => some []
  | c :: s => if okc c then
      if c == 37 then match s with
        | a :: b :: r => if isHex a && isHex b then (esc r).map (wr (two a b) ++ ·) else none
        | _ => none
      else (esc s).map (c :: ·)
    else none
def escapes : List UInt8 → Option (List UInt8)
  | [] => none
  | c :: s => if c == 47 then esc (c :: s) else none
/-- the pieces between slashes -/
def cuts : List UInt8 → List (List UInt8)
  | [] => [[]]
  | c :: s => if c == 47 then [] :: cuts s else match cuts s with
    | [] => [[c]]
    | p :: ps => (c :: p) :: ps
def isDot (p : List UInt8) : Bool := p.isEmpty || p == [46]
def isUp (p : List UInt8) : Bool := p == [46, 46]
/-- the pieces that are kept -/
def keeps : List (List UInt8) → List (List UInt8) → Option (List (List UInt8))
  | kept, [] => some kept
  | kept, p :: ps => if isDot p then keeps kept ps else if isUp p then (if kept.isEmpty then none else keeps kept.dropLast ps) else keeps (kept ++ [p]) ps
def join (kept : List (List UInt8)) : List UInt8 := kept.flatMap (fun p => 47 :: p)
def endsOpen (ps : List (List UInt8)) : Bool := isDot (ps.getLastD []) || isUp (ps.getLastD [])
def finish (kept : List (List UInt8)) (ps : List (List UInt8)) : List UInt8 := if kept.isEmpty || endsOpen ps then join kept ++ [47] else join kept
def normal (s : List UInt8) : Option (List UInt8) :=
  match escapes s with
  | none => none
  | some t => match keeps [] (cuts t.tail) with
    | none => none
    | some kept => some (finish kept (cuts t.tail))
/-- escapes undone -/
def dec : List UInt8 → Option (List UInt8)
  | [] => some []
  | c :: s => if c == 37 then match s with
      | a :: b :: r => if isHex a && isHex b then (dec r).map (UInt8.ofNat (two a b) :: ·) else none
      | _ => none
    else (dec s).map (c :: ·)
def under (p q : List UInt8) : Bool := p.take q.length == q && (p.length == q.length || p[q.length]? == some 47 || q.getLast? == some 47)

theorem esc_cons (c : UInt8) (s : List UInt8) : esc (c :: s) = if okc c then
      if c == 37 then (match s with
        | a :: b :: r => if isHex a && isHex b then (esc r).map (wr (two a b) ++ ·) else none
        | _ => none)
      else (esc s).map (c :: ·)
    else none := by rw [esc.eq_def]
theorem dec_cons (c : UInt8) (s : List UInt8) : dec (c :: s) = if c == 37 then (match s with
      | a :: b :: r => if isHex a && isHex b then (dec r).map (UInt8.ofNat (two a b) :: ·) else none
      | _ => none)
    else (dec s).map (c :: ·) := by rw [dec.eq_def]
theorem cuts_cons (c : UInt8) (s : List UInt8) : cuts (c :: s) = if c == 47 then [] :: cuts s else (match cuts s with
    | [] => [[c]]
    | p :: ps => (c :: p) :: ps) := by rw [cuts.eq_def]
/-! ### what is escaped once -/
/-- a text in which every byte that need not be escaped isn't -/
inductive Enc : List UInt8 → Prop
  | nil : Enc []
  | one (c : UInt8) (r : List UInt8) : okc c = true → (c == 37) = false → Enc r → Enc (c :: r)
  | tri (n : Nat) (r : List UInt8) : n < 256 → plainP n = false → Enc r → Enc (37 :: hx (n / 16) :: hx (n % 16) :: r)
theorem all_below {p : Nat → Bool} (h : (List.range 256).all p = true) {n : Nat} (hn : n < 256) : p n = true := List.all_eq_true.1 h n (List.mem_range.2 hn)
theorem two_lt {a b : UInt8} (ha : isHex a = true) (hb : isHex b = true) : two a b < 256 := by
  unfold isHex at ha hb
  simp only [decide_eq_true_eq] at ha hb
  unfold two
  omega
theorem hx_dig {n : Nat} (h : n < 256) : isHex (hx (n / 16)) = true ∧ isHex (hx (n % 16)) = true ∧ two (hx (n / 16)) (hx (n % 16)) = n := by
  have := all_below (p := fun n => isHex (hx (n / 16)) && isHex (hx (n % 16)) && two (hx (n / 16)) (hx (n % 16)) == n) (by decide +kernel) h
  simpa [and_assoc] using this
theorem hx_okc {n : Nat} (h : n < 256) : okc (hx (n / 16)) = true ∧ okc (hx (n % 16)) = true ∧ (hx (n / 16) == 37) = false ∧ (hx (n % 16) == 37) = false ∧ (hx (n / 16) == 47) = false ∧ (hx (n % 16) == 47) = false := by
  have := all_below (p := fun n => okc (hx (n / 16)) && okc (hx (n % 16)) && !(hx (n / 16) == 37) && !(hx (n % 16) == 37) && !(hx (n / 16) == 47) && !(hx (n % 16) == 47)) (by decide +kernel) h
  simp only [Bool.and_eq_true, Bool.not_eq_true'] at this
  exact ⟨this.1.1.1.1.1, this.1.1.1.1.2, this.1.1.1.2, this.1.1.2, this.1.2, this.2⟩
theorem plain_okc {n : Nat} (h : n < 256) (hp : plainP n = true) : okc (UInt8.ofNat n) = true ∧ (UInt8.ofNat n == 37) = false ∧ (UInt8.ofNat n == 47) = false := by
  have := all_below (p := fun n => !plainP n || (okc (UInt8.ofNat n) && !(UInt8.ofNat n == 37) && !(UInt8.ofNat n == 47))) (by decide +kernel) h
  rw [hp] at this
  simp only [Bool.not_true, Bool.false_or, Bool.and_eq_true, Bool.not_eq_true'] at this
  exact ⟨this.1.1, this.1.2, this.2⟩
theorem enc_wr {n : Nat} (h : n < 256) {r : List UInt8} (hr : Enc r) : Enc (wr n ++ r) := by
  unfold wr
  by_cases hp : plainP n = true
  · rw [if_pos hp]
    have := plain_okc h hp
    exact Enc.one _ _ this.1 this.2.1 hr
  · rw [if_neg hp]
    exact Enc.tri n r h (by simpa using hp) hr
/-- what comes out of escapes is escaped once -/
theorem esc_enc : ∀ (n : Nat) {s t : List UInt8}, s.length ≤ n → esc s = some t → Enc t
  | _, [], t, _, h => by
    simp only [esc, Option.some.injEq] at h
    subst h
    exact Enc.nil
  | 0, c :: s, t, hn, _ => by simp at hn
  | n + 1, c :: s, t, hn, h => by
    rw [esc_cons] at h
    split at h
    · rename_i hc
      split at h
      · split at h
        · rename_i a b r
          split at h
          · rename_i hab
            rw [Bool.and_eq_true] at hab
            obtain ⟨u, hu, rfl⟩ := Option.map_eq_some_iff.1 h
            exact enc_wr (two_lt hab.1 hab.2) (esc_enc n (by simp at hn; omega) hu)
          · cases h
        · cases h
      · rename_i h37
        obtain ⟨u, hu, rfl⟩ := Option.map_eq_some_iff.1 h
        exact Enc.one _ _ hc (by simpa using h37) (esc_enc n (by simp at hn; omega) hu)
    · cases h
theorem enc_esc {t : List UInt8} (h : Enc t) : esc t = some t := by
  induction h with
  | nil => rfl
  | one c r hc h37 _ ih => rw [esc_cons, if_pos hc, if_neg (by simp [h37]), ih]; rfl
  | tri n r hn hp _ ih =>
    have hd := hx_dig hn
    have h37 : okc 37 = true := by decide
    rw [esc_cons, if_pos h37, if_pos (by decide)]
    simp only [hd.1, hd.2.1, Bool.and_self, if_true, hd.2.2, ih]
    unfold wr
    rw [hp]
    rfl
theorem esc_append : ∀ (n : Nat) {s t : List UInt8} (r : List UInt8), s.length ≤ n → esc s = some t → esc (s ++ r) = (esc r).map (t ++ ·)
  | _, [], t, r, _, h => by
    simp only [esc, Option.some.injEq] at h
    subst h
    simp
  | 0, c :: s, t, r, hn, _ => by simp at hn
  | n + 1, c :: s, t, r, hn, h => by
    rw [esc_cons] at h
    split at h
    · rename_i hc
      split at h
      · rename_i h37
        split at h
        · rename_i a b q
          split at h
          · rename_i hab
            obtain ⟨u, hu, rfl⟩ := Option.map_eq_some_iff.1 h
            have ih := esc_append n r (s := q) (by simp at hn; omega) hu
            show esc (c :: a :: b :: (q ++ r)) = _
            rw [esc_cons, if_pos hc, if_pos h37]
            simp only [hab, if_true, ih, Option.map_map]
            congr 1
            funext x
            simp
          · cases h
        · cases h
      · rename_i h37
        obtain ⟨u, hu, rfl⟩ := Option.map_eq_some_iff.1 h
        have ih := esc_append n r (s := s) (by simp at hn; omega) hu
        show esc (c :: (s ++ r)) = _
        rw [esc_cons, if_pos hc, if_neg h37, ih, Option.map_map]
        congr 1
    · cases h
theorem enc_append {s t : List UInt8} (hs : Enc s) (ht : Enc t) : Enc (s ++ t) := by
  induction hs with
  | nil => exact ht
  | one c r hc h37 _ ih => exact Enc.one c _ hc h37 ih
  | tri n r hn hp _ ih => exact Enc.tri n _ hn hp ih

/-! ### pieces -/
theorem cuts_ne (s : List UInt8) : cuts s ≠ [] := by
  cases s with
  | nil => simp [cuts]
  | cons c s =>
    rw [cuts_cons]
    split
    · simp
    · split <;> simp
def noSlash (p : List UInt8) : Bool := p.all (fun c => c != 47)
theorem cuts_plain : ∀ {p : List UInt8}, noSlash p = true → cuts p = [p]
  | [], _ => rfl
  | c :: p, h => by
    unfold noSlash at h
    rw [List.all_cons, Bool.and_eq_true] at h
    rw [cuts_cons, if_neg (by simpa using h.1), cuts_plain (p := p) h.2]
theorem cuts_cut : ∀ {p : List UInt8} {r : List UInt8}, noSlash p = true → cuts (p ++ 47 :: r) = p :: cuts r
  | [], r, _ => by
    show cuts (47 :: r) = _
    rw [cuts_cons, if_pos (by decide)]
  | c :: p, r, h => by
    unfold noSlash at h
    rw [List.all_cons, Bool.and_eq_true] at h
    show cuts (c :: (p ++ 47 :: r)) = _
    rw [cuts_cons, if_neg (by simpa using h.1), cuts_cut (p := p) (r := r) h.2]
/-- what stands ahead doesn't hang on what stands behind a slash -/
theorem cuts_append : ∀ (s r : List UInt8), cuts (s ++ 47 :: r) = cuts s ++ cuts r
  | [], r => by
    show cuts (47 :: r) = _
    rw [cuts_cons, if_pos (by decide)]
    rfl
  | c :: s, r => by
    have ih := cuts_append s r
    show cuts (c :: (s ++ 47 :: r)) = cuts (c :: s) ++ cuts r
    rw [cuts_cons, cuts_cons]
    split
    · rw [ih]; rfl
    · rw [ih]
      cases h : cuts s with
      | nil => exact absurd h (cuts_ne s)
      | cons p ps => rfl
theorem cuts_noSlash : ∀ {s p : List UInt8}, p ∈ cuts s → noSlash p = true
  | [], p, h => by
    simp only [cuts, List.mem_singleton] at h
    subst h
    rfl
  | c :: s, p, h => by
    rw [cuts_cons] at h
    by_cases hc : (c == 47) = true
    · rw [if_pos hc, List.mem_cons] at h
      rcases h with rfl | h
      · rfl
      · exact cuts_noSlash h
    · rw [if_neg hc] at h
      have hc' : (c == 47) = false := by simpa using hc
      split at h
      · rename_i hp
        exact absurd hp (cuts_ne s)
      · rename_i q qs hp
        rw [List.mem_cons] at h
        rcases h with rfl | h
        · have := cuts_noSlash (s := s) (p := q) (by rw [hp]; simp)
          unfold noSlash at *
          rw [List.all_cons, this]
          simp [bne, hc']
        · exact cuts_noSlash (s := s) (p := p) (by rw [hp]; simp [h])
theorem cuts_enc {t : List UInt8} (h : Enc t) : ∀ p ∈ cuts t, Enc p := by
  induction h with
  | nil =>
    intro p hp
    simp only [cuts, List.mem_singleton] at hp
    subst hp
    exact Enc.nil
  | one c r hc h37 _ ih =>
    intro p hp
    rw [cuts_cons] at hp
    split at hp
    · rw [List.mem_cons] at hp
      rcases hp with rfl | hp
      · exact Enc.nil
      · exact ih p hp
    · split at hp
      · rename_i hq
        exact absurd hq (cuts_ne r)
      · rename_i q qs hq
        rw [List.mem_cons] at hp
        rcases hp with rfl | hp
        · exact Enc.one c q hc h37 (ih q (by rw [hq]; simp))
        · exact ih p (by rw [hq]; simp [hp])
  | tri n r hn hp _ ih =>
    intro p hm
    have hk := hx_okc hn
    obtain ⟨q, qs, hq⟩ : ∃ q qs, cuts r = q :: qs := by
      cases h : cuts r with
      | nil => exact absurd h (cuts_ne r)
      | cons q qs => exact ⟨q, qs, rfl⟩
    have e : cuts (37 :: hx (n / 16) :: hx (n % 16) :: r) = (37 :: hx (n / 16) :: hx (n % 16) :: q) :: qs := by
      rw [cuts_cons, if_neg (by decide), cuts_cons, if_neg (by simp [hk.2.2.2.2.1]), cuts_cons, if_neg (by simp [hk.2.2.2.2.2]), hq]
    rw [e, List.mem_cons] at hm
    rcases hm with rfl | hm
    · exact Enc.tri n q hn hp (ih q (by rw [hq]; simp))
    · exact ih p (by rw [hq]; simp [hm])
end Go.Proofs.YtmlpdhmafmdkcaaGreatDoor.PathPure

/- The normal form of a path: it is its own, and how it goes on. No program is named. -/
namespace Go.Proofs.YtmlpdhmafmdkcaaGreatDoor.PathForm
open LexPure Bytes PathPure

/-- a piece that may be kept -/
structure CleanP (p : List UInt8) : Prop where
  dot : isDot p = false
  up : isUp p = false
  no : noSlash p = true
  enc : Enc p
/-- the text of kept pieces, with a slash behind or not -/
def form (kept : List (List UInt8)) (tr : Bool) : List UInt8 := if tr then join kept ++ [47] else join kept
theorem keeps_append : ∀ (ps qs kept : List (List UInt8)), keeps kept (ps ++ qs) = (keeps kept ps).bind (fun k => keeps k qs)
  | [], qs, kept => rfl
  | p :: ps, qs, kept => by
    show keeps kept (p :: (ps ++ qs)) = _
    rw [keeps, keeps]
    split
    · exact keeps_append ps qs kept
    · split
      · split
        · rfl
        · exact keeps_append ps qs _
      · exact keeps_append ps qs _
theorem keeps_clean : ∀ (ps kept : List (List UInt8)), (∀ p ∈ ps, CleanP p) → keeps kept ps = some (kept ++ ps)
  | [], kept, _ => by simp [keeps]
  | p :: ps, kept, h => by
    have hp := h p (by simp)
    rw [keeps, if_neg (by simp [hp.dot]), if_neg (by simp [hp.up]), keeps_clean ps _ (fun q hq => h q (by simp [hq]))]
    simp
theorem keeps_kept : ∀ (ps kept out : List (List UInt8)), (∀ p ∈ kept, CleanP p) → (∀ p ∈ ps, Enc p ∧ noSlash p = true) → keeps kept ps = some out → ∀ p ∈ out, CleanP p
  | [], kept, out, hk, _, h => by
    simp only [keeps, Option.some.injEq] at h
    subst h
    exact hk
  | p :: ps, kept, out, hk, hp, h => by
    have hps : ∀ q ∈ ps, Enc q ∧ noSlash q = true := fun q hq => hp q (by simp [hq])
    rw [keeps] at h
    split at h
    · exact keeps_kept ps kept out hk hps h
    · rename_i h1
      split at h
      · split at h
        · cases h
        · exact keeps_kept ps _ out (fun q hq => hk q ((List.dropLast_sublist kept).subset hq)) hps h
      · rename_i h2
        refine keeps_kept ps _ out (fun q hq => ?_) hps h
        rw [List.mem_append, List.mem_singleton] at hq
        rcases hq with hq | rfl
        · exact hk q hq
        · have := hp q (by simp)
          exact ⟨by simpa using h1, by simpa using h2, this.2, this.1⟩
theorem enc_slash {r : List UInt8} (h : Enc r) : Enc (47 :: r) := Enc.one 47 r (by decide) (by decide) h
theorem join_enc : ∀ {kept : List (List UInt8)}, (∀ p ∈ kept, CleanP p) → Enc (join kept)
  | [], _ => Enc.nil
  | p :: ps, h => by
    show Enc ((47 :: p) ++ join ps)
    exact enc_append (enc_slash (h p (by simp)).enc) (join_enc (fun q hq => h q (by simp [hq])))
theorem form_enc {kept : List (List UInt8)} {tr : Bool} (h : ∀ p ∈ kept, CleanP p) : Enc (form kept tr) := by
  unfold form
  split
  · exact enc_append (join_enc h) (enc_slash Enc.nil)
  · exact join_enc h
/-- a form with something behind -/
theorem cuts_join : ∀ (kept : List (List UInt8)) (r : List UInt8), (∀ p ∈ kept, CleanP p) → cuts (join kept ++ 47 :: r).tail = kept ++ cuts r
  | [], r, _ => rfl
  | p :: ps, r, h => by
    have hp := h p (by simp)
    have ih := cuts_join ps r (fun q hq => h q (by simp [hq]))
    have e : (join (p :: ps) ++ 47 :: r).tail = p ++ (join ps ++ 47 :: r) := by
      show (((47 :: p) ++ join ps) ++ 47 :: r).tail = _
      simp
    rw [e]
    obtain ⟨t, ht⟩ : ∃ t, join ps ++ 47 :: r = 47 :: t := by
      cases ps with
      | nil => exact ⟨r, rfl⟩
      | cons q qs => exact ⟨q ++ join qs ++ 47 :: r, by show ((47 :: q) ++ join qs) ++ 47 :: r = _; simp⟩
    rw [ht] at ih ⊢
    rw [cuts_cut hp.no]
    show p :: cuts t = p :: (ps ++ cuts r)
    rw [show cuts t = ps ++ cuts r from ih]
theorem cuts_join_end (kept : List (List UInt8)) (hne : kept ≠ []) (h : ∀ p ∈ kept, CleanP p) : cuts (join kept).tail = kept := by
  obtain ⟨l, p, rfl⟩ : ∃ l p, kept = l ++ [p] := ⟨kept.dropLast, kept.getLast hne, (List.dropLast_concat_getLast hne).symm⟩
  have hp := h p (by simp)
  have e : join (l ++ [p]) = join l ++ 47 :: p := by simp [join]
  rw [e, cuts_join l p (fun q hq => h q (by simp [hq])), cuts_plain hp.no]
/-- a form's pieces -/
theorem cuts_form (kept : List (List UInt8)) (tr : Bool) (hf : kept = [] → tr = true) (h : ∀ p ∈ kept, CleanP p) : cuts (form kept tr).tail = kept ++ (if tr then [[]] else []) := by
  unfold form
  cases tr with
  | true => exact cuts_join kept [] h
  | false =>
    have hne : kept ≠ [] := fun e => by cases hf e
    simp only [Bool.false_eq_true, if_false, List.append_nil]
    exact cuts_join_end kept hne h
/-- the pieces of a form with more behind it -/
theorem cuts_more (kept : List (List UInt8)) (tr : Bool) (hf : kept = [] → tr = true) (h : ∀ p ∈ kept, CleanP p) (r : List UInt8) : cuts (form kept tr ++ 47 :: r).tail = (kept ++ (if tr then [[]] else [])) ++ cuts r := by
  have hne : form kept tr ≠ [] := by
    unfold form
    cases tr with
    | true => simp
    | false =>
      cases kept with
      | nil => cases hf rfl
      | cons p ps => show (47 :: p) ++ join ps ≠ []; simp
  have e : (form kept tr ++ 47 :: r).tail = (form kept tr).tail ++ 47 :: r := List.tail_append_of_ne_nil hne
  rw [e, cuts_append, cuts_form kept tr hf h]
theorem form_head (kept : List (List UInt8)) (tr : Bool) (hf : kept = [] → tr = true) : ∃ t, form kept tr = 47 :: t := by
  unfold form
  cases kept with
  | nil => rw [hf rfl]; exact ⟨[], rfl⟩
  | cons p ps => cases tr <;> exact ⟨_, rfl⟩
theorem keeps_trail (kept : List (List UInt8)) (tr : Bool) (h : ∀ p ∈ kept, CleanP p) : keeps [] (kept ++ (if tr then [[]] else [])) = some kept := by
  rw [keeps_append, keeps_clean kept [] h]
  cases tr <;> simp [keeps, isDot]
/-- what is answered is a form -/
theorem normal_form {s t : List UInt8} (h : normal s = some t) : ∃ kept tr, t = form kept tr ∧ (kept = [] → tr = true) ∧ (∀ p ∈ kept, CleanP p) := by
  unfold normal at h
  split at h
  · cases h
  · rename_i u hu
    split at h
    · cases h
    · rename_i kept hk
      injection h with h
      have hu2 : ∃ c r, s = c :: r ∧ esc (c :: r) = some u := by
        cases s with
        | nil => cases hu
        | cons c r =>
          refine ⟨c, r, rfl, ?_⟩
          have hu : (if (c == 47) = true then esc (c :: r) else none) = some u := hu
          by_cases h47 : (c == 47) = true
          · rwa [if_pos h47] at hu
          · rw [if_neg h47] at hu
            cases hu
      obtain ⟨c, r, rfl, hu2⟩ := hu2
      have he := esc_enc _ (Nat.le_refl _) hu2
      have het : Enc u.tail := by
        cases u with
        | nil => exact Enc.nil
        | cons d v =>
          have hu : (if (c == 47) = true then esc (c :: r) else none) = some (d :: v) := hu
          by_cases h47 : (c == 47) = true
          · rw [if_pos h47] at hu
            have hc : c = 47 := by simpa using h47
            subst hc
            rw [esc_cons, if_pos (by decide), if_neg (by decide)] at hu
            obtain ⟨v', hv', e⟩ := Option.map_eq_some_iff.1 hu
            injection e with e1 e2
            subst e2
            exact esc_enc _ (Nat.le_refl _) hv'
          · rw [if_neg h47] at hu
            cases hu
      have hclean := keeps_kept _ [] kept (fun p hp => by simp at hp) (fun p hp => ⟨cuts_enc het p hp, cuts_noSlash hp⟩) hk
      subst h
      unfold finish
      refine ⟨kept, kept.isEmpty || endsOpen (cuts u.tail), ?_, fun e => by simp [e], hclean⟩
      unfold form
      rfl
/-- how a form goes on: the escapes of it are itself -/
theorem escapes_more {kept : List (List UInt8)} {tr : Bool} (hf : kept = [] → tr = true) (h : ∀ p ∈ kept, CleanP p) {r u : List UInt8} (hr : esc r = some u) : escapes (form kept tr ++ r) = some (form kept tr ++ u) := by
  obtain ⟨t, ht⟩ := form_head kept tr hf
  have he := enc_esc (form_enc (tr := tr) h)
  have := esc_append _ r (Nat.le_refl _) he
  rw [hr] at this
  rw [ht] at this ⊢
  show (if (47 == (47 : UInt8)) = true then esc (47 :: t ++ r) else none) = _
  rw [if_pos (by decide), this]
  rfl
/-- a normal form is its own -/
theorem normal_fixed {kept : List (List UInt8)} {tr : Bool} (hf : kept = [] → tr = true) (h : ∀ p ∈ kept, CleanP p) : normal (form kept tr) = some (form kept tr) := by
  have he := escapes_more hf h (r := []) (u := []) rfl
  rw [List.append_nil] at he
  unfold normal
  rw [he]
  simp only
  rw [cuts_form kept tr hf h, keeps_trail kept tr h]
  simp only
  congr 1
  unfold finish form
  cases tr with
  | true => simp [endsOpen, isDot]
  | false =>
    have hne : kept ≠ [] := fun e => by cases hf e
    obtain ⟨l, p, rfl⟩ : ∃ l p, kept = l ++ [p] := ⟨kept.dropLast, kept.getLast hne, (List.dropLast_concat_getLast hne).symm⟩
    have hp := h p (by simp)
    simp [endsOpen, hp.dot, hp.up]
theorem normal_normal {s t : List UInt8} (h : normal s = some t) : normal t = some t := by
  obtain ⟨kept, tr, rfl, hf, hc⟩ := normal_form h
  exact normal_fixed hf hc
end Go.Proofs.YtmlpdhmafmdkcaaGreatDoor.PathForm

/- Paths: the normal form is not longer. No program is named. -/
namespace Go.Proofs.YtmlpdhmafmdkcaaGreatDoor.PathLen
open LexPure Bytes PathPure PathForm
/-- what pieces weigh, a slash each -/
def wt (ps : List (List UInt8)) : Nat := (ps.map (fun p => p.length + 1)).sum
theorem wt_append (a b : List (List UInt8)) : wt (a ++ b) = wt a + wt b := by simp [wt]
theorem wt_cuts : ∀ s : List UInt8, wt (cuts s) = s.length + 1
  | [] => rfl
  | c :: s => by
    have ih := wt_cuts s
    rw [cuts_cons]
    split
    · show 1 + wt (cuts s) = _
      rw [ih]
      simp
      omega
    · cases h : cuts s with
      | nil => exact absurd h (cuts_ne s)
      | cons p ps =>
        rw [h] at ih
        simp [wt] at ih ⊢
        omega
theorem join_wt (k : List (List UInt8)) : (join k).length = wt k := by
  induction k with
  | nil => rfl
  | cons p k ih =>
    show ((47 :: p) ++ join k).length = _
    rw [List.length_append, ih]
    simp [wt]
theorem wt_dropLast (k : List (List UInt8)) : wt k.dropLast ≤ wt k := by
  rcases List.eq_nil_or_concat k with rfl | ⟨l, p, rfl⟩
  · exact Nat.le_refl _
  · simp [wt]
theorem keeps_wt : ∀ (ps G K : List (List UInt8)), keeps G ps = some K → wt K ≤ wt G + wt ps
  | [], G, K, h => by
    simp only [keeps, Option.some.injEq] at h
    subst h
    exact Nat.le_add_right _ _
  | p :: ps, G, K, h => by
    have hw : wt (p :: ps) = p.length + 1 + wt ps := by simp [wt]
    rw [keeps] at h
    split at h
    · have := keeps_wt ps G K h
      omega
    · split at h
      · split at h
        · cases h
        · have := keeps_wt ps _ K h
          have := wt_dropLast G
          omega
      · have := keeps_wt ps _ K h
        rw [wt_append] at this
        have : wt [p] = p.length + 1 := by simp [wt]
        omega
theorem keeps_open {ps G K : List (List UInt8)} (hne : ps ≠ []) (ho : endsOpen ps = true) (h : keeps G ps = some K) : wt K + 1 ≤ wt G + wt ps := by
  rcases List.eq_nil_or_concat ps with rfl | ⟨l, p, rfl⟩
  · exact absurd rfl hne
  · rw [List.concat_eq_append] at *
    rw [keeps_append] at h
    obtain ⟨k, hk, h2⟩ := Option.bind_eq_some_iff.1 h
    have h1 := keeps_wt l G k hk
    rw [wt_append]
    have hp : wt [p] = p.length + 1 := by simp [wt]
    unfold endsOpen at ho
    rw [List.getLastD_eq_getLast?, List.getLast?_append] at ho
    simp only [List.getLast?_singleton, Option.some_or, Option.getD_some, Bool.or_eq_true] at ho
    rw [keeps] at h2
    split at h2
    · simp only [keeps, Option.some.injEq] at h2
      subst h2
      omega
    · split at h2
      · split at h2
        · cases h2
        · simp only [keeps, Option.some.injEq] at h2
          subst h2
          have := wt_dropLast k
          omega
      · rename_i a b
        rcases ho with h | h
        · exact absurd h a
        · exact absurd h b
theorem finish_len {u : List UInt8} {K : List (List UInt8)} (hu : 1 ≤ u.length) (h : keeps [] (cuts u.tail) = some K) : (finish K (cuts u.tail)).length ≤ u.length := by
  have hw := wt_cuts u.tail
  have h1 := keeps_wt _ _ _ h
  have hl : u.tail.length + 1 = u.length := by rw [List.length_tail]; omega
  have h0 : wt [] = 0 := rfl
  unfold finish
  split
  · rename_i hb
    rw [List.length_append, join_wt]
    rw [Bool.or_eq_true] at hb
    rcases hb with hb | hb
    · have : K = [] := List.isEmpty_iff.1 hb
      subst this
      simp [wt]
      omega
    · have := keeps_open (cuts_ne _) hb h
      simp
      omega
  · rw [join_wt]
    omega
theorem normal_len {s t : List UInt8} (he : ∀ u, escapes s = some u → 1 ≤ u.length ∧ u.length ≤ s.length) (h : normal s = some t) : t.length ≤ s.length := by
  unfold normal at h
  split at h
  · cases h
  · rename_i u hu
    split at h
    · cases h
    · rename_i K hK
      injection h with h
      subst h
      have := he u hu
      have := finish_len this.1 hK
      omega
/-- a form's last byte -/
theorem form_last (kept : List (List UInt8)) (tr : Bool) (hf : kept = [] → tr = true) (hc : ∀ p ∈ kept, CleanP p) : ((form kept tr).getLast? == some 47) = tr := by
  unfold form
  cases tr with
  | true => simp
  | false =>
    have hne : kept ≠ [] := fun e => by cases hf e
    obtain ⟨l, p, rfl⟩ : ∃ l p, kept = l ++ [p] := ⟨kept.dropLast, kept.getLast hne, (List.dropLast_concat_getLast hne).symm⟩
    have hp := hc p (by simp)
    have e : join (l ++ [p]) = join l ++ 47 :: p := by simp [join]
    simp only [Bool.false_eq_true, if_false]
    rw [e, List.getLast?_append]
    have hpn : p ≠ [] := fun h => by have := hp.dot; rw [h] at this; exact absurd this (by decide)
    have hl : (47 :: p).getLast? = some (p.getLast hpn) := by
      rw [List.getLast?_eq_some_getLast (by simp), List.getLast_cons hpn]
    rw [hl]
    simp only [Option.some_or]
    rw [beq_eq_false_iff_ne]
    intro h
    injection h with h
    have := hp.no
    unfold noSlash at this
    rw [List.all_eq_true] at this
    have h2 := this _ (List.getLast_mem hpn)
    rw [h] at h2
    exact absurd h2 (by decide)
end Go.Proofs.YtmlpdhmafmdkcaaGreatDoor.PathLen

/- Layer 5 of the program: what one round of its loops over a text takes off the front. No program is named. -/
namespace Go.Proofs.YtmlpdhmafmdkcaaGreatDoor.PEsc
open LexPure Bytes PathPure
/-- whether an escape stands at the front -/
def escO : List UInt8 → Bool
  | _ :: a :: b :: _ => isHex a && isHex b
  | _ => false
/-- the byte of the escape at the front, else 0 -/
def escN : List UInt8 → Nat
  | _ :: a :: b :: _ => if isHex a && isHex b then two a b else 0
  | _ => 0
theorem escN_lt (s : List UInt8) : escN s < 256 := by
  unfold escN
  split
  · split
    · rename_i h
      rw [Bool.and_eq_true] at h
      exact two_lt h.1 h.2
    · decide
  · decide
theorem esc_three {s : List UInt8} (h : escO s = true) : 3 ≤ s.length := by
  unfold escO at h
  split at h
  · simp
  · cases h
theorem dec_yes {t : List UInt8} (h : escO (37 :: t) = true) : dec (37 :: t) = (dec ((37 :: t).drop 3)).map (UInt8.ofNat (escN (37 :: t)) :: ·) := by
  rw [dec_cons, if_pos (by decide)]
  match t with
  | [] => cases h
  | [_] => cases h
  | a :: b :: r =>
    have hh : (isHex a && isHex b) = true := h
    have e : escN (37 :: a :: b :: r) = two a b := by unfold escN; simp only; rw [if_pos hh]
    simp only [hh, if_true, e]
    rfl
theorem dec_no {t : List UInt8} (h : escO (37 :: t) = false) : dec (37 :: t) = none := by
  rw [dec_cons, if_pos (by decide)]
  match t with
  | [] => rfl
  | [_] => rfl
  | a :: b :: r =>
    have hh : (isHex a && isHex b) = false := h
    simp only [hh]
    rfl
theorem dec_other {c : UInt8} {t : List UInt8} (h : ¬ c = 37) : dec (c :: t) = (dec t).map (c :: ·) := by
  rw [dec_cons, if_neg (by simpa using h)]
theorem esc_bad {c : UInt8} {t : List UInt8} (h : okc c = false) : esc (c :: t) = none := by
  rw [esc_cons, if_neg (by simp [h])]
theorem esc_other {c : UInt8} {t : List UInt8} (h0 : okc c = true) (h : ¬ c = 37) : esc (c :: t) = (esc t).map (c :: ·) := by
  rw [esc_cons, if_pos h0, if_neg (by simpa using h)]
theorem esc_yes {t : List UInt8} (h : escO (37 :: t) = true) : esc (37 :: t) = (esc ((37 :: t).drop 3)).map (wr (escN (37 :: t)) ++ ·) := by
  rw [esc_cons, if_pos (by decide), if_pos (by decide)]
  match t with
  | [] => cases h
  | [_] => cases h
  | a :: b :: r =>
    have hh : (isHex a && isHex b) = true := h
    have e : escN (37 :: a :: b :: r) = two a b := by unfold escN; simp only; rw [if_pos hh]
    simp only [hh, if_true, e]
    rfl
theorem esc_no {t : List UInt8} (h : escO (37 :: t) = false) : esc (37 :: t) = none := by
  rw [esc_cons, if_pos (by decide), if_pos (by decide)]
  match t with
  | [] => rfl
  | [_] => rfl
  | a :: b :: r =>
    have hh : (isHex a && isHex b) = false := h
    simp only [hh]
    rfl
theorem wr_le (n : Nat) : (wr n).length ≤ 3 := by unfold wr; split <;> simp
theorem map_map {o : Option (List UInt8)} (acc x : List UInt8) : (o.map (x ++ ·)).map (acc ++ ·) = o.map ((acc ++ x) ++ ·) := by
  cases o <;> simp
theorem map_cons {o : Option (List UInt8)} (acc : List UInt8) (c : UInt8) : (o.map (c :: ·)).map (acc ++ ·) = o.map ((acc ++ [c]) ++ ·) := by
  cases o <;> simp
end Go.Proofs.YtmlpdhmafmdkcaaGreatDoor.PEsc

/- Layer 6: what a target means, over lists of bytes. No program is named. -/
namespace Go.Proofs.YtmlpdhmafmdkcaaGreatDoor.TargetPure
open LexPure Bytes LexNum CutAt HostPure PathPure PathForm PathLen
structure Tgt where
  form : Int
  host : List UInt8
  port : Int
  path : List UInt8
  query : List UInt8
  has : Bool
def zero : Tgt := ⟨0, [], 0, [], [], false⟩
def qc (c : UInt8) : Bool := decide (33 ≤ c.toNat) && decide (c.toNat ≤ 126) && c != 35
def qok (s : List UInt8) : Bool := s.all qc
/-- path and query -/
def local6 (t : Tgt) (s : List UInt8) : Tgt × Int :=
  match normal (aheadOf 63 s) with
  | none => (zero, 50)
  | some p => if qok (behind 63 s) then ({ t with path := p, query := behind 63 s, has := hasB 63 s }, 0) else (zero, 60)
def endC (c : UInt8) : Bool := c == 47 || c == 63
def inA (s : List UInt8) : List UInt8 := s.takeWhile (fun c => !endC c)
def outA (s : List UInt8) : List UInt8 := s.dropWhile (fun c => !endC c)
def slashed (s : List UInt8) : List UInt8 := if s.head? == some 47 then s else 47 :: s
def CONNECT : List UInt8 := [67, 79, 78, 78, 69, 67, 84]
def OPTIONS : List UInt8 := [79, 80, 84, 73, 79, 78, 83]
def SCHEME : List UInt8 := [104, 116, 116, 112, 58, 47, 47]
def remote6 (s : List UInt8) : Tgt × Int :=
  match authO s with
  | some (h, p) => if p = 0 then (zero, 60) else (⟨3, h, p, [], [], false⟩, 0)
  | none => (zero, 60)
def star6 (m : List UInt8) : Tgt × Int := if m == OPTIONS then (⟨4, [], 0, [], [], false⟩, 0) else (zero, 60)
def absolute6 (s : List UInt8) : Tgt × Int :=
  match authO (inA s) with
  | some (h, p) => local6 ⟨2, h, p, [], [], false⟩ (slashed (outA s))
  | none => (zero, 61)
def hasScheme (s : List UInt8) : Bool := decide (7 ≤ s.length) && alike (s.take 7) SCHEME
def parse6 (m s : List UInt8) : Tgt × Int :=
  if m == CONNECT then remote6 s
  else if s == [42] then star6 m
  else if s.head? == some 47 then local6 ⟨1, [], 0, [], [], false⟩ s
  else if hasScheme s then absolute6 (s.drop 7)
  else (zero, 60)
def origin6 (t : Tgt) : List UInt8 :=
  if t.form = 1 ∨ t.form = 2 then (if t.has then t.path ++ 63 :: t.query else t.path)
  else if t.form = 4 then [42] else []

/-! ### what comes out -/
theorem local_cases (t : Tgt) (s : List UInt8) : (local6 t s = (zero, 50)) ∨ (local6 t s = (zero, 60)) ∨
    ∃ p, normal (aheadOf 63 s) = some p ∧ qok (behind 63 s) = true ∧ local6 t s = ({ t with path := p, query := behind 63 s, has := hasB 63 s }, 0) := by
  unfold local6
  split
  · exact .inl rfl
  · rename_i p hp
    by_cases h : qok (behind 63 s) = true
    · exact .inr (.inr ⟨p, hp, h, by rw [if_pos h]⟩)
    · exact .inr (.inl (by rw [if_neg h]))
/-- an error comes with the zero target -/
theorem local_err (t : Tgt) (s : List UInt8) (h : (local6 t s).2 ≠ 0) : (local6 t s).1 = zero := by
  rcases local_cases t s with e | e | ⟨p, _, _, e⟩ <;> rw [e] at h ⊢
  exact absurd rfl h
theorem parse_err (m s : List UInt8) (h : (parse6 m s).2 ≠ 0) : (parse6 m s).1 = zero := by
  unfold parse6 at h ⊢
  split
  · rename_i hm
    rw [if_pos hm] at h
    unfold remote6 at h ⊢
    split
    · rename_i a b ha
      rw [ha] at h
      simp only at h
      split
      · rfl
      · rename_i hb
        rw [if_neg hb] at h
        exact absurd rfl h
    · rfl
  · rename_i hm
    rw [if_neg hm] at h
    split
    · rename_i hs
      rw [if_pos hs] at h
      unfold star6 at h ⊢
      split
      · rename_i ho
        rw [if_pos ho] at h
        exact absurd rfl h
      · rfl
    · rename_i hs
      rw [if_neg hs] at h
      split
      · rename_i hh
        rw [if_pos hh] at h
        exact local_err _ _ h
      · rename_i hh
        rw [if_neg hh] at h
        split
        · rename_i hc
          rw [if_pos hc] at h
          unfold absolute6 at h ⊢
          split
          · rename_i a b ha
            rw [ha] at h
            exact local_err _ _ h
          · rfl
        · rfl
/-- a target that is read is of the form Remote or Asterisk, without a path, or has a normal path and a right query -/
theorem parse_ok (m s : List UInt8) (h : (parse6 m s).2 = 0) :
    (((parse6 m s).1.form = 3 ∨ (parse6 m s).1.form = 4) ∧ (parse6 m s).1.path = [] ∧ (parse6 m s).1.has = false) ∨
    (((parse6 m s).1.form = 1 ∨ (parse6 m s).1.form = 2) ∧ ∃ r, normal (aheadOf 63 r) = some (parse6 m s).1.path ∧ qok (behind 63 r) = true ∧ (parse6 m s).1.query = behind 63 r ∧ (parse6 m s).1.has = hasB 63 r ∧ r.length ≤ s.length + 1) := by
  unfold parse6 at h ⊢
  split
  · rename_i hm
    rw [if_pos hm] at h
    left
    unfold remote6 at h ⊢
    split
    · rename_i a b ha
      rw [ha] at h
      simp only at h
      split
      · rename_i hb
        rw [if_pos hb] at h
        exact absurd h (by decide)
      · exact ⟨.inl rfl, rfl, rfl⟩
    · rename_i ha
      rw [ha] at h
      exact absurd h (by decide)
  · rename_i hm
    rw [if_neg hm] at h
    split
    · rename_i hs
      rw [if_pos hs] at h
      left
      unfold star6 at h ⊢
      split
      · exact ⟨.inr rfl, rfl, rfl⟩
      · rename_i ho
        rw [if_neg ho] at h
        exact absurd h (by decide)
    · rename_i hs
      rw [if_neg hs] at h
      split
      · rename_i hh
        rw [if_pos hh] at h
        right
        rcases local_cases ⟨1, [], 0, [], [], false⟩ s with e | e | ⟨p, e1, e2, e⟩
        · rw [e] at h; exact absurd h (by decide)
        · rw [e] at h; exact absurd h (by decide)
        · rw [e]
          exact ⟨.inl rfl, s, e1, e2, rfl, rfl, by omega⟩
      · rename_i hh
        rw [if_neg hh] at h
        split
        · rename_i hc
          rw [if_pos hc] at h
          right
          unfold absolute6 at h ⊢
          split
          · rename_i a b ha
            rw [ha] at h
            simp only at h
            rcases local_cases ⟨2, a, b, [], [], false⟩ (slashed (outA (s.drop 7))) with e | e | ⟨p, e1, e2, e⟩
            · rw [e] at h; exact absurd h (by decide)
            · rw [e] at h; exact absurd h (by decide)
            · rw [e]
              refine ⟨.inr rfl, _, e1, e2, rfl, rfl, ?_⟩
              have h1 : (outA (s.drop 7)).length ≤ s.length := by
                have := (List.dropWhile_suffix (l := s.drop 7) (fun c => !endC c)).length_le
                rw [List.length_drop] at this
                unfold outA
                omega
              unfold slashed
              split <;> simp <;> omega
          · rename_i ha
            rw [ha] at h
            exact absurd h (show ¬ (61 : Int) = 0 by decide)
        · rename_i hc
          rw [if_neg hc] at h
          exact absurd h (by decide)

/-! ### what goes to a server, read there -/
theorem enc_okc {t : List UInt8} (h : Enc t) : t.all okc = true := by
  induction h with
  | nil => rfl
  | one c r h1 _ _ ih => rw [List.all_cons, h1, ih]; rfl
  | tri n r h1 _ _ ih =>
    obtain ⟨a, b, _⟩ := hx_okc h1
    rw [List.all_cons, List.all_cons, List.all_cons, a, b, ih]
    rfl
theorem okc_63 (c : UInt8) (h : okc c = true) : (c != 63) = true := by
  unfold okc at h
  simp only [Bool.and_eq_true] at h
  exact h.1.2
theorem normal_no63 {s t : List UInt8} (h : normal s = some t) : t.all (fun c => c != 63) = true := by
  obtain ⟨kept, tr, rfl, _, hc⟩ := normal_form h
  rw [List.all_eq_true]
  exact fun c hm => okc_63 c (List.all_eq_true.1 (enc_okc (form_enc hc)) c hm)
theorem normal_head {s t : List UInt8} (h : normal s = some t) : ∃ r, t = 47 :: r := by
  obtain ⟨kept, tr, rfl, hf, _⟩ := normal_form h
  exact form_head kept tr hf
theorem ahead63 {s : List UInt8} (h : s.all (fun c => c != 63) = true) (r : List UInt8) : aheadOf 63 (s ++ 63 :: r) = s ∧ behind 63 (s ++ 63 :: r) = r ∧ hasB 63 (s ++ 63 :: r) = true := by
  have h' : ∀ a ∈ s, (a != 63) = true := List.all_eq_true.1 h
  refine ⟨?_, ?_, ?_⟩
  · unfold aheadOf
    rw [List.takeWhile_append_of_pos h', List.takeWhile_cons]
    simp
  · unfold behind
    rw [List.dropWhile_append_of_pos h', List.dropWhile_cons]
    simp
  · unfold hasB
    simp
theorem self63 {s : List UInt8} (h : s.all (fun c => c != 63) = true) : aheadOf 63 s = s ∧ behind 63 s = [] ∧ hasB 63 s = false := by
  have h' : ∀ a ∈ s, (a != 63) = true := List.all_eq_true.1 h
  refine ⟨?_, ?_, ?_⟩
  · have := List.takeWhile_append_of_pos (l₂ := []) h'
    rw [List.append_nil] at this
    unfold aheadOf
    rw [this]
    simp
  · have := List.dropWhile_append_of_pos (l₂ := []) h'
    rw [List.append_nil] at this
    unfold behind
    rw [this]
    rfl
  · unfold hasB
    rw [List.any_eq_false]
    intro a ha
    simpa using h' a ha
theorem behind_none {s : List UInt8} (h : hasB 63 s = false) : behind 63 s = [] := by
  refine (self63 ?_).2.1
  unfold hasB at h
  rw [List.any_eq_false] at h
  rw [List.all_eq_true]
  intro a ha
  have := h a ha
  simpa using this
def GET : List UInt8 := [71, 69, 84]
theorem parse_slash (m : List UInt8) (hm : (m == CONNECT) = false) (r : List UInt8) : parse6 m (47 :: r) = local6 ⟨1, [], 0, [], [], false⟩ (47 :: r) := by
  unfold parse6
  have h1 : ((47 :: r : List UInt8) == [42]) = false := by
    rw [beq_eq_false_iff_ne]
    intro e
    injection e with e1 e2
    exact absurd e1 (by decide)
  rw [hm, h1]
  simp
theorem again {m s : List UInt8} (h : (parse6 m s).2 = 0) (hf : (parse6 m s).1.form = 1 ∨ (parse6 m s).1.form = 2) :
    parse6 GET (origin6 (parse6 m s).1) = (⟨1, [], 0, (parse6 m s).1.path, (parse6 m s).1.query, (parse6 m s).1.has⟩, 0) := by
  rcases parse_ok m s h with ⟨hq, _⟩ | ⟨_, r, e1, e2, e3, e4, _⟩
  · exfalso; omega
  · generalize (parse6 m s).1 = t at *
    obtain ⟨fo, ho, po, pa, qu, ha⟩ := t
    simp only at *
    subst e3; subst e4
    have hn := normal_no63 e1
    obtain ⟨v, rfl⟩ := normal_head e1
    have hnn := normal_normal e1
    unfold origin6
    simp only
    rw [if_pos hf]
    by_cases hh : hasB 63 r = true
    · rw [if_pos hh]
      rw [List.cons_append, parse_slash GET (by decide), ← List.cons_append]
      obtain ⟨a1, a2, a3⟩ := ahead63 hn (behind 63 r)
      unfold local6
      rw [a1, a2, a3, hnn]
      simp only
      rw [if_pos e2, hh]
    · have hx : hasB 63 r = false := by simpa using hh
      rw [if_neg hh]
      rw [parse_slash GET (by decide)]
      obtain ⟨a1, a2, a3⟩ := self63 hn
      unfold local6
      rw [a1, a2, a3, hnn]
      simp only
      rw [behind_none hx, hx]
      rfl

/-! ### an absolute target -/
theorem inA_all {s : List UInt8} (h : s.all (fun c => !endC c) = true) (r : List UInt8) : inA (s ++ 47 :: r) = s ∧ outA (s ++ 47 :: r) = 47 :: r := by
  have h' : ∀ a ∈ s, (!endC a) = true := List.all_eq_true.1 h
  refine ⟨?_, ?_⟩
  · unfold inA
    rw [List.takeWhile_append_of_pos h', List.takeWhile_cons]
    simp [endC]
  · unfold outA
    rw [List.dropWhile_append_of_pos h', List.dropWhile_cons]
    simp [endC]
theorem parse_abs {x : List UInt8} (hx : x.all (fun c => !endC c) = true) (s : List UInt8) : parse6 GET (SCHEME ++ x ++ 47 :: s) =
    match authO x with
    | some (h, p) => local6 ⟨2, h, p, [], [], false⟩ (47 :: s)
    | none => (zero, 61) := by
  have e : SCHEME ++ x ++ 47 :: s = 104 :: 116 :: 116 :: 112 :: 58 :: 47 :: 47 :: (x ++ 47 :: s) := by rw [List.append_assoc]; rfl
  have h1 : (SCHEME ++ x ++ 47 :: s == [42]) = false := by
    rw [e, beq_eq_false_iff_ne]
    intro h
    injection h with h _
    exact absurd h (by decide)
  have h2 : ((SCHEME ++ x ++ 47 :: s).head? == some 47) = false := by rw [e]; rfl
  have h3 : (SCHEME ++ x ++ 47 :: s).take 7 = SCHEME := by rw [e]; rfl
  have h4 : (SCHEME ++ x ++ 47 :: s).drop 7 = x ++ 47 :: s := by rw [e]; rfl
  have h5 : hasScheme (SCHEME ++ x ++ 47 :: s) = true := by
    unfold hasScheme
    rw [h3, alike_self, e]
    simp
  unfold parse6
  rw [h1, h2, h4, h5, show (GET == CONNECT) = false by decide]
  simp only [Bool.false_eq_true, if_false, if_true]
  obtain ⟨i1, i2⟩ := inA_all hx s
  unfold absolute6
  rw [i1, i2]
  have : slashed (47 :: s) = 47 :: s := by unfold slashed; simp
  rw [this]
/-- the errors of two targets that differ in what isn't read -/
theorem local_same (t u : Tgt) (s : List UInt8) : (local6 t s).2 = (local6 u s).2 := by
  unfold local6
  split
  · rfl
  · split <;> rfl
theorem local_ok {t u : Tgt} {s : List UInt8} (h : (local6 u s).2 = 0) : (local6 t s).1 = { t with path := (local6 u s).1.path, query := (local6 u s).1.query, has := (local6 u s).1.has } := by
  rcases local_cases u s with e | e | ⟨p, e1, e2, e⟩
  · rw [e] at h; exact absurd h (by decide)
  · rw [e] at h; exact absurd h (by decide)
  · rw [e]
    unfold local6
    rw [e1]
    simp only
    rw [if_pos e2]
end Go.Proofs.YtmlpdhmafmdkcaaGreatDoor.TargetPure

/- Layer 11: requests read off a connection's bytes. No program is named. -/
namespace Go.Proofs.YtmlpdhmafmdkcaaGreatDoor.InflowPure
open Bytes LexPure LexNum FieldsPure HeadPure HostPure TargetPure FramePure ChunkPure
set_option maxRecDepth 20000
structure Rq where
  head : H8
  target : Tgt
  host : List UInt8
  port : Int
  body : List UInt8
  sized : Bool
  keep : Bool
  upgrade : List UInt8
def zeroQ : Rq := ⟨zero8, zero, [], 0, [], false, false, []⟩
/-- the status of an error -/
def status11 (e : Int) : Int := if e = 82 then 414 else if e = 83 then 431 else if e = 81 then 505 else if e = 91 then 501 else if e = 101 then 413 else 400
def HOSTN : List UInt8 := [104, 111, 115, 116]
def UPG : List UInt8 := [117, 112, 103, 114, 97, 100, 101]
def EXPECT : List UInt8 := [101, 120, 112, 101, 99, 116]
/-- whom it is for; none: refused -/
def host11 (h : H8) (t : Tgt) : Option (List UInt8 × Int) :=
  if 1 < getN h.fields HOSTN ∨ (getN h.fields HOSTN = 0 ∧ 0 < h.minor) then none
  else if getN h.fields HOSTN = 1 ∧ authE (getV h.fields HOSTN) ≠ 0 then none
  else if t.form = 2 ∨ t.form = 3 then some (t.host, t.port)
  else if getN h.fields HOSTN = 0 then some ([], 0)
  else some (authH (getV h.fields HOSTN), authP (getV h.fields HOSTN))
def up11 (h : H8) (kind : Int) : List UInt8 :=
  if h.method = GET ∧ 0 < h.minor ∧ kind = 1 ∧ (elems h.fields UPG).length = 1 ∧ hasE h.fields CONNECTION UPG = true then lower ((elems h.fields UPG).headD []) else []
inductive In where
  | wait
  | fail (s : Int)
  | whole (q : Rq) (n : Nat)
/-- the body, of the bytes behind the head -/
def body11 (q : Rq) (n : Nat) (kind len most : Int) (D : List UInt8) : In :=
  if kind = 1 then .whole q n
  else if kind = 2 then (if (D.length : Int) < len then .wait else .whole { q with body := D.take len.toNat } (n + len.toNat))
  else if (ans (begin_ most) D).2.2.2 ≠ 0 then .fail (status11 (ans (begin_ most) D).2.2.2)
  else if (ans (begin_ most) D).2.2.1 = true then .whole { q with body := (ans (begin_ most) D).1 } (n + (ans (begin_ most) D).2.1)
  else .wait
/-- behind a whole head of n bytes -/
def rest11 (h : H8) (n : Nat) (most : Int) (D : List UInt8) : In :=
  if (parse6 h.method h.target).2 ≠ 0 then .fail 400
  else match host11 h (parse6 h.method h.target).1 with
    | none => .fail 400
    | some (hn, hp) =>
      if 0 < getN h.fields EXPECT then .fail 417
      else if (request9 h.minor h.fields most).2.2 ≠ 0 then .fail (status11 (request9 h.minor h.fields most).2.2)
      else if h.method = TargetPure.CONNECT ∧ (request9 h.minor h.fields most).1 ≠ 1 then .fail 400
      else body11 ⟨h, (parse6 h.method h.target).1, hn, hp, [], decide ((request9 h.minor h.fields most).1 ≠ 1), keep9 h.minor h.fields, up11 h (request9 h.minor h.fields most).1⟩ n (request9 h.minor h.fields most).1 (request9 h.minor h.fields most).2.1 most D
def read11 (most : Int) (D : List UInt8) : In :=
  match read8 false D with
  | .wait => .wait
  | .bad e => .fail (status11 e)
  | .done h n => rest11 h n most (D.drop n)
theorem body_append {q : Rq} {n : Nat} {kind len most : Int} {D : List UInt8} (x : List UInt8) (h : body11 q n kind len most D ≠ .wait) : body11 q n kind len most (D ++ x) = body11 q n kind len most D := by
  unfold body11 at *
  by_cases h1 : kind = 1
  · rw [if_pos h1, if_pos h1]
  rw [if_neg h1] at h ⊢
  rw [if_neg h1]
  by_cases h2 : kind = 2
  · rw [if_pos h2] at h ⊢
    rw [if_pos h2]
    by_cases h3 : (D.length : Int) < len
    · rw [if_pos h3] at h
      exact absurd rfl h
    · rw [if_neg h3, if_neg (by rw [List.length_append]; omega), List.take_append_of_le_length (by omega)]
  rw [if_neg h2] at h ⊢
  rw [if_neg h2]
  have key : (ans (begin_ most) D).2.2.2 ≠ 0 ∨ (ans (begin_ most) D).2.2.1 = true → ans (begin_ most) (D ++ x) = ans (begin_ most) D := by
    intro hk
    have hs : stop (run (begin_ most) D).1 = true := by
      unfold ans at hk
      unfold stop
      split at hk <;> simp_all
    have : run (begin_ most) (D ++ x) = run (begin_ most) D := by
      rw [run_append, run_stop hs]
      simp
    unfold ans
    rw [this]
  by_cases h4 : (ans (begin_ most) D).2.2.2 ≠ 0
  · rw [key (.inl h4)]
  · by_cases h5 : (ans (begin_ most) D).2.2.1 = true
    · rw [key (.inr h5)]
    · rw [if_neg h4, if_neg h5] at h
      exact absurd rfl h
theorem rest_append {h : H8} {n : Nat} {most : Int} {D : List UInt8} (x : List UInt8) (hn : rest11 h n most D ≠ .wait) : rest11 h n most (D ++ x) = rest11 h n most D := by
  unfold rest11 at *
  by_cases h1 : (parse6 h.method h.target).2 ≠ 0
  · rw [if_pos h1, if_pos h1]
  rw [if_neg h1] at hn ⊢
  rw [if_neg h1]
  cases hh : host11 h (parse6 h.method h.target).1 with
  | none => rfl
  | some p =>
    rw [hh] at hn
    dsimp only at hn ⊢
    by_cases h2 : 0 < getN h.fields EXPECT
    · rw [if_pos h2, if_pos h2]
    rw [if_neg h2] at hn ⊢
    rw [if_neg h2]
    by_cases h3 : (request9 h.minor h.fields most).2.2 ≠ 0
    · rw [if_pos h3, if_pos h3]
    rw [if_neg h3] at hn ⊢
    rw [if_neg h3]
    by_cases h4 : h.method = TargetPure.CONNECT ∧ (request9 h.minor h.fields most).1 ≠ 1
    · rw [if_pos h4, if_pos h4]
    rw [if_neg h4] at hn ⊢
    rw [if_neg h4]
    exact body_append x hn
theorem read11_append {most : Int} {D : List UInt8} (x : List UInt8) (h : read11 most D ≠ .wait) : read11 most (D ++ x) = read11 most D := by
  unfold read11 at h ⊢
  have h8 : read8 false D ≠ .wait := by
    intro e
    rw [e] at h
    exact h rfl
  rw [read_append false D x h8]
  cases hr : read8 false D with
  | wait => exact absurd hr h8
  | bad e => rfl
  | done hd n =>
    rw [hr] at h
    dsimp only at h ⊢
    obtain ⟨h1, _, _, _⟩ := read_front false D hd n hr
    rw [List.drop_append_of_le_length h1]
    exact rest_append x h
theorem status_pos (e : Int) : status11 e ≠ 0 := by
  unfold status11
  split
  · decide
  split
  · decide
  split
  · decide
  split
  · decide
  split <;> decide
theorem body_say {q : Rq} {n : Nat} {kind len most : Int} {D : List UInt8} : (∀ s, body11 q n kind len most D = .fail s → s ≠ 0) ∧ ∀ q' m, body11 q n kind len most D = .whole q' m → n ≤ m ∧ m ≤ n + D.length := by
  unfold body11
  by_cases h1 : kind = 1
  · rw [if_pos h1]
    exact ⟨fun s h => (by cases h), fun q' m h => (by cases h; omega)⟩
  rw [if_neg h1]
  by_cases h2 : kind = 2
  · rw [if_pos h2]
    by_cases h3 : (D.length : Int) < len
    · rw [if_pos h3]
      exact ⟨fun s h => (by cases h), fun q' m h => (by cases h)⟩
    · rw [if_neg h3]
      exact ⟨fun s h => (by cases h), fun q' m h => (by cases h; omega)⟩
  rw [if_neg h2]
  by_cases h4 : (ans (begin_ most) D).2.2.2 ≠ 0
  · rw [if_pos h4]
    exact ⟨fun s h => (by cases h; exact status_pos _), fun q' m h => (by cases h)⟩
  rw [if_neg h4]
  by_cases h5 : (ans (begin_ most) D).2.2.1 = true
  · rw [if_pos h5]
    have := (ans_used (begin_ most) D).1
    exact ⟨fun s h => (by cases h), fun q' m h => (by cases h; omega)⟩
  · rw [if_neg h5]
    exact ⟨fun s h => (by cases h), fun q' m h => (by cases h)⟩
theorem rest_say {h : H8} {n : Nat} {most : Int} {D : List UInt8} : (∀ s, rest11 h n most D = .fail s → s ≠ 0) ∧ ∀ q' m, rest11 h n most D = .whole q' m → n ≤ m ∧ m ≤ n + D.length := by
  unfold rest11
  by_cases h1 : (parse6 h.method h.target).2 ≠ 0
  · rw [if_pos h1]
    exact ⟨fun s h => (by cases h; decide), fun q' m h => (by cases h)⟩
  rw [if_neg h1]
  cases hh : host11 h (parse6 h.method h.target).1 with
  | none => exact ⟨fun s h => (by cases h; decide), fun q' m h => (by cases h)⟩
  | some p =>
    dsimp only
    by_cases h2 : 0 < getN h.fields EXPECT
    · rw [if_pos h2]
      exact ⟨fun s h => (by cases h; decide), fun q' m h => (by cases h)⟩
    rw [if_neg h2]
    by_cases h3 : (request9 h.minor h.fields most).2.2 ≠ 0
    · rw [if_pos h3]
      exact ⟨fun s h => (by cases h; exact status_pos _), fun q' m h => (by cases h)⟩
    rw [if_neg h3]
    by_cases h4 : h.method = TargetPure.CONNECT ∧ (request9 h.minor h.fields most).1 ≠ 1
    · rw [if_pos h4]
      exact ⟨fun s h => (by cases h; decide), fun q' m h => (by cases h)⟩
    rw [if_neg h4]
    exact body_say
theorem read11_say {most : Int} {D : List UInt8} : (∀ s, read11 most D = .fail s → s ≠ 0) ∧ ∀ q n, read11 most D = .whole q n → 0 < n ∧ n ≤ D.length := by
  unfold read11
  cases hr : read8 false D with
  | wait => exact ⟨fun s h => (by cases h), fun q' m h => (by cases h)⟩
  | bad e => exact ⟨fun s h => (by cases h; exact status_pos _), fun q' m h => (by cases h)⟩
  | done hd n =>
    obtain ⟨h1, h2, _, _⟩ := read_front false D hd n hr
    obtain ⟨r1, r2⟩ := rest_say (h := hd) (n := n) (most := most) (D := D.drop n)
    refine ⟨r1, fun q m h => ?_⟩
    have := r2 q m h
    rw [List.length_drop] at this
    omega
theorem read11_nil (most : Int) : read11 most [] = .wait := by
  cases h : read11 most [] with
  | wait => rfl
  | fail s =>
    have : read8 false [] = .wait := rfl
    unfold read11 at h
    rw [this] at h
    cases h
  | whole q n =>
    have := read11_say.2 q n h
    simp at this
    omega
/-! ### one behind the other -/
/-- the requests, the status with which reading ends (0: it goes on), the bytes that aren't used -/
def all11 (most : Int) : Nat → List UInt8 → List Rq × Int × List UInt8
  | 0, D => ([], 0, D)
  | f + 1, D => match read11 most D with
    | .wait => ([], 0, D)
    | .fail s => ([], s, D)
    | .whole q n => (q :: (all11 most f (D.drop n)).1, (all11 most f (D.drop n)).2.1, (all11 most f (D.drop n)).2.2)
theorem all_fuel (most : Int) : ∀ (f g : Nat) (D : List UInt8), D.length ≤ f → D.length ≤ g → all11 most f D = all11 most g D
  | 0, 0, D, _, _ => rfl
  | 0, g + 1, D, h, _ => by
    have : D = [] := List.length_eq_zero_iff.1 (by omega)
    subst this
    unfold all11
    rw [read11_nil]
  | f + 1, 0, D, _, h => by
    have : D = [] := List.length_eq_zero_iff.1 (by omega)
    subst this
    unfold all11
    rw [read11_nil]
  | f + 1, g + 1, D, h1, h2 => by
    unfold all11
    cases hr : read11 most D with
    | wait => rfl
    | fail s => rfl
    | whole q n =>
      have hn := read11_say.2 q n hr
      dsimp only
      rw [all_fuel most f g (D.drop n) (by rw [List.length_drop]; omega) (by rw [List.length_drop]; omega)]
def allOf (most : Int) (D : List UInt8) : List Rq × Int × List UInt8 := all11 most D.length D
theorem allOf_step (most : Int) (D : List UInt8) : allOf most D = match read11 most D with
    | .wait => ([], 0, D)
    | .fail s => ([], s, D)
    | .whole q n => (q :: (allOf most (D.drop n)).1, (allOf most (D.drop n)).2.1, (allOf most (D.drop n)).2.2) := by
  unfold allOf
  rw [all_fuel most D.length (D.length + 1) D (Nat.le_refl _) (Nat.le_succ _)]
  conv => lhs; unfold all11
  cases hr : read11 most D with
  | wait => rfl
  | fail s => rfl
  | whole q n =>
    dsimp only
    rw [all_fuel most D.length (D.drop n).length (D.drop n) (by rw [List.length_drop]; omega) (Nat.le_refl _)]
/-- what comes behind: nothing is told otherwise -/
theorem all_append (most : Int) (x : List UInt8) : ∀ (N : Nat) (D : List UInt8), D.length ≤ N → allOf most (D ++ x) =
    if (allOf most D).2.1 ≠ 0 then ((allOf most D).1, (allOf most D).2.1, (allOf most D).2.2 ++ x)
    else ((allOf most D).1 ++ (allOf most ((allOf most D).2.2 ++ x)).1, (allOf most ((allOf most D).2.2 ++ x)).2.1, (allOf most ((allOf most D).2.2 ++ x)).2.2)
  | N, D, hN => by
    cases hr : read11 most D with
    | wait =>
      have : allOf most D = ([], 0, D) := by rw [allOf_step, hr]
      rw [this, if_neg (fun h => h rfl)]
      rfl
    | fail s =>
      have h1 : allOf most D = ([], s, D) := by rw [allOf_step, hr]
      have h2 : read11 most (D ++ x) = .fail s := by rw [read11_append x (by rw [hr]; intro h; cases h), hr]
      have h3 : allOf most (D ++ x) = ([], s, D ++ x) := by rw [allOf_step, h2]
      rw [h1, h3, if_pos (read11_say.1 s hr)]
    | whole q n =>
      have hn := read11_say.2 q n hr
      have h1 : allOf most D = (q :: (allOf most (D.drop n)).1, (allOf most (D.drop n)).2.1, (allOf most (D.drop n)).2.2) := by rw [allOf_step, hr]
      have h2 : read11 most (D ++ x) = .whole q n := by rw [read11_append x (by rw [hr]; intro h; cases h), hr]
      have h3 : allOf most (D ++ x) = (q :: (allOf most (D.drop n ++ x)).1, (allOf most (D.drop n ++ x)).2.1, (allOf most (D.drop n ++ x)).2.2) := by
        rw [allOf_step, h2]
        dsimp only
        rw [List.drop_append_of_le_length hn.2]
      match N, hN with
      | 0, hN => omega
      | N + 1, hN =>
        have ih := all_append most x N (D.drop n) (by rw [List.length_drop]; omega)
        rw [h3, h1, ih]
        by_cases h : (allOf most (D.drop n)).2.1 ≠ 0
        · rw [if_pos h, if_pos h]
        · rw [if_neg h, if_neg h]
          rfl
end Go.Proofs.YtmlpdhmafmdkcaaGreatDoor.InflowPure
