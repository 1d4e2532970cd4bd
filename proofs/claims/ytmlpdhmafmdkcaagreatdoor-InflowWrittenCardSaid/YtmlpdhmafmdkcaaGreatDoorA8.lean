/- Texts of this seat, one behind another: UtfPure, AnyLays, TAny, TAnyAll, TAbs, TRemote, TParse, PJudgeD. -/
import Derived.Laws.RangeAny
import Derived.Lib.IndexAny
import Derived.Laws.Runes
import Derived.Shelf.Strings.IndexAnyAll
import Derived.Test.YtmlpdhmafmdkcaaGreatDoorProg
import Derived.Lib.Hide
import Derived.Outline
import Derived.LoopTactic
import Derived.Deep.LoopGhost
import Derived.Handy
import Derived.WalkMore
import Derived.Deep.QuietTactic
import Derived.BigQuiet
import Derived.Laws.Strings3
import Derived.Laws.DeepStrings4
import Derived.Laws.CopyOwn
import Derived.Test.YtmlpdhmafmdkcaaGreatDoorA2
import Derived.Test.YtmlpdhmafmdkcaaGreatDoorA1
import Derived.Test.YtmlpdhmafmdkcaaGreatDoorA7
import Derived.Test.YtmlpdhmafmdkcaaGreatDoorA5
import Derived.Test.YtmlpdhmafmdkcaaGreatDoorA4
import Derived.Test.YtmlpdhmafmdkcaaGreatDoorA6
import Derived.Test.YtmlpdhmafmdkcaaGreatDoorA3
/- What Go reads of a text rune by rune, as far as a search for two plain bytes asks. No program is named. -/
namespace Go.Proofs.YtmlpdhmafmdkcaaGreatDoor.UtfPure
open LexPure Bytes TargetPure
theorem get_bang (s : ByteArray) (i : Nat) (h : i < s.size) : s.get! i = s[i] := by
  simp [ByteArray.get!, getElem!_pos, h]
  rfl
/-- the bytes that a rune beyond the first 128 takes are all beyond the first 128 -/
theorem decode_wide (s : ByteArray) (pos : Nat) (h : pos < s.size) (ha : 128 ≤ (s[pos]'h).toNat) :
    pos + (Utf8.decode s pos).2 ≤ s.size ∧ ∀ j (hj : j < s.size), pos ≤ j → j < pos + (Utf8.decode s pos).2 → 128 ≤ (s[j]'hj).toNat := by
  have hn : ¬ (s[pos]'h).toNat < 128 := by omega
  have h0 : (s.get! (pos + 0)).toNat = (s[pos]'h).toNat := by rw [Nat.add_zero, get_bang s pos h]
  have one : ∀ j (hj : j < s.size), pos ≤ j → j < pos + 1 → 128 ≤ (s[j]'hj).toNat := fun j hj h1 h2 => by
    obtain rfl : j = pos := by omega
    exact ha
  have at1 : ∀ k (hk : pos + k < s.size), (s.get! (pos + k)).toNat / 64 = 2 → 128 ≤ (s[pos + k]'hk).toNat := fun k hk hd => by
    rw [get_bang s (pos + k) hk] at hd
    omega
  simp only [Utf8.decode, h0, hn, if_false, Bool.and_eq_true, decide_eq_true_eq, beq_iff_eq]
  repeat' split
  all_goals simp only
  all_goals first
    | exact ⟨by omega, one⟩
    | (rename_i c1 c2
       refine ⟨by omega, fun j hj h1 h2 => ?_⟩
       rcases (show j = pos ∨ j = pos + 1 ∨ j = pos + 2 ∨ j = pos + 3 by omega) with rfl | rfl | rfl | rfl
       · exact ha
       · first | exact at1 1 hj (by omega) | omega
       · first | exact at1 2 hj (by omega) | omega
       · first | exact at1 3 hj (by omega) | omega)
theorem encode_high {r : Int} (h0 : 128 ≤ r) : (Utf8.encode r).size = 2 ∧ (∃ h : 1 < (Utf8.encode r).size, 128 ≤ ((Utf8.encode r)[1]'h).toNat) ∨ 3 ≤ (Utf8.encode r).size := by
  have key : ∀ c : Nat, 128 ≤ c → c < 2048 → 128 ≤ (UInt8.ofNat (0x80 + c % 64)).toNat := fun c _ _ => by
    have : (0x80 + c % 64) < 256 := by omega
    rw [UInt8.toNat_ofNat', Nat.mod_eq_of_lt this]
    omega
  have hc : 128 ≤ (if Utf8.valid r then r.toNat else Utf8.runeError) := by
    split
    · omega
    · decide
  generalize hcc : (if Utf8.valid r then r.toNat else Utf8.runeError) = c at hc
  have he : Utf8.encode r = if c < 0x80 then ⟨#[UInt8.ofNat c]⟩ else if c < 0x800 then ⟨#[UInt8.ofNat (0xC0 + c / 64), UInt8.ofNat (0x80 + c % 64)]⟩ else if c < 0x10000 then ⟨#[UInt8.ofNat (0xE0 + c / 4096), UInt8.ofNat (0x80 + c / 64 % 64), UInt8.ofNat (0x80 + c % 64)]⟩ else ⟨#[UInt8.ofNat (0xF0 + c / 262144), UInt8.ofNat (0x80 + c / 4096 % 64), UInt8.ofNat (0x80 + c / 64 % 64), UInt8.ofNat (0x80 + c % 64)]⟩ := by
    unfold Utf8.encode
    rw [hcc]
  rw [if_neg (by omega)] at he
  by_cases h1 : c < 0x800
  · rw [if_pos h1] at he
    left
    rw [he]
    exact ⟨rfl, (show 1 < 2 by decide), key c hc h1⟩
  · rw [if_neg h1] at he
    right
    by_cases h2 : c < 0x10000
    · rw [if_pos h2] at he
      rw [he]
      exact Nat.le_refl 3
    · rw [if_neg h2] at he
      rw [he]
      exact (by decide : 3 ≤ 4)
theorem encode_few (r : Int) : (Utf8.encode r).size ≤ 4 := by
  unfold Utf8.encode
  simp only
  repeat' split
  all_goals first | exact (by decide : 1 ≤ 4) | exact (by decide : 2 ≤ 4) | exact (by decide : 3 ≤ 4) | exact (by decide : 4 ≤ 4)
def ENDS : List UInt8 := [47, 63]
theorem ends_has (c : UInt8) : ENDS.contains c = endC c := by
  have := all_bytes (p := fun c => ENDS.contains c == endC c) (by decide +kernel) c
  simpa using this
theorem any_say : ∀ s : List UInt8, (Go.Lib.indexAny s ENDS = -1 ∧ inA s = s ∧ outA s = []) ∨ ∃ i : Nat, Go.Lib.indexAny s ENDS = i ∧ i < s.length ∧ inA s = s.take i ∧ outA s = s.drop i
  | [] => .inl ⟨rfl, rfl, rfl⟩
  | c :: s => by
    have ih := any_say s
    have hc := ends_has c
    unfold inA outA at *
    rw [Go.Lib.indexAny, hc]
    cases he : endC c
    · rw [List.takeWhile_cons, List.dropWhile_cons, he]
      simp only [Bool.false_eq_true, if_false, Bool.not_false, if_true]
      rcases ih with ⟨h1, h2, h3⟩ | ⟨i, h1, h2, h3, h4⟩
      · left
        rw [h1, h2, h3]
        exact ⟨rfl, rfl, rfl⟩
      · right
        have : ((i : Int) == -1) = false := beq_eq_false_iff_ne.2 (by omega)
        rw [h1, this, h3, h4]
        exact ⟨i + 1, by simp, by simp; omega, rfl, rfl⟩
    · right
      rw [List.takeWhile_cons, List.dropWhile_cons, he]
      exact ⟨0, rfl, by simp, rfl, rfl⟩
/-- a rune that was passed over -/
theorem pass_wide {s : ByteArray} {pos : Nat} (h : pos < s.size) (ha : 128 ≤ (s[pos]'h).toNat) (hno : Go.Lib.NoAny (toL s) ENDS pos) : Go.Lib.NoAny (toL s) ENDS (pos + (Utf8.decode s pos).2) := by
  obtain ⟨_, hw⟩ := decode_wide s pos h ha
  intro j b hj hb
  rcases Nat.lt_or_ge j pos with h1 | h1
  · exact hno j b h1 hb
  · have hjs : j < s.size := by
      have := (List.getElem?_eq_some_iff.1 hb).1
      rwa [toL_length] at this
    have h2 := hw j hjs h1 hj
    have h3 := toL_get s j hjs
    rw [hb] at h3
    rw [← Option.some.inj h3] at h2
    rw [ends_has]
    have h4 := all_bytes (p := fun c => decide (c.toNat < 128) || !endC c) (by decide +kernel) b
    have h5 : decide (b.toNat < 128) = false := decide_eq_false (by omega)
    rw [h5, Bool.false_or] at h4
    simpa using h4
end Go.Proofs.YtmlpdhmafmdkcaaGreatDoor.UtfPure

/-
  DERIVED: THE SHELF's CONTRACTS AT THIS DUMP, IN PLAIN WORDS (tools/lay-plain.mjs out of 'YtmlpdhmafmdkcaaGreatDoorAnyLaysT.lean', which tools/lay-shelf.mjs wrote): THE SAME DECLARATIONS UNDER THE SAME NAMES: 'import', 'namespace', 'open', 'def', 'theorem' AND NOTHING ELSE: no command of the shelf's: FOR A HAND-IN. Each laying: the table of numbers ('.._ren') and one theorem, a field a fact of the dump's own or the kernel's comparison; each contract: ONE APPLICATION.
-/
namespace Go.Proofs
open Go.Shelf
def Tryz.lays153_ren : Go.Shelf.Ren := ⟨fun | 153 => 74 | 152 => 92 | 226 => 93 | 227 => 94 | 228 => 95 | 137 => 87 | 119 => 117 | 224 => 109 | 225 => 108 | 217 => 107 | 266 => 127 | n => n, fun | 9 => 9 | 3 => 3 | 4 => 4 | 5 => 5 | 21 => 21 | 117 => 140 | 116 => 139 | 0 => 0 | 46 => 148 | 124 => 156 | n => n, fun | n => n⟩
theorem Tryz.lays153 : Go.Proofs.Lays.n153 Tryz.prog Tryz.lays153_ren := {
  mixed := by kernel_rfl
  f119 := Tryz.func117.trans (congrArg some (by kernel_rfl))
  f137 := Tryz.func87.trans (congrArg some (by kernel_rfl))
  f152 := Tryz.func92.trans (congrArg some (by kernel_rfl))
  f153 := Tryz.func74.trans (congrArg some (by kernel_rfl))
  f217 := Tryz.func107.trans (congrArg some (by kernel_rfl))
  f224 := Tryz.func109.trans (congrArg some (by kernel_rfl))
  f225 := Tryz.func108.trans (congrArg some (by kernel_rfl))
  f226 := Tryz.func93.trans (congrArg some (by kernel_rfl))
  f227 := Tryz.func94.trans (congrArg some (by kernel_rfl))
  f228 := Tryz.func95.trans (congrArg some (by kernel_rfl))
  f266 := Tryz.func127.trans (congrArg some (by kernel_rfl))
  t0 := Tryz.underlying0
  a0 := Tryz.isAgg0
  z0 := Tryz.sizeOf0
  v0 := Tryz.zeroValue0
  t3 := Tryz.underlying3
  a3 := Tryz.isAgg3
  z3 := Tryz.sizeOf3
  v3 := Tryz.zeroValue3
  t4 := Tryz.underlying4
  a4 := Tryz.isAgg4
  z4 := Tryz.sizeOf4
  v4 := Tryz.zeroValue4
  t5 := Tryz.underlying5
  a5 := Tryz.isAgg5
  z5 := Tryz.sizeOf5
  v5 := Tryz.zeroValue5
  t9 := Tryz.underlying9
  a9 := Tryz.isAgg9
  z9 := Tryz.sizeOf9
  v9 := Tryz.zeroValue9
  t21 := Tryz.underlying21
  a21 := Tryz.isAgg21
  z21 := Tryz.sizeOf21
  v21 := Tryz.zeroValue21
  t46 := Tryz.underlying148
  a46 := Tryz.isAgg148
  z46 := Tryz.sizeOf148
  v46 := Tryz.zeroValue148
  t116 := Tryz.underlying139
  a116 := Tryz.isAgg139
  z116 := Tryz.sizeOf139
  t117 := Tryz.underlying140
  a117 := Tryz.isAgg140
  z117 := Tryz.sizeOf140
  v117 := Tryz.zeroValue140
  t124 := Tryz.underlying156
  a124 := Tryz.isAgg156
  z124 := Tryz.sizeOf156
  v124 := Tryz.zeroValue156 }
end Go.Proofs

/- strings.IndexAny at the two bytes that end an authority, of any text. -/
namespace Go.Proofs.YtmlpdhmafmdkcaaGreatDoor.TAny
open Go.ChangeShapes Go.WideShapes Go.ChangeAt Go.RowKit LexPure Bytes TargetPure UtfPure Mem
set_option maxRecDepth 20000
theorem valid_yes (r : Int) (h0 : 128 ≤ r) (hv : r < 55296 ∨ (57343 < r ∧ r ≤ 1114111)) (w : World) :
    Calls Tryz.prog 117 #[.int .i32 r] w fun e w' => e = .returned (.bool true) ∧ w = w' := by
  have hp : (0 : Int) ≤ r := by omega
  rcases hv with h | ⟨h, h2⟩
  · go_enter Tryz.func117, Tryz.ntmps117
    go_wp2_with fail
    go_ret
    exact ⟨rfl, rfl⟩
  · have hn : ¬ r < 55296 := by omega
    go_enter Tryz.func117, Tryz.ntmps117
    go_wp2_with fail
    go_ret
    exact ⟨rfl, rfl⟩
theorem valid_no (r : Int) (_h0 : 128 ≤ r) (hv : ¬ (r < 55296 ∨ (57343 < r ∧ r ≤ 1114111))) (w : World) :
    Calls Tryz.prog 117 #[.int .i32 r] w fun e w' => e = .returned (.bool false) ∧ w = w' := by
  have hp : (0 : Int) ≤ r := by omega
  have hn : ¬ r < 55296 := by omega
  rcases (show r ≤ 57343 ∨ (57343 < r ∧ 1114111 < r) by omega) with h | ⟨h, h2⟩
  · go_enter Tryz.func117, Tryz.ntmps117
    go_wp2_with fail
    go_ret
    exact ⟨rfl, rfl⟩
  · go_enter Tryz.func117, Tryz.ntmps117
    go_wp2_with fail
    go_ret
    exact ⟨rfl, rfl⟩
theorem lib_none (b : UInt8) (w : World) :
    Calls Tryz.prog 87 #[.string ByteArray.empty, .int .u8 (b.toNat : Int)] w fun e w' => e = .returned (.int .i64 (-1)) ∧ w' = w :=
  Any.strings_IndexByte { Tryz.lays153 with } ByteArray.empty (b.toNat : Int) w
set_option maxHeartbeats 1600000 in
/-- a rune beyond the first 128 isn't among the two -/
theorem rune_high (r : Int) (h0 : 128 ≤ r) (w : World) :
    Calls Tryz.prog 92 #[.string ⟨#[47, 63]⟩, .int .i32 r] w fun e w' => e = .returned (.int .i64 (-1)) ∧ Below w.heap.size w w' := by
  have h1 : ¬ r < 128 := by omega
  by_cases he : r = 65533
  · subst he
    go_enter Tryz.func92, Tryz.ntmps92
    go_wp2_with fail
    go_loopg [5, 6] 2 (fun g _ _ wx => ∃ i : Nat, i + g = 2 ∧ wx = w.iter ⟨#[47, 63]⟩ i)
    case atStart => exact ⟨0, by omega, rfl⟩
    case round =>
      obtain ⟨i, hig, rfl⟩ := hrel
      cases gk with
      | zero =>
        obtain rfl : i = 2 := by omega
        have hnx := run_next_end (P := Tryz.prog) w ⟨#[47, 63]⟩ 2
        go_wp2_with fail
        go_ret
        exact ⟨rfl, (Below.refl _ _).alloc (Nat.le_refl _) _⟩
      | succ g =>
        rcases (show i = 0 ∨ i = 1 by omega) with rfl | rfl
        · have hnx := fun ty => run_next_ascii (P := Tryz.prog) w ⟨#[47, 63]⟩ 0 ty (by decide) (by decide)
          go_wp2_with fail
          go_roundg g
          case measure => omega
          case rel => exact ⟨1, by omega, rfl⟩
        · have hnx := fun ty => run_next_ascii (P := Tryz.prog) w ⟨#[47, 63]⟩ 1 ty (by decide) (by decide)
          go_wp2_with fail
          go_roundg g
          case measure => omega
          case rel => exact ⟨2, by omega, rfl⟩
  · by_cases hv : (r < 55296 ∨ (57343 < r ∧ r ≤ 1114111))
    · have HV := Lib.hid (valid_yes r h0 hv)
      have hq : (r == 65533) = false := beq_eq_false_iff_ne.2 he
      rcases encode_high h0 with ⟨e1, e2, e3⟩ | e1
      · have HI := Lib.hid (lib_none (((Utf8.encode r)[1]'e2)))
        have e4 : (1 : Int) < ((Utf8.encode r).size : Int) := by omega
        have hcv : ∀ w, (Go.convert 21 9 (.int .i32 r)).run Tryz.prog w = .ok (.string (Utf8.encode r)) w := fun w => run_convert_int_string w _ _ .i32 r (by kernel_rfl) Tryz.underlying9
        clear he hv
        generalize Utf8.encode r = E at *
        go_enter Tryz.func92, Tryz.ntmps92
        go_wp2_with (refine (HV.out _).mono ?_; rintro e w' ⟨rfl, rfl⟩)
        go_step3
        go_wp2_with fail
        go_loop [9, 10] (fun i f => i = .int .i64 1 ∧ f = .int .i64 0) (fun _ _ => 0)
        case atStart => exact ⟨rfl, rfl⟩
        case round =>
          obtain ⟨rfl, rfl⟩ := hrel
          go_wp2_with fail
          go_step3
          go_wp2_with fail
          go_quiet (fail)
          go_wp2_with fail
          · generalize hW2 : w.drewN _ = W2
            replace hW2 := Lib.hid hW2
            go_quiet ((go_at_call 87; exact Calls.quiet_of_same (HI.out _)))
            go_wp2_with fail
            simp +zetaDelta only [Exit.noGoto_ret, Exit.inBlock, Exit.then]
            go_ret
            rw [← hW2.out]
            exact ⟨rfl, rfl, rfl, rfl, Nat.le_refl _, fun _ _ => rfl⟩
          · exfalso
            have hx : ((((⟨#[47, 63]⟩ : ByteArray)[1]'(by decide)).toNat : Nat) : Int) = ((E[1]'e2).toNat : Int) := bne_eq_false_iff_eq.1 (by assumption)
            have h63 : ((⟨#[47, 63]⟩ : ByteArray)[1]'(by decide)).toNat = 63 := rfl
            omega
      · have hcv : ∀ w, (Go.convert 21 9 (.int .i32 r)).run Tryz.prog w = .ok (.string (Utf8.encode r)) w := fun w => run_convert_int_string w _ _ .i32 r (by kernel_rfl) Tryz.underlying9
        have e4 : (3 : Int) ≤ ((Utf8.encode r).size : Int) := by omega
        have e5 := encode_few r
        have e6 : ((Utf8.encode r).size : Int) ≤ 4 := by omega
        clear he hv e1 e5
        generalize Utf8.encode r = E at *
        go_enter Tryz.func92, Tryz.ntmps92
        go_wp2_with (refine (HV.out _).mono ?_; rintro e w' ⟨rfl, rfl⟩)
        go_step3
        go_wp2_with fail
        go_loop [9, 10] (fun i f => i = .int .i64 ((E.size : Int) - 1) ∧ f = .int .i64 0) (fun _ _ => 0)
        case atStart => exact ⟨rfl, rfl⟩
        case round =>
          obtain ⟨rfl, rfl⟩ := hrel
          go_wp2_with fail
          repeat rw [Exit.noGoto_ret]
          go_ret
          exact ⟨rfl, Below.refl _ _⟩
    · have HV := Lib.hid (valid_no r h0 hv)
      have hq : (r == 65533) = false := beq_eq_false_iff_ne.2 he
      clear he hv
      go_enter Tryz.func92, Tryz.ntmps92
      go_wp2_with (refine (HV.out _).mono ?_; rintro e w' ⟨rfl, rfl⟩)
      go_ret
      exact ⟨rfl, Below.refl _ _⟩
end Go.Proofs.YtmlpdhmafmdkcaaGreatDoor.TAny

/- strings.IndexAny at the two bytes that end an authority, of any text: the call. -/
namespace Go.Proofs.YtmlpdhmafmdkcaaGreatDoor.TAnyAll
open Go.ChangeShapes Go.WideShapes Go.ChangeAt Go.RowKit LexPure Bytes TargetPure UtfPure Mem TAny
set_option maxRecDepth 20000
/-- the world with the iterator moved -/
def moved (W : World) (k : Nat) (s : ByteArray) (pos : Nat) : World := { W with heap := W.heap.setIfInBounds k (.stringIter s pos) }
theorem next_in {P : Program} {W : World} {k : Nat} {s : ByteArray} {pos : Nat} (hI : W.heap[k]? = some (.stringIter s pos)) (ty : TypeId) (h : pos < s.size) :
    (Instr.next (.pointer (some ⟨k, 0, none⟩)) true ty).run P W = .ok (.tuple #[.bool true, .int .i64 pos, .int .i32 (Utf8.decode s pos).1]) (moved W k s (pos + (Utf8.decode s pos).2)) := by
  simp only [Instr.next, getObj, setObj, Sem.run_bind, Sem.run, hI, Result.andThen, h, if_true]
  simp [goInt, moved]
theorem end_in {P : Program} {W : World} {k : Nat} {s : ByteArray} {pos : Nat} (hI : W.heap[k]? = some (.stringIter s pos)) (ty : TypeId) (h : ¬ pos < s.size) :
    (Instr.next (.pointer (some ⟨k, 0, none⟩)) true ty).run P W = .ok (.tuple #[.bool false]) W := by
  simp [Instr.next, getObj, Sem.run, hI, h]
/-- the iterator of a call that began in w stands at pos -/
structure It (w : World) (k : Nat) (s : ByteArray) (pos : Nat) (W : World) : Prop where
  le : w.heap.size ≤ k
  lt : k < W.heap.size
  iter : W.heap[k]? = some (.stringIter s pos)
  below : Below w.heap.size w W
theorem It.start (w : World) (s : ByteArray) : It w w.heap.size s 0 (w.iter s 0) :=
  ⟨Nat.le_refl _, by simp [World.iter], World.iter_heap _ _ _, (Below.refl _ _).alloc (Nat.le_refl _) _⟩
theorem It.move {w W : World} {k : Nat} {s : ByteArray} {pos : Nat} (h : It w k s pos W) (pos' : Nat) : It w k s pos' (moved W k s pos') := by
  refine ⟨h.le, ?_, ?_, ⟨h.below.os, h.below.tape, h.below.output, ?_, fun j hj => ?_⟩⟩
  · unfold moved; simpa using h.lt
  · unfold moved
    simp only [Array.getElem?_setIfInBounds, if_true]
    rw [if_pos h.lt]
  · unfold moved; simpa using h.below.size
  · unfold moved
    have hk := h.le
    simp only [Array.getElem?_setIfInBounds]
    rw [if_neg (by omega)]
    exact h.below.block j hj
theorem It.call {w W W' : World} {k : Nat} {s : ByteArray} {pos : Nat} (h : It w k s pos W) (hb : Below W.heap.size W W') : It w k s pos W' :=
  ⟨h.le, Nat.lt_of_lt_of_le h.lt hb.size, (hb.block k h.lt).trans h.iter, below_chain h.below hb⟩
theorem rune_low (b : UInt8) (hb : b.toNat < 128) (w : World) :
    Calls Tryz.prog 92 #[.string ⟨#[47, 63]⟩, .int .i32 (b.toNat : Int)] w fun e w' => e = .returned (.int .i64 (Lib.indexByte ENDS b)) ∧ Below w.heap.size w w' := by
  have h := Any.strings_IndexRune_ascii { Tryz.lays153 with } ⟨#[47, 63]⟩ (b.toNat : Int) w (by omega) (by omega)
  rw [show ((b.toNat : Int)).toNat.toUInt8 = b by simp] at h
  refine h.mono ?_
  rintro e w' ⟨rfl, rfl⟩
  exact ⟨rfl, Below.refl _ _⟩
theorem byte_ends (b : UInt8) : (endC b = true ∧ 0 ≤ Lib.indexByte ENDS b) ∨ (endC b = false ∧ Lib.indexByte ENDS b < 0) := by
  have h := Go.Lib.contains_iff_indexByte ENDS b
  rw [ends_has] at h
  cases he : endC b
  · rw [he] at h
    have h2 := of_decide_eq_false h.symm
    exact .inr ⟨rfl, by omega⟩
  · rw [he] at h
    exact .inl ⟨rfl, of_decide_eq_true h.symm⟩
theorem ascii_of {l : List UInt8} (h : l.all (fun b => decide (b.toNat < 128)) = true) : ∀ (j : Nat) b, l[j]? = some b → b.toNat < 128 :=
  fun _ b hj => of_decide_eq_true (List.all_eq_true.1 h b (List.mem_of_getElem? hj))
set_option maxHeartbeats 1600000 in
theorem any_short (s : ByteArray) (h8 : s.size ≤ 8) (w : World) :
    Calls Tryz.prog 74 #[.string s, .string ⟨#[47, 63]⟩] w fun e w' => e = .returned (.int .i64 (Lib.indexAny (toL s) ENDS)) ∧ Below w.heap.size w w' := by
  have h8z : decide ((8 : Int) < (s.size : Int)) = false := decide_eq_false (by omega)
  have HU := Lib.hid (fun w => Any.strings_shouldUseASCIISet { Tryz.lays153 with } (s.size : Int) w)
  rw [h8z] at HU
  have HS := Lib.hid (It.start w s)
  clear h8z
  go_enter Tryz.func74, Tryz.ntmps74
  go_wp2_with (refine (HU.out _).mono ?_; rintro e w' ⟨rfl, hw⟩; rw [hw])
  generalize hk : w.heap.size = k at HS ⊢
  replace hk := Lib.hid hk
  generalize hw0 : w.iter s 0 = W0 at HS ⊢
  replace hw0 := Lib.hid hw0
  go_loopg [9, 10] s.size (fun g _ _ wx => ∃ i : Nat, i + g = s.size ∧ Hid (It w k s i wx) ∧ Hid (Go.Lib.NoAny (toL s) ENDS i))
  case atStart => exact ⟨0, by omega, HS, Lib.hid (Go.Lib.NoAny.zero _ _)⟩
  case round =>
    obtain ⟨i, hig, HI, HN⟩ := hrel
    clear HS HU
    by_cases hlt : i < s.size
    rotate_left
    · obtain rfl : i = s.size := by omega
      have hnx := fun ty => end_in (P := Tryz.prog) HI.out.iter ty hlt
      have HR : Hid (Lib.indexAny (toL s) ENDS = -1) := Lib.hid (Go.Lib.indexAny_none (by rw [toL_length]; exact HN.out))
      clear hlt HN
      go_wp2_with fail
      go_ret
      exact ⟨by rw [HR.out]; rfl, HI.out.below⟩
    · have hnx := fun ty => next_in (P := Tryz.prog) HI.out.iter ty hlt
      have HI2 := Lib.hid (HI.out.move (i + (Utf8.decode s i).2))
      clear HI
      by_cases ha : (s[i]'hlt).toNat < 128
      · rw [decode_ascii s i hlt ha] at hnx HI2
        have HR := Lib.hid (fun w => rune_low s[i] ha w)
        have hget := toL_get s i hlt
        rcases byte_ends s[i] with ⟨he, h1⟩ | ⟨he, h1⟩
        · have HV : Hid (Lib.indexAny (toL s) ENDS = i) := Lib.hid (Go.Lib.indexAny_hit HN.out hget (by rw [ends_has]; exact he))
          clear ha HN hget he
          go_wp2_with fail
          generalize moved _ _ _ _ = W1 at HI2 ⊢
          refine (HR.out _).mono ?_
          rintro e w' ⟨rfl, hb⟩
          replace HI2 := Lib.hid (HI2.out.call hb)
          clear hb HR
          go_wp2_with fail
          go_ret
          exact ⟨by rw [HV.out]; rfl, HI2.out.below⟩
        · have HN2 := Lib.hid (HN.out.succ hget (by rw [ends_has]; exact he))
          have hn0 : ¬ (0 : Int) ≤ Lib.indexByte ENDS s[i] := by omega
          clear ha HN hget he h1
          go_wp2_with fail
          generalize moved _ _ _ _ = W1 at HI2 ⊢
          refine (HR.out _).mono ?_
          rintro e w' ⟨rfl, hb⟩
          replace HI2 := Lib.hid (HI2.out.call hb)
          clear hb HR
          go_wp2_with fail
          go_roundg (s.size - (i + 1))
          case measure => omega
          case rel => exact ⟨i + 1, by omega, HI2, HN2⟩
      · obtain ⟨d1, d2⟩ := decode_high s i hlt (by omega)
        obtain ⟨d3, _⟩ := decode_wide s i hlt (by omega)
        have HN2 := Lib.hid (pass_wide hlt (by omega) HN.out)
        have HR := Lib.hid (fun w => rune_high ((Utf8.decode s i).1 : Int) (by omega) w)
        clear ha HN d1
        generalize (Utf8.decode s i).1 = rr at *
        generalize (Utf8.decode s i).2 = nn at *
        go_wp2_with fail
        generalize moved _ _ _ _ = W1 at HI2 ⊢
        refine (HR.out _).mono ?_
        rintro e w' ⟨rfl, hb⟩
        replace HI2 := Lib.hid (HI2.out.call hb)
        clear hb HR
        go_wp2_with fail
        go_roundg (s.size - (i + nn))
        case measure => omega
        case rel => exact ⟨i + nn, by omega, HI2, HN2⟩
theorem any_any (s : ByteArray) (hs : s.size < 4294967281) (w : World) :
    Calls Tryz.prog 74 #[.string s, .string ⟨#[47, 63]⟩] w fun e w' => e = .returned (.int .i64 (Lib.indexAny (toL s) ENDS)) ∧ Below w.heap.size w w' := by
  by_cases h8 : s.size ≤ 8
  · exact any_short s h8 w
  · have h116 : (Tryz.prog.info? (Tryz.lays153_ren.t 116)).map (fun i => (i.zero, i.size)) = some (some (.agg (Array.replicate 256 (.bool false))), 256) := by kernel_rfl
    refine (Any.strings_IndexAny_long Tryz.lays153 (zero_of_info h116).1 (zero_of_info h116).2 s ⟨#[47, 63]⟩ w (by decide) (by omega) hs (by decide) (ascii_of (by decide))).mono ?_
    rintro e w' ⟨rfl, rfl⟩
    exact ⟨rfl, ((Below.refl _ _).alloc (Nat.le_refl _) _).alloc (by simp) _⟩
end Go.Proofs.YtmlpdhmafmdkcaaGreatDoor.TAnyAll

/- Layer 6 of the program: absolute. -/
namespace Go.Proofs.YtmlpdhmafmdkcaaGreatDoor.TAbs
open Go.ChangeShapes Go.WideShapes Go.ChangeAt Go.RowKit LexPure Bytes Ret CutAt HostPure TargetPure UtfPure PUnder TAuth TBox TPath TAnyAll Mem
set_option maxRecDepth 20000
theorem slashed_say (s : List UInt8) : (([47] : List UInt8).isPrefixOf s = true ∧ slashed s = s) ∨ (([47] : List UInt8).isPrefixOf s = false ∧ slashed s = 47 :: s) := by
  rw [starts_one]
  unfold slashed
  cases h : (s.head? == some 47)
  · right; exact ⟨rfl, by simp⟩
  · left; exact ⟨rfl, by simp⟩
theorem tpath_in (fo : Int) (ho : List UInt8) (po : Int) (pa qu : List UInt8) (ha : Bool) (s : ByteArray) (hs : s.size ≤ 4194304) (x : Tgt × Int) (hx : x = local6 ⟨fo, ho, po, pa, qu, ha⟩ (toL s)) (w : World) (hm : MaxInt w) :
    Calls Tryz.prog 51 #[.agg #[.int .i64 fo, .string (ofL ho), .int .i64 po, .string (ofL pa), .string (ofL qu), .bool ha], .string s] w fun e w' =>
      e = .returned (.tuple #[.agg #[.int .i64 x.1.form, .string (ofL x.1.host), .int .i64 x.1.port, .string (ofL x.1.path), .string (ofL x.1.query), .bool x.1.has], .int .i64 x.2]) ∧ Below w.heap.size w w' := by
  subst hx
  exact tpath_any ⟨fo, ho, po, pa, qu, ha⟩ s hs w hm
set_option maxHeartbeats 3200000 in
/-- what stands behind the scheme, cut at e -/
theorem tabs_at (s : ByteArray) (hs : s.size ≤ 4194000) (w : World) (hm : MaxInt w) :
    Calls Tryz.prog 53 #[.string s] w fun e w' => e = .returned (rv (absolute6 (toL s))) ∧ Below w.heap.size w w' := by
  have HI := Lib.hid (fun w => any_any s (by omega) w)
  have HM := Lib.hid hm
  have HT := Lib.hid (One.start w)
  clear hm
  obtain ⟨x, hx⟩ : ∃ x, x = absolute6 (toL s) := ⟨_, rfl⟩
  rw [← hx]
  replace hx := Lib.hid hx
  have h1 : (s.size : Int) ≤ 4194000 := by omega
  rcases any_say (toL s) with ⟨i1, i2, i3⟩ | ⟨i, i1, i2, i3, i4⟩
  · rw [i1] at HI
    go_enter Tryz.func53, Tryz.ntmps53
    go_wp2_with fail
    generalize w.alloc (.cells #[.int .i64 0, .string ⟨#[]⟩, .int .i64 0, .string ⟨#[]⟩, .string ⟨#[]⟩, .bool false] 33) = W at HT ⊢
    obtain ⟨g, hg⟩ : ∃ g, g = w.heap.size := ⟨_, rfl⟩
    rw [← hg] at HT ⊢
    replace hg := Lib.hid hg
    refine (HI.out _).mono ?_
    rintro e w1 ⟨rfl, hb1⟩
    replace HT := Lib.hid (HT.out.call hb1)
    clear HI hb1
    go_wp2_with fail
    have HA := Lib.hid (fun w hm => tauth_any s (by omega) w hm)
    refine (HA.out _ (HM.out.below HT.out.below)).mono ?_
    rintro e w2 ⟨rfl, hb2⟩
    replace HT := Lib.hid (HT.out.call hb2)
    clear HA hb2
    obtain ⟨r0, r1, r2, r3, r4, r5⟩ := HT.out.rbox.cells
    obtain ⟨f0, f1, f2, f3, f4, f5⟩ := HT.out.rbox.frees
    cases ha : authO (toL s) with
    | none =>
      have hr : x = (zero, 61) := by rw [hx.out]; unfold absolute6; rw [i2, ha]
      subst hr
      rw [(auth_none ha).1, (auth_none ha).2.1, (auth_none ha).2.2]
      have HE := Lib.hid (HT.out.rbox.put zero)
      have HB := Lib.hid (HT.out.put zero)
      clear hx ha i1 i2 i3
      go_wp2_with fail
      refine bodyPost_ret (v := rv (zero, 61)) ?_ rfl ⟨rfl, HB.out⟩
      rw [results_cell_tmp rfl]
      exact end_box rfl rfl HE.out
    | some q =>
      obtain ⟨h, p⟩ := q
      have hr : x = local6 ⟨2, h, p, [], [], false⟩ [47] := by rw [hx.out]; unfold absolute6; rw [i2, ha, i3]; rfl
      rw [(auth_some ha).1, (auth_some ha).2.1, (auth_some ha).2.2]
      clear hx ha i1 i2 i3 r0 r1 r2 r3 r4 r5 f0 f1 f2 f3 f4 f5
      have HW := Lib.hid (fun w hm => tpath_in 2 h p [] [] false ⟨#[47]⟩ (by decide) x hr w hm)
      have HP := Lib.hid (fun w => lib_has ByteArray.empty ⟨#[47]⟩ w)
      rw [show ((toL ⟨#[47]⟩).isPrefixOf (toL ByteArray.empty)) = false from rfl] at HP
      replace hr := Lib.hid hr
      go_wp2_with fail
      refine (HP.out _).mono ?_
      rintro e w3 ⟨rfl, rfl⟩
      go_wp2_with fail
      refine (HW.out _ (HM.out.below HT.out.below)).mono ?_
      rintro e w4 ⟨rfl, hb4⟩
      replace HT := Lib.hid (HT.out.call hb4)
      clear HW hb4
      obtain ⟨r0, r1, r2, r3, r4, r5⟩ := HT.out.rbox.cells
      obtain ⟨f0, f1, f2, f3, f4, f5⟩ := HT.out.rbox.frees
      have HE := Lib.hid (HT.out.rbox.put x.1)
      have HB := Lib.hid (HT.out.put x.1)
      go_wp2_with fail
      refine bodyPost_ret (v := rv x) ?_ rfl ⟨rfl, HB.out⟩
      rw [results_cell_tmp rfl]
      exact end_box rfl rfl HE.out
  · rw [i1] at HI
    rw [toL_length] at i2
    have c1 : (i : Int) < (s.size : Int) := by omega
    have c2 : (i : Int) ≤ (s.size : Int) := by omega
    have eA : toL (s.extract 0 i) = inA (toL s) := by rw [toL_extract, i3, List.drop_zero]
    have eR : toL (s.extract i s.size) = outA (toL s) := by rw [toL_extract, i4, List.take_of_length_le (by rw [toL_length]; exact Nat.le_refl _)]
    have sA : (s.extract 0 i).size ≤ 4194000 := by rw [ByteArray.size_extract]; omega
    have sR : (s.extract i s.size).size ≤ 4194000 := by rw [ByteArray.size_extract]; omega
    have HA := Lib.hid (fun w hm => tauth_any (s.extract 0 i) (by omega) w hm)
    have HP := Lib.hid (fun w => lib_has (s.extract i s.size) ⟨#[47]⟩ w)
    rw [show toL ⟨#[47]⟩ = [47] from rfl, eR] at HP
    rw [eA] at HA
    have HSR := Lib.hid sR
    have HER := Lib.hid eR
    clear i1 i2 i3 i4 eA eR sA sR hs
    go_enter Tryz.func53, Tryz.ntmps53
    go_wp2_with fail
    generalize w.alloc (.cells #[.int .i64 0, .string ⟨#[]⟩, .int .i64 0, .string ⟨#[]⟩, .string ⟨#[]⟩, .bool false] 33) = W at HT ⊢
    obtain ⟨g, hg⟩ : ∃ g, g = w.heap.size := ⟨_, rfl⟩
    rw [← hg] at HT ⊢
    replace hg := Lib.hid hg
    refine (HI.out _).mono ?_
    rintro e w1 ⟨rfl, hb1⟩
    replace HT := Lib.hid (HT.out.call hb1)
    clear HI hb1
    go_wp2_with fail
    refine (HA.out _ (HM.out.below HT.out.below)).mono ?_
    rintro e w2 ⟨rfl, hb2⟩
    replace HT := Lib.hid (HT.out.call hb2)
    clear HA hb2
    obtain ⟨r0, r1, r2, r3, r4, r5⟩ := HT.out.rbox.cells
    obtain ⟨f0, f1, f2, f3, f4, f5⟩ := HT.out.rbox.frees
    cases ha : authO (inA (toL s)) with
    | none =>
      have hr : x = (zero, 61) := by rw [hx.out]; unfold absolute6; rw [ha]
      subst hr
      rw [(auth_none ha).1, (auth_none ha).2.1, (auth_none ha).2.2]
      have HE := Lib.hid (HT.out.rbox.put zero)
      have HB := Lib.hid (HT.out.put zero)
      clear hx ha
      go_wp2_with fail
      refine bodyPost_ret (v := rv (zero, 61)) ?_ rfl ⟨rfl, HB.out⟩
      rw [results_cell_tmp rfl]
      exact end_box rfl rfl HE.out
    | some q =>
      obtain ⟨h, p⟩ := q
      have hr : x = local6 ⟨2, h, p, [], [], false⟩ (slashed (outA (toL s))) := by rw [hx.out]; unfold absolute6; rw [ha]
      rw [(auth_some ha).1, (auth_some ha).2.1, (auth_some ha).2.2]
      clear hx ha r0 r1 r2 r3 r4 r5 f0 f1 f2 f3 f4 f5
      rcases slashed_say (outA (toL s)) with ⟨q1, q2⟩ | ⟨q1, q2⟩
      · rw [q1] at HP
        rw [q2] at hr
        have HW := Lib.hid (fun w hm => tpath_in 2 h p [] [] false (s.extract i s.size) (by have := HSR.out; omega) x (by rw [HER.out]; exact hr) w hm)
        replace hr := Lib.hid hr
        clear q1 q2
        go_wp2_with fail
        refine (HP.out _).mono ?_
        rintro e w3 ⟨rfl, rfl⟩
        go_wp2_with fail
        refine (HW.out _ (HM.out.below HT.out.below)).mono ?_
        rintro e w4 ⟨rfl, hb4⟩
        replace HT := Lib.hid (HT.out.call hb4)
        clear HW hb4
        obtain ⟨r0, r1, r2, r3, r4, r5⟩ := HT.out.rbox.cells
        obtain ⟨f0, f1, f2, f3, f4, f5⟩ := HT.out.rbox.frees
        have HE := Lib.hid (HT.out.rbox.put x.1)
        have HB := Lib.hid (HT.out.put x.1)
        go_wp2_with fail
        refine bodyPost_ret (v := rv x) ?_ rfl ⟨rfl, HB.out⟩
        rw [results_cell_tmp rfl]
        exact end_box rfl rfl HE.out
      · rw [q1] at HP
        rw [q2] at hr
        have sz : (s.extract i s.size).size + 1 ≤ 4194304 := by have := HSR.out; omega
        have HW := Lib.hid (fun w hm => tpath_in 2 h p [] [] false (⟨#[47]⟩ ++ s.extract i s.size) (by rw [ByteArray.size_append]; exact (by omega : 1 + (s.extract i s.size).size ≤ 4194304)) x (by rw [toL_append, HER.out]; exact hr) w hm)
        have sz2 : (⟨#[47]⟩ : ByteArray).size + (s.extract i s.size).size ≤ 9223372036854775807 := by exact (by omega : 1 + (s.extract i s.size).size ≤ 9223372036854775807)
        replace hr := Lib.hid hr
        clear q1 q2
        go_wp2_with fail
        refine (HP.out _).mono ?_
        rintro e w3 ⟨rfl, rfl⟩
        go_wp2_with fail
        refine (HW.out _ (HM.out.below HT.out.below)).mono ?_
        rintro e w4 ⟨rfl, hb4⟩
        replace HT := Lib.hid (HT.out.call hb4)
        clear HW hb4
        obtain ⟨r0, r1, r2, r3, r4, r5⟩ := HT.out.rbox.cells
        obtain ⟨f0, f1, f2, f3, f4, f5⟩ := HT.out.rbox.frees
        have HE := Lib.hid (HT.out.rbox.put x.1)
        have HB := Lib.hid (HT.out.put x.1)
        go_wp2_with fail
        refine bodyPost_ret (v := rv x) ?_ rfl ⟨rfl, HB.out⟩
        rw [results_cell_tmp rfl]
        exact end_box rfl rfl HE.out
end Go.Proofs.YtmlpdhmafmdkcaaGreatDoor.TAbs

/- Layer 6 of the program: remote, asterisk. -/
namespace Go.Proofs.YtmlpdhmafmdkcaaGreatDoor.TRemote
open Go.ChangeShapes Go.WideShapes Go.ChangeAt Go.RowKit LexPure Bytes Ret CutAt HostPure TargetPure PUnder TAuth TBox Mem
set_option maxRecDepth 20000
set_option maxHeartbeats 1600000 in
theorem tremote_any (s : ByteArray) (hs : s.size ≤ 140737488351232) (w : World) (hm : MaxInt w) :
    Calls Tryz.prog 49 #[.string s] w fun e w' => e = .returned (rv (remote6 (toL s))) ∧ Below w.heap.size w w' := by
  have HA := Lib.hid (fun w hm => tauth_any s hs w hm)
  have HM := Lib.hid hm
  have HT := Lib.hid (One.start w)
  clear hm hs
  obtain ⟨x, hx⟩ : ∃ x, x = remote6 (toL s) := ⟨_, rfl⟩
  rw [← hx]
  replace hx := Lib.hid hx
  go_enter Tryz.func49, Tryz.ntmps49
  go_wp2_with fail
  generalize w.alloc (.cells #[.int .i64 0, .string ⟨#[]⟩, .int .i64 0, .string ⟨#[]⟩, .string ⟨#[]⟩, .bool false] 33) = W at HT ⊢
  obtain ⟨g, hg⟩ : ∃ g, g = w.heap.size := ⟨_, rfl⟩
  rw [← hg] at HT ⊢
  replace hg := Lib.hid hg
  refine (HA.out _ (HM.out.below HT.out.below)).mono ?_
  rintro e w1 ⟨rfl, hb1⟩
  replace HT := Lib.hid (HT.out.call hb1)
  clear HA hb1
  obtain ⟨r0, r1, r2, r3, r4, r5⟩ := HT.out.rbox.cells
  obtain ⟨f0, f1, f2, f3, f4, f5⟩ := HT.out.rbox.frees
  cases ha : authO (toL s) with
  | none =>
    have hr : x = (zero, 60) := by rw [hx.out]; unfold remote6; rw [ha]
    subst hr
    rw [(auth_none ha).1, (auth_none ha).2.1, (auth_none ha).2.2]
    have HE := Lib.hid (HT.out.rbox.put zero)
    have HB := Lib.hid (HT.out.put zero)
    clear hx ha
    go_wp2_with fail
    refine bodyPost_ret (v := rv (zero, 60)) ?_ rfl ⟨rfl, HB.out⟩
    rw [results_cell_tmp rfl]
    exact end_box rfl rfl HE.out
  | some q =>
    obtain ⟨h, p⟩ := q
    rw [(auth_some ha).1, (auth_some ha).2.1, (auth_some ha).2.2]
    by_cases hp : p = 0
    · have hr : x = (zero, 60) := by rw [hx.out]; unfold remote6; rw [ha]; simp only; rw [if_pos hp]
      subst hr
      subst hp
      have HE := Lib.hid (HT.out.rbox.put zero)
      have HB := Lib.hid (HT.out.put zero)
      clear hx ha
      go_wp2_with fail
      refine bodyPost_ret (v := rv (zero, 60)) ?_ rfl ⟨rfl, HB.out⟩
      rw [results_cell_tmp rfl]
      exact end_box rfl rfl HE.out
    · have hr : x = (⟨3, h, p, [], [], false⟩, 0) := by rw [hx.out]; unfold remote6; rw [ha]; simp only; rw [if_neg hp]
      subst hr
      have hq : (p == 0) = false := beq_eq_false_iff_ne.2 hp
      have HE := Lib.hid (HT.out.rbox.put ⟨3, h, p, [], [], false⟩)
      have HB := Lib.hid (HT.out.put ⟨3, h, p, [], [], false⟩)
      clear hx ha hp
      go_wp2_with fail
      refine bodyPost_ret (v := rv (⟨3, h, p, [], [], false⟩, 0)) ?_ rfl ⟨rfl, HB.out⟩
      rw [results_cell_tmp rfl]
      exact end_box rfl rfl HE.out
theorem is_text (s : ByteArray) (l : List UInt8) : (s.toList == l) = (toL s == l) := by rw [ByteArray.toList_eq]
set_option maxHeartbeats 1600000 in
theorem tstar_any (m : ByteArray) (w : World) :
    Calls Tryz.prog 50 #[.string m] w fun e w' => e = .returned (rv (star6 (toL m))) ∧ Below w.heap.size w w' := by
  have ht := is_text m OPTIONS
  by_cases h : (toL m == OPTIONS) = true
  · have hr : star6 (toL m) = (⟨4, [], 0, [], [], false⟩, 0) := by unfold star6; rw [if_pos h]
    rw [hr]
    rw [h] at ht
    have hne : (m.toList != OPTIONS) = false := by unfold bne; rw [ht]; rfl
    unfold OPTIONS at ht hne
    clear h hr
    go_enter Tryz.func50, Tryz.ntmps50
    go_wp2_with fail
    refine bodyPost_ret (v := rv (⟨4, [], 0, [], [], false⟩, 0)) ?_ rfl ⟨rfl, (Below.refl w.heap.size w).alloc (Nat.le_refl _) _⟩
    rw [results_cell_tmp rfl]
    exact end_box rfl rfl (Box.new w ⟨4, [], 0, [], [], false⟩)
  · have hr : star6 (toL m) = (zero, 60) := by unfold star6; rw [if_neg h]
    rw [hr]
    rw [show (toL m == OPTIONS) = false by simpa using h] at ht
    have hne : (m.toList != OPTIONS) = true := by unfold bne; rw [ht]; rfl
    unfold OPTIONS at ht hne
    clear h hr
    go_enter Tryz.func50, Tryz.ntmps50
    go_wp2_with fail
    refine bodyPost_ret (v := rv (zero, 60)) ?_ rfl ⟨rfl, (Below.refl w.heap.size w).alloc (Nat.le_refl _) _⟩
    rw [results_cell_tmp rfl]
    exact end_box rfl rfl (Box.new w zero)
end Go.Proofs.YtmlpdhmafmdkcaaGreatDoor.TRemote

/- Layer 6 of the program: Parse. -/
namespace Go.Proofs.YtmlpdhmafmdkcaaGreatDoor.TParse
open Go.ChangeShapes Go.WideShapes Go.ChangeAt Go.RowKit LexPure Bytes Ret CutAt HostPure TargetPure PUnder TAuth TBox TPath TAbs TRemote PAlike Mem
set_option maxRecDepth 20000
set_option maxHeartbeats 3200000 in
theorem tparse_any (m s : ByteArray) (hs : s.size ≤ 4194000) (w : World) (hm : MaxInt w) :
    Calls Tryz.prog 35 #[.string m, .string s] w fun e w' => e = .returned (rv (parse6 (toL m) (toL s))) ∧ Below w.heap.size w w' := by
  have HM := Lib.hid hm
  have HT := Lib.hid (One.start w)
  clear hm
  obtain ⟨x, hx⟩ : ∃ x, x = parse6 (toL m) (toL s) := ⟨_, rfl⟩
  rw [← hx]
  unfold parse6 at hx
  have t1 := is_text m CONNECT
  have t2 := is_text s [42]
  unfold CONNECT at t1
  have h1 : (s.size : Int) ≤ 4194000 := by omega
  by_cases hc : (toL m == CONNECT) = true
  · rw [if_pos hc] at hx
    unfold CONNECT at hc
    rw [hc] at t1
    have HW : Hid (∀ w, MaxInt w → Calls Tryz.prog 49 #[.string s] w fun e w' => e = .returned (.tuple #[.agg #[.int .i64 x.1.form, .string (ofL x.1.host), .int .i64 x.1.port, .string (ofL x.1.path), .string (ofL x.1.query), .bool x.1.has], .int .i64 x.2]) ∧ Below w.heap.size w w') := Lib.hid (fun w hm => by rw [hx]; exact tremote_any s (by omega) w hm)
    clear hc hx t2
    go_enter Tryz.func35, Tryz.ntmps35
    go_wp2_with fail
    generalize w.alloc (.cells #[.int .i64 0, .string ⟨#[]⟩, .int .i64 0, .string ⟨#[]⟩, .string ⟨#[]⟩, .bool false] 33) = W at HT ⊢
    obtain ⟨g, hg⟩ : ∃ g, g = w.heap.size := ⟨_, rfl⟩
    rw [← hg] at HT ⊢
    replace hg := Lib.hid hg
    refine (HW.out _ (HM.out.below HT.out.below)).mono ?_
    rintro e w4 ⟨rfl, hb4⟩
    replace HT := Lib.hid (HT.out.call hb4)
    clear HW hb4
    obtain ⟨r0, r1, r2, r3, r4, r5⟩ := HT.out.rbox.cells
    obtain ⟨f0, f1, f2, f3, f4, f5⟩ := HT.out.rbox.frees
    have HE := Lib.hid (HT.out.rbox.put x.1)
    have HB := Lib.hid (HT.out.put x.1)
    go_wp2_with fail
    refine bodyPost_ret (v := rv x) ?_ rfl ⟨rfl, HB.out⟩
    rw [results_cell_tmp rfl]
    exact end_box rfl rfl HE.out
  rw [if_neg hc] at hx
  have hcf : (toL m == CONNECT) = false := by simpa using hc
  unfold CONNECT at hcf
  rw [hcf] at t1
  clear hc hcf
  by_cases hq : (toL s == [42]) = true
  · rw [if_pos hq] at hx
    rw [hq] at t2
    have HW : Hid (∀ w, MaxInt w → Calls Tryz.prog 50 #[.string m] w fun e w' => e = .returned (.tuple #[.agg #[.int .i64 x.1.form, .string (ofL x.1.host), .int .i64 x.1.port, .string (ofL x.1.path), .string (ofL x.1.query), .bool x.1.has], .int .i64 x.2]) ∧ Below w.heap.size w w') := Lib.hid (fun w _ => by rw [hx]; exact tstar_any m w)
    clear hq hx
    go_enter Tryz.func35, Tryz.ntmps35
    go_wp2_with fail
    generalize w.alloc (.cells #[.int .i64 0, .string ⟨#[]⟩, .int .i64 0, .string ⟨#[]⟩, .string ⟨#[]⟩, .bool false] 33) = W at HT ⊢
    obtain ⟨g, hg⟩ : ∃ g, g = w.heap.size := ⟨_, rfl⟩
    rw [← hg] at HT ⊢
    replace hg := Lib.hid hg
    refine (HW.out _ (HM.out.below HT.out.below)).mono ?_
    rintro e w4 ⟨rfl, hb4⟩
    replace HT := Lib.hid (HT.out.call hb4)
    clear HW hb4
    obtain ⟨r0, r1, r2, r3, r4, r5⟩ := HT.out.rbox.cells
    obtain ⟨f0, f1, f2, f3, f4, f5⟩ := HT.out.rbox.frees
    have HE := Lib.hid (HT.out.rbox.put x.1)
    have HB := Lib.hid (HT.out.put x.1)
    go_wp2_with fail
    refine bodyPost_ret (v := rv x) ?_ rfl ⟨rfl, HB.out⟩
    rw [results_cell_tmp rfl]
    exact end_box rfl rfl HE.out
  rw [if_neg hq] at hx
  rw [show (toL s == [42]) = false by simpa using hq] at t2
  clear hq
  have HP := Lib.hid (fun w => lib_has s ⟨#[47]⟩ w)
  rw [show toL ⟨#[47]⟩ = [47] from rfl, starts_one] at HP
  by_cases hh : ((toL s).head? == some 47) = true
  · rw [if_pos hh] at hx
    rw [hh] at HP
    have HW := Lib.hid (fun w hm => tpath_in 1 [] 0 [] [] false s (by omega) x hx w hm)
    clear hh hx
    go_enter Tryz.func35, Tryz.ntmps35
    go_wp2_with fail
    generalize w.alloc (.cells #[.int .i64 0, .string ⟨#[]⟩, .int .i64 0, .string ⟨#[]⟩, .string ⟨#[]⟩, .bool false] 33) = W at HT ⊢
    obtain ⟨g, hg⟩ : ∃ g, g = w.heap.size := ⟨_, rfl⟩
    rw [← hg] at HT ⊢
    replace hg := Lib.hid hg
    refine (HP.out _).mono ?_
    rintro e w' ⟨rfl, rfl⟩
    go_wp2_with fail
    refine (HW.out _ (HM.out.below HT.out.below)).mono ?_
    rintro e w4 ⟨rfl, hb4⟩
    replace HT := Lib.hid (HT.out.call hb4)
    clear HW hb4
    obtain ⟨r0, r1, r2, r3, r4, r5⟩ := HT.out.rbox.cells
    obtain ⟨f0, f1, f2, f3, f4, f5⟩ := HT.out.rbox.frees
    have HE := Lib.hid (HT.out.rbox.put x.1)
    have HB := Lib.hid (HT.out.put x.1)
    go_wp2_with fail
    refine bodyPost_ret (v := rv x) ?_ rfl ⟨rfl, HB.out⟩
    rw [results_cell_tmp rfl]
    exact end_box rfl rfl HE.out
  rw [if_neg hh] at hx
  rw [show ((toL s).head? == some 47) = false by simpa using hh] at HP
  clear hh
  by_cases h7 : 7 ≤ s.size
  rotate_left
  · have hr : x = (zero, 60) := by
      rw [hx]
      unfold hasScheme
      rw [decide_eq_false (by rw [toL_length]; exact h7)]
      rfl
    subst hr
    have h7i : ¬ (7 : Int) ≤ (s.size : Int) := by omega
    clear h7 hx
    go_enter Tryz.func35, Tryz.ntmps35
    go_wp2_with fail
    generalize w.alloc (.cells #[.int .i64 0, .string ⟨#[]⟩, .int .i64 0, .string ⟨#[]⟩, .string ⟨#[]⟩, .bool false] 33) = W at HT ⊢
    obtain ⟨g, hg⟩ : ∃ g, g = w.heap.size := ⟨_, rfl⟩
    rw [← hg] at HT ⊢
    replace hg := Lib.hid hg
    obtain ⟨r0, r1, r2, r3, r4, r5⟩ := HT.out.rbox.cells
    obtain ⟨f0, f1, f2, f3, f4, f5⟩ := HT.out.rbox.frees
    have HE := Lib.hid (HT.out.rbox.put zero)
    have HB := Lib.hid (HT.out.put zero)
    refine (HP.out _).mono ?_
    rintro e w' ⟨rfl, rfl⟩
    go_wp2_with fail
    refine bodyPost_ret (v := rv (zero, 60)) ?_ rfl ⟨rfl, HB.out⟩
    rw [results_cell_tmp rfl]
    exact end_box rfl rfl HE.out
  have h7i : (7 : Int) ≤ (s.size : Int) := by omega
  have eA : toL (s.extract 0 7) = (toL s).take 7 := by rw [toL_extract, List.drop_zero]
  have eR : toL (s.extract 7 s.size) = (toL s).drop 7 := by rw [toL_extract, List.take_of_length_le (by rw [toL_length]; exact Nat.le_refl _)]
  have sA : (s.extract 0 7).size ≤ 7 := by rw [ByteArray.size_extract]; omega
  have sR : (s.extract 7 s.size).size ≤ 4194000 := by rw [ByteArray.size_extract]; omega
  have HL := Lib.hid (fun w => palike_any (s.extract 0 7) ⟨#[104, 116, 116, 112, 58, 47, 47]⟩ (by unfold maxLen; omega) w)
  have hsc : hasScheme (toL s) = alike (toL (s.extract 0 7)) (toL ⟨#[104, 116, 116, 112, 58, 47, 47]⟩) := by
    unfold hasScheme
    rw [eA, decide_eq_true (by rw [toL_length]; exact h7)]
    rfl
  rw [← hsc] at HL
  by_cases hs2 : hasScheme (toL s) = true
  · rw [if_pos hs2, ← eR] at hx
    rw [hs2] at HL
    have HW : Hid (∀ w, MaxInt w → Calls Tryz.prog 53 #[.string (s.extract 7 s.size)] w fun e w' => e = .returned (.tuple #[.agg #[.int .i64 x.1.form, .string (ofL x.1.host), .int .i64 x.1.port, .string (ofL x.1.path), .string (ofL x.1.query), .bool x.1.has], .int .i64 x.2]) ∧ Below w.heap.size w w') := Lib.hid (fun w hm => by rw [hx]; exact tabs_at _ sR w hm)
    clear hs2 hx eA eR sA sR hsc h7
    go_enter Tryz.func35, Tryz.ntmps35
    go_wp2_with fail
    generalize w.alloc (.cells #[.int .i64 0, .string ⟨#[]⟩, .int .i64 0, .string ⟨#[]⟩, .string ⟨#[]⟩, .bool false] 33) = W at HT ⊢
    obtain ⟨g, hg⟩ : ∃ g, g = w.heap.size := ⟨_, rfl⟩
    rw [← hg] at HT ⊢
    replace hg := Lib.hid hg
    refine (HP.out _).mono ?_
    rintro e w' ⟨rfl, rfl⟩
    go_wp2_with fail
    refine (HL.out _).mono ?_
    rintro e w2 ⟨rfl, hb2⟩
    replace HT := Lib.hid (HT.out.call hb2)
    clear hb2
    go_wp2_with fail
    refine (HW.out _ (HM.out.below HT.out.below)).mono ?_
    rintro e w4 ⟨rfl, hb4⟩
    replace HT := Lib.hid (HT.out.call hb4)
    clear HW hb4
    obtain ⟨r0, r1, r2, r3, r4, r5⟩ := HT.out.rbox.cells
    obtain ⟨f0, f1, f2, f3, f4, f5⟩ := HT.out.rbox.frees
    have HE := Lib.hid (HT.out.rbox.put x.1)
    have HB := Lib.hid (HT.out.put x.1)
    go_wp2_with fail
    refine bodyPost_ret (v := rv x) ?_ rfl ⟨rfl, HB.out⟩
    rw [results_cell_tmp rfl]
    exact end_box rfl rfl HE.out
  · have hr : x = (zero, 60) := by rw [hx, if_neg hs2]
    rw [show hasScheme (toL s) = false by simpa using hs2] at HL
    subst hr
    clear hs2 hx eA eR sA sR hsc h7
    go_enter Tryz.func35, Tryz.ntmps35
    go_wp2_with fail
    generalize w.alloc (.cells #[.int .i64 0, .string ⟨#[]⟩, .int .i64 0, .string ⟨#[]⟩, .string ⟨#[]⟩, .bool false] 33) = W at HT ⊢
    obtain ⟨g, hg⟩ : ∃ g, g = w.heap.size := ⟨_, rfl⟩
    rw [← hg] at HT ⊢
    replace hg := Lib.hid hg
    refine (HP.out _).mono ?_
    rintro e w' ⟨rfl, rfl⟩
    go_wp2_with fail
    refine (HL.out _).mono ?_
    rintro e w2 ⟨rfl, hb2⟩
    replace HT := Lib.hid (HT.out.call hb2)
    clear hb2
    obtain ⟨r0, r1, r2, r3, r4, r5⟩ := HT.out.rbox.cells
    obtain ⟨f0, f1, f2, f3, f4, f5⟩ := HT.out.rbox.frees
    have HE := Lib.hid (HT.out.rbox.put zero)
    have HB := Lib.hid (HT.out.put zero)
    go_wp2_with fail
    refine bodyPost_ret (v := rv (zero, 60)) ?_ rfl ⟨rfl, HB.out⟩
    rw [results_cell_tmp rfl]
    exact end_box rfl rfl HE.out
end Go.Proofs.YtmlpdhmafmdkcaaGreatDoor.TParse

/- Layer 11 of the program: judge, its boxes. -/
namespace Go.Proofs.YtmlpdhmafmdkcaaGreatDoor.PJudge
open Go.ChangeShapes Go.WideShapes Go.ChangeAt Go.RowKit LexPure Bytes Ret FieldsPure Flds HeadPure HBox HostPure TargetPure FramePure FrBox InflowPure InJudge QCell TBox PHost11 PUp11 PStat11 PGet PUnder TParse Mem
set_option maxRecDepth 20000
abbrev FRT : TypeId := 65
theorem has_row {w : World} {g : Nat} {t : TypeId} {old : Array Value} (h : Has w g t old) (cs : Array Value) : Has (w.setRow g cs) g t cs := ⟨setRow_heap w g old cs t (0, 0) h.at_⟩
theorem has_row_far {w : World} {g k : Nat} {t : TypeId} {old : Array Value} (h : Has w g t old) (hk : g ≠ k) (cs : Array Value) : Has (w.setRow k cs) g t old := ⟨(setRow_other w k g cs hk).trans h.at_⟩
theorem results_two {fn : Func} {p q u : Tmp} {ty ty2 : TypeId} (h : fn.results = #[.cell p ty, .cell q ty2, .tmp u]) (tmps : Array Value) (P : Program) (w : World) :
    (results fn tmps).run P w =
      ((asAddr (tmps.getD p undef)).run P w).andThen fun a w₁ => ((loadVar ty a).run P w₁).andThen fun v w₂ => ((asAddr (tmps.getD q undef)).run P w₂).andThen fun b w₃ => ((loadVar ty2 b).run P w₃).andThen fun v2 w₄ => .ok (.tuple #[v, v2, tmps.getD u undef]) w₄ := by
  simp only [results, h]
  simp [Sem.run_bind, Result.andThen]
theorem qload_at {w : World} {g : Nat} {cs : Array Value} (hz : cs.size = 18) (b : Has w g RQT cs) : (loadVar RQT ⟨g, 0, none⟩).run Tryz.prog w = .ok (.agg cs) w :=
  run_loadVar_row w g RQT RQT _ _ _ b.at_ Tryz.underlying35 rfl (by rw [rq_size, hz])
theorem fload_at {w : World} {g : Nat} {a b : Int} (h : Has w g FRT #[.int .i64 a, .int .i64 b]) : (loadVar FRT ⟨g, 0, none⟩).run Tryz.prog w = .ok (.agg #[.int .i64 a, .int .i64 b]) w :=
  run_loadVar_row w g FRT FRT _ _ _ h.at_ Tryz.underlying65 rfl (by kernel_rfl)
/-- what judge answers -/
def jdV (j : Jd) (v : Value) : Value :=
  match j with
  | .bad s => .tuple #[.agg (qcl zeroQ (.slice none 0 0)), .agg #[.int .i64 0, .int .i64 0], .int .i64 s]
  | .ok q k l => .tuple #[.agg (qcl q v), .agg #[.int .i64 k, .int .i64 l], .int .i64 0]
theorem end_j {W : World} {g k : Nat} {cs : Array Value} {a b s : Int} {tmps : Array Value} {p q u : Tmp} (hz : cs.size = 18) (hp : tmps.getD p undef = .pointer (some ⟨g, 0, none⟩)) (hq : tmps.getD q undef = .pointer (some ⟨k, 0, none⟩)) (hu : tmps.getD u undef = .int .i64 s) (hR : Has W g RQT cs) (hF : Has W k FRT #[.int .i64 a, .int .i64 b]) :
    (((asAddr (tmps.getD p undef)).run Tryz.prog W).andThen fun a w₁ => ((loadVar RQT a).run Tryz.prog w₁).andThen fun v w₂ => ((asAddr (tmps.getD q undef)).run Tryz.prog w₂).andThen fun b w₃ => ((loadVar FRT b).run Tryz.prog w₃).andThen fun v2 w₄ => .ok (Value.tuple #[v, v2, tmps.getD u undef]) w₄) = .ok (Value.tuple #[.agg cs, .agg #[.int .i64 a, .int .i64 b], .int .i64 s]) W := by
  rw [hp, hq, hu]
  have h1 := qload_at hz hR
  have h2 := fload_at hF
  simp [asAddr, Result.andThen, h1, h2]
/-- the call's boxes: the head, the request that it answers, the framing -/
structure JS (w W : World) (h : H8) (v : Value) : Prop where
  below : Below w.heap.size w W
  box : HBox W w.heap.size h v
  res : Has W (w.heap.size + 1) RQT zq
  fr : Has W (w.heap.size + 2) FRT #[.int .i64 0, .int .i64 0]
  list0 : FL w v h.fields
  mi0 : MaxInt w
theorem JS.list {w W : World} {h : H8} {v : Value} (j : JS w W h v) : FL W v h.fields := j.list0.below j.below
theorem JS.mi {w W : World} {h : H8} {v : Value} (j : JS w W h v) : MaxInt W := j.mi0.below j.below
theorem JS.size {w W : World} {h : H8} {v : Value} (j : JS w W h v) : w.heap.size + 2 < W.heap.size := j.fr.lt
theorem JS.call {w W W' : World} {h : H8} {v : Value} (j : JS w W h v) (hb : Below W.heap.size W W') : JS w W' h v :=
  have := j.size
  ⟨below_chain j.below hb, j.box.below hb (by omega), j.res.below hb (by omega), j.fr.below hb (by omega), j.list0, j.mi0⟩
theorem JS.start (w : World) (h : H8) (v : Value) (hF : FL w v h.fields) (hm : MaxInt w) : JS w (((w.alloc (.cells (hc h v) 31)).alloc (.cells zq RQT)).alloc (.cells #[.int .i64 0, .int .i64 0] FRT)) h v := by
  have hb : Below w.heap.size w (((w.alloc (.cells (hc h v) 31)).alloc (.cells zq RQT)).alloc (.cells #[.int .i64 0, .int .i64 0] FRT)) := (((Below.refl _ _).alloc (Nat.le_refl _) _).alloc (by simp) _).alloc (by simp; omega) _
  refine ⟨hb, ⟨((Has.new w _ _).alloc _).alloc _⟩, ?_, ?_, hF, hm⟩
  · have := (Has.new (w.alloc (.cells (hc h v) 31)) RQT zq).alloc (.cells #[.int .i64 0, .int .i64 0] FRT)
    rwa [World.size_alloc] at this
  · have := Has.new ((w.alloc (.cells (hc h v) 31)).alloc (.cells zq RQT)) FRT #[.int .i64 0, .int .i64 0]
    rwa [World.size_alloc, World.size_alloc] at this
/-- an end with a status: the request and the framing are none -/
theorem JS.bad {w W : World} {h : H8} {v : Value} (j : JS w W h v) : Below w.heap.size w ((W.setRow (w.heap.size + 1) zq).setRow (w.heap.size + 2) #[.int .i64 0, .int .i64 0]) ∧ Has ((W.setRow (w.heap.size + 1) zq).setRow (w.heap.size + 2) #[.int .i64 0, .int .i64 0]) (w.heap.size + 1) RQT zq ∧ Has ((W.setRow (w.heap.size + 1) zq).setRow (w.heap.size + 2) #[.int .i64 0, .int .i64 0]) (w.heap.size + 2) FRT #[.int .i64 0, .int .i64 0] :=
  ⟨below_setRow (below_setRow j.below (by omega) _) (by omega) _, has_row_far (has_row j.res zq) (by omega) _, has_row (has_row_far j.fr (by omega) zq) _⟩
/-- and the target's box, in block k -/
structure JT (w W : World) (h : H8) (v : Value) (t : Tgt) (k : Nat) : Prop where
  js : JS w W h v
  tb : Has W k 33 (TBox.tc t)
  lo : w.heap.size + 2 < k
theorem JT.start {w W : World} {h : H8} {v : Value} (j : JS w W h v) (t : Tgt) (k : Nat) (hk : k = W.heap.size) : JT w (W.alloc (.cells (TBox.tc t) 33)) h v t k :=
  ⟨j.call ((Below.refl _ _).alloc (Nat.le_refl _) _), by rw [hk]; exact Has.new _ _ _, by rw [hk]; exact j.size⟩
theorem JT.call {w W W' : World} {h : H8} {v : Value} {t : Tgt} {k : Nat} (j : JT w W h v t k) (hb : Below W.heap.size W W') : JT w W' h v t k := ⟨j.js.call hb, j.tb.below hb j.tb.lt, j.lo⟩
theorem JT.tcells {w W : World} {h : H8} {v : Value} {t : Tgt} {k : Nat} (j : JT w W h v t k) : W.cell? ⟨k, 0, none⟩ = some (.int .i64 t.form) ∧ W.cell? ⟨k, 1, none⟩ = some (.string (ofL t.host)) ∧ W.cell? ⟨k, 2, none⟩ = some (.int .i64 t.port) ∧ W.cell? ⟨k, 3, none⟩ = some (.string (ofL t.path)) ∧ W.cell? ⟨k, 4, none⟩ = some (.string (ofL t.query)) ∧ W.cell? ⟨k, 5, none⟩ = some (.bool t.has) :=
  ⟨(j.tb.cell 0).trans rfl, (j.tb.cell 1).trans rfl, (j.tb.cell 2).trans rfl, (j.tb.cell 3).trans rfl, (j.tb.cell 4).trans rfl, (j.tb.cell 5).trans rfl⟩
theorem JT.scells {w W : World} {h : H8} {v : Value} {t : Tgt} {k : Nat} (j : JT w W h v t k) : W.cell? ⟨w.heap.size, 0, none⟩ = some (.string (ofL h.method)) ∧ W.cell? ⟨w.heap.size, 1, none⟩ = some (.string (ofL h.target)) ∧ W.cell? ⟨w.heap.size, 2, none⟩ = some (.int .i64 h.status) ∧ W.cell? ⟨w.heap.size, 3, none⟩ = some (.string (ofL h.reason)) ∧ W.cell? ⟨w.heap.size, 4, none⟩ = some (.int .i64 h.minor) ∧ W.cell? ⟨w.heap.size, 5, none⟩ = some v ∧ W.cell? ⟨k, 0, none⟩ = some (.int .i64 t.form) ∧ W.cell? ⟨k, 1, none⟩ = some (.string (ofL t.host)) ∧ W.cell? ⟨k, 2, none⟩ = some (.int .i64 t.port) ∧ W.cell? ⟨k, 3, none⟩ = some (.string (ofL t.path)) ∧ W.cell? ⟨k, 4, none⟩ = some (.string (ofL t.query)) ∧ W.cell? ⟨k, 5, none⟩ = some (.bool t.has) := by
  obtain ⟨d0, d1, d2, d3, d4, d5⟩ := j.js.box.cells
  obtain ⟨t0, t1, t2, t3, t4, t5⟩ := j.tcells
  exact ⟨d0, d1, d2, d3, d4, d5, t0, t1, t2, t3, t4, t5⟩
/-- and the request's own box j, the framing's jf -/
structure QE (w W : World) (h : H8) (v : Value) (t : Tgt) (k j jf : Nat) (cs : Array Value) (ki le : Int) : Prop where
  jt : JT w W h v t k
  row : Has W j RQT cs
  frm : Has W jf FRT #[.int .i64 ki, .int .i64 le]
  jlo : w.heap.size + 2 < j
  flo : w.heap.size + 2 < jf
  ne : jf ≠ j
  nk : k ≠ j
section
variable {w W W' : World} {h : H8} {v : Value} {t : Tgt} {k j jf : Nat} {cs : Array Value} {ki le : Int}
theorem QE.call (q : QE w W h v t k j jf cs ki le) (hb : Below W.heap.size W W') : QE w W' h v t k j jf cs ki le :=
  ⟨q.jt.call hb, q.row.below hb q.row.lt, q.frm.below hb q.frm.lt, q.jlo, q.flo, q.ne, q.nk⟩
theorem JT.set (q : JT w W h v t k) (hj : w.heap.size + 2 < j) (hk : k ≠ j) (i : Nat) (u : Value) : JT w (W.setCell ⟨j, i, none⟩ u) h v t k :=
  ⟨⟨q.js.below.setCell (p := ⟨j, i, none⟩) (by show w.heap.size ≤ j; omega) u, q.js.box.far (by show w.heap.size ≠ j; omega) u, q.js.res.far (by show w.heap.size + 1 ≠ j; omega) u, q.js.fr.far (by show w.heap.size + 2 ≠ j; omega) u, q.js.list0, q.js.mi0⟩, q.tb.far (by show k ≠ j; exact hk) u, q.lo⟩
theorem JT.row (q : JT w W h v t k) (hj : w.heap.size + 2 < j) (hk : k ≠ j) (c : Array Value) : JT w (W.setRow j c) h v t k :=
  ⟨⟨below_setRow q.js.below (by omega) c, ⟨has_row_far q.js.box.has (by omega) c⟩, has_row_far q.js.res (by omega) c, has_row_far q.js.fr (by omega) c, q.js.list0, q.js.mi0⟩, has_row_far q.tb hk c, q.lo⟩
theorem QE.set17 (q : QE w W h v t k j jf cs ki le) (u : Value) (c : Array Value) (hc : cs.setIfInBounds 17 u = c) : QE w (W.setCell ⟨j, 17, none⟩ u) h v t k j jf c ki le :=
  ⟨q.jt.set q.jlo q.nk 17 u, by rw [← hc]; exact q.row.set_ 17 u, q.frm.far (by show jf ≠ j; exact q.ne) u, q.jlo, q.flo, q.ne, q.nk⟩
/-- the request's result stored -/
theorem QE.first (q : QE w W h v t k j jf cs ki le) (c : Array Value) : Below w.heap.size w (W.drew.setRow (w.heap.size + 1) c) ∧ Has (W.drew.setRow (w.heap.size + 1) c) j RQT cs ∧ Has (W.drew.setRow (w.heap.size + 1) c) jf FRT #[.int .i64 ki, .int .i64 le] ∧ Has (W.drew.setRow (w.heap.size + 1) c) (w.heap.size + 2) FRT #[.int .i64 0, .int .i64 0] :=
  ⟨below_setRow q.jt.js.below.drew (by omega) c, has_row_far q.row.drew (by have := q.jlo; omega) c, has_row_far q.frm.drew (by have := q.flo; omega) c, has_row_far q.jt.js.fr.drew (by omega) c⟩
/-- both -/
theorem QE.second (q : QE w W h v t k j jf cs ki le) (c : Array Value) : Below w.heap.size w ((W.drew.setRow (w.heap.size + 1) c).setRow (w.heap.size + 1 + 1) #[.int .i64 ki, .int .i64 le]) ∧ Has ((W.drew.setRow (w.heap.size + 1) c).setRow (w.heap.size + 1 + 1) #[.int .i64 ki, .int .i64 le]) j RQT cs ∧ Has ((W.drew.setRow (w.heap.size + 1) c).setRow (w.heap.size + 1 + 1) #[.int .i64 ki, .int .i64 le]) jf FRT #[.int .i64 ki, .int .i64 le] ∧
    Has ((W.drew.setRow (w.heap.size + 1) c).setRow (w.heap.size + 1 + 1) #[.int .i64 ki, .int .i64 le]) (w.heap.size + 1) RQT c ∧ Has ((W.drew.setRow (w.heap.size + 1) c).setRow (w.heap.size + 1 + 1) #[.int .i64 ki, .int .i64 le]) (w.heap.size + 1 + 1) FRT #[.int .i64 ki, .int .i64 le] := by
  obtain ⟨a1, a2, a3, a4⟩ := q.first c
  have h1 := q.jlo
  have h2 := q.flo
  exact ⟨below_setRow a1 (by omega) _, has_row_far a2 (by omega) _, has_row_far a3 (by omega) _, has_row_far (has_row q.jt.js.res.drew c) (by omega) _, has_row a4 _⟩
end
theorem yields_row {ops : Array Oper} {S : World → Prop} {op : Oper} {a : Act} (hw : Region.wanted op (yielded ops a.tmps) = true) (x : Operand) (ho : op.op = .load RQT x) (g : Nat) (hx : a.eval x = .pointer (some ⟨g, 0, none⟩)) (cs : Array Value) (hz : cs.size = 18) (hS : ∀ w, S w → Has w g RQT cs) : YieldsIf Tryz.prog ops S op (.agg cs) a :=
  .inl ⟨hw, fun w hw' => by
    unfold execOp
    simp only [ho, hx, Instr.loadAt, Instr.sureAddr, Sem.run_bind, Sem.run_pure, Result.andThen_ok, qload_at hz (hS w hw')]⟩
theorem yields_frm {ops : Array Oper} {S : World → Prop} {op : Oper} {a : Act} (hw : Region.wanted op (yielded ops a.tmps) = true) (x : Operand) (ho : op.op = .load FRT x) (g : Nat) (hx : a.eval x = .pointer (some ⟨g, 0, none⟩)) (b c : Int) (hS : ∀ w, S w → Has w g FRT #[.int .i64 b, .int .i64 c]) : YieldsIf Tryz.prog ops S op (.agg #[.int .i64 b, .int .i64 c]) a :=
  .inl ⟨hw, fun w hw' => by
    unfold execOp
    simp only [ho, hx, Instr.loadAt, Instr.sureAddr, Sem.run_bind, Sem.run_pure, Result.andThen_ok, fload_at (hS w hw')]⟩
theorem fr_size : (Tryz.prog.info? FRT).map (·.size) = some 2 := by kernel_rfl
theorem two_one (a b : Int) : (#[Value.int .i64 a, .int .i64 b]).all (·.oneCell') = true := by simp [Value.oneCell']
theorem zq_one : zq.all (·.oneCell') = true := by simp [zq, Value.oneCell']
theorem zq_is : qcl zeroQ (.slice none 0 0) = zq := rfl
end Go.Proofs.YtmlpdhmafmdkcaaGreatDoor.PJudge
