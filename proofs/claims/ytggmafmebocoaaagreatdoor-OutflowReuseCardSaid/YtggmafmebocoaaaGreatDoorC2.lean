/- Texts of this seat, one behind another: CutAt, CutLays, PCutLib, HeadCut, FBox, PField8, PChEnd, PChLine, BuildLays, PBuildT, PChPart, PChStr, PChFeed, ChunkNew. -/
import Derived.Lib.IndexMore
import Derived.Shelf.Strings.Search2
import Derived.Shelf.Strings.Cut
import Derived.Test.YtggmafmebocoaaaGreatDoorProg
import Derived.Lib.IndexBytes
import Derived.Lib.Hide
import Derived.Below
import Derived.RegionTactic
import Derived.ChangeAlike
import Derived.BigRegion
import Derived.Laws.ResultCell
import Derived.Maps.AppendAt
import Derived.Shelf.Strings.Builder1
import Derived.Deep.RegionHeld3
import Derived.Laws.DeepStrings4
import Derived.Test.YtggmafmebocoaaaGreatDoorC1
/- A text cut at its first byte of a kind: ahead of it, behind it. No program is named. -/
namespace Go.Proofs.YtggmafmebocoaaaGreatDoor.CutAt
open Bytes
def aheadOf (x : UInt8) (s : List UInt8) : List UInt8 := s.takeWhile (fun c => c != x)
def behind (x : UInt8) (s : List UInt8) : List UInt8 := (s.dropWhile (fun c => c != x)).tail
def hasB (x : UInt8) (s : List UInt8) : Bool := s.any (fun c => c == x)
theorem index_tail (x : UInt8) (c : UInt8) (l : List UInt8) (h : (c == x) = false) : Go.Lib.index (c :: l) [x] = if Go.Lib.index l [x] == -1 then -1 else Go.Lib.index l [x] + 1 := by
  have hp : ([x] : List UInt8).isPrefixOf (c :: l) = false := by
    have : ¬ x = c := fun e => by rw [← e, beq_self_eq_true] at h; cases h
    simp [List.isPrefixOf, this]
  rw [Go.Lib.index, hp]
  rfl
theorem cut_say (x : UInt8) (s : List UInt8) : (Go.Lib.cut s [x]).1 = aheadOf x s ∧ (Go.Lib.cut s [x]).2.1 = behind x s ∧ (Go.Lib.cut s [x]).2.2 = hasB x s := by
  unfold aheadOf behind hasB Go.Lib.cut
  induction s with
  | nil =>
    have : Go.Lib.index [] [x] = -1 := by simp [Go.Lib.index]
    rw [this]
    exact ⟨rfl, rfl, rfl⟩
  | cons c l ih =>
    by_cases hc : c = x
    · subst hc
      have hix : Go.Lib.index (c :: l) [c] = 0 := by rw [Go.Lib.index]; simp [List.isPrefixOf]
      rw [hix]
      simp
    · have hq : (c == x) = false := by simpa using hc
      have hn : (c != x) = true := by simp [hc]
      rw [index_tail x c l hq, List.takeWhile_cons, hn, List.dropWhile_cons, hn, List.any_cons, hq]
      have hge := Go.Lib.index_ge l [x]
      by_cases hm : Go.Lib.index l [x] = -1
      · rw [hm] at ih ⊢
        simp at ih ⊢
        exact ⟨ih.1, ih.2⟩
      · obtain ⟨i, hi⟩ : ∃ i : Nat, Go.Lib.index l [x] = i := ⟨(Go.Lib.index l [x]).toNat, by omega⟩
        rw [hi] at ih ⊢
        have h1 : ((i : Int) == -1) = false := beq_eq_false_iff_ne.2 (by omega)
        have h3 : ((i : Int) + 1).toNat = i + 1 := by omega
        have h4 : (0 : Int) ≤ (i : Int) + 1 := by omega
        have h5 : (0 : Int) ≤ (i : Int) := by omega
        simp only [h1, h3, h4, h5, if_true, Bool.false_eq_true, if_false, Bool.false_or] at ih ⊢
        rw [show i + 1 + ([x] : List UInt8).length = (i + [x].length) + 1 from rfl, List.take_succ_cons, List.drop_succ_cons]
        exact ⟨by rw [← ih.1]; simp, ih.2.1, ih.2.2⟩
end Go.Proofs.YtggmafmebocoaaaGreatDoor.CutAt

/-
  DERIVED: THE SHELF's CONTRACTS AT THIS DUMP, IN PLAIN WORDS (tools/lay-plain.mjs out of 'YtggmafmebocoaaaGreatDoorCutLaysT.lean', which tools/lay-shelf.mjs wrote): THE SAME DECLARATIONS UNDER THE SAME NAMES: 'import', 'namespace', 'open', 'def', 'theorem' AND NOTHING ELSE: no command of the shelf's: FOR A HAND-IN. Each laying: the table of numbers ('.._ren') and one theorem, a field a fact of the dump's own or the kernel's comparison; each contract: ONE APPLICATION.
-/
namespace Go.Proofs
open Go.Shelf
def Tryz.lays219_ren : Go.Shelf.Ren := ⟨fun | 219 => 74 | 217 => 86 | 225 => 87 | 224 => 88 | 267 => 89 | 266 => 104 | 314 => 105 | n => n, fun | 9 => 9 | 3 => 3 | 4 => 4 | 5 => 5 | 46 => 128 | 146 => 139 | 51 => 138 | n => n, fun | 1 => 0 | n => n⟩
theorem Tryz.lays219 : Go.Proofs.Lays.n219 Tryz.prog Tryz.lays219_ren := {
  mixed := by kernel_rfl
  f217 := Tryz.func86.trans (congrArg some (by kernel_rfl))
  f219 := Tryz.func74.trans (congrArg some (by kernel_rfl))
  f224 := Tryz.func88.trans (congrArg some (by kernel_rfl))
  f225 := Tryz.func87.trans (congrArg some (by kernel_rfl))
  f266 := Tryz.func104.trans (congrArg some (by kernel_rfl))
  f267 := Tryz.func89.trans (congrArg some (by kernel_rfl))
  f314 := Tryz.func105.trans (congrArg some (by kernel_rfl))
  t3 := Tryz.underlying3
  a3 := Tryz.isAgg3
  z3 := Tryz.sizeOf3
  v3 := Tryz.zeroValue3
  t4 := Tryz.underlying4
  a4 := Tryz.isAgg4
  z4 := Tryz.sizeOf4
  v4 := Tryz.zeroValue4
  t5 := Tryz.underlying5
  a5 := Tryz.isAgg5
  z5 := Tryz.sizeOf5
  v5 := Tryz.zeroValue5
  t9 := Tryz.underlying9
  a9 := Tryz.isAgg9
  z9 := Tryz.sizeOf9
  v9 := Tryz.zeroValue9
  t46 := Tryz.underlying128
  a46 := Tryz.isAgg128
  z46 := Tryz.sizeOf128
  v46 := Tryz.zeroValue128
  t51 := Tryz.underlying138
  a51 := Tryz.isAgg138
  z51 := Tryz.sizeOf138
  v51 := Tryz.zeroValue138
  t146 := Tryz.underlying139
  a146 := Tryz.isAgg139
  z146 := Tryz.sizeOf139
  v146 := Tryz.zeroValue139
  g1 := by kernel_rfl }
end Go.Proofs

/- strings.Cut at a piece of one byte, at whatever size. -/
namespace Go.Proofs.YtggmafmebocoaaaGreatDoor.PCutLib
open Go.ChangeShapes Go.WideShapes Go.ChangeAt Go.RowKit Bytes Ret CutAt
set_option maxRecDepth 20000
theorem lib_at (x : UInt8) (s : ByteArray) (w : World) :
    Calls Tryz.prog 74 #[.string s, .string ⟨#[x]⟩] w fun e w' => e = .returned (.int .i64 (Lib.index (toL s) [x])) ∧ w' = w := by
  have h := Any.stringslite_Index_one Tryz.lays219 s x w
  rw [← Lib.index_one] at h
  exact h
theorem ret_cut {a b c d : ByteArray} {p q : Bool} (h : a = c) (k : b = d) (l : p = q) : Ending.returned (.tuple #[.string a, .string b, .bool p]) = .returned (.tuple #[.string c, .string d, .bool q]) := by rw [h, k, l]
theorem lite_cut (x : UInt8) (s : ByteArray) (hs : s.size ≤ 140737488351232) (w : World) :
    Calls Tryz.prog 60 #[.string s, .string ⟨#[x]⟩] w fun e w' => e = .returned (.tuple #[.string (ofL (aheadOf x (toL s))), .string (ofL (behind x (toL s))), .bool (hasB x (toL s))]) ∧ Below w.heap.size w w' := by
  have HI := Lib.hid (fun w => lib_at x s w)
  obtain ⟨h1, h2, h3⟩ := cut_say x (toL s)
  unfold Lib.cut at h1 h2 h3
  have hge := Lib.index_ge (toL s) [x]
  have hle := Lib.index_le (toL s) [x]
  by_cases hm : Lib.index (toL s) [x] = -1
  · rw [hm] at h1 h2 h3 HI
    have HA : Hid (s = ofL (aheadOf x (toL s))) := Lib.hid (by rw [← h1]; exact (ofL_toL s).symm)
    have HB : Hid ((⟨#[]⟩ : ByteArray) = ofL (behind x (toL s))) := Lib.hid (by rw [← h2]; rfl)
    have HQ : Hid (false = hasB x (toL s)) := Lib.hid (by rw [← h3]; rfl)
    clear h1 h2 h3 hge hle hm
    go_enter Tryz.func60, Tryz.ntmps60
    go_wp2_with fail
    refine (HI.out _).mono ?_
    rintro e w' ⟨rfl, rfl⟩
    go_wp2_with fail
    go_ret3
    exact ⟨ret_cut HA.out HB.out HQ.out, Below.refl _ _⟩
  · obtain ⟨i, hi⟩ : ∃ i : Nat, Lib.index (toL s) [x] = i := ⟨(Lib.index (toL s) [x]).toNat, by omega⟩
    rw [hi] at h1 h2 h3 HI
    have hp : (0 : Int) ≤ (i : Int) := by omega
    simp only [hp, if_true, Int.toNat_natCast, List.length_singleton] at h1 h2 h3
    have hlt : i < s.size := by
      rcases Nat.lt_or_ge i (toL s).length with h | h
      · rwa [toL_length] at h
      · exfalso
        have e1 : aheadOf x (toL s) = toL s := by rw [← h1, List.take_of_length_le h]
        have e2 : hasB x (toL s) = true := h3.symm
        unfold aheadOf at e1
        unfold hasB at e2
        rw [List.any_eq_true] at e2
        obtain ⟨c, hc, hq⟩ := e2
        have hall : (toL s).all (fun c => c != x) = true := by
          rw [← e1]
          exact List.all_takeWhile
        have := List.all_eq_true.1 hall c hc
        simp only [bne_iff_ne, ne_eq, beq_iff_eq] at this hq
        exact this hq
    have HA : Hid (s.extract 0 i = ofL (aheadOf x (toL s))) := Lib.hid (toL_inj (by rw [toL_extract, toL_ofL, ← h1, List.drop_zero]))
    have HB : Hid (s.extract (i + 1) s.size = ofL (behind x (toL s))) := Lib.hid (toL_inj (by rw [toL_extract, toL_ofL, ← h2, List.take_of_length_le (by rw [toL_length]; exact Nat.le_refl _)]))
    have HQ : Hid (true = hasB x (toL s)) := Lib.hid h3
    have c1 : (i : Int) ≤ (s.size : Int) := by omega
    have c2 : (i : Int) + 1 ≤ (s.size : Int) := by omega
    have c3 : (0 : Int) ≤ (i : Int) + 1 := by omega
    have c4 : (s.size : Int) ≤ 140737488351232 := by omega
    clear h1 h2 h3 hge hle hm hi hlt
    go_enter Tryz.func60, Tryz.ntmps60
    go_wp2_with fail
    refine (HI.out _).mono ?_
    rintro e w' ⟨rfl, rfl⟩
    go_wp2_with fail
    go_region
    go_wp2_with fail
    go_ret3
    exact ⟨ret_cut HA.out HB.out HQ.out, ⟨rfl, rfl, rfl, Nat.le_refl _, fun _ _ => rfl⟩⟩
theorem full_cut (x : UInt8) (s : ByteArray) (hs : s.size ≤ 140737488351232) (w : World) :
    Calls Tryz.prog 47 #[.string s, .string ⟨#[x]⟩] w fun e w' => e = .returned (.tuple #[.string (ofL (aheadOf x (toL s))), .string (ofL (behind x (toL s))), .bool (hasB x (toL s))]) ∧ Below w.heap.size w w' := by
  have H := Lib.hid (lite_cut x s hs)
  clear hs
  go_enter Tryz.func47, Tryz.ntmps47
  go_wp2_with fail
  refine (H.out _).mono ?_
  rintro e w' ⟨rfl, hb⟩
  go_wp2_with fail
  go_ret3
  exact ⟨rfl, hb⟩
end Go.Proofs.YtggmafmebocoaaaGreatDoor.PCutLib

/- Layer 8, lines cut at blanks, at a dot, at a colon: another way to the same answers. No program is named. -/
namespace Go.Proofs.YtggmafmebocoaaaGreatDoor.HeadCut
open Bytes LexPure LexNum FieldsPure HeadPure CutAt
set_option maxRecDepth 20000
theorem cut_drop (x : UInt8) : ∀ s : List UInt8, behind x s = s.drop ((aheadOf x s).length + 1)
  | [] => rfl
  | c :: s => by
    unfold behind aheadOf
    rw [List.dropWhile_cons, List.takeWhile_cons]
    split
    · rw [List.length_cons, List.drop_succ_cons]
      exact cut_drop x s
    · rfl
theorem ahead_take (x : UInt8) : ∀ s : List UInt8, aheadOf x s = s.take (aheadOf x s).length
  | [] => rfl
  | c :: s => by
    unfold aheadOf
    rw [List.takeWhile_cons]
    split
    · rw [List.length_cons, List.take_succ_cons]
      exact congrArg _ (ahead_take x s)
    · rfl
theorem cut_at {x : UInt8} {b : List UInt8} : ∀ {a : List UInt8}, (∀ c ∈ a, c ≠ x) → aheadOf x (a ++ x :: b) = a ∧ behind x (a ++ x :: b) = b ∧ hasB x (a ++ x :: b) = true
  | [], _ => by simp [aheadOf, behind, hasB]
  | c :: a, h => by
    have hc : (c != x) = true := bne_iff_ne.2 (h c (List.mem_cons_self))
    obtain ⟨h1, h2, h3⟩ := cut_at (b := b) (a := a) (fun d hd => h d (List.mem_cons_of_mem _ hd))
    unfold aheadOf behind hasB at *
    rw [List.cons_append, List.takeWhile_cons, if_pos hc, List.dropWhile_cons, if_pos hc, List.any_cons, h1, h2, h3, Bool.or_true]
    exact ⟨rfl, rfl, rfl⟩
theorem cut_none {x : UInt8} : ∀ {a : List UInt8}, (∀ c ∈ a, c ≠ x) → aheadOf x a = a ∧ behind x a = [] ∧ hasB x a = false
  | [], _ => ⟨rfl, rfl, rfl⟩
  | c :: a, h => by
    have hc : (c != x) = true := bne_iff_ne.2 (h c (List.mem_cons_self))
    have hq : (c == x) = false := beq_eq_false_iff_ne.2 (h c (List.mem_cons_self))
    obtain ⟨h1, h2, h3⟩ := cut_none (a := a) (fun d hd => h d (List.mem_cons_of_mem _ hd))
    unfold aheadOf behind hasB at *
    rw [List.takeWhile_cons, if_pos hc, List.dropWhile_cons, if_pos hc, List.any_cons, h1, h2, h3, hq]
    exact ⟨rfl, rfl, rfl⟩
theorem cut_or (x : UInt8) : ∀ s : List UInt8, (∃ a b, s = a ++ x :: b ∧ ∀ c ∈ a, c ≠ x) ∨ (∀ c ∈ s, c ≠ x)
  | [] => .inr (fun c h => by cases h)
  | c :: s => by
    by_cases hc : c = x
    · exact .inl ⟨[], s, by rw [hc]; rfl, fun d h => by cases h⟩
    · rcases cut_or x s with ⟨a, b, h, h2⟩ | h
      · exact .inl ⟨c :: a, b, by rw [h]; rfl, fun d hd => by rcases List.mem_cons.1 hd with rfl | hd; exact hc; exact h2 d hd⟩
      · exact .inr (fun d hd => by rcases List.mem_cons.1 hd with rfl | hd; exact hc; exact h d hd)
theorem dig_digit (c : UInt8) : decide (dig c < 10) = digitB c ∧ (digitB c = true → (dig c : Int) = (c.toNat : Int) - 48 ∧ c ≠ 32) := by
  have := all_bytes (p := fun c => decide (decide (dig c < 10) = digitB c ∧ (digitB c = true → (dig c : Int) = (c.toNat : Int) - 48 ∧ c ≠ 32))) (by decide +kernel) c
  exact of_decide_eq_true this
/-! ### the version -/
theorem one_digit (f : List UInt8) : numOk 10 1 f = true ↔ ∃ a, f = [a] ∧ digitB a = true := by
  unfold numOk
  cases f with
  | nil => simp
  | cons a f =>
    cases f with
    | nil => simp [(dig_digit a).1.symm]
    | cons b f => simp; omega
theorem one_worth {a : UInt8} (h : digitB a = true) : numR 10 1 [a] = (a.toNat : Int) - 48 := by
  unfold numR
  rw [(one_digit [a]).2 ⟨a, rfl, h⟩, ← ((dig_digit a).2 h).1]
  simp [numV]
def HTTPS : List UInt8 := [72, 84, 84, 80, 47]
def verR (s : List UInt8) : List UInt8 := if HTTPS.isPrefixOf s = true then s.drop 5 else s
def verP (s : List UInt8) : Int × Int :=
  if HTTPS.isPrefixOf s = true ∧ numOk 10 1 (aheadOf 46 (verR s)) = true ∧ numOk 10 1 (behind 46 (verR s)) = true then (if numR 10 1 (aheadOf 46 (verR s)) = 1 then (numR 10 1 (behind 46 (verR s)), 0) else (0, 81)) else (0, 80)
theorem version_prog (s : List UInt8) : version8 s = verP s := by
  by_cases h : HTTPS.isPrefixOf s = true ∧ numOk 10 1 (aheadOf 46 (verR s)) = true ∧ numOk 10 1 (behind 46 (verR s)) = true
  · have hv : verR s = s.drop 5 := by unfold verR; rw [if_pos h.1]
    unfold verP
    rw [if_pos h]
    rw [hv] at h ⊢
    obtain ⟨h1, h2, h3⟩ := h
    obtain ⟨a, e2, d2⟩ := (one_digit _).1 h2
    obtain ⟨b, e3, d3⟩ := (one_digit _).1 h3
    obtain ⟨t, ht⟩ := List.isPrefixOf_iff_prefix.1 h1
    have hs : s = HTTPS ++ [a, 46, b] := by
      rw [← ht] at e2 e3 ⊢
      have hd : (HTTPS ++ t).drop 5 = t := rfl
      rw [hd] at e2 e3
      rcases cut_or 46 t with ⟨x, y, hxy, hx⟩ | hx
      · have := cut_at (b := y) hx
        rw [← hxy] at this
        rw [hxy, ← this.1, ← this.2.1, e2, e3]
        rfl
      · rw [(cut_none hx).2.1] at e3
        cases e3
    rw [e2, e3, one_worth d2, one_worth d3, hs]
    show (if _ then _ else _) = _
    rw [if_pos ⟨rfl, rfl, rfl, rfl, rfl, rfl, d2, d3⟩]
    by_cases h1 : a = 49
    · subst h1
      rw [if_pos rfl, if_pos (by decide)]
    · rw [if_neg h1, if_neg]
      intro h
      exact h1 (UInt8.toNat_inj.1 (by show a.toNat = 49; omega))
  · unfold verP
    rw [if_neg h]
    unfold version8
    split
    · rename_i c1 c2 c3 c4 c5 a c6 b
      rw [if_neg]
      rintro ⟨rfl, rfl, rfl, rfl, rfl, rfl, d2, d3⟩
      refine h ⟨rfl, ?_⟩
      have hv : verR [72, 84, 84, 80, 47, a, 46, b] = [a] ++ 46 :: [b] := by
        unfold verR
        rw [if_pos (show HTTPS.isPrefixOf [72, 84, 84, 80, 47, a, 46, b] = true from rfl)]
        rfl
      have ha : ∀ c ∈ [a], c ≠ 46 := by
        intro c hc
        rw [List.mem_singleton] at hc
        subst hc
        intro e
        subst e
        exact absurd d2 (by decide)
      obtain ⟨e1, e2, _⟩ := cut_at (b := [b]) ha
      rw [hv, e1, e2]
      exact ⟨(one_digit _).2 ⟨a, rfl, d2⟩, (one_digit _).2 ⟨b, rfl, d3⟩⟩
    · rfl
/-- a version of its form has eight bytes and no blank -/
theorem version_form {s : List UInt8} (h : (version8 s).2 ≠ 80) : s.length = 8 ∧ ∀ c ∈ s, c ≠ 32 := by
  unfold version8 at h
  split at h
  · rename_i c1 c2 c3 c4 c5 a c6 b
    by_cases hc : c1 = 72 ∧ c2 = 84 ∧ c3 = 84 ∧ c4 = 80 ∧ c5 = 47 ∧ c6 = 46 ∧ digitB a = true ∧ digitB b = true
    · obtain ⟨rfl, rfl, rfl, rfl, rfl, rfl, d2, d3⟩ := hc
      refine ⟨rfl, ?_⟩
      have ha := ((dig_digit a).2 d2).2
      have hb := ((dig_digit b).2 d3).2
      intro c hc
      simp only [List.mem_cons, List.not_mem_nil, or_false] at hc
      rcases hc with rfl | rfl | rfl | rfl | rfl | rfl | rfl | rfl <;> first | exact ha | exact hb | decide
    · rw [if_neg hc] at h
      exact absurd rfl h
  · exact absurd rfl h
theorem version_nil : version8 [] = (0, 80) := rfl
/-! ### the start line -/
def startP (l : List UInt8) : H8 × Int :=
  if (aheadOf 32 l).length ≤ 16 ∧ token (aheadOf 32 l) = true ∧ (aheadOf 32 (behind 32 l)).all seenB = true ∧ aheadOf 32 (behind 32 l) ≠ [] then
    (if (version8 (behind 32 (behind 32 l))).2 = 0 then (⟨aheadOf 32 l, aheadOf 32 (behind 32 l), 0, [], (version8 (behind 32 (behind 32 l))).1, []⟩, 0) else (zero8, (version8 (behind 32 (behind 32 l))).2))
  else (zero8, 80)
theorem start_prog (l : List UInt8) : start8 l = startP l := by
  unfold start8 startP
  rw [show upB l = aheadOf 32 l from rfl, ← cut_drop]
  generalize hr : behind 32 l = r
  simp only
  rw [show upB r = aheadOf 32 r from rfl, ← cut_drop]
  have hlr : (aheadOf 32 l).length < l.length ∨ r = [] := by
    rw [← hr, cut_drop]
    rcases Nat.lt_or_ge (aheadOf 32 l).length l.length with h | h
    · exact .inl h
    · exact .inr (List.drop_eq_nil_of_le (by omega))
  have hlv : (aheadOf 32 r).length < r.length ∨ version8 (behind 32 r) = (0, 80) := by
    rcases Nat.lt_or_ge (aheadOf 32 r).length r.length with h | h
    · exact .inl h
    · exact .inr (by rw [cut_drop, List.drop_eq_nil_of_le (by omega)]; rfl)
  have hpos : 0 < (aheadOf 32 r).length ↔ aheadOf 32 r ≠ [] := List.length_pos_iff
  by_cases h1 : (aheadOf 32 l).length ≤ 16 ∧ token (aheadOf 32 l) = true ∧ (aheadOf 32 r).all seenB = true ∧ aheadOf 32 r ≠ []
  · rw [if_pos h1]
    obtain ⟨a1, a2, a3, a4⟩ := h1
    have hl : (aheadOf 32 l).length < l.length := by
      rcases hlr with h | h
      · exact h
      · rw [h] at a4; exact absurd rfl a4
    rw [if_pos (show (aheadOf 32 l).length < l.length ∧ (aheadOf 32 l).length ≤ 16 ∧ token (aheadOf 32 l) = true from ⟨hl, a1, a2⟩)]
    rcases hlv with h | h
    · rw [if_pos (show (aheadOf 32 r).length < r.length ∧ 0 < (aheadOf 32 r).length ∧ (aheadOf 32 r).all seenB = true from ⟨h, hpos.2 a4, a3⟩)]
    · rw [h]
      simp
  · rw [if_neg h1]
    by_cases h2 : (aheadOf 32 l).length < l.length ∧ (aheadOf 32 l).length ≤ 16 ∧ token (aheadOf 32 l) = true
    · rw [if_pos h2, if_neg]
      rintro ⟨_, b2, b3⟩
      exact h1 ⟨h2.2.1, h2.2.2, b3, hpos.1 b2⟩
    · rw [if_neg h2]
/-! ### the status line -/
theorem plain_blank (c : UInt8) (h : blankB c = true) : plainB c = true := by
  have := all_bytes (p := fun c => !blankB c || plainB c) (by decide +kernel) c
  rw [h] at this
  simpa using this
theorem drop_plain (s : List UInt8) : (s.dropWhile blankB).all plainB = s.all plainB := by
  induction s with
  | nil => rfl
  | cons c s ih =>
    rw [List.dropWhile_cons]
    split
    · rename_i h
      rw [ih, List.all_cons, plain_blank c h, Bool.true_and]
    · rfl
theorem trim_plain (s : List UInt8) : (trim s).all plainB = s.all plainB := by
  unfold trim
  rw [List.all_reverse, drop_plain, List.all_reverse, drop_plain]
theorem value_trim' (s : List UInt8) : value (trim s) = s.all plainB := by
  unfold value
  rw [trim_plain]
  cases h : s.all plainB with
  | false => rfl
  | true =>
    rw [Bool.true_and]
    cases ht : trim s with
    | nil => rfl
    | cons c r =>
      have h1 : blankB c = false := trim_head c r ht
      have h2 : blankB ((c :: r).getLastD 0) = false := by
        rw [List.getLastD_eq_getLast?, ← List.head?_reverse]
        cases hr : (c :: r).reverse with
        | nil => simp at hr
        | cons d t =>
          exact trim_last d t (by rw [ht]; exact hr)
      rw [List.headD_cons, h1, h2]
      rfl
def statusP (l : List UInt8) : H8 × Int :=
  if numOk 10 3 (aheadOf 32 (behind 32 l)) = true ∧ 100 ≤ numR 10 3 (aheadOf 32 (behind 32 l)) ∧ numR 10 3 (aheadOf 32 (behind 32 l)) ≤ 599 ∧ (behind 32 (behind 32 l)).all plainB = true then
    (if (version8 (aheadOf 32 l)).2 = 0 then (⟨[], [], numR 10 3 (aheadOf 32 (behind 32 l)), behind 32 (behind 32 l), (version8 (aheadOf 32 l)).1, []⟩, 0) else (zero8, (version8 (aheadOf 32 l)).2))
  else (zero8, 80)
theorem three_digits {d : List UInt8} (h : numOk 10 3 d = true) (h1 : 100 ≤ numR 10 3 d) : d.length = 3 := by
  unfold numR at h1
  rw [if_pos h] at h1
  unfold numOk at h
  simp only [Bool.and_eq_true, decide_eq_true_eq] at h
  obtain ⟨⟨h2, h3⟩, h4⟩ := h
  have hlt := numV_lt 10 d h4
  rcases (show d.length = 0 ∨ d.length = 1 ∨ d.length = 2 ∨ d.length = 3 by omega) with e | e | e | e
  · rw [e] at hlt; omega
  · rw [e] at hlt; omega
  · rw [e] at hlt; omega
  · exact e
theorem ok_bare {d : List UInt8} (h : numOk 10 3 d = true) : ∀ c ∈ d, c ≠ 32 := by
  unfold numOk at h
  simp only [Bool.and_eq_true] at h
  intro c hc
  have := List.all_eq_true.1 h.2 c hc
  rw [(dig_digit c).1] at this
  exact ((dig_digit c).2 this).2
theorem status_prog (l : List UInt8) : status8 l = statusP l := by
  by_cases hC : 12 ≤ l.length ∧ l[8]? = some 32 ∧ numOk 10 3 ((l.drop 9).take 3) = true ∧ 100 ≤ numR 10 3 ((l.drop 9).take 3) ∧ numR 10 3 ((l.drop 9).take 3) < 600 ∧ (l.length = 12 ∨ l[12]? = some 32) ∧ (l.drop 13).all plainB = true
  · have e8 : status8 l = if (version8 (l.take 8)).2 = 0 then (⟨[], [], numR 10 3 ((l.drop 9).take 3), l.drop 13, (version8 (l.take 8)).1, []⟩, 0) else (zero8, (version8 (l.take 8)).2) := by
      unfold status8
      rw [if_pos hC]
    rw [e8]
    obtain ⟨c1, c2, c3, c4, c5, c6, c7⟩ := hC
    have hl8 : l = l.take 8 ++ 32 :: l.drop 9 := by
      have h8 : 8 < l.length := by omega
      rw [List.getElem?_eq_getElem h8] at c2
      injection c2 with c2
      rw [← c2, ← List.drop_eq_getElem_cons h8, List.take_append_drop]
    by_cases hv : (version8 (l.take 8)).2 = 80
    · -- the version isn't of its form
      rw [hv, if_neg (by decide)]
      unfold statusP
      by_cases hp : numOk 10 3 (aheadOf 32 (behind 32 l)) = true ∧ 100 ≤ numR 10 3 (aheadOf 32 (behind 32 l)) ∧ numR 10 3 (aheadOf 32 (behind 32 l)) ≤ 599 ∧ (behind 32 (behind 32 l)).all plainB = true
      · rw [if_pos hp]
        have hv2 : (version8 (aheadOf 32 l)).2 = 80 := by
          rcases Decidable.em ((version8 (aheadOf 32 l)).2 = 80) with h | h
          · exact h
          · exfalso
            obtain ⟨f1, f2⟩ := version_form h
            have : aheadOf 32 l = l.take 8 := by rw [ahead_take, f1]
            rw [this] at h
            exact h hv
        rw [hv2, if_neg (by decide)]
      · rw [if_neg hp]
    · obtain ⟨_, f2⟩ := version_form hv
      obtain ⟨g1, g2, _⟩ := cut_at (b := l.drop 9) f2
      rw [← hl8] at g1 g2
      have h9 : l.drop 9 = (l.drop 9).take 3 ++ l.drop 12 := by
        conv => lhs; rw [← List.take_append_drop 3 (l.drop 9), List.drop_drop]
      have hb := ok_bare c3
      have hd : aheadOf 32 (l.drop 9) = (l.drop 9).take 3 ∧ behind 32 (l.drop 9) = l.drop 13 := by
        rcases c6 with h | h
        · have e12 : l.drop 12 = [] := List.drop_eq_nil_of_le (by omega)
          have e13 : l.drop 13 = [] := List.drop_eq_nil_of_le (by omega)
          have := cut_none hb
          rw [e12, List.append_nil] at h9
          rw [← h9] at this
          rw [e13, ← h9]
          exact ⟨this.1, this.2.1⟩
        · have h12 : 12 < l.length := by
            rcases Nat.lt_or_ge 12 l.length with h2 | h2
            · exact h2
            · rw [List.getElem?_eq_none h2] at h; cases h
          have e12 : l.drop 12 = 32 :: l.drop 13 := by
            rw [List.getElem?_eq_getElem h12] at h
            injection h with h
            rw [← h, ← List.drop_eq_getElem_cons h12]
          have := cut_at (b := l.drop 13) hb
          rw [← e12, ← h9] at this
          exact ⟨this.1, this.2.1⟩
      unfold statusP
      rw [g2, hd.1, hd.2, g1, if_pos (show numOk 10 3 ((l.drop 9).take 3) = true ∧ 100 ≤ numR 10 3 ((l.drop 9).take 3) ∧ numR 10 3 ((l.drop 9).take 3) ≤ 599 ∧ (l.drop 13).all plainB = true from ⟨c3, c4, by omega, c7⟩)]
  · have e8 : status8 l = (zero8, 80) := by
      unfold status8
      rw [if_neg hC]
    rw [e8]
    unfold statusP
    by_cases hp : numOk 10 3 (aheadOf 32 (behind 32 l)) = true ∧ 100 ≤ numR 10 3 (aheadOf 32 (behind 32 l)) ∧ numR 10 3 (aheadOf 32 (behind 32 l)) ≤ 599 ∧ (behind 32 (behind 32 l)).all plainB = true
    · rw [if_pos hp]
      rcases Decidable.em ((version8 (aheadOf 32 l)).2 = 80) with h | h
      · rw [h, if_neg (by decide)]
      · exfalso
        obtain ⟨f1, f2⟩ := version_form h
        obtain ⟨p1, p2, p3, p4⟩ := hp
        have h3 := three_digits p1 p2
        rcases cut_or 32 l with ⟨a, b, hab, ha⟩ | ha
        · obtain ⟨g1, g2, _⟩ := cut_at (b := b) ha
          rw [← hab] at g1 g2
          rw [g1] at f1
          have hb : b = l.drop 9 := by rw [hab, List.drop_append, f1, List.drop_eq_nil_of_le (by omega)]; rfl
          have hl8 : l[8]? = some 32 := by rw [hab, List.getElem?_append_right (by omega), f1]; rfl
          rw [g2] at p1 p2 p3 p4 h3
          have hbl : l.length = 9 + b.length := by rw [hab, List.length_append, List.length_cons]; omega
          rcases cut_or 32 b with ⟨x, y, hxy, hx⟩ | hx
          · obtain ⟨k1, k2, _⟩ := cut_at (b := y) hx
            rw [← hxy] at k1 k2
            rw [k1] at p1 p2 p3 h3
            rw [k2] at p4
            have e1 : (l.drop 9).take 3 = x := by rw [← hb, hxy, ← h3, List.take_left']; rfl
            have e2 : l.drop 13 = y := by
              rw [show l.drop 13 = (l.drop 9).drop 4 by rw [List.drop_drop], ← hb, hxy, List.drop_append, h3, List.drop_eq_nil_of_le (by omega)]
              rfl
            have e3 : l[12]? = some 32 := by
              rw [show l[12]? = (l.drop 9)[3]? by rw [List.getElem?_drop], ← hb, hxy, List.getElem?_append_right (by omega), h3]
              rfl
            refine hC ⟨?_, hl8, by rw [e1]; exact p1, by rw [e1]; exact p2, by rw [e1]; omega, .inr e3, by rw [e2]; exact p4⟩
            rw [hbl, hxy, List.length_append]
            omega
          · obtain ⟨k1, k2, _⟩ := cut_none hx
            rw [k1] at p1 p2 p3 h3
            have e1 : (l.drop 9).take 3 = b := by rw [← hb, List.take_of_length_le (by omega)]
            have e2 : l.drop 13 = [] := List.drop_eq_nil_of_le (by omega)
            exact hC ⟨by omega, hl8, by rw [e1]; exact p1, by rw [e1]; exact p2, by rw [e1]; omega, .inl (by omega), by rw [e2]; rfl⟩
        · rw [(cut_none ha).2.1] at h3
          cases h3
    · rw [if_neg hp]
/-! ### a field's line -/
def fieldP (l : List UInt8) : HField × Int :=
  if hasB 58 l = true ∧ token (aheadOf 58 l) = true ∧ value (trim (behind 58 l)) = true then ((aheadOf 58 l, trim (behind 58 l)), 0) else (([], []), 70)
theorem field_prog (l : List UInt8) : field8 l = fieldP l := by
  unfold field8 fieldP
  rw [show nameB l = aheadOf 58 l from rfl, ← cut_drop]
  have : (aheadOf 58 l).length < l.length ↔ hasB 58 l = true := by
    rcases cut_or 58 l with ⟨a, b, hab, ha⟩ | ha
    · obtain ⟨g1, _, g3⟩ := cut_at (b := b) ha
      rw [← hab] at g1 g3
      rw [g1, g3, hab, List.length_append, List.length_cons]
      constructor
      · intro; rfl
      · intro; omega
    · obtain ⟨g1, _, g3⟩ := cut_none ha
      rw [g1, g3]
      constructor
      · intro h; omega
      · intro h; cases h
  simp only [this]
end Go.Proofs.YtggmafmebocoaaaGreatDoor.HeadCut

/- Layer 8: a field in memory. -/
namespace Go.Proofs.YtggmafmebocoaaaGreatDoor.HBox
open Go.ChangeShapes Go.WideShapes Go.ChangeAt Go.RowKit LexPure Bytes FieldsPure HeadPure Mem
set_option maxRecDepth 20000
theorem below_drew {B : Nat} {a W : World} (h : Below B a W) : Below B a W.drew := h.trans ⟨rfl, rfl, rfl, Nat.le_refl _, fun _ _ => rfl⟩
theorem below_drewN {B : Nat} {a W : World} (h : Below B a W) (n : Nat) : Below B a (W.drewN n) := h.trans ⟨rfl, rfl, rfl, Nat.le_refl _, fun _ _ => rfl⟩
/-! ### one field -/
def fc (x : HField) : Array Value := #[.string (ofL x.1), .string (ofL x.2)]
def fv (x : HField) : Value := .agg #[.string (ofL x.1), .string (ofL x.2)]
structure FBox (w : World) (g : Nat) (x : HField) : Prop where
  has : Has w g 103 (fc x)
def fput (W : World) (g : Nat) (x : HField) : World := (W.setCell ⟨g, 0, none⟩ (.string (ofL x.1))).setCell ⟨g, 1, none⟩ (.string (ofL x.2))
theorem FBox.put {W : World} {g : Nat} {u : HField} (h : FBox W g u) (x : HField) : FBox (fput W g x) g x :=
  ⟨by have := (h.has.set_ 0 (.string (ofL x.1))).set_ 1 (.string (ofL x.2)); unfold fput; simpa [fc] using this⟩
theorem fload {w : World} {g : Nat} {x : HField} (h : FBox w g x) : (loadVar 103 ⟨g, 0, none⟩).run Tryz.prog w = .ok (fv x) w :=
  run_loadVar_row w g 103 103 _ _ _ h.has.at_ Tryz.underlying103 rfl (by kernel_rfl)
theorem FBox.cells {w : World} {g : Nat} {x : HField} (h : FBox w g x) : w.cell? ⟨g, 0, none⟩ = some (.string (ofL x.1)) ∧ w.cell? ⟨g, 1, none⟩ = some (.string (ofL x.2)) := ⟨(h.has.cell 0).trans rfl, (h.has.cell 1).trans rfl⟩
theorem FBox.frees {w : World} {g : Nat} {x : HField} (h : FBox w g x) : w.frozen? ⟨g, 0, none⟩ = false ∧ w.frozen? ⟨g, 1, none⟩ = false := ⟨h.has.free 0, h.has.free 1⟩
theorem FBox.below {w w' : World} {g B : Nat} {x : HField} (h : FBox w g x) (hb : Below B w w') (hg : g < B) : FBox w' g x := ⟨h.has.below hb hg⟩
/-- the box of a call that answers a field -/
structure FOne (w W : World) (g : Nat) (x : HField) : Prop where
  at_ : g = w.heap.size
  below : Below w.heap.size w W
  box : FBox W g x
  size : g + 1 ≤ W.heap.size
theorem FOne.start (w : World) : FOne w (w.alloc (.cells #[.string ⟨#[]⟩, .string ⟨#[]⟩] 103)) w.heap.size ([], []) :=
  ⟨rfl, (Below.refl w.heap.size w).alloc (Nat.le_refl _) _, ⟨Has.new w _ _⟩, by simp⟩
theorem FOne.call {w W W' : World} {g : Nat} {x : HField} (h : FOne w W g x) (hb : Below W.heap.size W W') : FOne w W' g x :=
  ⟨h.at_, below_chain h.below hb, h.box.below hb (by have := h.size; omega), Nat.le_trans h.size hb.size⟩
theorem FOne.put {w W : World} {g : Nat} {u : HField} (h : FOne w W g u) (x : HField) : Below w.heap.size w (fput W g x) :=
  (h.below.setCell (p := ⟨g, 0, none⟩) (by rw [h.at_]; exact Nat.le_refl _) _).setCell (p := ⟨g, 1, none⟩) (by rw [h.at_]; exact Nat.le_refl _) _
def frv (r : HField × Int) : Value := .tuple #[fv r.1, .int .i64 r.2]
theorem end_fbox {W : World} {g : Nat} {x : HField} {v : Int} {tmps : Array Value} {p u : Tmp} (hp : tmps.getD p undef = .pointer (some ⟨g, 0, none⟩)) (hu : tmps.getD u undef = .int .i64 v) (h : FBox W g x) :
    (((asAddr (tmps.getD p undef)).run Tryz.prog W).andThen fun a w₁ => ((loadVar 103 a).run Tryz.prog w₁).andThen fun v w₂ => .ok (.tuple #[v, tmps.getD u undef]) w₂) = .ok (frv (x, v)) W := by
  rw [hp, hu]
  have := fload h
  simp [asAddr, Result.andThen, this, frv]
end Go.Proofs.YtggmafmebocoaaaGreatDoor.HBox

/- Layer 8 of the program: Field. -/
namespace Go.Proofs.YtggmafmebocoaaaGreatDoor.PField8
open Go.ChangeShapes Go.WideShapes Go.ChangeAt Go.RowKit LexPure Bytes Ret FieldsPure HeadPure CutAt HeadCut HBox Mem PCutLib PToken PTrim PText
set_option maxRecDepth 20000
set_option maxHeartbeats 1600000 in
theorem pfield_any (s : ByteArray) (hs : s.size ≤ 140737488351232) (w : World) :
    Calls Tryz.prog 59 #[.string s] w fun e w' => e = .returned (frv (field8 (toL s))) ∧ Below w.heap.size w w' := by
  have HO := Lib.hid (FOne.start w)
  obtain ⟨x, hx⟩ : ∃ x, x = field8 (toL s) := ⟨_, rfl⟩
  rw [← hx]
  rw [field_prog] at hx
  unfold fieldP at hx
  have l1 : (aheadOf 58 (toL s)).length ≤ s.size := by rw [ahead_take, List.length_take, toL_length]; omega
  have l2 : (behind 58 (toL s)).length ≤ s.size := by rw [cut_drop, List.length_drop, toL_length]; omega
  have l3 := trim_length (behind 58 (toL s))
  have HC := Lib.hid (fun w => full_cut 58 s hs w)
  have HT := Lib.hid (fun w => (ptoken_any (ofL (aheadOf 58 (toL s))) (by unfold maxLen; rw [ofL_size]; omega) w).mono (fun e w' h => (⟨h.1, h.2.symm⟩ : e = .returned (.bool (token (toL (ofL (aheadOf 58 (toL s)))))) ∧ w' = w)))
  have HR := Lib.hid (fun w => ptrim_any (ofL (behind 58 (toL s))) (by unfold maxLen; rw [ofL_size]; omega) w)
  have HL := Lib.hid (fun w => pvalue_any (ofL (trim (behind 58 (toL s)))) (by unfold maxLen; rw [ofL_size]; omega) w)
  rw [toL_ofL] at HT HR HL
  generalize hasB 58 (toL s) = q at *
  generalize aheadOf 58 (toL s) = A at *
  generalize behind 58 (toL s) = R at *
  generalize trim R = B at *
  generalize token A = tk at *
  generalize value B = vb at *
  clear l1 l2 l3 hs
  replace hx := Lib.hid hx
  go_enter Tryz.func59, Tryz.ntmps59
  go_wp2_with fail
  generalize w.alloc (.cells #[.string ⟨#[]⟩, .string ⟨#[]⟩] 103) = W at HO ⊢
  obtain ⟨g, hg⟩ : ∃ g, g = w.heap.size := ⟨_, rfl⟩
  rw [← hg] at HO ⊢
  replace hg := Lib.hid hg
  refine (HC.out _).mono ?_
  rintro e w1 ⟨rfl, hb1⟩
  replace HO := Lib.hid (HO.out.call hb1)
  clear hb1 HC
  go_wp2_with fail
  refine (HR.out _).mono ?_
  rintro e w2 ⟨rfl, hb2⟩
  replace HO := Lib.hid (HO.out.call hb2)
  clear hb2 HR
  cases q with
  | false =>
    have HX : x = (([], []), 70) := by rw [hx.out, if_neg]; rintro ⟨h, _⟩; cases h
    subst HX
    obtain ⟨d0, d1⟩ := HO.out.box.cells
    obtain ⟨z0, z1⟩ := HO.out.box.frees
    have HE := Lib.hid (HO.out.box.put ([], []))
    have HB := Lib.hid (HO.out.put ([], []))
    clear hx HO
    go_wp2_with fail
    refine bodyPost_ret (v := frv (([], []), 70)) ?_ rfl ⟨rfl, HB.out⟩
    rw [results_cell_tmp rfl]
    exact end_fbox rfl rfl HE.out
  | true =>
  cases tk with
  | false =>
    have HX : x = (([], []), 70) := by rw [hx.out, if_neg]; rintro ⟨_, h, _⟩; cases h
    subst HX
    obtain ⟨d0, d1⟩ := HO.out.box.cells
    obtain ⟨z0, z1⟩ := HO.out.box.frees
    have HE := Lib.hid (HO.out.box.put ([], []))
    have HB := Lib.hid (HO.out.put ([], []))
    clear hx HO
    go_wp2_with fail
    refine (HT.out _).mono ?_
    rintro e w' ⟨rfl, rfl⟩
    go_wp2_with fail
    refine bodyPost_ret (v := frv (([], []), 70)) ?_ rfl ⟨rfl, HB.out⟩
    rw [results_cell_tmp rfl]
    exact end_fbox rfl rfl HE.out
  | true =>
  cases vb with
  | false =>
    have HX : x = (([], []), 70) := by rw [hx.out, if_neg]; rintro ⟨_, _, h⟩; cases h
    subst HX
    clear hx
    go_wp2_with fail
    refine (HT.out _).mono ?_
    rintro e w' ⟨rfl, rfl⟩
    go_wp2_with fail
    refine (HL.out _).mono ?_
    rintro e w3 ⟨rfl, hb3⟩
    replace HO := Lib.hid (HO.out.call hb3)
    clear hb3
    obtain ⟨d0, d1⟩ := HO.out.box.cells
    obtain ⟨z0, z1⟩ := HO.out.box.frees
    have HE := Lib.hid (HO.out.box.put ([], []))
    have HB := Lib.hid (HO.out.put ([], []))
    clear HO
    go_wp2_with fail
    refine bodyPost_ret (v := frv (([], []), 70)) ?_ rfl ⟨rfl, HB.out⟩
    rw [results_cell_tmp rfl]
    exact end_fbox rfl rfl HE.out
  | true =>
    have HX : x = ((A, B), 0) := by rw [hx.out]; rfl
    subst HX
    clear hx
    go_wp2_with fail
    refine (HT.out _).mono ?_
    rintro e w' ⟨rfl, rfl⟩
    go_wp2_with fail
    refine (HL.out _).mono ?_
    rintro e w3 ⟨rfl, hb3⟩
    replace HO := Lib.hid (HO.out.call hb3)
    clear hb3
    obtain ⟨d0, d1⟩ := HO.out.box.cells
    obtain ⟨z0, z1⟩ := HO.out.box.frees
    have HE := Lib.hid (HO.out.box.put (A, B))
    have HB := Lib.hid (HO.out.put (A, B))
    unfold fput at HE HB
    clear HO
    go_wp2_with fail
    refine bodyPost_ret (v := frv ((A, B), 0)) ?_ rfl ⟨rfl, HB.out⟩
    rw [results_cell_tmp rfl]
    exact end_fbox rfl rfl HE.out
end Go.Proofs.YtggmafmebocoaaaGreatDoor.PField8

/- Layer 10 of the program: the end of a line (endSize, endTrailer, endLine). -/
namespace Go.Proofs.YtggmafmebocoaaaGreatDoor.PChEnd
open Go.ChangeShapes Go.WideShapes Go.ChangeAt Go.RowKit Bytes LexPure LexNum HeadPure CutAt ChunkPure ChunkText ChObj Mem Step Ret Rows1 PHex PCutLib PField8 HBox
set_option maxRecDepth 20000
/-- a decoder whose line has just been taken -/
structure Fresh (r : Raw) (n : Nat) : Prop where
  size : r.size = n
  line : r.line = []
  part : r.part = false
  cr : r.cr = false
  ref : r.ref = 0
theorem sizeL_say (l : List UInt8) : (numOk 16 (min 8 15) (aheadOf 59 l) = false ∧ sizeL l = -1) ∨
    (numOk 16 (min 8 15) (aheadOf 59 l) = true ∧ sizeL l = numR 16 (min 8 15) (aheadOf 59 l) ∧ 0 ≤ sizeL l ∧ sizeL l < 4294967296) := by
  unfold sizeL aheadOf
  rw [show (min 8 15 : Int) = 8 from rfl]
  cases h : numOk 16 8 (l.takeWhile (fun c => c != 59)) with
  | false => exact .inl ⟨rfl, by rw [if_neg (by decide)]⟩
  | true =>
    refine .inr ⟨rfl, by rw [if_pos rfl], ?_⟩
    rw [if_pos rfl]
    unfold numR
    rw [h, if_pos rfl]
    unfold numOk at h
    simp only [Bool.and_eq_true, decide_eq_true_eq] at h
    have h1 := numV_lt 16 _ h.2
    have h2 : 16 ^ (l.takeWhile (fun c => c != 59)).length ≤ 16 ^ 8 := Nat.pow_le_pow_right (by decide) (by omega)
    have h3 : (16 : Nat) ^ 8 = 4294967296 := rfl
    omega
theorem errN_fail (m : M) (e : Int) : errN (fail m e) = e := rfl
theorem good_fail (m : M) (e : Int) : good (fail m e) = false := rfl
set_option maxHeartbeats 1600000 in
theorem pesize_any {w : World} {F : Nat → Prop} {g : Nat} {r : Raw} {v : Value} {m : M} (h : Cod w F g m.most r v) (f : Fresh r m.size) (hn : r.next = 0) (ht : r.trail = 0) (hph : m.ph = .size) (L : ByteArray) (hL : toL L = m.line) (hsz : L.size ≤ 512) (hz : Sane m) :
    Calls Tryz.prog 99 #[.pointer (some ⟨g, 0, none⟩), .string L] w fun e w' => e = .returned (.int .i64 (errN (endLine m))) ∧ CSF w F w' g m.most (endLine m) := by
  have HC := Lib.hid (full_cut 59 L (by omega) w)
  have hlen : (aheadOf 59 (toL L)).length ≤ maxLen := by
    have : (aheadOf 59 (toL L)).length ≤ (toL L).length := by unfold aheadOf; exact (List.takeWhile_prefix _).length_le
    rw [toL_length] at this
    unfold maxLen
    omega
  have HH := Lib.hid (fun w => phex_any (ofL (aheadOf 59 (toL L))) (by rw [ofL_size]; exact hlen) 8 w)
  rw [toL_ofL] at HH
  have HS := Lib.hid (CS.start h)
  have hsay := sizeL_say m.line
  rw [← hL] at hsay
  have hend : endLine m = if sizeL (toL L) < 0 then fail m 100 else if m.most < m.size + sizeL (toL L) then fail m 101 else if sizeL (toL L) = 0 then goOn m (.trail 0) else goOn m (.data (sizeL (toL L)).toNat) := by
    rw [hL]
    unfold endLine
    rw [hph]
  generalize behind 59 (toL L) = R at *
  generalize hasB 59 (toL L) = q at *
  generalize aheadOf 59 (toL L) = A at *
  generalize sizeL (toL L) = S at *
  clear hlen h hL hsz
  rcases hsay with ⟨h1, h2⟩ | ⟨h1, h2, h3, h4⟩
  · rw [h1] at HH
    have HE : Hid (endLine m = fail m 100) := Lib.hid (by rw [hend, if_pos (by omega)])
    rw [HE.out]
    generalize numR 16 (min 8 15) A = nn at *
    clear hend h1 h2
    have href := f.ref
    go_enter Tryz.func99, Tryz.ntmps99
    go_wp2_with fail
    refine HC.out.mono ?_
    rintro e w1 ⟨rfl, hb1⟩
    go_wp2_with fail
    refine (HH.out _).mono ?_
    rintro e w2 ⟨rfl, rfl⟩
    go_wp2_with fail
    go_ret
    exact ⟨rfl, F, r, v, HS.out.call hb1, href, fun hg => by cases hg⟩
  · rw [h1, ← h2] at HH
    have e1 := HS.out.cod.c0
    have e2 := HS.out.cod.c1
    rw [f.size] at e2
    have k1 : (0 : Int) ≤ (m.size : Int) := by omega
    obtain ⟨⟨z1, z2⟩, z3⟩ := hz
    replace f := Lib.hid f
    replace hend := Lib.hid hend
    have kw : IntKind.i64.wrap (m.most - (m.size : Int)) = m.most - (m.size : Int) := IntWalk.i64_in _ (by omega)
    clear h2 e1 e2 z1 z2 z3
    by_cases hov : m.most < (m.size : Int) + S
    · have HE : Hid (endLine m = fail m 101) := Lib.hid (by rw [hend.out, if_neg (by omega), if_pos hov])
      rw [HE.out, errN_fail]
      have HP : Hid (∀ w', CS w F w' F g m.most r v → CSF w F w' g m.most (fail m 101)) := Lib.hid (fun w' k => ⟨F, r, v, k, f.out.ref, fun hg => by cases hg⟩)
      have hsz := f.out.size
      have hov2 : m.most - (m.size : Int) < S := by omega
      clear hov
      have hov := hov2
      clear hov2
      rw [← kw] at hov
      generalize (m.size : Int) = z at *
      generalize m.most = most at *
      clear hend kw
      go_enter Tryz.func99, Tryz.ntmps99
      go_wp2_with fail
      refine HC.out.mono ?_
      rintro e w1 ⟨rfl, hb1⟩
      go_wp2_with fail
      refine (HH.out _).mono ?_
      rintro e w2 ⟨rfl, rfl⟩
      replace HS := Lib.hid (HS.out.call hb1)
      have d0 := HS.out.cod.c0
      have d1 := HS.out.cod.c1
      rw [hsz] at d1
      clear hb1 HC HH hsz
      go_wp2_with fail
      go_quiet (fail)
      go_wp2_with fail
      go_ret
      exact ⟨rfl, HP.out _ (HS.out.call ⟨rfl, rfl, rfl, Nat.le_refl _, fun _ _ => rfl⟩)⟩
    · have HE : Hid (endLine m = if S = 0 then goOn m (.trail 0) else goOn m (.data S.toNat)) := Lib.hid (by rw [hend.out, if_neg (by omega), if_neg hov])
      have hsz := f.out.size
      have hov0 : ¬ m.most - (m.size : Int) < S := by omega
      clear hov
      have hov := hov0
      rw [← kw] at hov
      have k3 := hov0
      by_cases h0 : S = 0
      · have HG : Hid (∀ w', CS w F w' F g m.most { r with left := S, next := 3 } v → CSF w F w' g m.most (goOn m (.trail 0))) := Lib.hid (fun w' k =>
          ⟨F, _, v, k, f.out.ref, fun _ => ⟨f.out.size, rfl, fun n hn => (by cases hn), f.out.line, f.out.part, f.out.cr, fun n hn => (by cases hn; exact ht), fun _ => ht⟩⟩)
        rw [HE.out, if_pos h0, show errN (goOn m (.trail 0)) = 0 from rfl]
        generalize (m.size : Int) = z at *
        generalize m.most = most at *
        replace h0 := Lib.hid h0
        clear hend kw hov0 f HE
        go_enter Tryz.func99, Tryz.ntmps99
        go_wp2_with fail
        refine HC.out.mono ?_
        rintro e w1 ⟨rfl, hb1⟩
        go_wp2_with fail
        refine (HH.out _).mono ?_
        rintro e w2 ⟨rfl, rfl⟩
        replace HS := Lib.hid (HS.out.call hb1)
        have d0 := HS.out.cod.c0
        have d1 := HS.out.cod.c1
        rw [hsz] at d1
        have HD : Hid (∀ W, (∃ n, w1.drewN n = W) → CS w F W F g most r v) := Lib.hid (fun W ⟨n, hn⟩ => by rw [← hn]; exact HS.out.call ⟨rfl, rfl, rfl, Nat.le_refl _, fun _ _ => rfl⟩)
        clear hb1 HC HH
        go_wp2_with fail
        go_quiet (fail)
        generalize hW : w1.drewN _ = W
        replace HD := Lib.hid (HD.out W ⟨_, hW⟩)
        have q3 := HD.out.cod.c3
        have q2 := HD.out.cod.c2
        have z3 := HD.out.cod.free 3
        have z2 := HD.out.cod.free 2
        clear hW HS d0 d1
        obtain rfl := h0.out
        have hov3 : decide (IntKind.i64.wrap (most - z) < 0) = false := decide_eq_false (Int.not_lt.2 hov)
        clear h1 h0
        rw [hov3]
        clear hov hov3
        go_wp2_with fail
        go_ret
        refine ⟨rfl, HG.out _ ?_⟩
        exact ((HD.out.set 3 (.int .i64 0) { r with left := 0 } rfl rfl).set 2 (.int .i64 1) { r with left := 0, next := 1 } rfl rfl).set 2 (.int .i64 3) { r with left := 0, next := 3 } rfl rfl
      · have hS1 : 0 < S := by omega
        have HG : Hid (∀ w', CS w F w' F g m.most { r with left := S, next := 1 } v → CSF w F w' g m.most (goOn m (.data S.toNat))) := Lib.hid (fun w' k =>
          ⟨F, _, v, k, f.out.ref, fun _ => ⟨f.out.size, rfl, fun n hn => (by cases hn; show S = (S.toNat : Int); omega), f.out.line, f.out.part, f.out.cr, fun n hn => (by cases hn), fun _ => ht⟩⟩)
        rw [HE.out, if_neg h0, show errN (goOn m (.data S.toNat)) = 0 from rfl]
        generalize (m.size : Int) = z at *
        generalize m.most = most at *
        clear hend kw hov0 f HE
        go_enter Tryz.func99, Tryz.ntmps99
        go_wp2_with fail
        refine HC.out.mono ?_
        rintro e w1 ⟨rfl, hb1⟩
        go_wp2_with fail
        refine (HH.out _).mono ?_
        rintro e w2 ⟨rfl, rfl⟩
        replace HS := Lib.hid (HS.out.call hb1)
        have d0 := HS.out.cod.c0
        have d1 := HS.out.cod.c1
        rw [hsz] at d1
        have HD : Hid (∀ W, (∃ n, w1.drewN n = W) → CS w F W F g most r v) := Lib.hid (fun W ⟨n, hn⟩ => by rw [← hn]; exact HS.out.call ⟨rfl, rfl, rfl, Nat.le_refl _, fun _ _ => rfl⟩)
        clear hb1 HC HH
        go_wp2_with fail
        go_quiet (fail)
        generalize hW : w1.drewN _ = W
        replace HD := Lib.hid (HD.out W ⟨_, hW⟩)
        have q3 := HD.out.cod.c3
        have q2 := HD.out.cod.c2
        have z3 := HD.out.cod.free 3
        have z2 := HD.out.cod.free 2
        clear hW HS d0 d1
        go_wp2_with fail
        go_ret
        refine ⟨rfl, HG.out _ ?_⟩
        exact (HD.out.set 3 (.int .i64 S) { r with left := S } rfl rfl).set 2 (.int .i64 1) { r with left := S, next := 1 } rfl rfl
set_option maxHeartbeats 1600000 in
theorem petrail_any {w : World} {F : Nat → Prop} {g : Nat} {r : Raw} {v : Value} {m : M} {n : Nat} (h : Cod w F g m.most r v) (f : Fresh r m.size) (hn : r.next = 3) (ht : r.trail = n) (hph : m.ph = .trail n) (hle : n ≤ 32) (L : ByteArray) (hL : toL L = m.line) (hsz : L.size ≤ 512) :
    Calls Tryz.prog 100 #[.pointer (some ⟨g, 0, none⟩), .string L] w fun e w' => e = .returned (.int .i64 (errN (endLine m))) ∧ CSF w F w' g m.most (endLine m) := by
  have HS := Lib.hid (CS.start h)
  have hend : endLine m = if toL L = [] then goOn m .done else if (field8 (toL L)).2 ≠ 0 ∨ n = 32 then fail m 100 else goOn m (.trail (n + 1)) := by
    rw [hL]
    unfold endLine
    rw [hph]
  have z2 := h.free 2
  have z7 := h.free 7
  have d2 := h.c2
  by_cases h0 : L.size = 0
  · have h1 : L.toList = [] := by
      rw [ByteArray.toList_eq]
      exact List.length_eq_zero_iff.1 (by rw [← h0]; exact toL_length L)
    have h2 : L.toList.isEmpty = true := by rw [h1]; rfl
    rw [if_pos (show toL L = [] by rw [ByteArray.toList_eq] at h1; exact h1)] at hend
    rw [hend, show errN (goOn m .done) = 0 from rfl]
    replace f := Lib.hid f
    clear hend hL hsz h
    go_enter Tryz.func100, Tryz.ntmps100
    go_wp2_with fail
    go_ret
    refine ⟨rfl, F, _, v, HS.out.set 2 (.int .i64 4) { r with next := 4 } rfl rfl, f.out.ref, fun _ => ⟨f.out.size, rfl, fun n hn => (by cases hn), f.out.line, f.out.part, f.out.cr, fun n hn => (by cases hn), fun h => ?_⟩⟩
    exact absurd h (by show ¬ (4 : Int) ≤ 2; decide)
  · have h1 : ¬ L.toList = [] := fun h => by
      rw [ByteArray.toList_eq] at h
      have h2 := toL_length L
      rw [show toL L = [] from h] at h2
      simp at h2
      omega
    have h2 : L.toList.isEmpty = false := by
      cases h : L.toList with
      | nil => exact absurd h h1
      | cons => rfl
    rw [if_neg (show ¬ toL L = [] by rw [ByteArray.toList_eq] at h1; exact h1)] at hend
    generalize hE : endLine m = E at hend ⊢
    clear hE
    have HF := Lib.hid (fun w => pfield_any L (by omega) w)
    generalize field8 (toL L) = x at *
    obtain ⟨⟨x1, x2⟩, er⟩ := x
    unfold frv fv at HF
    dsimp only at HF hend
    replace f := Lib.hid f
    replace hend := Lib.hid hend
    clear hL hsz h h0 z2 z7 d2
    go_enter Tryz.func100, Tryz.ntmps100
    go_wp2_with fail
    refine (HF.out _).mono ?_
    rintro e w1 ⟨rfl, hb1⟩
    replace hb1 := Lib.hid hb1
    clear HF h1 h2
    dsimp only
    iterate 12 go_step
    have HB := Lib.hid (FOne.start w1)
    generalize w1.alloc (.cells #[.string ⟨#[]⟩, .string ⟨#[]⟩] 103) = W at HB ⊢
    obtain ⟨B, hB⟩ : ∃ B, B = w1.heap.size := ⟨_, rfl⟩
    rw [← hB] at HB ⊢
    obtain ⟨e0, e1⟩ := HB.out.box.cells
    obtain ⟨u0, u1⟩ := HB.out.box.frees
    have HQ : Hid (CS w F (fput W B (x1, x2)) F g m.most r v) := Lib.hid (HS.out.call (below_chain hb1.out (HB.out.put (x1, x2))))
    have q7 := HQ.out.cod.c7
    have z7 := HQ.out.cod.free 7
    rw [ht] at q7
    unfold fput at HQ q7 z7
    dsimp only at HQ q7 z7
    replace hB := Lib.hid hB
    clear HB HS hb1
    by_cases he : er = 0
    · subst he
      have hno : ((0 : Int) != 0) = false := rfl
      by_cases h32 : n = 32
      · have HE : Hid (E = fail m 100) := Lib.hid (by rw [hend.out, if_pos (.inr h32)])
        have hni : (n : Int) = 32 := by omega
        have HP : Hid (∀ w', CS w F w' F g m.most r v → CSF w F w' g m.most (fail m 100)) := Lib.hid (fun w' k => ⟨F, r, v, k, f.out.ref, fun hg => by cases hg⟩)
        clear hend
        go_wp2_with fail
        go_ret
        rw [HE.out]
        exact ⟨rfl, HP.out _ HQ.out⟩
      · have HE : Hid (E = goOn m (.trail (n + 1))) := Lib.hid (by rw [hend.out, if_neg (by intro h; rcases h with h | h; exact h rfl; exact h32 h)])
        have hni : ¬ (n : Int) = 32 := by omega
        clear hend
        go_wp2_with fail
        go_ret
        rw [HE.out]
        refine ⟨rfl, F, _, v, HQ.out.set 7 (.int .i64 ((n : Int) + 1)) { r with trail := (n : Int) + 1 } rfl rfl, f.out.ref, fun _ => ⟨f.out.size, hn, fun n hn => (by cases hn), f.out.line, f.out.part, f.out.cr, fun k hk => (by cases hk; rfl), fun h => ?_⟩⟩
        have : r.next ≤ 2 := h
        omega
    · have hno : (er != 0) = true := bne_iff_ne.2 he
      have HE : Hid (E = fail m 100) := Lib.hid (by rw [hend.out, if_pos (.inl he)])
      have HP : Hid (∀ w', CS w F w' F g m.most r v → CSF w F w' g m.most (fail m 100)) := Lib.hid (fun w' k => ⟨F, r, v, k, f.out.ref, fun hg => by cases hg⟩)
      clear hend he
      go_wp2_with fail
      go_ret
      rw [HE.out]
      exact ⟨rfl, HP.out _ HQ.out⟩
end Go.Proofs.YtggmafmebocoaaaGreatDoor.PChEnd

/- Layer 10 of the program: a line's end and a byte of a line (endLine, readByte). -/
namespace Go.Proofs.YtggmafmebocoaaaGreatDoor.PChLine
open Go.ChangeShapes Go.WideShapes Go.ChangeAt Go.RowKit Bytes LexPure LexNum HeadPure CutAt ChunkPure ChunkText ChObj Mem Step Ret Rows1 PChFit PChEnd
set_option maxRecDepth 20000
theorem CSF.then {w W w' : World} {F F1 : Nat → Prop} {g : Nat} {most : Int} {r : Raw} {v : Value} {m : M} (h : CS w F W F1 g most r v) (k : CSF W F1 w' g most m) : CSF w F w' g most m := by
  obtain ⟨F', r', v', k1, k2⟩ := k
  exact ⟨F', r', v', h.then k1, k2⟩
set_option maxHeartbeats 1600000 in
theorem peline_any {w : World} {F : Nat → Prop} {g : Nat} {r : Raw} {v : Value} {m : M} (h : Cod w F g m.most r v) (hr : Rel r m) (href : r.ref = 0) (hph : m.ph = .size ∨ m.ph = .after ∨ ∃ n, m.ph = .trail n ∧ n ≤ 32) (hl : m.line.length ≤ 512) (hz : Sane m) :
    Calls Tryz.prog 83 #[.pointer (some ⟨g, 0, none⟩)] w fun e w' => e = .returned (.int .i64 (errN (endLine m))) ∧ CSF w F w' g m.most (endLine m) := by
  have HV := own_string (P := Tryz.prog) (w := w) h.row 28 9 Tryz.underlying28 Tryz.underlying5 Tryz.underlying9
  rw [hr.line] at HV
  have d4 := h.c4
  have d5 := h.c5
  have d6 := h.c6
  have z4 := h.free 4
  have z5 := h.free 5
  have z6 := h.free 6
  have HK : CS w F (((w.setCell ⟨g, 4, none⟩ (.slice none 0 0)).setCell ⟨g, 5, none⟩ (.bool false)).setCell ⟨g, 6, none⟩ (.bool false)) F g m.most { r with line := [], part := false, cr := false } (.slice none 0 0) :=
    (((CS.start h).setLine (.slice none 0 0) [] (World.ownsRow_nil _ _ _ _) (fun b hb => by cases hb) (fun _ => rfl)).set 5 (.bool false) { r with line := [], part := false } rfl rfl).set 6 (.bool false) { r with line := [], part := false, cr := false } rfl rfl
  have HFr : Fresh { r with line := [], part := false, cr := false } m.size := ⟨hr.size, rfl, rfl, rfl, href⟩
  have q2 := HK.cod.c2
  have z2 := HK.cod.free 2
  obtain ⟨L, hL⟩ : ∃ L, L = ofL m.line := ⟨_, rfl⟩
  have tL : toL L = m.line := by rw [hL, toL_ofL]
  have sL : L.size ≤ 512 := by rw [hL, ofL_size]; exact hl
  rw [← hL] at HV
  generalize hW : ((w.setCell ⟨g, 4, none⟩ (.slice none 0 0)).setCell ⟨g, 5, none⟩ (.bool false)).setCell ⟨g, 6, none⟩ (.bool false) = W at *
  have hnx : ({ r with line := [], part := false, cr := false } : Raw).next = r.next := rfl
  dsimp only at q2
  rw [hr.next] at q2
  replace HK := Lib.hid HK
  rcases hph with hp | hp | ⟨n, hp, hn⟩
  · have HE := Lib.hid (pesize_any HK.out.cod HFr (by show r.next = 0; rw [hr.next, hp]; rfl) (hr.none (by rw [hr.next, hp]; decide)) hp L tL sL hz)
    rw [hp] at q2
    unfold phN at q2
    dsimp only at q2
    generalize hEE : endLine m = E at HE ⊢
    clear hEE hL tL sL HFr h hr
    go_enter Tryz.func83, Tryz.ntmps83
    go_wp2_with fail
    refine HE.out.mono ?_
    rintro e w' ⟨rfl, hk⟩
    go_wp2_with fail
    go_ret
    exact ⟨rfl, CSF.then HK.out hk⟩
  · have hE : endLine m = goOn m .size := by unfold endLine; rw [hp]
    rw [hE, show errN (goOn m .size) = 0 from rfl]
    have ht0 : r.trail = 0 := hr.none (by rw [hr.next, hp]; decide)
    have HP : Hid (CSF w F (W.setCell ⟨g, 2, none⟩ (.int .i64 0)) g m.most (goOn m .size)) := Lib.hid
      ⟨F, _, _, HK.out.set 2 (.int .i64 0) { r with line := [], part := false, cr := false, next := 0 } rfl rfl, href, fun _ => ⟨hr.size, rfl, fun n hn => (by cases hn), rfl, rfl, rfl, fun n hn => (by cases hn), fun _ => ht0⟩⟩
    rw [hp] at q2
    unfold phN at q2
    dsimp only at q2
    clear hE hL tL sL HFr h hr
    go_enter Tryz.func83, Tryz.ntmps83
    go_wp2_with fail
    go_ret
    exact ⟨rfl, HP.out⟩
  · have HE := Lib.hid (petrail_any HK.out.cod HFr (by show r.next = 3; rw [hr.next, hp]; rfl) (hr.trail n hp) hp hn L tL sL)
    rw [hp] at q2
    unfold phN at q2
    dsimp only at q2
    generalize hEE : endLine m = E at HE ⊢
    clear hEE hL tL sL HFr h hr
    go_enter Tryz.func83, Tryz.ntmps83
    go_wp2_with fail
    refine HE.out.mono ?_
    rintro e w' ⟨rfl, hk⟩
    go_wp2_with fail
    go_ret
    exact ⟨rfl, CSF.then HK.out hk⟩
/-- append one byte to the line -/
theorem parted_snoc (l : List UInt8) (c : UInt8) : parted (l ++ [c]) = (parted l || (c == 59 || c == 58)) := by
  unfold parted
  simp
theorem infoB : (Tryz.prog.info? 5).map (fun i => (i.zero, i.size, i.bytes)) = some (some (.int .u8 0), 1, 1) := by kernel_rfl
theorem CS.append {w W W4 : World} {F F1 : Nat → Prop} {g : Nat} {most : Int} {r : Raw} {v v4 : Value} {l : List UInt8} (h : CS w F W F1 g most r v) (hg : W.grownBy W4 v.ownBlock) (hrow : W4.ownsRow 0 5 1 v4 l.length (bvs l)) (hat : v4.ownBlock = v.ownBlock ∨ v4.ownBlock = some W.heap.size) (hl : l ≠ []) :
    CS w F (W4.setCell ⟨g, 4, none⟩ v4) (fun k => F1 k ∨ v4.ownBlock = some k) g most { r with line := l } v4 := by
  have hne : ∀ b, v4.ownBlock = some b → b ≠ g := by
    intro b hb
    rcases hat with e | e
    · rw [hb] at e
      exact (h.cod.own b e.symm).2
    · rw [hb] at e
      injection e with e
      have := h.cod.has.lt
      omega
  have hgrow : ∀ k, (F1 k ∨ v4.ownBlock = some k) → F1 k ∨ (W.heap.size ≤ k ∧ k < W4.heap.size) := by
    intro k hk
    rcases hk with hk | hk
    · exact .inl hk
    · rcases hat with e | e
      · exact .inl (h.cod.own k (by rw [← e]; exact hk)).1
      · have hlt := row_lt hrow hk
        rw [hk] at e
        injection e with e
        exact .inr ⟨by omega, hlt⟩
  have hh : Has W4 g 99 (cells most r v) := h.cod.has.grown hg (fun e => (h.cod.own g e.symm).2 rfl)
  have hs : ∀ {W5 : World}, W5 = W4.setCell ⟨g, 4, none⟩ v4 → W5.heap.size = W4.heap.size := fun e => by rw [e]; simp [World.setCell]
  refine ⟨⟨hh.set_ 4 v4, (Step.set_ (F := fun k => k = g) W4 rfl 4 v4).row hrow hne, fun b hb => ⟨.inr hb, hne b hb⟩, .inl h.cod.mine, fun e => absurd e hl, fun k hk => ?_⟩, ?_⟩
  · rw [hs rfl]
    rcases hgrow k hk with h1 | h1
    · exact Nat.lt_of_lt_of_le (h.cod.lt k h1) hg.size
    · exact h1.2
  · refine h.step.trans (((Step.of_grown hg (fun k hk => (h.cod.own k hk).1)).trans (Step.set_ W4 h.cod.mine 4 v4)).regrow (fun k hk => ?_))
    rw [hs rfl]
    exact hgrow k hk
theorem CS.after {w W W4 : World} {F F1 : Nat → Prop} {g : Nat} {most : Int} {r : Raw} {v : Value} (h : CS w F W F1 g most r v) (hg : W.grownBy W4 v.ownBlock) : W4.cell? ⟨g, 4, none⟩ = some v ∧ W4.frozen? ⟨g, 4, none⟩ = false := by
  have hh : Has W4 g 99 (cells most r v) := h.cod.has.grown hg (fun e => (h.cod.own g e.symm).2 rfl)
  exact ⟨hh.cell 4, hh.free 4⟩
theorem CS.setPart {w W : World} {F F' : Nat → Prop} {g : Nat} {most : Int} {r : Raw} {v : Value} (h : CS w F W F' g most r v) (b : Bool) : CS w F (W.setCell ⟨g, 5, none⟩ (.bool b)) F' g most { r with part := b } v :=
  h.set 5 (.bool b) { r with part := b } rfl rfl
set_option maxHeartbeats 1600000 in
theorem prbyte_any {w : World} {F : Nat → Prop} {g : Nat} {r : Raw} {v : Value} {m : M} (h : Cod w F g m.most r v) (hr : Rel r m) (href : r.ref = 0) (hph : m.ph = .size ∨ m.ph = .after ∨ ∃ n, m.ph = .trail n ∧ n ≤ 32) (hl : m.line.length ≤ 512) (hz : Sane m) (c : UInt8) :
    Calls Tryz.prog 72 #[.pointer (some ⟨g, 0, none⟩), .int .u8 (c.toNat : Int)] w fun e w' => e = .returned (.int .i64 (errN (lineStep m c))) ∧ CSF w F w' g m.most (lineStep m c) := by
  have d6 := h.c6
  rw [hr.cr] at d6
  have z6 := h.free 6
  cases hcr : m.cr with
  | true =>
    rw [hcr] at d6
    by_cases hc : c = 10
    · have hS : lineStep m c = endLine m := by unfold lineStep; rw [if_pos hcr, if_pos hc]
      have HE := Lib.hid (peline_any h hr href hph hl hz)
      have hx : (c.toNat : Int) = 10 := (toNat_eq c 10).2 hc
      rw [hS, hx]
      generalize endLine m = E at HE ⊢
      clear hS h hr hc hcr hph
      go_enter Tryz.func72, Tryz.ntmps72
      go_wp2_with fail
      refine HE.out.mono ?_
      rintro e w' ⟨rfl, hk⟩
      go_wp2_with fail
      go_ret
      exact ⟨rfl, hk⟩
    · have hS : lineStep m c = fail m 100 := by unfold lineStep; rw [if_pos hcr, if_neg hc]
      have hx : ¬ (c.toNat : Int) = 10 := fun h => hc ((toNat_eq c 10).1 h)
      have HP : Hid (CSF w F w g m.most (fail m 100)) := Lib.hid ⟨F, r, v, CS.start h, href, fun hg => by cases hg⟩
      rw [hS, errN_fail]
      generalize (c.toNat : Int) = x at *
      clear hS h hr hc hcr hph
      go_enter Tryz.func72, Tryz.ntmps72
      go_wp2_with fail
      go_ret
      exact ⟨rfl, HP.out⟩
  | false =>
    rw [hcr] at d6
    by_cases hc : c = 13
    · have hS : lineStep m c = { m with cr := true } := by unfold lineStep; rw [if_neg (by rw [hcr]; decide), if_pos hc]
      have hx : (c.toNat : Int) = 13 := (toNat_eq c 13).2 hc
      have HP : Hid (CSF w F (w.setCell ⟨g, 6, none⟩ (.bool true)) g m.most { m with cr := true }) := Lib.hid
        ⟨F, _, _, (CS.start h).set 6 (.bool true) { r with cr := true } rfl rfl, href, fun _ => ⟨hr.size, hr.next, hr.left, hr.line, hr.part, rfl, hr.trail, hr.none⟩⟩
      have hen : errN { m with cr := true } = 0 := by
        rcases hph with hp | hp | ⟨n, hp, _⟩ <;> (unfold errN; simp only [hp])
      rw [hS, hx, hen]
      clear hS h hr hc hcr hph hen
      go_enter Tryz.func72, Tryz.ntmps72
      go_wp2_with fail
      go_ret
      exact ⟨rfl, HP.out⟩
    · have hx : ¬ (c.toNat : Int) = 13 := fun h => hc ((toNat_eq c 13).1 h)
      have HF := Lib.hid (pfits_any h hr hl c)
      cases hf : fits m.ph m.line c with
      | false =>
        have hS : lineStep m c = fail m 100 := by unfold lineStep; rw [if_neg (by rw [hcr]; decide), if_neg hc, if_neg (by rw [hf]; decide)]
        rw [hf] at HF
        have HP : Hid (∀ w', Below w.heap.size w w' → CSF w F w' g m.most (fail m 100)) := Lib.hid (fun w' hb => ⟨F, r, v, (CS.start h).call hb, href, fun hg => by cases hg⟩)
        rw [hS, errN_fail]
        generalize (c.toNat : Int) = x at *
        clear hS h hr hc hcr hph hf
        go_enter Tryz.func72, Tryz.ntmps72
        go_wp2_with fail
        refine HF.out.mono ?_
        rintro e w1 ⟨rfl, hb1⟩
        go_wp2_with fail
        go_ret
        exact ⟨rfl, HP.out _ hb1⟩
      | true =>
        have hS : lineStep m c = { m with line := m.line ++ [c] } := by unfold lineStep; rw [if_neg (by rw [hcr]; decide), if_neg hc, if_pos hf]
        rw [hf] at HF
        have hen : errN { m with line := m.line ++ [c] } = 0 := by
          rcases hph with hp | hp | ⟨n, hp, _⟩ <;> (unfold errN; simp only [hp])
        rw [hS, hen]
        have HS := Lib.hid (CS.start h)
        have HPt : Hid (parted (m.line ++ [c]) = (r.part || (((c.toNat : Int) == 59) || ((c.toNat : Int) == 58)))) := Lib.hid (by
          rw [parted_snoc, hr.part]
          have e1 : ((c.toNat : Int) == 59) = (c == 59) := by rw [Bool.eq_iff_iff, beq_iff_eq, beq_iff_eq]; exact toNat_eq c 59
          have e2 : ((c.toNat : Int) == 58) = (c == 58) := by rw [Bool.eq_iff_iff, beq_iff_eq, beq_iff_eq]; exact toNat_eq c 58
          rw [e1, e2])
        clear hS hcr hph hf h
        go_enter Tryz.func72, Tryz.ntmps72
        go_wp2_with fail
        refine HF.out.mono ?_
        rintro e w1 ⟨rfl, hb1⟩
        replace HS := Lib.hid (HS.out.call hb1)
        have HA : Hid (CS w F (w1.alloc (.cells #[.int .u8 (c.toNat : Int)] 5)) F g m.most r v) := Lib.hid (HS.out.call ((Below.refl _ _).alloc (Nat.le_refl _) _))
        have d4 := HA.out.cod.c4
        have e4 := HS.out.cod.c4
        have hrow := HA.out.cod.row
        have hll : r.line.length ≤ 512 := by rw [hr.line]; exact hl
        clear HF hb1 d6 z6 HS
        obtain ⟨i0, hi, hx0⟩ : ∃ i0, Tryz.prog.info? 5 = some i0 ∧ (i0.zero, i0.size, i0.bytes) = (some (.int .u8 0), 1, 1) := by
          have := infoB
          cases hq : Tryz.prog.info? 5 with
          | none => rw [hq] at this; cases this
          | some i0 => rw [hq] at this; exact ⟨i0, rfl, Option.some.inj this⟩
        injection hx0 with hz0 hx1
        injection hx1 with hz1 hz2
        go_wp2_with (at_builtin; refine wpList_append_own_at _ rfl (.tmp 36) (.tmp 38) 28 rfl 0 5 i0 (.int .u8 0) 1 1 Tryz.underlying28 hi hz0 hz1 hz2 rfl (by decide) _ _ _ rfl hrow ⟨w1.heap.size, 0, none⟩ 1 1 [.int .u8 (c.toNat : Int)] rfl rfl (cell_one_new _ _ _) (fun x hx => by simp at hx; subst hx; rfl) (by unfold maxLen; omega) (by omega) (Nat.zero_le _) ?_; intro v4 w4 hown4 hg4 _ hat4; obtain ⟨q4, z4⟩ := CS.after HA.out hg4; obtain ⟨p4, cap4, rfl, _⟩ := row_form hown4; have HQ := Lib.hid (CS.append HA.out hg4 (l := r.line ++ [c]) (by rw [List.length_append, bvs_append]; exact hown4) hat4 (by simp)); have c5 := HQ.out.cod.c5; have y5 := HQ.out.cod.free 5; clear hown4 hg4 hat4 hrow d4 e4)
        all_goals
          go_ret
          refine ⟨rfl, _, _, _, PChLine.CS.setPart HQ.out _, href, fun _ => ⟨hr.size, hr.next, hr.left, (by show r.line ++ [c] = m.line ++ [c]; rw [hr.line]), ?_, hr.cr, hr.trail, hr.none⟩⟩
          show _ = parted (m.line ++ [c])
          rw [HPt.out]
          clear HQ HA HPt
        all_goals dsimp only
        all_goals clear q4 z4 c5 y5 hi hz0 hz1 hz2 hll hen hc hl hz href hr
        all_goals simp [*]
end Go.Proofs.YtggmafmebocoaaaGreatDoor.PChLine

/-
  DERIVED: THE SHELF's CONTRACTS AT THIS DUMP, IN PLAIN WORDS (tools/lay-plain.mjs out of 'YtggmafmebocoaaaGreatDoorBuildLaysT.lean', which tools/lay-shelf.mjs wrote): THE SAME DECLARATIONS UNDER THE SAME NAMES: 'import', 'namespace', 'open', 'def', 'theorem' AND NOTHING ELSE: no command of the shelf's: FOR A HAND-IN. Each laying: the table of numbers ('.._ren') and one theorem, a field a fact of the dump's own or the kernel's comparison; each contract: ONE APPLICATION.
-/
namespace Go.Proofs
open Go.Shelf
def Tryz.lays166_ren : Go.Shelf.Ren := ⟨fun | 166 => 22 | 240 => 30 | 276 => 44 | n => n, fun | 70 => 50 | 9 => 9 | 3 => 3 | 75 => 57 | 0 => 0 | 72 => 52 | 37 => 28 | 4 => 4 | 164 => 76 | 80 => 43 | 5 => 5 | n => n, fun | n => n⟩
theorem Tryz.lays166 : Go.Proofs.Lays.n166 Tryz.prog Tryz.lays166_ren := {
  mixed := by kernel_rfl
  f166 := Tryz.func22.trans (congrArg some (by kernel_rfl))
  f240 := Tryz.func30.trans (congrArg some (by kernel_rfl))
  f276 := Tryz.func44.trans (congrArg some (by kernel_rfl))
  t0 := Tryz.underlying0
  a0 := Tryz.isAgg0
  z0 := Tryz.sizeOf0
  v0 := Tryz.zeroValue0
  t3 := Tryz.underlying3
  a3 := Tryz.isAgg3
  z3 := Tryz.sizeOf3
  v3 := Tryz.zeroValue3
  t4 := Tryz.underlying4
  a4 := Tryz.isAgg4
  z4 := Tryz.sizeOf4
  v4 := Tryz.zeroValue4
  t9 := Tryz.underlying9
  a9 := Tryz.isAgg9
  z9 := Tryz.sizeOf9
  v9 := Tryz.zeroValue9
  t20 := Tryz.underlying20
  a20 := Tryz.isAgg20
  z20 := Tryz.sizeOf20
  v20 := Tryz.zeroValue20
  t37 := Tryz.underlying28
  a37 := Tryz.isAgg28
  z37 := Tryz.sizeOf28
  v37 := Tryz.zeroValue28
  t70 := Tryz.underlying50
  a70 := Tryz.isAgg50
  z70 := Tryz.sizeOf50
  v70 := Tryz.zeroValue50
  t72 := Tryz.underlying52
  a72 := Tryz.isAgg52
  z72 := Tryz.sizeOf52
  v72 := Tryz.zeroValue52
  t75 := Tryz.underlying57
  a75 := Tryz.isAgg57
  z75 := Tryz.sizeOf57
  v75 := Tryz.zeroValue57
  t164 := Tryz.underlying76
  a164 := Tryz.isAgg76
  z164 := Tryz.sizeOf76
  v164 := Tryz.zeroValue76 }
def Tryz.lays169_ren : Go.Shelf.Ren := ⟨fun | 169 => 31 | n => n, fun | 70 => 50 | 9 => 9 | 0 => 0 | 72 => 52 | 37 => 28 | 127 => 78 | 3 => 3 | 5 => 5 | n => n, fun | n => n⟩
theorem Tryz.lays169 : Go.Proofs.Lays.n169 Tryz.prog Tryz.lays169_ren := {
  mixed := by kernel_rfl
  f169 := Tryz.func31.trans (congrArg some (by kernel_rfl))
  t0 := Tryz.underlying0
  a0 := Tryz.isAgg0
  z0 := Tryz.sizeOf0
  v0 := Tryz.zeroValue0
  t3 := Tryz.underlying3
  a3 := Tryz.isAgg3
  z3 := Tryz.sizeOf3
  v3 := Tryz.zeroValue3
  t9 := Tryz.underlying9
  a9 := Tryz.isAgg9
  z9 := Tryz.sizeOf9
  v9 := Tryz.zeroValue9
  t37 := Tryz.underlying28
  a37 := Tryz.isAgg28
  z37 := Tryz.sizeOf28
  v37 := Tryz.zeroValue28
  t70 := Tryz.underlying50
  a70 := Tryz.isAgg50
  z70 := Tryz.sizeOf50
  v70 := Tryz.zeroValue50
  t72 := Tryz.underlying52
  a72 := Tryz.isAgg52
  z72 := Tryz.sizeOf52
  v72 := Tryz.zeroValue52
  t127 := Tryz.underlying78
  a127 := Tryz.isAgg78
  z127 := Tryz.sizeOf78
  v127 := Tryz.zeroValue78 }
end Go.Proofs

/- A strings.Builder that a call has made itself: its writes and its text, in the words of lists of bytes. -/
namespace Go.Proofs.YtggmafmebocoaaaGreatDoor.PBuildT
open Go.ChangeShapes Go.WideShapes Go.ChangeAt Go.RowKit Bytes
theorem extra166 : Builder.Extra Tryz.prog Tryz.lays166_ren := {
  sizeBuilder := by kernel_rfl
  liesBuilder := by kernel_rfl
  t5 := Tryz.underlying5
  a5 := Tryz.isAgg5
  z5 := Tryz.sizeOf5
  v5 := Tryz.zeroValue5
  infoByte := by kernel_rfl
  cellsByte := by kernel_rfl
  sizeByte := by kernel_rfl
  neB5 := by decide }
theorem extra169 : Builder.Extra Tryz.prog Tryz.lays169_ren := {
  sizeBuilder := by kernel_rfl
  liesBuilder := by kernel_rfl
  t5 := Tryz.underlying5
  a5 := Tryz.isAgg5
  z5 := Tryz.sizeOf5
  v5 := Tryz.zeroValue5
  infoByte := by kernel_rfl
  cellsByte := by kernel_rfl
  sizeByte := by kernel_rfl
  neB5 := by decide }
/-- the builder in block b, made by the call that began in world w, holds acc -/
def Bld (w : World) (b : Nat) (acc : List UInt8) (wr : World) : Prop := Lib.IsBuilder 52 5 w.heap.size b (Lib.byteCells acc) wr ∧ Below w.heap.size w wr
theorem Bld.start (w : World) : Bld w w.heap.size [] (w.alloc (.cells #[.pointer none, .slice none 0 0] 52)) :=
  ⟨Lib.fresh_isBuilder _ _ w, (Below.refl _ w).alloc (Nat.le_refl _) _⟩
theorem at_below {T e : TypeId} {B b : Nat} {p : Value} {bs : List Value} {w w' : World} (h : Lib.BuilderAt T e B b p bs w) (hb : Below w.heap.size w w') : Lib.BuilderAt T e B b p bs w' := by
  obtain ⟨hB, v, hv, hown, hne⟩ := h
  have hlt : b < w.heap.size := (Array.getElem?_eq_some_iff.1 hv).1
  refine ⟨hB, v, by rw [hb.block b hlt]; exact hv, ⟨hown.1, ?_⟩, hne⟩
  rcases hown.2 with h0 | ⟨g, cap, cur, h1, h2, h3, h4⟩
  · exact .inl h0
  · exact .inr ⟨g, cap, cur, h1, h2, by rw [hb.block g (Array.getElem?_eq_some_iff.1 h3).1]; exact h3, h4⟩
theorem Bld.keep {w wr w' : World} {b : Nat} {acc : List UInt8} (h : Bld w b acc wr) (hb : Below wr.heap.size wr w') : Bld w b acc w' :=
  ⟨h.1.elim (fun x => .inl (at_below x hb)) (fun x => .inr (at_below x hb)), ⟨hb.os.trans h.2.os, hb.tape.trans h.2.tape, hb.output.trans h.2.output, Nat.le_trans h.2.size hb.size, fun i hi => (hb.block i (Nat.lt_of_lt_of_le hi h.2.size)).trans (h.2.block i hi)⟩⟩
theorem bld_text {w wr : World} {b : Nat} {acc : List UInt8} (h : Bld w b acc wr) (s : ByteArray) (hl : acc.length + s.size ≤ 140737488355328) :
    Calls Tryz.prog 22 #[.pointer (some ⟨b, 0, none⟩), .string s] wr fun e w' => e = .returned (.tuple #[.int .i64 s.size, .nilIface]) ∧ Bld w b (acc ++ toL s) w' := by
  refine (Any.Builder_WriteString Tryz.lays166 extra166 w.heap.size b _ s wr h.1 (by rw [Lib.byteCells_length]; exact hl) h.2.size).mono ?_
  rintro e w' ⟨rfl, h1, h2⟩
  refine ⟨rfl, ?_, h.2.trans h2⟩
  rw [Lib.byteCells_append]
  exact .inr h1
theorem bld_out {w wr : World} {b : Nat} {acc : List UInt8} (h : Bld w b acc wr) :
    Calls Tryz.prog 31 #[.pointer (some ⟨b, 0, none⟩)] wr fun e w' => e = .returned (.string (ofL acc)) ∧ Below w.heap.size w w' := by
  refine (Any.Builder_String_any Tryz.lays169 extra169 w.heap.size b acc wr h.1 h.2.size).mono ?_
  rintro e w' ⟨rfl, h2⟩
  exact ⟨rfl, h.2.trans h2⟩
end Go.Proofs.YtggmafmebocoaaaGreatDoor.PBuildT

/- Layer 10 of the program: a chunk's bytes, and the builder beside the decoder. -/
namespace Go.Proofs.YtggmafmebocoaaaGreatDoor.PChPart
open Go.ChangeShapes Go.WideShapes Go.ChangeAt Go.RowKit Bytes LexPure LexNum HeadPure ChunkPure ChunkText ChObj Mem Step Ret Rows1 PChLine PBuildT
set_option maxRecDepth 20000
theorem run_part : ∀ (l : List UInt8) (m : M) (k : Nat), m.ph = .data k → l.length < k → run m l = (⟨m.most, m.size + l.length, .data (k - l.length), m.line, m.cr⟩, l, l.length)
  | [], m, k, hp, _ => by
    show (m, [], 0) = ((⟨m.most, m.size, .data k, m.line, m.cr⟩ : M), [], 0)
    rw [← hp]
  | c :: l, m, k, hp, hl => by
    rw [List.length_cons] at hl
    have hs : stop m = false := by unfold stop; rw [hp]
    rw [run_cons hs]
    have h1 : bstep m c = (⟨m.most, m.size + 1, .data (k - 1), m.line, m.cr⟩, [c]) := by
      unfold bstep
      rw [hp]
      show ((⟨m.most, m.size + 1, if k ≤ 1 then Ph.after else Ph.data (k - 1), m.line, m.cr⟩ : M), [c]) = _
      rw [if_neg (by omega)]
    rw [h1]
    have ih := run_part l ⟨m.most, m.size + 1, .data (k - 1), m.line, m.cr⟩ (k - 1) rfl (by omega)
    rw [ih]
    simp only [List.length_cons]
    have e1 : m.size + 1 + l.length = m.size + (l.length + 1) := by omega
    have e2 : k - 1 - l.length = k - (l.length + 1) := by omega
    rw [e1, e2]
    rfl
/-- n bytes of a chunk more -/
def more (m : M) (k n : Nat) : M := ⟨m.most, m.size + n, if n = k then .after else .data (k - n), m.line, m.cr⟩
theorem run_more {m : M} {k : Nat} {l : List UInt8} (hp : m.ph = .data k) (hl : l.length ≤ k) (h0 : l ≠ []) : run m l = (more m k l.length, l, l.length) := by
  unfold more
  by_cases h : l.length = k
  · rw [if_pos h]
    exact run_data l m (by rw [h]; exact hp) h0
  · rw [if_neg h]
    exact run_part l m k hp (by omega)
set_option maxHeartbeats 1600000 in
/-- countBytes -/
theorem pcount_any {w : World} {F : Nat → Prop} {g : Nat} {r : Raw} {v : Value} {m : M} {k n : Nat} (h : Cod w F g m.most r v) (hr : Rel r m) (href : r.ref = 0) (hp : m.ph = .data k) (hn : n ≤ k) (hk : k < 4294967296) (hz : (m.size : Int) + n ≤ 9223372036854775807) :
    Calls Tryz.prog 71 #[.pointer (some ⟨g, 0, none⟩), .int .i64 n] w fun e w' => e = .returned (.tuple #[]) ∧ ∃ r', CS w F w' F g m.most r' v ∧ Out r' (more m k n) := by
  have d1 := h.c1
  have d3 := h.c3
  have d2 := h.c2
  have z1 := h.free 1
  have z2 := h.free 2
  have z3 := h.free 3
  rw [hr.size] at d1
  rw [hr.left k hp] at d3
  have ht : r.trail = 0 := hr.none (by rw [hr.next, hp]; show (1 : Int) ≤ 2; decide)
  have h1 := ((CS.start h).set 1 (.int .i64 ((m.size : Int) + n)) { r with size := (m.size : Int) + n } rfl rfl).set 3 (.int .i64 ((k : Int) - n)) { r with size := (m.size : Int) + n, left := (k : Int) - n } rfl rfl
  have b1 : (0 : Int) ≤ (m.size : Int) := by omega
  have b2 : (m.size : Int) + n ≤ 9223372036854775807 := by omega
  have b3 : (0 : Int) ≤ (n : Int) := by omega
  have b4 : (n : Int) ≤ (k : Int) := by omega
  have b5 : (k : Int) ≤ 4294967295 := by omega
  by_cases he : n = k
  · subst he
    rw [Int.sub_self] at h1
    have HP : Hid (∃ r', CS w F ((((w.setCell ⟨g, 1, none⟩ (.int .i64 ((m.size : Int) + n))).setCell ⟨g, 3, none⟩ (.int .i64 0)).setCell ⟨g, 2, none⟩ (.int .i64 2))) F g m.most r' v ∧ Out r' (more m n n)) := Lib.hid
      ⟨_, h1.set 2 (.int .i64 2) { r with size := (m.size : Int) + n, left := 0, next := 2 } rfl rfl, href, fun _ => by
        unfold more
        rw [if_pos rfl]
        exact ⟨by show (m.size : Int) + n = ((m.size + n : Nat) : Int); omega, rfl, fun n hn => (by cases hn), hr.line, hr.part, hr.cr, fun n hn => (by cases hn), fun _ => ht⟩⟩
    clear h hr h1
    go_enter Tryz.func71, Tryz.ntmps71
    go_wp2_with fail
    go_end0
    exact ⟨rfl, HP.out⟩
  · have hei : ((k : Int) - (n : Int) == 0) = false := beq_eq_false_iff_ne.2 (by omega)
    replace hk : k ≤ 4294967295 := by omega
    have HP : Hid (∃ r', CS w F (((w.setCell ⟨g, 1, none⟩ (.int .i64 ((m.size : Int) + n))).setCell ⟨g, 3, none⟩ (.int .i64 ((k : Int) - n)))) F g m.most r' v ∧ Out r' (more m k n)) := Lib.hid
      ⟨_, h1, href, fun _ => by
        unfold more
        rw [if_neg he]
        exact ⟨by show (m.size : Int) + n = ((m.size + n : Nat) : Int); omega, by show r.next = 1; rw [hr.next, hp]; rfl, fun j hj => (by cases hj; show (k : Int) - n = ((k - n : Nat) : Int); omega), hr.line, hr.part, hr.cr, fun n hn => (by cases hn), fun _ => ht⟩⟩
    clear h hr h1
    go_enter Tryz.func71, Tryz.ntmps71
    go_wp2_with fail
    go_end0
    exact ⟨rfl, HP.out⟩
/-! ### the builder beside it -/
/-- the builder in block b holds acc; none of its blocks is F's -/
structure Bl (B b : Nat) (acc : List UInt8) (F : Nat → Prop) (w : World) : Prop where
  is : ∃ p v, B ≤ b ∧ w.heap[b]? = some (.cells #[p, v] 52 (0, 0)) ∧ w.ownsRow B 5 1 v (Lib.byteCells acc).length (Lib.byteCells acc) ∧ v.ownBlock ≠ some b ∧ (p = .pointer none ∨ p = .pointer (some ⟨b, 0, none⟩)) ∧ ¬ F b ∧ ∀ j, v.ownBlock = some j → ¬ F j
  size : B ≤ w.heap.size
theorem Bl.builder {B b : Nat} {acc : List UInt8} {F : Nat → Prop} {w : World} (h : Bl B b acc F w) : Lib.IsBuilder 52 5 B b (Lib.byteCells acc) w := by
  obtain ⟨p, v, h1, h2, h3, h4, h5, _⟩ := h.is
  rcases h5 with rfl | rfl
  · exact .inl ⟨h1, v, h2, h3, h4⟩
  · exact .inr ⟨h1, v, h2, h3, h4⟩
theorem Bl.start (w : World) {F : Nat → Prop} (hF : ∀ k, F k → k < w.heap.size) : Bl w.heap.size w.heap.size [] F (w.alloc (.cells #[.pointer none, .slice none 0 0] 52)) :=
  ⟨⟨.pointer none, .slice none 0 0, Nat.le_refl _, heap_alloc_new w _, World.ownsRow_nil _ _ _ _, by simp [Value.ownBlock], .inl rfl, fun h => by have := hF _ h; omega, fun j hj => by simp [Value.ownBlock] at hj⟩, by simp⟩
theorem Bl.step {B b : Nat} {acc : List UInt8} {F F' : Nat → Prop} {w w' : World} (h : Bl B b acc F w) (hs : Step w w' F F') : Bl B b acc F' w' := by
  obtain ⟨p, v, h1, h2, h3, h4, h5, h6, h7⟩ := h.is
  have hlt : b < w.heap.size := (Array.getElem?_eq_some_iff.1 h2).1
  refine ⟨⟨p, v, h1, by rw [hs.block b hlt h6]; exact h2, hs.row h3 h7, h4, h5, fun h => ?_, fun j hj h => ?_⟩, Nat.le_trans h.size hs.size⟩
  · rcases hs.grow b h with q | q
    · exact h6 q
    · omega
  · rcases hs.grow j h with q | q
    · exact h7 j hj q
    · have := row_lt h3 hj
      omega
theorem Bl.less {B b : Nat} {acc : List UInt8} {F G : Nat → Prop} {w : World} (h : Bl B b acc F w) (hG : ∀ k, G k → F k) : Bl B b acc G w := by
  obtain ⟨p, v, h1, h2, h3, h4, h5, h6, h7⟩ := h.is
  exact ⟨⟨p, v, h1, h2, h3, h4, h5, fun q => h6 (hG b q), fun j hj q => h7 j hj (hG j q)⟩, h.size⟩
/-- a write: the decoder is one block below -/
theorem Bl.write {B b g : Nat} {acc : List UInt8} {F : Nat → Prop} {w : World} (h : Bl B b acc F w) (hg : g < B) (s : ByteArray) (hl : acc.length + s.size ≤ 140737488355328) :
    Calls Tryz.prog 22 #[.pointer (some ⟨b, 0, none⟩), .string s] w fun e w' => e = .returned (.tuple #[.int .i64 s.size, .nilIface]) ∧ Bl B b (acc ++ toL s) (fun k => k = g) w' ∧ Below B w w' := by
  refine (Any.Builder_WriteString Tryz.lays166 extra166 B b _ s w h.builder (by rw [Lib.byteCells_length]; exact hl) h.size).mono ?_
  rintro e w' ⟨rfl, h1, h2⟩
  refine ⟨rfl, ?_, h2⟩
  obtain ⟨q1, v, q2, q3, q4⟩ := h1
  refine ⟨⟨_, v, q1, q2, ?_, q4, .inr rfl, fun e => by omega, fun j hj e => ?_⟩, Nat.le_trans h.size h2.size⟩
  · rw [Lib.byteCells_append]
    exact q3
  · have := (q3.lt j hj).1
    omega
theorem Bl.out {B b : Nat} {acc : List UInt8} {F : Nat → Prop} {w : World} (h : Bl B b acc F w) :
    Calls Tryz.prog 31 #[.pointer (some ⟨b, 0, none⟩)] w fun e w' => e = .returned (.string (ofL acc)) ∧ Below B w w' :=
  Any.Builder_String_any Tryz.lays169 extra169 B b acc w h.builder h.size
/-- what lies from the call's first new block on may turn, while there is no line -/
theorem CS.write {w W W' : World} {F F' : Nat → Prop} {g : Nat} {most : Int} {r : Raw} {v : Value} (h : CS w F W F' g most r v) (hl : r.line = []) (hg : g < w.heap.size) (hb : Below w.heap.size W W') : CS w F W' (fun k => k = g) g most r v := by
  have hn := h.cod.nil hl
  subst hn
  refine ⟨h.cod.alone.far (G := fun k => w.heap.size ≤ k) (G' := fun k => w.heap.size ≤ k) ⟨hb.os, hb.tape, hb.output, hb.size, fun k hk hn => hb.block k (by omega), fun _ h => .inl h⟩ (fun k hk hn => by omega), ?_⟩
  exact (h.step.less (G := fun k => k = g) (fun k hk => by rw [hk]; exact h.cod.mine)).beyond (G := fun k => w.heap.size ≤ k) (G' := fun k => w.heap.size ≤ k) ⟨hb.os, hb.tape, hb.output, hb.size, fun k hk hn => hb.block k (by omega), fun _ h => .inl h⟩ (fun j hj => hj)
end Go.Proofs.YtggmafmebocoaaaGreatDoor.PChPart

/- strings.Builder's String beside another row of the call's own: only the builder's row turns. -/
namespace Go.Proofs.YtggmafmebocoaaaGreatDoor.PChStr
open Go.ChangeShapes Go.WideShapes Go.ChangeAt Go.RowKit Bytes Mem Step Rows1 PBuildT PChPart
set_option maxRecDepth 100000
theorem freeze_far (w : World) (p : Addr) (n k : Nat) (h : k ≠ p.block) : (w.freeze p n).heap[k]? = w.heap[k]? := by
  unfold World.freeze
  split
  · rfl
  · simp only [Array.getElem?_modify]
    rw [if_neg (fun e => h e.symm)]
theorem freeze_size (w : World) (p : Addr) (n : Nat) : (w.freeze p n).heap.size = w.heap.size := by
  unfold World.freeze
  split <;> simp
theorem freeze_rest (w : World) (p : Addr) (n : Nat) : (w.freeze p n).os = w.os ∧ (w.freeze p n).tape = w.tape ∧ (w.freeze p n).output = w.output := by
  unfold World.freeze
  split <;> exact ⟨rfl, rfl, rfl⟩
theorem freeze_step (w : World) (g n : Nat) : Step w (w.drew.freeze ⟨g, 0, none⟩ n) (fun k => k = g) (fun k => k = g) := by
  obtain ⟨h1, h2, h3⟩ := freeze_rest w.drew ⟨g, 0, none⟩ n
  exact ⟨h1, h2, h3, by rw [freeze_size]; exact Nat.le_refl _, fun k _ hk => freeze_far w.drew ⟨g, 0, none⟩ n k hk, fun _ h => .inl h⟩
set_option maxHeartbeats 2000000 in
theorem str_row {B b g cap : Nat} {p : Value} {l : List UInt8} {w : World} (h0 : 0 < l.length) (hbk : w.heap[b]? = some (.cells #[p, .slice (some ⟨g, 0, none⟩) l.length cap] 52 (0, 0)))
    (hown : w.ownsRow B 5 1 (.slice (some ⟨g, 0, none⟩) l.length cap) l.length (Lib.byteCells l)) :
    Calls Tryz.prog 31 #[.pointer (some ⟨b, 0, none⟩)] w fun e w' => e = .returned (.string (ofL l)) ∧ Step w w' (fun k => k = g) (fun k => k = g) := by
  have hs := freeze_step w g l.length
  have c1 : w.drew.cell? ⟨b, 1, none⟩ = some (.slice (some ⟨g, 0, none⟩) l.length cap) := by
    have : w.drew.heap[b]? = some (.cells #[p, .slice (some ⟨g, 0, none⟩) l.length cap] 52 (0, 0)) := hbk
    rw [Lib.cell_of_heap this]; rfl
  rcases hown.2 with ⟨hv, _⟩ | ⟨g2, cap2, cur, hv, hbg, hg, hlc, hcm, hcs, htk⟩
  · cases hv
  · injection hv with e1 e2 e3
    injection e1 with e1
    injection e1 with e1
    subst e1
    subst e3
    have hSD : (Builtin.unsafeSliceData_ #[28] 78 #[.slice (some ⟨g, 0, none⟩) l.length cap]).run Tryz.prog w.drew = .ok (.pointer (some ⟨g, 0, none⟩)) w.drew :=
      Lib.run_unsafeSliceData_row _ _ _ _ _ _ (by omega)
    have hUS : (Builtin.unsafeString_ #[78, 3] 9 #[.pointer (some ⟨g, 0, none⟩), .int .i64 l.length]).run Tryz.prog w.drew = .ok (.string ⟨l.toArray⟩) (w.drew.freeze ⟨g, 0, none⟩ l.length) := by
      refine Lib.run_unsafeString_row w.drew 78 3 9 5 Tryz.underlying78 (by kernel_rfl) g cur.size (by have hg' : w.drew.heap[g]? = some (.cells cur 5 (0, 0)) := hg; simp [World.shape?, hg']) l (by intro e; rw [e] at h0; simp at h0) (by omega) (by unfold maxLen at hcm; omega) ?_
      intro j x hx
      exact hown.cells (g := g) rfl j (.int .u8 x.toNat) (by simp [Lib.byteCells, hx])
    replace hs := Lib.hid hs
    clear hg hcs htk hlc hcm hown hbk
    go_enter Tryz.func31, Tryz.ntmps31
    go_wp2_with fail
    go_region
    all_goals
      go_wp2_with fail
      go_ret
      exact ⟨rfl, hs.out⟩
theorem Bl.text {B b : Nat} {acc : List UInt8} {F : Nat → Prop} {w : World} (h : Bl B b acc F w) :
    Calls Tryz.prog 31 #[.pointer (some ⟨b, 0, none⟩)] w fun e w' => e = .returned (.string (ofL acc)) ∧ ∃ G, Step w w' G G ∧ ∀ k, G k → B ≤ k ∧ ¬ F k := by
  obtain ⟨p, v, h1, h2, h3, h4, h5, h6, h7⟩ := h.is
  cases acc with
  | nil =>
    have key : ∀ (e : Ending) (w' : World), (e = .returned (.string ⟨#[]⟩) ∧ Below w.heap.size w w') → e = .returned (.string (ofL [])) ∧ ∃ G, Step w w' G G ∧ ∀ k, G k → B ≤ k ∧ ¬ F k :=
      fun e w' ⟨q1, q2⟩ => ⟨q1, fun _ => False, Step.of_below q2 _, fun _ h => h.elim⟩
    rcases h3.2 with ⟨rfl, _⟩ | ⟨g, cap, cur, rfl, hbg, hg, _, _, _, _⟩
    · exact (Any.Builder_String_nil Tryz.lays169 extra169 w.heap.size b p w h2).mono key
    · by_cases hc0 : cap = 0
      · subst hc0
        exact (Any.Builder_String_noroom Tryz.lays169 extra169 w.heap.size b g p cur w (Nat.le_refl _) h2 hg).mono key
      · exact (Any.Builder_String_room Tryz.lays169 extra169 w.heap.size b g cap p w hc0 h2).mono key
  | cons x r =>
    have hl : (Lib.byteCells (x :: r)).length = (x :: r).length := Lib.byteCells_length _
    rw [hl] at h3
    rcases h3.2 with ⟨_, q⟩ | ⟨g, cap, cur, hv, hbg, rest⟩
    · cases q
    · subst hv
      refine (str_row (l := x :: r) (by simp) h2 h3).mono ?_
      rintro e w' ⟨rfl, hs⟩
      exact ⟨rfl, _, hs, fun k hk => by rw [hk]; exact ⟨hbg, h7 g rfl⟩⟩
end Go.Proofs.YtggmafmebocoaaaGreatDoor.PChStr

/- Layer 10 of the program: Feed. -/
namespace Go.Proofs.YtggmafmebocoaaaGreatDoor.ChunkObj
open Go.ChangeShapes Go.WideShapes Go.ChangeAt Go.RowKit Bytes LexPure LexNum HeadPure ChunkPure ChunkText ChObj Mem Step Ret Rows1 PChLine PBuildT PChPart PChStr
set_option maxRecDepth 20000
theorem results_tmp4 {fn : Func} {t u v x : Tmp} (h : fn.results = #[.tmp t, .tmp u, .tmp v, .tmp x]) (tmps : Array Value) (P : Program) (w : World) :
    (results fn tmps).run P w = .ok (.tuple #[tmps.getD t undef, tmps.getD u undef, tmps.getD v undef, tmps.getD x undef]) w := by
  simp [results, h]
/-- while a chunk's bytes are read there is no line -/
def Bare (m : M) : Prop := ∀ n, m.ph = .data n → m.line = [] ∧ n < 4294967296
theorem Bare.start (most : Int) : Bare (begin_ most) := fun n h => by cases h
theorem Bare.fail (m : M) (e : Int) : Bare (fail m e) := fun n h => by cases h
theorem Bare.line {m : M} (h : Bare m) (c : UInt8) : Bare (lineStep m c) := by
  unfold lineStep
  split
  · split
    · unfold endLine
      split
      · split
        · exact Bare.fail _ _
        · split
          · exact Bare.fail _ _
          · split
            · exact fun n h => by cases h
            · intro n hn
              refine ⟨rfl, ?_⟩
              have hn2 : Ph.data (sizeL m.line).toNat = Ph.data n := hn
              injection hn2 with hn3
              rcases PChEnd.sizeL_say m.line with ⟨_, q⟩ | ⟨_, _, _, q⟩ <;> omega
      · exact fun n h => by cases h
      · split
        · exact fun n h => by cases h
        · split
          · exact Bare.fail _ _
          · exact fun n h => by cases h
      · exact h
    · exact Bare.fail _ _
  · split
    · exact h
    · split
      · rename_i hf
        intro n hn
        exfalso
        have hn2 : m.ph = .data n := hn
        unfold fits at hf
        rw [hn2] at hf
        cases hf
      · exact Bare.fail _ _
theorem Bare.more {m : M} (h : Bare m) {k : Nat} (hp : m.ph = .data k) (n : Nat) : Bare (more m k n) := by
  intro j hj
  obtain ⟨h1, h2⟩ := h k hp
  refine ⟨h1, ?_⟩
  have hj2 : (if n = k then Ph.after else Ph.data (k - n)) = Ph.data j := hj
  split at hj2
  · cases hj2
  · injection hj2 with hj3
    omega
/-- block g, and those of F, hold a decoder that stands at m -/
structure Dec (w : World) (F : Nat → Prop) (g : Nat) (m : M) : Prop where
  is : ∃ r v, Cod w F g m.most r v ∧ r.ref = errN m ∧ (good m = true → Rel r m)
  told : ChunkPure.Told m
  bare : Bare m
  range : InR m.most
/-- k bytes of s have been read -/
structure Mid (w : World) (F : Nat → Prop) (g : Nat) (m : M) (s : ByteArray) (b k : Nat) (m' : M) (acc : List UInt8) (F' : Nat → Prop) (r : Raw) (v : Value) (W : World) : Prop where
  cs : CS w F W F' g m'.most r v
  ref : r.ref = errN m'
  rel : good m' = true → Rel r m'
  told : ChunkPure.Told m'
  bare : Bare m'
  ok : Ok m'
  ran : ChunkPure.run m ((toL s).take k) = (m', acc, k)
  size : m'.size ≤ m.size + k
  bl : Bl w.heap.size b acc F' W
  range : InR m'.most
def MidF (w : World) (F : Nat → Prop) (g : Nat) (m : M) (s : ByteArray) (b k : Nat) (W : World) : Prop := ∃ m' acc F' r v, Mid w F g m s b k m' acc F' r v W
section
variable {w W : World} {F F' : Nat → Prop} {g b k : Nat} {m m' : M} {s : ByteArray} {acc : List UInt8} {r : Raw} {v : Value}
theorem Mid.start (h : Dec w F g m) (hok : Ok m) (s : ByteArray) : MidF w F g m s w.heap.size 0 (w.alloc (.cells #[.pointer none, .slice none 0 0] 52)) := by
  obtain ⟨r, v, h1, h2, h3⟩ := h.is
  exact ⟨m, [], F, r, v, (CS.start h1).call ((Below.refl _ _).alloc (Nat.le_refl _) _), h2, h3, h.told, h.bare, hok, by rw [List.take_zero]; rfl, Nat.le_refl _, Bl.start w h1.lt, h.range⟩
/-- the bytes of a chunk -/
theorem Mid.data (h : Mid w F g m s b k m' acc F' r v W) {left n : Nat} (hp : m'.ph = .data left) (hn : n ≤ left) (h0 : 0 < n) (hk : k + n ≤ s.size) {W1 w2 : World} {r2 : Raw}
    (hb : Below w.heap.size W W1) (hg : g < w.heap.size) (hbl : Bl w.heap.size b (acc ++ ((toL s).drop k).take n) (fun k => k = g) W1) (hc : CS W1 (fun k => k = g) w2 (fun k => k = g) g m'.most r2 v) (ho : Out r2 (more m' left n)) :
    Mid w F g m s b (k + n) (more m' left n) (acc ++ ((toL s).drop k).take n) (fun k => k = g) r2 v w2 := by
  have hgd : good m' = true := by unfold good; rw [hp]
  have hl : (((toL s).drop k).take n).length = n := by rw [List.length_take, List.length_drop, toL_length]; omega
  have hr := run_more (m := m') (l := ((toL s).drop k).take n) hp (by rw [hl]; exact hn) (fun e => by rw [e] at hl; simp at hl; omega)
  rw [hl] at hr
  have hran : ChunkPure.run m ((toL s).take (k + n)) = (more m' left n, acc ++ ((toL s).drop k).take n, k + n) := by
    rw [List.take_add, run_append, h.ran]
    simp only
    rw [hr]
  have hok : Ok (more m' left n) := by
    have := h.ok.run (((toL s).drop k).take n)
    rw [hr] at this
    exact this
  have hgm : good (more m' left n) = true := by
    unfold more good
    by_cases e : n = left
    · simp only [if_pos e]
    · simp only [if_neg e]
  exact ⟨(CS.write h.cs (by rw [(h.rel hgd).line]; exact (h.bare left hp).1) hg hb).then hc, by rw [ho.ref, errN_good hgm], ho.rel, (by have := h.told.run (((toL s).drop k).take n); rw [hr] at this; exact this), h.bare.more hp n, hok, hran, by
    have := h.size
    show m'.size + n ≤ _
    omega, hbl.step hc.step, h.range⟩
/-- a byte of a line -/
theorem Mid.byte (h : Mid w F g m s b k m' acc F' r v W) (hs : stop m' = false) (hnd : ∀ n, m'.ph ≠ .data n) (hk : k < s.size) {w2 : World} (hc : CSF W F' w2 g m'.most (lineStep m' s[k])) :
    MidF w F g m s b (k + 1) (w2.setCell ⟨g, 8, none⟩ (.int .i64 (errN (lineStep m' s[k])))) := by
  obtain ⟨F2, r2, v2, k1, k2⟩ := hc
  have hbs : bstep m' s[k] = (lineStep m' s[k], []) := by
    unfold bstep
    split
    · rename_i q
      exact absurd q (hnd _)
    · rename_i q
      unfold stop at hs
      rw [q] at hs
      cases hs
    · rename_i q
      unfold stop at hs
      rw [q] at hs
      cases hs
    · rfl
  have hz := step_size m' s[k]
  rw [hbs] at hz
  have hst := k1.set 8 (.int .i64 (errN (lineStep m' s[k]))) { r2 with ref := errN (lineStep m' s[k]) } rfl rfl
  have hmost : m'.most = (lineStep m' s[k]).most := hz.2.symm
  have h1 := told_step h.told s[k]
  have h2 := h.ok.lineStep s[k]
  rw [hbs] at h1
  refine ⟨lineStep m' s[k], acc, F2, { r2 with ref := errN (lineStep m' s[k]) }, v2, ?_, rfl, fun hg => ?_, h1, h.bare.line _, h2, ?_, ?_, h.bl.step hst.step, by rw [← hmost]; exact h.range⟩
  · have := h.cs.then hst
    rw [hmost] at this
    exact this
  · have q := k2.rel hg
    exact ⟨q.size, q.next, q.left, q.line, q.part, q.cr, q.trail, q.none⟩
  · rw [toL_take_succ s k hk, run_append, h.ran]
    simp only
    rw [run_cons hs, hbs]
    simp [ChunkPure.run]
  · have := h.size
    have h3 : (lineStep m' s[k]).size = m'.size := by rw [hz.1]; rfl
    omega
/-- the end -/
theorem Mid.fin (h : Mid w F g m s b k m' acc F' r v W) (he : k = s.size ∨ stop m' = true) : ChunkPure.run m (toL s) = (m', acc, k) := by
  rcases he with e | e
  · have := h.ran
    rw [toL_take_all s (by omega)] at this
    exact this
  · have := run_append m ((toL s).take k) ((toL s).drop k)
    rw [List.take_append_drop, h.ran] at this
    simp only at this
    rw [run_stop e] at this
    rw [this]
    simp
theorem fin_good {l : List UInt8} (h : ChunkPure.run m l = (m', acc, k)) (hg : good m' = true) : ans m l = (acc, k, whole m', 0) ∧ next m l = m' := by
  have hg2 : good (ChunkPure.run m l).1 = true := by rw [h]; exact hg
  refine ⟨?_, by unfold next; rw [h]⟩
  rw [ans_good hg2, h]
theorem fin_bad {l : List UInt8} (h : ChunkPure.run m l = (m', acc, k)) (hg : good m' = false) : ans m l = ([], 0, false, errN m') ∧ next m l = m' := by
  have hg2 : good (ChunkPure.run m l).1 = false := by rw [h]; exact hg
  refine ⟨?_, by unfold next; rw [h]⟩
  obtain ⟨e, h1, h2⟩ := ans_bad hg2
  rw [h2]
  rw [h] at h1
  unfold errN
  rw [h1]
end
/-- what Feed answers -/
def ansV (r : List UInt8 × Nat × Bool × Int) : Value := .tuple #[.string (ofL r.1), .int .i64 (r.2.1 : Nat), .bool r.2.2.1, .int .i64 r.2.2.2]
/-- a decoder that read on -/
def FedD (w w' : World) (F : Nat → Prop) (g : Nat) (m : M) : Prop := ∃ F', Dec w' F' g m ∧ Step w w' F F'
theorem Mid.fed {w W : World} {F F' : Nat → Prop} {g b k : Nat} {m m' : M} {s : ByteArray} {acc : List UInt8} {r : Raw} {v : Value} (h : Mid w F g m s b k m' acc F' r v W) : FedD w W F g m' :=
  ⟨F', ⟨⟨r, v, h.cs.cod, h.ref, h.rel⟩, h.told, h.bare, h.range⟩, h.cs.step⟩
theorem Dec.step {w w' : World} {F G G' : Nat → Prop} {g : Nat} {m : M} (h : Dec w F g m) (hs : Step w w' G G') (hf : ∀ k, F k → ¬ G k) : Dec w' F g m := by
  obtain ⟨r, v, h1, h2⟩ := h.is
  exact ⟨⟨r, v, h1.far hs hf, h2⟩, h.told, h.bare, h.range⟩
theorem FedD.more {w W W' : World} {F G : Nat → Prop} {g : Nat} {m : M} (h : FedD w W F g m) (hs : Step W W' G G) (hG : ∀ k, ¬ G k) : FedD w W' F g m := by
  obtain ⟨F', h1, h2⟩ := h
  exact ⟨F', h1.step hs (fun k _ => hG k), h2.beyond hs (fun j hj => absurd hj (hG j))⟩
theorem Mid.out {w W W' : World} {F F' G : Nat → Prop} {g b k : Nat} {m m' : M} {s : ByteArray} {acc : List UInt8} {r : Raw} {v : Value} (h : Mid w F g m s b k m' acc F' r v W) (hs : Step W.drew W' G G) (hG : ∀ k, G k → w.heap.size ≤ k ∧ ¬ F' k) : FedD w W' F g m' :=
  have h2 : Step W W' G G := (Step.drew W G).trans hs
  ⟨F', ⟨⟨r, v, h.cs.cod.far h2 (fun k hk hk2 => (hG k hk2).2 hk), h.ref, h.rel⟩, h.told, h.bare, h.range⟩, h.cs.step.beyond h2 (fun j hj => (hG j hj).1)⟩
theorem ph_whole {m : M} (hg : good m = true) : (stop m = true → phN m.ph = 4 ∧ whole m = true) ∧ (stop m = false → (phN m.ph = 0 ∨ phN m.ph = 1 ∨ phN m.ph = 2 ∨ phN m.ph = 3) ∧ whole m = false) := by
  unfold stop whole phN
  unfold good at hg
  cases h : m.ph <;> simp_all
set_option maxHeartbeats 3200000 in
theorem pfeed_any (F : Nat → Prop) (g : Nat) (m : M) (s : ByteArray) (hs : s.size ≤ 211106232532992) (hroom : s.size ≤ 140737488351232 ∨ m.most ≤ 140737488351232) (hok : Ok m) (w : World) (hD : Dec w F g m) :
    Calls Tryz.prog 58 #[.pointer (some ⟨g, 0, none⟩), .string s] w fun e w' => e = .returned (ansV (ans m (toL s))) ∧ FedD w w' F g (next m (toL s)) := by
  have hg : g < w.heap.size := by obtain ⟨r, v, h1, _⟩ := hD.is; exact h1.has.lt
  have HX := Lib.hid (Mid.start hD hok s)
  have HE : Hid (∀ m' acc k, ChunkPure.run m (toL s) = (m', acc, k) → (good m' = true → ans m (toL s) = (acc, k, whole m', 0) ∧ next m (toL s) = m') ∧ (good m' = false → ans m (toL s) = ([], 0, false, errN m') ∧ next m (toL s) = m')) := Lib.hid (fun m' acc k h => ⟨fin_good h, fin_bad h⟩)
  generalize ans m (toL s) = A at *
  generalize next m (toL s) = N at *
  obtain ⟨b, hb⟩ : ∃ b, b = w.heap.size := ⟨_, rfl⟩
  go_enter Tryz.func58, Tryz.ntmps58
  go_wp2_with fail
  generalize w.alloc (.cells #[.pointer none, .slice none 0 0] 52) = W0 at HX ⊢
  rw [← hb] at HX ⊢
  replace hb := Lib.hid hb
  clear hD hok
  go_loopw [9] (fun i wr => ∃ (k : Nat), k ≤ s.size ∧ i = .int .i64 k ∧ Hid (MidF w F g m s b k wr)) (fun i _ => s.size - (intOf i).toNat)
  case atStart => exact ⟨0, Nat.zero_le _, rfl, HX⟩
  case round =>
    obtain ⟨k, hk, rfl, HI⟩ := hrel
    clear HX
    obtain ⟨m', acc, F', r, v, hM⟩ := HI.out
    clear HI
    by_cases hgd : good m' = true
    · have hrel := hM.rel hgd
      have d8 := hM.cs.cod.c8
      rw [hM.ref, errN_good hgd] at d8
      have d2 := hM.cs.cod.c2
      rw [hrel.next] at d2
      have z8 := hM.cs.cod.free 8
      by_cases hend : k = s.size ∨ stop m' = true
      · have hfin := (HE.out m' acc k (hM.fin hend)).1 hgd
        obtain ⟨hA, hN⟩ := hfin
        have HB : Hid (Bl w.heap.size b acc F' wr.drew) := Lib.hid (hM.bl.step (Step.drew wr F'))
        have HO : Hid (∀ W' G, Step wr.drew W' G G → (∀ k, G k → w.heap.size ≤ k ∧ ¬ F' k) → FedD w W' F g N) := Lib.hid (fun W' G hs hG => by rw [hN]; exact hM.out hs hG)
        have HCc : Hid (∀ W' G, Step wr.drew W' G G → (∀ k, G k → w.heap.size ≤ k ∧ ¬ F' k) → W'.cell? ⟨g, 2, none⟩ = wr.drew.cell? ⟨g, 2, none⟩) := Lib.hid (fun W' G hs hG => hs.cell (b := g) (i := 2) hM.cs.cod.has.lt (fun h => by have := (hG g h).1; omega))
        have c1 : wr.drew.cell? ⟨g, 2, none⟩ = some (.int .i64 (phN m'.ph)) := d2
        obtain ⟨p1, p2⟩ := ph_whole hgd
        have HE2 : Hid ((phN m'.ph = 4 ∧ whole m' = true) ∨ (k = s.size ∧ (phN m'.ph = 0 ∨ phN m'.ph = 1 ∨ phN m'.ph = 2 ∨ phN m'.ph = 3) ∧ whole m' = false)) := Lib.hid (by
          cases q : stop m' with
          | true => exact .inl (p1 q)
          | false =>
            refine .inr ⟨?_, p2 q⟩
            rcases hend with h | h
            · exact h
            · rw [q] at h; cases h)
        replace hA := Lib.hid hA
        generalize phN m'.ph = x at *
        generalize whole m' = wh at *
        clear hrel hend hgd hM HE hN p1 p2 z8
        rcases HE2.out with ⟨rfl, rfl⟩ | ⟨rfl, hx, rfl⟩
        · clear HE2
          rcases Nat.lt_or_ge k s.size with hlt | hge
          · have hki : (k : Int) < (s.size : Int) := by omega
            go_wp2_with fail
            go_region_held3 (fun w' => w'.cell? ⟨g, 2, none⟩ = some (.int .i64 4)) (first | exact c2 | exact c1)
              (first
                | (go_at_call 31; refine (PChStr.Bl.text HB.out).mono ?_; rintro e w1 ⟨rfl, G, hG, hGG⟩
                   have c2 := (HCc.out w1 G hG hGG).trans c1
                   replace HO := Lib.hid (HO.out w1 G hG hGG)
                   clear hG hGG HB HCc))
            go_wp2_with fail
            (try simp only [Exit.inBlock, Exit.then]); refine bodyPost_ret (results_tmp4 rfl _ _ _) rfl ?_
            exact ⟨by rw [hA.out]; rfl, HO.out⟩
          · have hki : ¬ (k : Int) < (s.size : Int) := by omega
            go_wp2_with fail
            go_region_held3 (fun w' => w'.cell? ⟨g, 2, none⟩ = some (.int .i64 4)) (first | exact c2 | exact c1)
              (first
                | (go_at_call 31; refine (PChStr.Bl.text HB.out).mono ?_; rintro e w1 ⟨rfl, G, hG, hGG⟩
                   have c2 := (HCc.out w1 G hG hGG).trans c1
                   replace HO := Lib.hid (HO.out w1 G hG hGG)
                   clear hG hGG HB HCc))
            go_wp2_with fail
            (try simp only [Exit.inBlock, Exit.then]); refine bodyPost_ret (results_tmp4 rfl _ _ _) rfl ?_
            exact ⟨by rw [hA.out]; rfl, HO.out⟩
        · clear HE2
          have hx4 : (x == 4) = false := by rw [beq_eq_false_iff_ne]; omega
          have hx5 : ¬ x = 4 := by omega
          clear hx
          go_wp2_with fail
          go_region_held3 (fun w' => w'.cell? ⟨g, 2, none⟩ = some (.int .i64 x)) (first | exact c2 | exact c1)
            (first
              | (go_at_call 31; refine (PChStr.Bl.text HB.out).mono ?_; rintro e w1 ⟨rfl, G, hG, hGG⟩
                 have c2 := (HCc.out w1 G hG hGG).trans c1
                 replace HO := Lib.hid (HO.out w1 G hG hGG)
                 clear hG hGG HB HCc))
          go_wp2_with fail
          (try simp only [Exit.inBlock, Exit.then]); refine bodyPost_ret (results_tmp4 rfl _ _ _) rfl ?_
          exact ⟨by rw [hA.out]; rfl, HO.out⟩
      · have hlt : k < s.size := by rcases Nat.lt_or_ge k s.size with h | h; exact h; exact absurd (.inl (by omega)) hend
        have hki : (k : Int) < (s.size : Int) := by omega
        have hst : stop m' = false := by cases q : stop m' with
          | false => rfl
          | true => exact absurd (.inr q) hend
        have hsz2 := hM.size
        by_cases hdt : ∃ left, m'.ph = .data left
        · obtain ⟨left, hp⟩ := hdt
          have d3 := hM.cs.cod.c3
          rw [hrel.left left hp] at d3
          rw [hp, show phN (.data left) = 1 from rfl] at d2
          obtain ⟨l1, _⟩ := hM.ok.left left hp
          obtain ⟨_, l2⟩ := hM.bare left hp
          obtain ⟨n, hn⟩ : ∃ n, n = min left (s.size - k) := ⟨_, rfl⟩
          have n1 : 1 ≤ n := by omega
          have n2 : n ≤ left := by omega
          have n3 : k + n ≤ s.size := by omega
          have hmin : min ((k : Int) + (left : Int)) (s.size : Int) = (k : Int) + (n : Int) := by omega
          have n1i : (0 : Int) ≤ (n : Int) := by omega
          have n3i : (k : Int) + (n : Int) ≤ (s.size : Int) := by omega
          have l2i : (left : Int) ≤ 4294967295 := by omega
          have hq := run_size m ((toL s).take k)
          rw [hM.ran] at hq
          dsimp only at hq
          have hroom2 : acc.length + n ≤ 140737488355328 := by
            rcases hroom with h | h
            · have := (run_used m ((toL s).take k)).2.1
              rw [hM.ran] at this
              dsimp only at this
              omega
            · have := (hM.ok.left left hp).2
              omega
          obtain ⟨P, hP⟩ : ∃ P, P = s.extract k (k + n) := ⟨_, rfl⟩
          have sP : P.size = n := by rw [hP, ByteArray.size_extract]; omega
          have tP : toL P = ((toL s).drop k).take n := by rw [hP, toL_extract, List.drop_take, show k + n - k = n by omega]
          have HW := Lib.hid (hM.bl.write hg P (by rw [sP]; exact hroom2))
          rw [tP] at HW
          have HM := Lib.hid hM
          have hr0 : r.line = [] := by rw [hrel.line]; exact (hM.bare left hp).1
          have hrf : r.ref = 0 := by rw [hM.ref, errN_good hgd]
          have HCn : Hid (∀ W1, Below w.heap.size wr W1 → Calls Tryz.prog 71 #[.pointer (some ⟨g, 0, none⟩), .int .i64 n] W1 fun e w' => e = .returned (.tuple #[]) ∧ ∃ r', CS W1 (fun k => k = g) w' (fun k => k = g) g m'.most r' v ∧ Out r' (more m' left n)) :=
            Lib.hid (fun W1 hb1 => pcount_any (CS.write hM.cs hr0 hg hb1).cod hrel hrf hp n2 l2 (by have q1 := (hM.ok.left left hp).2; have q2 := hM.range.2; omega))
          have HNx : Hid (∀ W1 w2 r2, Below w.heap.size wr W1 → Bl w.heap.size b (acc ++ ((toL s).drop k).take n) (fun k => k = g) W1 → CS W1 (fun k => k = g) w2 (fun k => k = g) g m'.most r2 v → Out r2 (more m' left n) → MidF w F g m s b (k + n) w2) :=
            Lib.hid (fun W1 w2 r2 h1 h2 h3 h4 => ⟨_, _, _, _, _, hM.data hp n2 (by omega) n3 h1 hg h2 h3 h4⟩)
          replace hP := hP.symm
          rw [sP] at HW
          clear hend hM hq hroom hroom2 HE hp hrel hgd hn tP hr0 hrf HM l1 l2 z8
          go_wp2_with fail
          refine HW.out.mono ?_
          rintro e W1 ⟨rfl, hb1, hB1⟩
          replace HCn := Lib.hid (HCn.out W1 hB1)
          replace HNx := Lib.hid (fun w2 r2 => HNx.out W1 w2 r2 hB1 hb1)
          clear HW hb1 hB1 d2 d3 d8 hP
          go_wp2_with fail
          refine HCn.out.mono ?_
          rintro e w2 ⟨rfl, r2, hc, ho⟩
          have HQ := Lib.hid (HNx.out w2 r2 hc ho)
          clear HCn HNx hc ho
          go_wp2_with fail
          go_roundw
          case rel => exact ⟨k + n, by omega, by go_num, HQ⟩
          case measure => simp [intOf]; omega
        · have hnd : ∀ n, m'.ph ≠ .data n := fun n h => hdt ⟨n, h⟩
          have hph : m'.ph = .size ∨ m'.ph = .after ∨ ∃ n, m'.ph = .trail n ∧ n ≤ 32 := by
            cases q : m'.ph with
            | size => exact .inl rfl
            | after => exact .inr (.inl rfl)
            | trail n => exact .inr (.inr ⟨n, rfl, hM.ok.trail n q⟩)
            | data n => exact absurd q (hnd n)
            | done => unfold stop at hst; rw [q] at hst; cases hst
            | bad e => unfold stop at hst; rw [q] at hst; cases hst
          have hx : phN m'.ph = 0 ∨ phN m'.ph = 2 ∨ phN m'.ph = 3 := by
            rcases hph with h | h | ⟨n, h, _⟩ <;> (rw [h]; unfold phN; simp)
          have hrf : r.ref = 0 := by rw [hM.ref, errN_good hgd]
          have HR := Lib.hid (prbyte_any hM.cs.cod hrel hrf hph hM.ok.line ⟨hM.range, hM.ok.most⟩ s[k])
          have HNx : Hid (∀ w2, CSF wr F' w2 g m'.most (lineStep m' s[k]) → MidF w F g m s b (k + 1) (w2.setCell ⟨g, 8, none⟩ (.int .i64 (errN (lineStep m' s[k]))))) := Lib.hid (fun w2 hc => hM.byte hst hnd hlt hc)
          generalize lineStep m' s[k] = m2 at *
          generalize phN m'.ph = x at *
          have hx1 : (x == 1) = false := by rw [beq_eq_false_iff_ne]; omega
          have hx4 : (x == 4) = false := by rw [beq_eq_false_iff_ne]; omega
          have hx1n : ¬ x = 1 := by omega
          have hx4n : ¬ x = 4 := by omega
          clear hend hM HE hrel hgd hrf hroom hnd hph hdt hst z8 hx
          go_wp2_with fail
          refine HR.out.mono ?_
          rintro e w2 ⟨rfl, hc⟩
          have HQ := Lib.hid (HNx.out w2 hc)
          obtain ⟨F2, r2, v2, k1, k2⟩ := hc
          have q8 := k1.cod.c8
          have z8 := k1.cod.free 8
          clear HR HNx k1 k2 d2 d8
          go_wp2_with fail
          go_roundw
          case rel => exact ⟨k + 1, by omega, by go_num, HQ⟩
          case measure => simp [intOf]; omega
    · have hgf : good m' = false := by simpa using hgd
      have hstop : stop m' = true := by rw [stop_say, hgf]; rfl
      have d8 := hM.cs.cod.c8
      rw [hM.ref] at d8
      have d2 := hM.cs.cod.c2
      obtain ⟨hA, hN⟩ := (HE.out m' acc k (hM.fin (.inr hstop))).2 hgf
      have hne : (errN m' != 0) = true := by
        unfold good at hgf
        split at hgf
        · rename_i e he
          have := hM.told e he
          unfold errN
          rw [he, bne_iff_ne]
          show e ≠ 0
          omega
        · cases hgf
      have hne2 : (errN m' == 0) = false := by rw [beq_eq_false_iff_ne]; rw [bne_iff_ne] at hne; exact hne
      have HA := Lib.hid hA
      have HD : Hid (∀ W, (∃ n, wr.drewN n = W) → FedD w W F g N) := Lib.hid (fun W ⟨n, hn⟩ => by rw [← hn, hN]; exact hM.fed.more (Step.drewN wr n (fun _ => False)) (fun _ h => h))
      generalize errN m' = er at *
      generalize r.next = nx at *
      clear hA hN hstop hgd hgf hM HE
      rcases Nat.lt_or_ge k s.size with hlt | hge
      · have hki : (k : Int) < (s.size : Int) := by omega
        by_cases hnx : nx = 4
        · subst hnx
          go_wp2_with fail
          go_quiet (fail)
          generalize hW : wr.drewN _ = W2
          replace HD := Lib.hid (HD.out W2 ⟨_, hW⟩)
          go_wp2_with fail
          (try simp only [Exit.inBlock, Exit.then]); refine bodyPost_ret (results_tmp4 rfl _ _ _) rfl ?_
          exact ⟨by rw [HA.out]; rfl, HD.out⟩
        · go_wp2_with fail
          go_quiet (fail)
          generalize hW : wr.drewN _ = W2
          replace HD := Lib.hid (HD.out W2 ⟨_, hW⟩)
          go_wp2_with fail
          (try simp only [Exit.inBlock, Exit.then]); refine bodyPost_ret (results_tmp4 rfl _ _ _) rfl ?_
          exact ⟨by rw [HA.out]; rfl, HD.out⟩
      · have hki : ¬ (k : Int) < (s.size : Int) := by omega
        go_wp2_with fail
        go_quiet (fail)
        generalize hW : wr.drewN _ = W2
        replace HD := Lib.hid (HD.out W2 ⟨_, hW⟩)
        go_wp2_with fail
        (try simp only [Exit.inBlock, Exit.then]); refine bodyPost_ret (results_tmp4 rfl _ _ _) rfl ?_
        exact ⟨by rw [HA.out]; rfl, HD.out⟩
end Go.Proofs.YtggmafmebocoaaaGreatDoor.ChunkObj

/- Layer 10 of the program: New. -/
namespace Go.Proofs.YtggmafmebocoaaaGreatDoor.ChunkObj
open Go.ChangeShapes Go.WideShapes Go.ChangeAt Go.RowKit Bytes LexPure HeadPure ChunkPure ChunkHex ChunkText ChObj Mem Step Ret Rows1
set_option maxRecDepth 20000
/-- what the world must hold for the calls: nothing -/
def Fit (w : World) : Prop := w = w
theorem Fit.of_shape {w : World} (_h : w.ShapedOpen Tryz.prog) : Fit w := rfl
theorem Fit.below {w w' : World} (_h : Fit w) (_hb : Below w.heap.size w w') : Fit w' := rfl
theorem Dec.lt {w : World} {F : Nat → Prop} {g : Nat} {m : M} (h : Dec w F g m) : ∀ k, F k → k < w.heap.size := by
  obtain ⟨r, v, h1, _⟩ := h.is
  exact h1.lt
/-- a new decoder -/
def NewD (w w' : World) (e : Ending) (most : Int) : Prop := ∃ g F, e = .returned (.pointer (some ⟨g, 0, none⟩)) ∧ Dec w' F g (begin_ most) ∧ ∀ k, F k → w.heap.size ≤ k
theorem NewD.at (w : World) (most : Int) (hr : InR most) : NewD w (w.alloc (.cells (cells most ⟨0, 0, 0, [], false, false, 0, 0⟩ (.slice none 0 0)) 99)) (.returned (.pointer (some ⟨w.heap.size, 0, none⟩))) most :=
  ⟨w.heap.size, fun k => k = w.heap.size, rfl, ⟨⟨⟨0, 0, 0, [], false, false, 0, 0⟩, .slice none 0 0, ⟨Has.new w _ _, World.ownsRow_nil _ _ _ _, fun b hb => (by cases hb), rfl, fun _ => rfl, fun k hk => (by rw [hk]; simp)⟩, rfl, fun _ => ⟨rfl, rfl, fun n hn => (by cases hn), rfl, rfl, rfl, fun n hn => (by cases hn), fun _ => rfl⟩⟩, Told.start most, Bare.start most, hr⟩, fun k hk => (by rw [hk]; exact Nat.le_refl _)⟩
theorem pnew_any (most : Int) (hr : InR most) (w : World) (_hm : Fit w) :
    Calls Tryz.prog 40 #[.int .i64 most] w fun e w' => NewD w w' e most ∧ Below w.heap.size w w' := by
  have HN := Lib.hid (NewD.at w most hr)
  unfold cells at HN
  dsimp only at HN
  go_enter Tryz.func40, Tryz.ntmps40
  go_wp2_with fail
  go_ret
  exact ⟨HN.out, (Below.refl _ _).alloc (Nat.le_refl _) _⟩
end Go.Proofs.YtggmafmebocoaaaGreatDoor.ChunkObj
