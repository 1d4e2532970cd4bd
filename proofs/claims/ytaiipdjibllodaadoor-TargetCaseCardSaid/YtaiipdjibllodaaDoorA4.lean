/- Texts of this seat, one behind another: PBytes5, BuildLays, PBuild, BRow, POneForm, PCur, PSettled, PathMore, PathObj, CutAt, CutLays, PCutLib, PCut. -/
import Derived.Shelf.Strings.Builder1
import Derived.Test.YtaiipdjibllodaaDoorProg
import Derived.Lib.Hide
import Derived.Below
import Derived.Laws.IdiomStrings
import Derived.Laws.NewBlocks
import Derived.Handy
import Derived.RegionTactic
import Derived.ChangeAlike
import Derived.BigRegion
import Derived.Laws.BitsAllLaws
import Derived.Outline
import Derived.LoopTactic
import Derived.Laws.DeepStrings4
import Derived.Lib.IndexMore
import Derived.Shelf.Strings.Search2
import Derived.Shelf.Strings.Search3
import Derived.Lib.IndexBytes
import Derived.Test.YtaiipdjibllodaaDoorA3
import Derived.Test.YtaiipdjibllodaaDoorA1
import Derived.Test.YtaiipdjibllodaaDoorA2
/- Layer 5 of the program: what its functions of one byte and of one escape answer (ofPath, plain, escaped). -/
namespace Go.Proofs.YtaiipdjibllodaaDoor.PBytes5
open Go.ChangeShapes Go.WideShapes Go.ChangeAt Go.RowKit LexPure Bytes Ret LexNum PathPure PEsc CutsSplit PHex
set_option maxRecDepth 20000
theorem lib_plain (b : UInt8) (w : World) :
    Calls Tryd.prog 61 #[.string plainA, .int .u8 (b.toNat : Int)] w fun e w' => e = .returned (.int .i64 (plainI b)) ∧ w' = w := by
  have h := Any.strings_IndexByte Tryd.lays137 plainA (b.toNat : Int) w
  rw [show ((b.toNat : Int)).toNat.toUInt8 = b from by simp] at h
  exact h
theorem pofpath_any (b : UInt8) (w : World) :
    Calls Tryd.prog 53 #[.int .u8 (b.toNat : Int)] w fun e w' => e = .returned (.bool (okc b)) ∧ w = w' := by
  rw [okc_cases]
  generalize (b.toNat : Int) = c
  go_enter Tryd.func53, Tryd.ntmps53
  go_wp2_with fail
  all_goals
    go_ret
    refine ⟨ret_bool ?_, rfl⟩
    try simp only [beq_eq_false_iff_ne, beq_iff_eq, ne_eq] at *
    first
      | exact Eq.symm (decide_eq_true (by omega))
      | exact Eq.symm (decide_eq_false (by omega))
      | (by_cases e1 : c = 63 <;> by_cases e2 : c = 35 <;> by_cases e3 : 32 < c <;> by_cases e4 : c < 127 <;> first | (exfalso; omega) | simp [e1, e2, e3, e4] | (subst e1; decide) | (subst e2; decide))
theorem pplain_any (b : UInt8) (w : World) :
    Calls Tryd.prog 72 #[.int .u8 (b.toNat : Int)] w fun e w' => e = .returned (.bool (plainP b.toNat)) ∧ w = w' := by
  have HM := Lib.hid (lib_plain b w)
  rw [plain_cases]
  unfold plainA at HM
  generalize plainI b = i at *
  generalize (b.toNat : Int) = c at *
  go_enter Tryd.func72, Tryd.ntmps72
  go_wp2_with (refine HM.out.mono ?_; rintro e w' ⟨rfl, rfl⟩)
  all_goals
    go_ret
    refine ⟨ret_bool ?_, rfl⟩
  all_goals first
    | rfl
    | exact Eq.symm (decide_eq_true (by omega))
    | exact Eq.symm (by rw [decide_eq_true (show 48 ≤ c ∧ c ≤ 57 by omega)]; rfl)
    | exact Eq.symm (by rw [decide_eq_true (show 65 ≤ c ∧ c ≤ 90 by omega), Bool.or_true]; rfl)
    | exact Eq.symm (by rw [decide_eq_true (show 97 ≤ c ∧ c ≤ 122 by omega), Bool.or_true]; rfl)
    | (rw [decide_eq_false (show ¬ (48 ≤ c ∧ c ≤ 57) by omega), decide_eq_false (show ¬ (65 ≤ c ∧ c ≤ 90) by omega), decide_eq_false (show ¬ (97 ≤ c ∧ c ≤ 122) by omega)]; first | (simp; done) | (simp; intro h; omega))
theorem ret_esc {a b : Int} {p q : Bool} (h : a = b) (k : p = q) : Ending.returned (.tuple #[.int .u8 a, .bool p]) = .returned (.tuple #[.int .u8 b, .bool q]) := by rw [h, k]
theorem pescaped_any (s : ByteArray) (hs : s.size ≤ 140737488355328) (w : World) :
    Calls Tryd.prog 55 #[.string s] w fun e w' => e = .returned (.tuple #[.int .u8 (escN (toL s) : Int), .bool (escO (toL s))]) ∧ w = w' := by
  by_cases h3 : s.size < 3
  · have h3i : (s.size : Int) < 3 := by omega
    have hv : escO (toL s) = false ∧ escN (toL s) = 0 := by
      have hl := toL_length s
      match hm : toL s with
      | [] => exact ⟨rfl, rfl⟩
      | [_] => exact ⟨rfl, rfl⟩
      | [_, _] => exact ⟨rfl, rfl⟩
      | _ :: _ :: _ :: _ => rw [hm] at hl; simp at hl; omega
    rw [hv.1, hv.2]
    clear hv h3
    go_enter Tryd.func55, Tryd.ntmps55
    go_wp2_with fail
    go_ret2
    exact ⟨rfl, rfl⟩
  · have h3i : ¬ (s.size : Int) < 3 := by omega
    have h3j : 3 ≤ (s.size : Int) := by omega
    obtain ⟨c, a, b, r, hl⟩ : ∃ c a b r, toL s = c :: a :: b :: r := by
      have hl := toL_length s
      match hm : toL s with
      | [] => rw [hm] at hl; simp at hl; omega
      | [_] => rw [hm] at hl; simp at hl; omega
      | [_, _] => rw [hm] at hl; simp at hl; omega
      | c :: a :: b :: r => exact ⟨c, a, b, r, rfl⟩
    have hx : toL (s.extract 1 3) = [a, b] := by rw [toL_extract, hl]; rfl
    have HC := Lib.hid (phex_any (s.extract 1 3) (by rw [ByteArray.size_extract]; unfold maxLen; omega) 2)
    rw [hx] at HC
    obtain ⟨n1, n2⟩ := RPlain.num_two a b
    have HO : Hid (numOk 16 (min 2 15) [a, b] = escO (toL s)) := Lib.hid (by rw [n1, hl]; rfl)
    have HN : Hid (numR 16 (min 2 15) [a, b] = (escN (toL s) : Int)) := Lib.hid (by
      rw [hl]
      unfold escN
      simp only
      by_cases hh : numOk 16 (min 2 15) [a, b] = true
      · rw [n2 hh, if_pos (by rw [← n1]; exact hh)]
      · rw [if_neg (by rw [← n1]; exact hh)]
        unfold numR
        rw [if_neg hh]
        rfl)
    have hlt := escN_lt (toL s)
    rw [HO.out, HN.out] at HC
    have h0 : (0 : Int) ≤ (escN (toL s) : Int) := by omega
    have h1 : (escN (toL s) : Int) ≤ 255 := by omega
    clear hx hl n1 n2 HO HN hlt h3
    generalize (escN (toL s) : Int) = v at *
    generalize escO (toL s) = o at *
    go_enter Tryd.func55, Tryd.ntmps55
    go_wp2_with fail
    refine (HC.out _).mono ?_
    rintro e w' ⟨rfl, rfl⟩
    go_wp2_with fail
    go_ret2
    exact ⟨ret_esc (by omega) rfl, rfl⟩
end Go.Proofs.YtaiipdjibllodaaDoor.PBytes5

/-
  DERIVED: THE SHELF's CONTRACTS AT THIS DUMP, IN PLAIN WORDS (tools/lay-plain.mjs out of 'YtaiipdjibllodaaDoorBuildLaysT.lean', which tools/lay-shelf.mjs wrote): THE SAME DECLARATIONS UNDER THE SAME NAMES: 'import', 'namespace', 'open', 'def', 'theorem' AND NOTHING ELSE: no command of the shelf's: FOR A HAND-IN. Each laying: the table of numbers ('.._ren') and one theorem, a field a fact of the dump's own or the kernel's comparison; each contract: ONE APPLICATION.
-/
namespace Go.Proofs
open Go.Shelf
def Tryd.lays166_ren : Go.Shelf.Ren := ⟨fun | 166 => 56 | 240 => 70 | 276 => 78 | n => n, fun | 70 => 68 | 9 => 9 | 3 => 3 | 75 => 72 | 0 => 0 | 72 => 70 | 37 => 48 | 4 => 4 | 164 => 94 | 80 => 32 | 5 => 5 | n => n, fun | n => n⟩
theorem Tryd.lays166 : Go.Proofs.Lays.n166 Tryd.prog Tryd.lays166_ren := {
  mixed := by kernel_rfl
  f166 := Tryd.func56.trans (congrArg some (by kernel_rfl))
  f240 := Tryd.func70.trans (congrArg some (by kernel_rfl))
  f276 := Tryd.func78.trans (congrArg some (by kernel_rfl))
  t0 := Tryd.underlying0
  a0 := Tryd.isAgg0
  z0 := Tryd.sizeOf0
  v0 := Tryd.zeroValue0
  t3 := Tryd.underlying3
  a3 := Tryd.isAgg3
  z3 := Tryd.sizeOf3
  v3 := Tryd.zeroValue3
  t4 := Tryd.underlying4
  a4 := Tryd.isAgg4
  z4 := Tryd.sizeOf4
  v4 := Tryd.zeroValue4
  t9 := Tryd.underlying9
  a9 := Tryd.isAgg9
  z9 := Tryd.sizeOf9
  v9 := Tryd.zeroValue9
  t20 := Tryd.underlying20
  a20 := Tryd.isAgg20
  z20 := Tryd.sizeOf20
  v20 := Tryd.zeroValue20
  t37 := Tryd.underlying48
  a37 := Tryd.isAgg48
  z37 := Tryd.sizeOf48
  v37 := Tryd.zeroValue48
  t70 := Tryd.underlying68
  a70 := Tryd.isAgg68
  z70 := Tryd.sizeOf68
  v70 := Tryd.zeroValue68
  t72 := Tryd.underlying70
  a72 := Tryd.isAgg70
  z72 := Tryd.sizeOf70
  v72 := Tryd.zeroValue70
  t75 := Tryd.underlying72
  a75 := Tryd.isAgg72
  z75 := Tryd.sizeOf72
  v75 := Tryd.zeroValue72
  t164 := Tryd.underlying94
  a164 := Tryd.isAgg94
  z164 := Tryd.sizeOf94
  v164 := Tryd.zeroValue94 }
def Tryd.lays167_ren : Go.Shelf.Ren := ⟨fun | 167 => 54 | 240 => 70 | 276 => 78 | n => n, fun | 70 => 68 | 5 => 5 | 75 => 72 | 0 => 0 | 72 => 70 | 37 => 48 | 4 => 4 | 164 => 94 | 80 => 32 | 9 => 9 | n => n, fun | n => n⟩
theorem Tryd.lays167 : Go.Proofs.Lays.n167 Tryd.prog Tryd.lays167_ren := {
  mixed := by kernel_rfl
  f167 := Tryd.func54.trans (congrArg some (by kernel_rfl))
  f240 := Tryd.func70.trans (congrArg some (by kernel_rfl))
  f276 := Tryd.func78.trans (congrArg some (by kernel_rfl))
  t0 := Tryd.underlying0
  a0 := Tryd.isAgg0
  z0 := Tryd.sizeOf0
  v0 := Tryd.zeroValue0
  t4 := Tryd.underlying4
  a4 := Tryd.isAgg4
  z4 := Tryd.sizeOf4
  v4 := Tryd.zeroValue4
  t5 := Tryd.underlying5
  a5 := Tryd.isAgg5
  z5 := Tryd.sizeOf5
  v5 := Tryd.zeroValue5
  t9 := Tryd.underlying9
  a9 := Tryd.isAgg9
  z9 := Tryd.sizeOf9
  v9 := Tryd.zeroValue9
  t20 := Tryd.underlying20
  a20 := Tryd.isAgg20
  z20 := Tryd.sizeOf20
  v20 := Tryd.zeroValue20
  t37 := Tryd.underlying48
  a37 := Tryd.isAgg48
  z37 := Tryd.sizeOf48
  v37 := Tryd.zeroValue48
  t70 := Tryd.underlying68
  a70 := Tryd.isAgg68
  z70 := Tryd.sizeOf68
  v70 := Tryd.zeroValue68
  t72 := Tryd.underlying70
  a72 := Tryd.isAgg70
  z72 := Tryd.sizeOf70
  v72 := Tryd.zeroValue70
  t75 := Tryd.underlying72
  a75 := Tryd.isAgg72
  z75 := Tryd.sizeOf72
  v75 := Tryd.zeroValue72
  t164 := Tryd.underlying94
  a164 := Tryd.isAgg94
  z164 := Tryd.sizeOf94
  v164 := Tryd.zeroValue94 }
def Tryd.lays169_ren : Go.Shelf.Ren := ⟨fun | 169 => 58 | n => n, fun | 70 => 68 | 9 => 9 | 0 => 0 | 72 => 70 | 37 => 48 | 127 => 88 | 3 => 3 | 5 => 5 | n => n, fun | n => n⟩
theorem Tryd.lays169 : Go.Proofs.Lays.n169 Tryd.prog Tryd.lays169_ren := {
  mixed := by kernel_rfl
  f169 := Tryd.func58.trans (congrArg some (by kernel_rfl))
  t0 := Tryd.underlying0
  a0 := Tryd.isAgg0
  z0 := Tryd.sizeOf0
  v0 := Tryd.zeroValue0
  t3 := Tryd.underlying3
  a3 := Tryd.isAgg3
  z3 := Tryd.sizeOf3
  v3 := Tryd.zeroValue3
  t9 := Tryd.underlying9
  a9 := Tryd.isAgg9
  z9 := Tryd.sizeOf9
  v9 := Tryd.zeroValue9
  t37 := Tryd.underlying48
  a37 := Tryd.isAgg48
  z37 := Tryd.sizeOf48
  v37 := Tryd.zeroValue48
  t70 := Tryd.underlying68
  a70 := Tryd.isAgg68
  z70 := Tryd.sizeOf68
  v70 := Tryd.zeroValue68
  t72 := Tryd.underlying70
  a72 := Tryd.isAgg70
  z72 := Tryd.sizeOf70
  v72 := Tryd.zeroValue70
  t127 := Tryd.underlying88
  a127 := Tryd.isAgg88
  z127 := Tryd.sizeOf88
  v127 := Tryd.zeroValue88 }
end Go.Proofs

/- A strings.Builder that a call has made itself: its writes and its text, in the words of lists of bytes. -/
namespace Go.Proofs.YtaiipdjibllodaaDoor.PBuild
open Go.ChangeShapes Go.WideShapes Go.ChangeAt Go.RowKit Bytes
theorem extra167 : Builder.Extra Tryd.prog Tryd.lays167_ren := {
  sizeBuilder := by kernel_rfl
  liesBuilder := by kernel_rfl
  t5 := Tryd.underlying5
  a5 := Tryd.isAgg5
  z5 := Tryd.sizeOf5
  v5 := Tryd.zeroValue5
  infoByte := by kernel_rfl
  cellsByte := by kernel_rfl
  sizeByte := by kernel_rfl
  neB5 := by decide }
theorem extra166 : Builder.Extra Tryd.prog Tryd.lays166_ren := {
  sizeBuilder := by kernel_rfl
  liesBuilder := by kernel_rfl
  t5 := Tryd.underlying5
  a5 := Tryd.isAgg5
  z5 := Tryd.sizeOf5
  v5 := Tryd.zeroValue5
  infoByte := by kernel_rfl
  cellsByte := by kernel_rfl
  sizeByte := by kernel_rfl
  neB5 := by decide }
theorem extra169 : Builder.Extra Tryd.prog Tryd.lays169_ren := {
  sizeBuilder := by kernel_rfl
  liesBuilder := by kernel_rfl
  t5 := Tryd.underlying5
  a5 := Tryd.isAgg5
  z5 := Tryd.sizeOf5
  v5 := Tryd.zeroValue5
  infoByte := by kernel_rfl
  cellsByte := by kernel_rfl
  sizeByte := by kernel_rfl
  neB5 := by decide }
/-- the builder in block b, made by the call that began in world w, holds acc -/
def Bld (w : World) (b : Nat) (acc : List UInt8) (wr : World) : Prop := Lib.IsBuilder 70 5 w.heap.size b (Lib.byteCells acc) wr ∧ Below w.heap.size w wr
theorem Bld.start (w : World) : Bld w w.heap.size [] (w.alloc (.cells #[.pointer none, .slice none 0 0] 70)) :=
  ⟨Lib.fresh_isBuilder _ _ w, (Below.refl _ w).alloc (Nat.le_refl _) _⟩
theorem at_below {T e : TypeId} {B b : Nat} {p : Value} {bs : List Value} {w w' : World} (h : Lib.BuilderAt T e B b p bs w) (hb : Below w.heap.size w w') : Lib.BuilderAt T e B b p bs w' := by
  obtain ⟨hB, v, hv, hown, hne⟩ := h
  have hlt : b < w.heap.size := (Array.getElem?_eq_some_iff.1 hv).1
  refine ⟨hB, v, by rw [hb.block b hlt]; exact hv, ⟨hown.1, ?_⟩, hne⟩
  rcases hown.2 with h0 | ⟨g, cap, cur, h1, h2, h3, h4⟩
  · exact .inl h0
  · exact .inr ⟨g, cap, cur, h1, h2, by rw [hb.block g (Array.getElem?_eq_some_iff.1 h3).1]; exact h3, h4⟩
theorem Bld.keep {w wr w' : World} {b : Nat} {acc : List UInt8} (h : Bld w b acc wr) (hb : Below wr.heap.size wr w') : Bld w b acc w' :=
  ⟨h.1.elim (fun x => .inl (at_below x hb)) (fun x => .inr (at_below x hb)), ⟨hb.os.trans h.2.os, hb.tape.trans h.2.tape, hb.output.trans h.2.output, Nat.le_trans h.2.size hb.size, fun i hi => (hb.block i (Nat.lt_of_lt_of_le hi h.2.size)).trans (h.2.block i hi)⟩⟩
theorem bld_byte {w wr : World} {b : Nat} {acc : List UInt8} (h : Bld w b acc wr) (c : UInt8) (hl : acc.length + 1 ≤ 140737488355328) :
    Calls Tryd.prog 54 #[.pointer (some ⟨b, 0, none⟩), .int .u8 (c.toNat : Int)] wr fun e w' => e = .returned .nilIface ∧ Bld w b (acc ++ [c]) w' := by
  refine (Any.Builder_WriteByte Tryd.lays167 extra167 w.heap.size b _ (c.toNat : Int) wr h.1 (by rw [Lib.byteCells_length]; exact hl) h.2.size).mono ?_
  rintro e w' ⟨rfl, h1, h2⟩
  refine ⟨rfl, ?_, h.2.trans h2⟩
  rw [Lib.byteCells_append]
  exact .inr h1
theorem bld_num {w wr : World} {b : Nat} {acc : List UInt8} (h : Bld w b acc wr) (n : Nat) (hn : n < 256) (hl : acc.length + 1 ≤ 140737488355328) :
    Calls Tryd.prog 54 #[.pointer (some ⟨b, 0, none⟩), .int .u8 (n : Int)] wr fun e w' => e = .returned .nilIface ∧ Bld w b (acc ++ [UInt8.ofNat n]) w' := by
  have := bld_byte h (UInt8.ofNat n) hl
  rwa [UInt8.toNat_ofNat_of_lt' hn] at this
theorem bld_text {w wr : World} {b : Nat} {acc : List UInt8} (h : Bld w b acc wr) (s : ByteArray) (hl : acc.length + s.size ≤ 140737488355328) :
    Calls Tryd.prog 56 #[.pointer (some ⟨b, 0, none⟩), .string s] wr fun e w' => e = .returned (.tuple #[.int .i64 s.size, .nilIface]) ∧ Bld w b (acc ++ toL s) w' := by
  refine (Any.Builder_WriteString Tryd.lays166 extra166 w.heap.size b _ s wr h.1 (by rw [Lib.byteCells_length]; exact hl) h.2.size).mono ?_
  rintro e w' ⟨rfl, h1, h2⟩
  refine ⟨rfl, ?_, h.2.trans h2⟩
  rw [Lib.byteCells_append]
  exact .inr h1
theorem bld_out {w wr : World} {b : Nat} {acc : List UInt8} (h : Bld w b acc wr) :
    Calls Tryd.prog 58 #[.pointer (some ⟨b, 0, none⟩)] wr fun e w' => e = .returned (.string (ofL acc)) ∧ Below w.heap.size w w' := by
  refine (Any.Builder_String_any Tryd.lays169 extra169 w.heap.size b acc wr h.1 h.2.size).mono ?_
  rintro e w' ⟨rfl, h2⟩
  exact ⟨rfl, h.2.trans h2⟩
end Go.Proofs.YtaiipdjibllodaaDoor.PBuild

/- A row of bytes behind '[]byte(s)': its cells, a store into it, the text out of it. No program is named. -/
namespace Go.Proofs.YtaiipdjibllodaaDoor.BRow
open Bytes Rows1 Go.RowKit
variable {P : Program}
structure BRow (w : World) (g : Nat) (l : List UInt8) : Prop where
  cell : ∀ j (hj : j < l.length), w.cell? ⟨g, j, none⟩ = some (.int .u8 (l[j].toNat : Int))
  free : ∀ j, j < l.length → w.frozen? ⟨g, j, none⟩ = false
theorem BRow.set {w : World} {g : Nat} {l : List UInt8} (h : BRow w g l) (k : Nat) (hk : k < l.length) (c : UInt8) : BRow (w.setCell ⟨g, k, none⟩ (.int .u8 (c.toNat : Int))) g (l.set k c) := by
  refine ⟨fun j hj => ?_, fun j hj => ?_⟩
  · rw [List.length_set] at hj
    rw [List.getElem_set]
    by_cases e : k = j
    · subst e
      rw [if_pos rfl]
      exact World.cell?_setCell_same _ _ _ (h.cell k hk)
    · rw [if_neg e, World.cell?_setCell_other _ _ _ _ (by intro h2; injection h2 with _ h3; exact e h3)]
      exact h.cell j hj
  · rw [List.length_set] at hj
    rw [World.frozen?_setCell]
    exact h.free j hj
theorem BRow.below {w w' : World} {g : Nat} {l : List UInt8} (h : BRow w g l) (hg : g < w.heap.size) (hb : Below w.heap.size w w') : BRow w' g l :=
  ⟨fun j hj => (hb.cell (p := ⟨g, j, none⟩) hg).trans (h.cell j hj), fun j hj => (hb.frozen (p := ⟨g, j, none⟩) hg).trans (h.free j hj)⟩
/-- '[]byte(s)' -/
theorem bytes_of (w : World) (src dst e : TypeId) (s : ByteArray) (hs : P.underlying src = some .string) (hd : P.underlying dst = some (.slice e)) (he : P.underlying e = some (.int .u8)) :
    ∃ cap w1, (Go.convert src dst (.string s)).run P w = .ok (.slice (some ⟨w.heap.size, 0, none⟩) s.size cap) w1 ∧ BRow w1 w.heap.size (toL s) ∧ Below w.heap.size w w1 ∧ w.heap.size < w1.heap.size := by
  refine ⟨_, _, run_bytes_of_string w src dst e s hs hd he, ⟨fun j hj => ?_, fun j hj => ?_⟩, ((Below.refl _ w).drew).alloc (Nat.le_refl _) _, by simp⟩
  · have hj' : j < s.size := by rwa [toL_length] at hj
    have hC : (bytesRow s (grownCap w s.size 0 e))[j]? = some (.int .u8 ((toL s)[j].toNat : Int)) := by
      unfold bytesRow
      rw [Array.getElem?_append_left (by rw [Array.size_map]; exact hj'), Array.getElem?_map]
      have : s.data[j]? = some (toL s)[j] := by
        rw [← Array.getElem?_toList]
        exact List.getElem?_eq_getElem hj
      rw [this]
      rfl
    generalize bytesRow s (grownCap w s.size 0 e) = C at *
    have h : (w.drew.alloc (.cells C e (C.size, C.size + 1))).heap[w.heap.size]? = some (.cells C e (C.size, C.size + 1)) := by
      show (w.heap.push _)[w.heap.size]? = _
      simp
    simp only [World.cell?, h]
    exact hC
  · have hj' : j < s.size := by rwa [toL_length] at hj
    have hsz : j < (bytesRow s (grownCap w s.size 0 e)).size := by
      unfold bytesRow
      rw [Array.size_append, Array.size_map]
      have : s.data.size = s.size := rfl
      omega
    generalize bytesRow s (grownCap w s.size 0 e) = C at *
    have h : (w.drew.alloc (.cells C e (C.size, C.size + 1))).heap[w.heap.size]? = some (.cells C e (C.size, C.size + 1)) := by
      show (w.heap.push _)[w.heap.size]? = _
      simp
    unfold World.frozen?
    rw [h]
    simp
    omega
/-- 'string(b)' -/
theorem BRow.text {w : World} {g cap : Nat} {l : List UInt8} (h : BRow w g l) (src dst e : TypeId) (hs : P.underlying src = some (.slice e)) (he : P.underlying e = some (.int .u8)) (hd : P.underlying dst = some .string) :
    (Go.convert src dst (.slice (some ⟨g, 0, none⟩) l.length cap)).run P w = .ok (.string (ofL l)) w :=
  run_convert_bytes_back w src dst e ⟨g, 0, none⟩ cap l hs he hd (fun j hj => by
    have e : (⟨g, 0, none⟩ : Addr).add j = ⟨g, j, none⟩ := by unfold Addr.add; split <;> simp_all
    rw [e]
    exact h.cell j hj)
end Go.Proofs.YtaiipdjibllodaaDoor.BRow

/- Layer 5 of the program: oneForm: how a byte that was escaped is written. -/
namespace Go.Proofs.YtaiipdjibllodaaDoor.POneForm
open Go.ChangeShapes Go.WideShapes Go.ChangeAt Go.RowKit LexPure Bytes Ret PathPure PEsc PBytes5 BRow
set_option maxRecDepth 20000
/-- string([]byte{..}) -/
theorem text_at (W : World) (g : Nat) (l : List UInt8) (cs : Array Value) (fr : Nat × Nat) (cap : Nat) (hg : W.heap[g]? = some (.cells cs 5 fr)) (hc : ∀ j (h : j < l.length), cs[j]? = some (.int .u8 (l[j].toNat : Int))) :
    (Go.convert 48 9 (.slice (some ⟨g, 0, none⟩) l.length cap)).run Tryd.prog W = .ok (.string (ofL l)) W :=
  run_convert_bytes_back _ 48 9 5 ⟨g, 0, none⟩ cap l Tryd.underlying48 Tryd.underlying5 Tryd.underlying9 (fun j hj => by
    have e : (⟨g, 0, none⟩ : Addr).add j = ⟨g, j, none⟩ := by unfold Addr.add; split <;> simp_all
    rw [e]
    simp only [World.cell?, hg]
    exact hc j hj)
theorem heap_new (w : World) (o : Obj) : (w.alloc o).heap[w.heap.size]? = some o := by
  show (w.heap.push _)[w.heap.size]? = _
  simp
def digs : ByteArray := ⟨#[48, 49, 50, 51, 52, 53, 54, 55, 56, 57, 65, 66, 67, 68, 69, 70]⟩
theorem digs_hx (n : Nat) (h : n < digs.size) : digs[n] = hx n := by
  have : n = 0 ∨ n = 1 ∨ n = 2 ∨ n = 3 ∨ n = 4 ∨ n = 5 ∨ n = 6 ∨ n = 7 ∨ n = 8 ∨ n = 9 ∨ n = 10 ∨ n = 11 ∨ n = 12 ∨ n = 13 ∨ n = 14 ∨ n = 15 := by
    have : digs.size = 16 := rfl
    omega
  rcases this with h | h | h | h | h | h | h | h | h | h | h | h | h | h | h | h <;> subst h <;> rfl
theorem poneform_any (b : UInt8) (w : World) :
    Calls Tryd.prog 57 #[.int .u8 (b.toNat : Int)] w fun e w' => e = .returned (.string (ofL (wr b.toNat))) ∧ Below w.heap.size w w' := by
  have HP := Lib.hid (fun w => pplain_any b w)
  have hlt : (b.toNat : Int) ≤ 255 := by have := b.toNat_lt; omega
  by_cases hp : plainP b.toNat = true
  · have HW : Hid (wr b.toNat = [b]) := Lib.hid (by unfold wr; rw [if_pos hp]; simp)
    rw [hp] at HP
    have hconv : (Go.convert 48 9 (.slice (some ⟨w.heap.size, 0, none⟩) 1 1)).run Tryd.prog (w.alloc (.cells #[.int .u8 (b.toNat : Int)] 5)) = .ok (.string (ofL [b])) (w.alloc (.cells #[.int .u8 (b.toNat : Int)] 5)) :=
      text_at _ _ [b] _ _ 1 (heap_new w _) (by intro j hj; match j, hj with | 0, _ => rfl)
    clear hp
    go_enter Tryd.func57, Tryd.ntmps57
    go_wp2_with fail
    refine (HP.out _).mono ?_
    rintro e w' ⟨rfl, rfl⟩
    go_wp2_with fail
    go_ret
    rw [HW.out]
    exact ⟨rfl, (Below.refl _ _).alloc (Nat.le_refl _) _⟩
  · have hpf : plainP b.toNat = false := by simpa using hp
    have HW : Hid (ofL (wr b.toNat) = ofL [37, hx (b.toNat / 16), hx (b.toNat % 16)]) := Lib.hid (by unfold wr; rw [hpf]; rfl)
    have k1 : (0 : Int) ≤ (b.toNat : Int) / 16 := by omega
    have k2 : (b.toNat : Int) / 16 < 16 := by omega
    have k3 : (0 : Int) ≤ (b.toNat : Int) % 16 := by omega
    have k4 : (b.toNat : Int) % 16 < 16 := by omega
    rw [hpf] at HP
    have hconv : ∀ p q : UInt8, (Go.convert 48 9 (.slice (some ⟨w.heap.size, 0, none⟩) 3 3)).run Tryd.prog (w.alloc (.cells #[.int .u8 37, .int .u8 (p.toNat : Int), .int .u8 (q.toNat : Int)] 5)).drew = .ok (.string (ofL [37, p, q])) (w.alloc (.cells #[.int .u8 37, .int .u8 (p.toNat : Int), .int .u8 (q.toNat : Int)] 5)).drew := fun p q =>
      text_at (w.alloc _).drew _ [37, p, q] _ _ 3 (heap_new w _) (by intro j hj; match j, hj with | 0, _ => rfl | 1, _ => rfl | 2, _ => rfl)
    clear hp hpf
    go_enter Tryd.func57, Tryd.ntmps57
    go_wp2_with fail
    refine (HP.out _).mono ?_
    rintro e w' ⟨rfl, rfl⟩
    go_wp2_with fail
    go_region
    go_wp2_with fail
    go_ret
    refine ⟨ret_string ?_, ((Below.refl _ _).alloc (Nat.le_refl _) _).drew⟩
    rw [HW.out]
    have s16 : digs.size = 16 := rfl
    have e1 := digs_hx (b.toNat / 16) (by omega)
    have e2 := digs_hx (b.toNat % 16) (by omega)
    rw [← e1, ← e2]
    rfl
end Go.Proofs.YtaiipdjibllodaaDoor.POneForm

/- Layer 5 of the program: a text whose front is taken off, byte by byte. -/
namespace Go.Proofs.YtaiipdjibllodaaDoor.PCur
open Go.ChangeShapes Go.WideShapes Go.ChangeAt Go.RowKit LexPure Bytes Ret PathPure PEsc PBytes5 PBuild
def sizeOfS : Value → Nat | .string s => s.size | _ => 0
theorem empty_no {s : ByteArray} (h : 0 < s.size) : ¬ s.toList = [] ∧ s.toList.isEmpty = false := by
  have h1 : ¬ s.toList = [] := fun e => by
    rw [ByteArray.toList_eq] at e
    have := toL_length s
    rw [show toL s = [] from e] at this
    simp at this
    omega
  refine ⟨h1, ?_⟩
  cases h2 : s.toList with
  | nil => exact absurd h2 h1
  | cons => rfl
theorem empty_yes {s : ByteArray} (h : ¬ 0 < s.size) : s.toList = [] ∧ s.toList.isEmpty = true := by
  have h1 : s.toList = [] := by
    rw [ByteArray.toList_eq]
    exact List.length_eq_zero_iff.1 (by have := toL_length s; unfold toL at this; omega)
  exact ⟨h1, by rw [h1]; rfl⟩
theorem sign_cases (c : UInt8) : (c = 37 ∧ ((c.toNat : Int) != 37) = false) ∨ (¬ c = 37 ∧ ((c.toNat : Int) != 37) = true) := by
  have := all_bytes (p := fun c => (c == 37 && (((c.toNat : Int) != 37) == false)) || (!(c == 37) && (((c.toNat : Int) != 37) == true))) (by decide +kernel) c
  simpa using this
theorem cut_one (s : ByteArray) (h : 0 < s.size) : toL s = s[0] :: toL (s.extract 1 s.size) ∧ (s.extract 1 s.size).size + 1 = s.size := by
  constructor
  · have h1 := toL_drop s 0 h
    rw [List.drop_zero] at h1
    rw [h1, toL_extract, List.take_of_length_le (by rw [toL_length]; exact Nat.le_refl _)]
  · rw [ByteArray.size_extract]; omega
theorem cut_three (s : ByteArray) : toL (s.extract 3 s.size) = (toL s).drop 3 ∧ (s.extract 3 s.size).size = s.size - 3 := by
  constructor
  · rw [toL_extract, List.take_of_length_le (by rw [toL_length]; exact Nat.le_refl _)]
  · rw [ByteArray.size_extract]; omega
theorem ret_dec {a b : ByteArray} {p q : Bool} (h : a = b) (k : p = q) : Ending.returned (.tuple #[.string a, .bool p]) = .returned (.tuple #[.string b, .bool q]) := by rw [h, k]
end Go.Proofs.YtaiipdjibllodaaDoor.PCur

/- Layer 5 of the program: settled: escapes in their one form, round by round. -/
namespace Go.Proofs.YtaiipdjibllodaaDoor.PSettled
open Go.ChangeShapes Go.WideShapes Go.ChangeAt Go.RowKit LexPure Bytes Ret PathPure PEsc PBytes5 PBuild POneForm PCur
set_option maxRecDepth 20000
set_option maxHeartbeats 1600000 in
theorem psettled_any (s : ByteArray) (hs : s.size ≤ 140737488351232) (w : World) :
    Calls Tryd.prog 43 #[.string s] w fun e w' => e = .returned (.tuple #[.string (ofL ((esc (toL s)).getD [])), .bool (esc (toL s)).isSome]) ∧ Below w.heap.size w w' := by
  have HB := Lib.hid (Bld.start w)
  go_enter Tryd.func43, Tryd.ntmps43
  go_wp2_with fail
  go_loopw [0] (fun v wr => ∃ cur acc, v = .string cur ∧ acc.length + cur.size ≤ s.size ∧ Hid (Bld w w.heap.size acc wr) ∧ Hid (esc (toL s) = (esc (toL cur)).map (acc ++ ·))) (fun v _ => sizeOfS v)
  case atStart => exact ⟨s, [], rfl, by simp, HB, Lib.hid (by simp)⟩
  case round =>
    clear HB
    obtain ⟨cur, acc, rfl, hlen, HI, HD⟩ := hrel
    by_cases hpos : 0 < cur.size
    · obtain ⟨m1, m2⟩ := empty_no hpos
      obtain ⟨hc1, hc2⟩ := cut_one cur hpos
      have hC1 := Lib.hid hc1
      have hpi : (0 : Int) < (cur.size : Int) := by omega
      have hcs : (cur.size : Int) ≤ 140737488351232 := by omega
      clear hc1
      have HK := Lib.hid (fun w => pofpath_any cur[0] w)
      by_cases hk : okc cur[0] = true
      rotate_left
      · have hkf : okc cur[0] = false := by simpa using hk
        have HV : Hid (esc (toL s) = none) := Lib.hid (by
          rw [HD.out, hC1.out, esc_bad hkf]
          rfl)
        rw [hkf] at HK
        clear HD hk hkf hC1
        go_wp2_with fail
        refine (HK.out _).mono ?_
        rintro e w' ⟨rfl, rfl⟩
        go_wp2_with fail
        go_ret2
        exact ⟨ret_dec (by rw [HV.out]; rfl) (by rw [HV.out]; rfl), HI.out.2⟩
      rw [hk] at HK
      rcases sign_cases cur[0] with ⟨h37, hq⟩ | ⟨h37, hq⟩
      · have HE := Lib.hid (fun w => pescaped_any cur (by omega) w)
        obtain ⟨hd1, hd2⟩ := cut_three cur
        have hlt := escN_lt (toL cur)
        by_cases ho : escO (toL cur) = true
        · have h3 := esc_three ho
          rw [toL_length] at h3
          have HD2 : Hid (esc (toL s) = (esc (toL (cur.extract 3 cur.size))).map ((acc ++ PathPure.wr (escN (toL cur))) ++ ·)) := Lib.hid (by
            rw [HD.out, hd1, ← map_map, hC1.out, h37]
            rw [hC1.out, h37] at ho
            rw [esc_yes ho])
          rw [ho] at HE
          have hwl := wr_le (escN (toL cur))
          have HN := Lib.hid (fun wr' (h : Bld w w.heap.size acc wr') => bld_text h (ofL (PathPure.wr (escN (toL cur)))) (by rw [ofL_size]; omega))
          have HF := Lib.hid (fun w => poneform_any (UInt8.ofNat (escN (toL cur))) w)
          rw [UInt8.toNat_ofNat_of_lt' hlt] at HF
          rw [toL_ofL] at HN
          have h3i : 3 ≤ (cur.size : Int) := by omega
          clear HD ho hC1 hd1 h37
          generalize escN (toL cur) = n at *
          generalize ofL (PathPure.wr n) = X at *
          go_wp2_with fail
          refine (HK.out _).mono ?_
          rintro e w' ⟨rfl, rfl⟩
          go_wp2_with fail
          refine (HE.out _).mono ?_
          rintro e w' ⟨rfl, rfl⟩
          go_wp2_with fail
          refine (HF.out _).mono ?_
          rintro e w3 ⟨rfl, hb3⟩
          have HI3 := Lib.hid (HI.out.keep hb3)
          clear hb3 HI
          go_wp2_with fail
          refine (HN.out _ HI3.out).mono ?_
          rintro e w2 ⟨rfl, hb2⟩
          have HB2 := Lib.hid hb2
          clear hb2 HI3
          go_wp2_with fail
          go_roundw
          case rel => exact ⟨_, _, rfl, by rw [hd2, List.length_append]; omega, HB2, HD2⟩
          case measure => simp [sizeOfS]; omega
        · have hof : escO (toL cur) = false := by simpa using ho
          have HV : Hid (esc (toL s) = none) := Lib.hid (by
            rw [HD.out, hC1.out, h37, esc_no (by rw [← h37, ← hC1.out]; exact hof)]
            rfl)
          rw [hof] at HE
          clear HD ho hof hC1 hd1 h37 hd2 hlt
          generalize escN (toL cur) = n at *
          go_wp2_with fail
          refine (HK.out _).mono ?_
          rintro e w' ⟨rfl, rfl⟩
          go_wp2_with fail
          refine (HE.out _).mono ?_
          rintro e w' ⟨rfl, rfl⟩
          go_wp2_with fail
          go_ret2
          exact ⟨ret_dec (by rw [HV.out]; rfl) (by rw [HV.out]; rfl), HI.out.2⟩
      · have HD2 : Hid (esc (toL s) = (esc (toL (cur.extract 1 cur.size))).map ((acc ++ [cur[0]]) ++ ·)) := Lib.hid (by
          rw [HD.out, ← map_cons, ← esc_other hk h37, ← hC1.out])
        have HN := Lib.hid (fun wr' (h : Bld w w.heap.size acc wr') => bld_byte h cur[0] (by omega))
        clear HD hC1 h37
        go_wp2_with fail
        refine (HK.out _).mono ?_
        rintro e w' ⟨rfl, rfl⟩
        go_wp2_with fail
        refine (HN.out _ HI.out).mono ?_
        rintro e w2 ⟨rfl, hb2⟩
        have HB2 := Lib.hid hb2
        clear hb2 HI
        go_wp2_with fail
        go_roundw
        case rel => exact ⟨_, _, rfl, by simp; omega, HB2, HD2⟩
        case measure => simp [sizeOfS]; omega
    · obtain ⟨m1, m2⟩ := empty_yes hpos
      have HV : Hid (esc (toL s) = some acc) := Lib.hid (by
        rw [HD.out, show toL cur = [] from (ByteArray.toList_eq cur).symm.trans m1]
        simp [esc])
      have HN := Lib.hid (fun wr' (h : Bld w w.heap.size acc wr') => bld_out h)
      clear HD hpos
      go_wp2_with fail
      refine (HN.out _ HI.out).mono ?_
      rintro e w2 ⟨rfl, hb2⟩
      have HB2 := Lib.hid hb2
      clear hb2 HI
      go_wp2_with fail
      go_ret2
      exact ⟨ret_dec (by rw [HV.out]; rfl) (by rw [HV.out, Option.isSome_some]), HB2.out⟩
end Go.Proofs.YtaiipdjibllodaaDoor.PSettled

/- Paths: what a normal form means, steps in it, what lies under what. No program is named. -/
namespace Go.Proofs.YtaiipdjibllodaaDoor.PathMore
open LexPure Bytes PathPure PathForm

theorem dec_wr {n : Nat} (h : n < 256) (r : List UInt8) : dec (wr n ++ r) = (dec r).map (UInt8.ofNat n :: ·) := by
  unfold wr
  by_cases hp : plainP n = true
  · rw [if_pos hp]
    have := plain_okc h hp
    show dec (UInt8.ofNat n :: r) = _
    rw [dec_cons, if_neg (by simp [this.2.1])]
  · rw [if_neg hp]
    have hd := hx_dig h
    show dec (37 :: hx (n / 16) :: hx (n % 16) :: r) = _
    rw [dec_cons, if_pos (by decide)]
    simp only [hd.1, hd.2.1, Bool.and_self, if_true, hd.2.2]
/-- undoing plain escapes changes nothing of what is meant -/
theorem dec_esc : ∀ (n : Nat) {s t : List UInt8}, s.length ≤ n → esc s = some t → dec s = dec t ∧ ∃ u, dec s = some u
  | _, [], t, _, h => by
    simp only [esc, Option.some.injEq] at h
    subst h
    exact ⟨rfl, [], rfl⟩
  | 0, c :: s, t, hn, _ => by simp at hn
  | n + 1, c :: s, t, hn, h => by
    rw [esc_cons] at h
    split at h
    · rename_i hc
      split at h
      · rename_i h37
        split at h
        · rename_i a b r
          split at h
          · rename_i hab
            obtain ⟨u, hu, rfl⟩ := Option.map_eq_some_iff.1 h
            obtain ⟨ih, v, hv⟩ := dec_esc n (s := r) (by simp at hn; omega) hu
            have hab2 := hab
            rw [Bool.and_eq_true] at hab2
            rw [dec_wr (two_lt hab2.1 hab2.2), ← ih, dec_cons, if_pos h37]
            simp only [hab, if_true, hv]
            exact ⟨trivial, _, rfl⟩
          · cases h
        · cases h
      · rename_i h37
        obtain ⟨u, hu, rfl⟩ := Option.map_eq_some_iff.1 h
        obtain ⟨ih, v, hv⟩ := dec_esc n (s := s) (by simp at hn; omega) hu
        rw [dec_cons, if_neg h37, dec_cons, if_neg h37, ← ih, hv]
        exact ⟨rfl, _, rfl⟩
    · cases h
/-- an escape in what is escaped once hides no plain byte -/
theorem enc_at {p : List UInt8} (h : Enc p) : ∀ i, p[i]? = some 37 → ∃ n r, n < 256 ∧ plainP n = false ∧ p.drop i = 37 :: hx (n / 16) :: hx (n % 16) :: r := by
  induction h with
  | nil => intro i hi; simp at hi
  | one c r hc h37 _ ih =>
    intro i hi
    cases i with
    | zero => simp at hi; simp [hi] at h37
    | succ i => simp at hi; exact ih i hi
  | tri n r hn hp _ ih =>
    intro i hi
    have hk := hx_okc hn
    match i with
    | 0 => exact ⟨n, r, hn, hp, rfl⟩
    | 1 => simp at hi; simp [hi] at hk
    | 2 => simp at hi; simp [hi] at hk
    | i + 3 => simp at hi; exact ih i hi
/-- a letter -/
def small26 (c : UInt8) : Bool := decide (97 ≤ c.toNat) && decide (c.toNat ≤ 122)
theorem small26_ok {c : UInt8} (h : small26 c = true) : okc c = true ∧ (c == 37) = false ∧ (c == 47) = false ∧ (c == 46) = false := by
  have := all_bytes (p := fun c => !small26 c || (okc c && !(c == 37) && !(c == 47) && !(c == 46))) (by decide +kernel) c
  rw [h] at this
  simp only [Bool.not_true, Bool.false_or, Bool.and_eq_true, Bool.not_eq_true'] at this
  exact ⟨this.1.1.1, this.1.1.2, this.1.2, this.2⟩
theorem letters_enc : ∀ {w : List UInt8}, w.all small26 = true → Enc w ∧ noSlash w = true
  | [], _ => ⟨Enc.nil, rfl⟩
  | c :: w, h => by
    rw [List.all_cons, Bool.and_eq_true] at h
    have hc := small26_ok h.1
    have ih := letters_enc h.2
    refine ⟨Enc.one c w hc.1 hc.2.1 ih.1, ?_⟩
    unfold noSlash
    rw [List.all_cons]
    have := ih.2
    unfold noSlash at this
    rw [this]
    simp [bne, hc.2.2.1]
theorem letters_clean {w : List UInt8} (h : w.all small26 = true) : CleanP (120 :: w) := by
  have hw : (120 :: w).all small26 = true := by rw [List.all_cons, h]; decide
  have := letters_enc hw
  exact ⟨by simp [isDot], by simp [isUp], this.2, this.1⟩
theorem finish_open (kept ps : List (List UInt8)) (h : endsOpen ps = true) : finish kept ps = form kept true := by
  unfold finish form
  rw [h, Bool.or_true]
theorem normal_of {s t : List UInt8} {kept : List (List UInt8)} (h1 : escapes s = some t) (h2 : keeps [] (cuts t.tail) = some kept) : normal s = some (finish kept (cuts t.tail)) := by
  unfold normal
  rw [h1]
  simp only
  rw [h2]
section
variable {kept : List (List UInt8)} {tr : Bool} (hf : kept = [] → tr = true) (hc : ∀ p ∈ kept, CleanP p)
include hf hc
/-- a step that stays -/
theorem step_stay : normal (form kept tr ++ [47, 46]) = some (form kept true) := by
  have h1 := escapes_more hf hc (r := [47, 46]) (u := [47, 46]) (by decide)
  have e : cuts (form kept tr ++ [47, 46]).tail = (kept ++ (if tr then [[]] else [])) ++ [[46]] := cuts_more kept tr hf hc [46]
  have h2 : keeps [] (cuts (form kept tr ++ [47, 46]).tail) = some kept := by
    rw [e, keeps_append, keeps_trail kept tr hc]
    simp [keeps, isDot]
  rw [normal_of h1 h2, finish_open]
  rw [e]
  simp [endsOpen, isDot]
/-- a step into a piece and out again -/
theorem step_out {w : List UInt8} (hw : w.all small26 = true) : normal (form kept tr ++ 47 :: ((120 :: w) ++ [47, 46, 46])) = some (form kept true) := by
  have hx := letters_clean hw
  have he : esc (47 :: ((120 :: w) ++ [47, 46, 46])) = some (47 :: ((120 :: w) ++ [47, 46, 46])) := enc_esc (enc_slash (enc_append hx.enc (enc_slash (Enc.one 46 _ (by decide) (by decide) (Enc.one 46 _ (by decide) (by decide) Enc.nil)))))
  have h1 := escapes_more hf hc he
  have e : cuts (form kept tr ++ 47 :: ((120 :: w) ++ [47, 46, 46])).tail = (kept ++ (if tr then [[]] else [])) ++ [120 :: w, [46, 46]] := by
    rw [cuts_more kept tr hf hc, cuts_cut hx.no]
    rfl
  have h2 : keeps [] (cuts (form kept tr ++ 47 :: ((120 :: w) ++ [47, 46, 46])).tail) = some kept := by
    rw [e, keeps_append, keeps_trail kept tr hc]
    show keeps kept [120 :: w, [46, 46]] = _
    rw [keeps, if_neg (by simp [hx.dot]), if_neg (by simp [hx.up]), keeps, if_neg (by decide), if_pos (by decide)]
    simp [keeps]
  rw [normal_of h1 h2, finish_open]
  rw [e]
  simp [endsOpen, isUp]
/-- a slash, a step that stays, and a piece -/
theorem step_in {w : List UInt8} (hw : w.all small26 = true) : normal (form kept tr ++ ([47, 47, 37, 50, 101, 47, 120] ++ w)) = some (form kept true ++ 120 :: w) := by
  have hx := letters_clean hw
  have he0 : esc [47, 47, 37, 50, 101] = some [47, 47, 46] := by decide
  have he1 := esc_append _ (47 :: 120 :: w) (Nat.le_refl _) he0
  rw [enc_esc (enc_slash hx.enc)] at he1
  have he : esc ([47, 47, 37, 50, 101, 47, 120] ++ w) = some (47 :: [47, 46, 47, 120] ++ w) := he1
  have h1 := escapes_more hf hc he
  have ez : form kept tr ++ (47 :: [47, 46, 47, 120] ++ w) = form kept tr ++ 47 :: ([47, 46] ++ 47 :: (120 :: w)) := rfl
  rw [ez] at h1
  have e : cuts (form kept tr ++ 47 :: ([47, 46] ++ 47 :: (120 :: w))).tail = (kept ++ (if tr then [[]] else [])) ++ [[], [46], 120 :: w] := by
    rw [cuts_more kept tr hf hc, cuts_append, cuts_plain (p := 120 :: w) hx.no]
    rfl
  have h2 : keeps [] (cuts (form kept tr ++ 47 :: ([47, 46] ++ 47 :: (120 :: w))).tail) = some (kept ++ [120 :: w]) := by
    rw [e, keeps_append, keeps_trail kept tr hc]
    show keeps kept [[], [46], 120 :: w] = _
    rw [keeps, if_pos (by decide), keeps, if_pos (by decide), keeps, if_neg (by simp [hx.dot]), if_neg (by simp [hx.up]), keeps]
  rw [normal_of h1 h2]
  congr 1
  rw [e]
  have he : endsOpen (kept ++ (if tr then [[]] else []) ++ [[], [46], 120 :: w]) = false := by
    have hl : (kept ++ (if tr then [[]] else []) ++ [[], [46], 120 :: w]).getLastD [] = 120 :: w := by
      rw [List.getLastD_eq_getLast?]
      simp
    unfold endsOpen
    rw [hl, hx.dot, hx.up]
    rfl
  unfold finish form
  rw [he]
  simp [join]
end
/-! ### what lies under what -/
theorem under_self (p : List UInt8) : under p p = true := by simp [under]
theorem under_trans {a b c : List UInt8} (h1 : under a b = true) (h2 : under b c = true) : under a c = true := by
  unfold under at *
  simp only [Bool.and_eq_true, Bool.or_eq_true, beq_iff_eq] at *
  obtain ⟨e1, k1⟩ := h1
  obtain ⟨e2, k2⟩ := h2
  have hl1 : b.length ≤ a.length := by
    have := congrArg List.length e1
    rw [List.length_take] at this
    omega
  have hl2 : c.length ≤ b.length := by
    have := congrArg List.length e2
    rw [List.length_take] at this
    omega
  have e3 : a.take c.length = c := by
    rw [← e1, List.take_take, Nat.min_eq_left hl2] at e2
    exact e2
  refine ⟨e3, ?_⟩
  rcases k2 with (k2 | k2) | k2
  · have : b = c := by rw [← e2, List.take_of_length_le (by omega)]
    rw [← this]
    exact k1
  · have hlt : c.length < b.length := by
      rcases Nat.lt_or_ge c.length b.length with h | h
      · exact h
      · rw [List.getElem?_eq_none h] at k2
        cases k2
    refine .inl (.inr ?_)
    rw [← e1, List.getElem?_take, if_pos hlt] at k2
    exact k2
  · exact .inr k2
end Go.Proofs.YtaiipdjibllodaaDoor.PathMore

/- Layer 5: what each call of the program's answers. -/
namespace Go.Proofs.YtaiipdjibllodaaDoor.PathObj
open Go.ChangeShapes Go.WideShapes Go.ChangeAt Go.RowKit LexPure Bytes Ret PathPure PathForm RNormal PSettled PUnder PResolved Mem
set_option maxRecDepth 20000
theorem esc_head {t u : List UInt8} (h : esc (47 :: t) = some u) : ∃ v, u = 47 :: v := by
  rw [esc_cons, if_pos (by decide), if_neg (by decide)] at h
  obtain ⟨v, _, rfl⟩ := Option.map_eq_some_iff.1 h
  exact ⟨v, rfl⟩
theorem head_cases (s : List UInt8) : (([47] : List UInt8).isPrefixOf s = false ∧ escapes s = none) ∨ (∃ t, s = 47 :: t ∧ ([47] : List UInt8).isPrefixOf s = true ∧ escapes s = esc s) := by
  rw [starts_one]
  cases s with
  | nil => exact .inl ⟨rfl, rfl⟩
  | cons c t =>
    by_cases h : c = 47
    · subst h
      exact .inr ⟨t, rfl, by simp, by unfold escapes; simp⟩
    · have hq : (c == 47) = false := by simpa using h
      exact .inl ⟨by simp [h], by unfold escapes; simp [hq]⟩
theorem normal_any (s : ByteArray) (hs : s.size ≤ 4194304) (w : World) (hm : MaxInt w) :
    Calls Tryd.prog 32 #[.string s] w fun e w' => e = .returned (.tuple #[.string (normS (toL s)), .int .i64 (normE (toL s))]) ∧ Below w.heap.size w w' := by
  have HP := Lib.hid (fun w => lib_has s ⟨#[47]⟩ w)
  rw [show toL ⟨#[47]⟩ = [47] from rfl] at HP
  rcases head_cases (toL s) with ⟨h1, h2⟩ | ⟨t, h0, h1, h2⟩
  · have hn : normal (toL s) = none := by unfold normal; rw [h2]
    rw [(norm_none hn).1, (norm_none hn).2]
    rw [h1] at HP
    clear h1 h2 hn hm
    go_enter Tryd.func32, Tryd.ntmps32
    go_wp2_with fail
    refine (HP.out _).mono ?_
    rintro e w' ⟨rfl, rfl⟩
    go_wp2_with fail
    go_ret2
    exact ⟨rfl, Below.refl _ _⟩
  · rw [h1] at HP
    have HS := Lib.hid (fun w => psettled_any s (by omega) w)
    cases hesc : esc (toL s) with
    | none =>
      have hn : normal (toL s) = none := by unfold normal; rw [h2, hesc]
      rw [(norm_none hn).1, (norm_none hn).2]
      rw [hesc] at HS
      clear h1 h2 hn hm h0 hesc
      go_enter Tryd.func32, Tryd.ntmps32
      go_wp2_with fail
      refine (HP.out _).mono ?_
      rintro e w' ⟨rfl, rfl⟩
      go_wp2_with fail
      refine (HS.out _).mono ?_
      rintro e w1 ⟨rfl, hb1⟩
      go_wp2_with fail
      go_ret2
      exact ⟨rfl, hb1⟩
    | some u =>
      obtain ⟨v, rfl⟩ := esc_head (by rw [← h0]; exact hesc)
      have hul := esc_len _ (Nat.le_refl _) hesc
      rw [toL_length] at hul
      have HR := Lib.hid (fun w hm => presolved_any (ofL (47 :: v)) (by rw [ofL_size]; omega) v (toL_ofL _) w hm)
      have hn : normS (toL s) = resS (cuts v) ∧ normE (toL s) = resE (cuts v) := by
        cases hk : keeps [] (cuts v) with
        | none =>
          have hnn : normal (toL s) = none := by unfold normal; rw [h2, hesc]; simp only [List.tail_cons, hk]
          exact ⟨(norm_none hnn).1.trans (by unfold resS; rw [hk]), (norm_none hnn).2.trans (by unfold resE; rw [hk]; rfl)⟩
        | some G =>
          have hnn : normal (toL s) = some (finish G (cuts v)) := by unfold normal; rw [h2, hesc]; simp only [List.tail_cons, hk]
          exact ⟨(norm_some hnn).1.trans (by unfold resS; rw [hk]), (norm_some hnn).2.trans (by unfold resE; rw [hk]; rfl)⟩
      rw [hn.1, hn.2]
      rw [hesc, show (some (47 :: v)).getD [] = 47 :: v from rfl] at HS
      have HM := Lib.hid hm
      clear h1 h2 hn hm h0 hesc hul
      generalize ofL (47 :: v) = E at *
      generalize resS (cuts v) = x at *
      generalize resE (cuts v) = y at *
      go_enter Tryd.func32, Tryd.ntmps32
      go_wp2_with fail
      refine (HP.out _).mono ?_
      rintro e w' ⟨rfl, rfl⟩
      go_wp2_with fail
      refine (HS.out _).mono ?_
      rintro e w1 ⟨rfl, hb1⟩
      have HM1 := Lib.hid (HM.out.below hb1)
      clear HM
      go_wp2_with fail
      refine (HR.out _ HM1.out).mono ?_
      rintro e w2 ⟨rfl, hb2⟩
      have HB := Lib.hid (below_chain hb1 hb2)
      clear hb1 hb2 HM1
      go_wp2_with fail
      go_ret2
      exact ⟨rfl, HB.out⟩
end Go.Proofs.YtaiipdjibllodaaDoor.PathObj

/- A text cut at its first byte of a kind: ahead of it, behind it. No program is named. -/
namespace Go.Proofs.YtaiipdjibllodaaDoor.CutAt
open Bytes
def aheadOf (x : UInt8) (s : List UInt8) : List UInt8 := s.takeWhile (fun c => c != x)
def behind (x : UInt8) (s : List UInt8) : List UInt8 := (s.dropWhile (fun c => c != x)).tail
def hasB (x : UInt8) (s : List UInt8) : Bool := s.any (fun c => c == x)
theorem index_tail (x : UInt8) (c : UInt8) (l : List UInt8) (h : (c == x) = false) : Go.Lib.index (c :: l) [x] = if Go.Lib.index l [x] == -1 then -1 else Go.Lib.index l [x] + 1 := by
  have hp : ([x] : List UInt8).isPrefixOf (c :: l) = false := by
    have : ¬ x = c := fun e => by rw [← e, beq_self_eq_true] at h; cases h
    simp [List.isPrefixOf, this]
  rw [Go.Lib.index, hp]
  rfl
theorem cut_say (x : UInt8) (s : List UInt8) : (Go.Lib.cut s [x]).1 = aheadOf x s ∧ (Go.Lib.cut s [x]).2.1 = behind x s ∧ (Go.Lib.cut s [x]).2.2 = hasB x s := by
  unfold aheadOf behind hasB Go.Lib.cut
  induction s with
  | nil =>
    have : Go.Lib.index [] [x] = -1 := by simp [Go.Lib.index]
    rw [this]
    exact ⟨rfl, rfl, rfl⟩
  | cons c l ih =>
    by_cases hc : c = x
    · subst hc
      have hix : Go.Lib.index (c :: l) [c] = 0 := by rw [Go.Lib.index]; simp [List.isPrefixOf]
      rw [hix]
      simp
    · have hq : (c == x) = false := by simpa using hc
      have hn : (c != x) = true := by simp [hc]
      rw [index_tail x c l hq, List.takeWhile_cons, hn, List.dropWhile_cons, hn, List.any_cons, hq]
      have hge := Go.Lib.index_ge l [x]
      by_cases hm : Go.Lib.index l [x] = -1
      · rw [hm] at ih ⊢
        simp at ih ⊢
        exact ⟨ih.1, ih.2⟩
      · obtain ⟨i, hi⟩ : ∃ i : Nat, Go.Lib.index l [x] = i := ⟨(Go.Lib.index l [x]).toNat, by omega⟩
        rw [hi] at ih ⊢
        have h1 : ((i : Int) == -1) = false := beq_eq_false_iff_ne.2 (by omega)
        have h3 : ((i : Int) + 1).toNat = i + 1 := by omega
        have h4 : (0 : Int) ≤ (i : Int) + 1 := by omega
        have h5 : (0 : Int) ≤ (i : Int) := by omega
        simp only [h1, h3, h4, h5, if_true, Bool.false_eq_true, if_false, Bool.false_or] at ih ⊢
        rw [show i + 1 + ([x] : List UInt8).length = (i + [x].length) + 1 from rfl, List.take_succ_cons, List.drop_succ_cons]
        exact ⟨by rw [← ih.1]; simp, ih.2.1, ih.2.2⟩
end Go.Proofs.YtaiipdjibllodaaDoor.CutAt

/-
  DERIVED: THE SHELF's CONTRACTS AT THIS DUMP, IN PLAIN WORDS (tools/lay-plain.mjs out of 'YtaiipdjibllodaaDoorCutLaysT.lean', which tools/lay-shelf.mjs wrote): THE SAME DECLARATIONS UNDER THE SAME NAMES: 'import', 'namespace', 'open', 'def', 'theorem' AND NOTHING ELSE: no command of the shelf's: FOR A HAND-IN. Each laying: the table of numbers ('.._ren') and one theorem, a field a fact of the dump's own or the kernel's comparison; each contract: ONE APPLICATION.
-/
namespace Go.Proofs
open Go.Shelf
def Tryd.lays219_ren : Go.Shelf.Ren := ⟨fun | 219 => 50 | 217 => 68 | 225 => 64 | 224 => 63 | 267 => 69 | 266 => 76 | 314 => 77 | n => n, fun | 9 => 9 | 3 => 3 | 4 => 4 | 5 => 5 | 46 => 84 | 146 => 92 | 51 => 91 | n => n, fun | 1 => 0 | n => n⟩
theorem Tryd.lays219 : Go.Proofs.Lays.n219 Tryd.prog Tryd.lays219_ren := {
  mixed := by kernel_rfl
  f217 := Tryd.func68.trans (congrArg some (by kernel_rfl))
  f219 := Tryd.func50.trans (congrArg some (by kernel_rfl))
  f224 := Tryd.func63.trans (congrArg some (by kernel_rfl))
  f225 := Tryd.func64.trans (congrArg some (by kernel_rfl))
  f266 := Tryd.func76.trans (congrArg some (by kernel_rfl))
  f267 := Tryd.func69.trans (congrArg some (by kernel_rfl))
  f314 := Tryd.func77.trans (congrArg some (by kernel_rfl))
  t3 := Tryd.underlying3
  a3 := Tryd.isAgg3
  z3 := Tryd.sizeOf3
  v3 := Tryd.zeroValue3
  t4 := Tryd.underlying4
  a4 := Tryd.isAgg4
  z4 := Tryd.sizeOf4
  v4 := Tryd.zeroValue4
  t5 := Tryd.underlying5
  a5 := Tryd.isAgg5
  z5 := Tryd.sizeOf5
  v5 := Tryd.zeroValue5
  t9 := Tryd.underlying9
  a9 := Tryd.isAgg9
  z9 := Tryd.sizeOf9
  v9 := Tryd.zeroValue9
  t46 := Tryd.underlying84
  a46 := Tryd.isAgg84
  z46 := Tryd.sizeOf84
  v46 := Tryd.zeroValue84
  t51 := Tryd.underlying91
  a51 := Tryd.isAgg91
  z51 := Tryd.sizeOf91
  v51 := Tryd.zeroValue91
  t146 := Tryd.underlying92
  a146 := Tryd.isAgg92
  z146 := Tryd.sizeOf92
  v146 := Tryd.zeroValue92
  g1 := by kernel_rfl }
def Tryd.lays144_ren : Go.Shelf.Ren := ⟨fun | 144 => 38 | 143 => 51 | 219 => 50 | 217 => 68 | 225 => 64 | 224 => 63 | 267 => 69 | 266 => 76 | 314 => 77 | n => n, fun | 9 => 9 | 4 => 4 | 3 => 3 | 5 => 5 | 46 => 84 | 146 => 92 | 51 => 91 | n => n, fun | 1 => 0 | n => n⟩
theorem Tryd.lays144 : Go.Proofs.Lays.n144 Tryd.prog Tryd.lays144_ren := {
  mixed := by kernel_rfl
  f143 := Tryd.func51.trans (congrArg some (by kernel_rfl))
  f144 := Tryd.func38.trans (congrArg some (by kernel_rfl))
  f217 := Tryd.func68.trans (congrArg some (by kernel_rfl))
  f219 := Tryd.func50.trans (congrArg some (by kernel_rfl))
  f224 := Tryd.func63.trans (congrArg some (by kernel_rfl))
  f225 := Tryd.func64.trans (congrArg some (by kernel_rfl))
  f266 := Tryd.func76.trans (congrArg some (by kernel_rfl))
  f267 := Tryd.func69.trans (congrArg some (by kernel_rfl))
  f314 := Tryd.func77.trans (congrArg some (by kernel_rfl))
  t3 := Tryd.underlying3
  a3 := Tryd.isAgg3
  z3 := Tryd.sizeOf3
  v3 := Tryd.zeroValue3
  t4 := Tryd.underlying4
  a4 := Tryd.isAgg4
  z4 := Tryd.sizeOf4
  v4 := Tryd.zeroValue4
  t5 := Tryd.underlying5
  a5 := Tryd.isAgg5
  z5 := Tryd.sizeOf5
  v5 := Tryd.zeroValue5
  t9 := Tryd.underlying9
  a9 := Tryd.isAgg9
  z9 := Tryd.sizeOf9
  v9 := Tryd.zeroValue9
  t46 := Tryd.underlying84
  a46 := Tryd.isAgg84
  z46 := Tryd.sizeOf84
  v46 := Tryd.zeroValue84
  t51 := Tryd.underlying91
  a51 := Tryd.isAgg91
  z51 := Tryd.sizeOf91
  v51 := Tryd.zeroValue91
  t146 := Tryd.underlying92
  a146 := Tryd.isAgg92
  z146 := Tryd.sizeOf92
  v146 := Tryd.zeroValue92
  g1 := by kernel_rfl }
end Go.Proofs

/- strings.Cut at a piece of one byte, at whatever size. -/
namespace Go.Proofs.YtaiipdjibllodaaDoor.PCutLib
open Go.ChangeShapes Go.WideShapes Go.ChangeAt Go.RowKit Bytes Ret CutAt
set_option maxRecDepth 20000
theorem lib_at (x : UInt8) (s : ByteArray) (w : World) :
    Calls Tryd.prog 50 #[.string s, .string ⟨#[x]⟩] w fun e w' => e = .returned (.int .i64 (Lib.index (toL s) [x])) ∧ w' = w := by
  have h := Any.stringslite_Index_one Tryd.lays219 s x w
  rw [← Lib.index_one] at h
  exact h
theorem ret_cut {a b c d : ByteArray} {p q : Bool} (h : a = c) (k : b = d) (l : p = q) : Ending.returned (.tuple #[.string a, .string b, .bool p]) = .returned (.tuple #[.string c, .string d, .bool q]) := by rw [h, k, l]
theorem lite_cut (x : UInt8) (s : ByteArray) (hs : s.size ≤ 140737488351232) (w : World) :
    Calls Tryd.prog 37 #[.string s, .string ⟨#[x]⟩] w fun e w' => e = .returned (.tuple #[.string (ofL (aheadOf x (toL s))), .string (ofL (behind x (toL s))), .bool (hasB x (toL s))]) ∧ Below w.heap.size w w' := by
  have HI := Lib.hid (fun w => lib_at x s w)
  obtain ⟨h1, h2, h3⟩ := cut_say x (toL s)
  unfold Lib.cut at h1 h2 h3
  have hge := Lib.index_ge (toL s) [x]
  have hle := Lib.index_le (toL s) [x]
  by_cases hm : Lib.index (toL s) [x] = -1
  · rw [hm] at h1 h2 h3 HI
    have HA : Hid (s = ofL (aheadOf x (toL s))) := Lib.hid (by rw [← h1]; exact (ofL_toL s).symm)
    have HB : Hid ((⟨#[]⟩ : ByteArray) = ofL (behind x (toL s))) := Lib.hid (by rw [← h2]; rfl)
    have HQ : Hid (false = hasB x (toL s)) := Lib.hid (by rw [← h3]; rfl)
    clear h1 h2 h3 hge hle hm
    go_enter Tryd.func37, Tryd.ntmps37
    go_wp2_with fail
    refine (HI.out _).mono ?_
    rintro e w' ⟨rfl, rfl⟩
    go_wp2_with fail
    go_ret3
    exact ⟨ret_cut HA.out HB.out HQ.out, Below.refl _ _⟩
  · obtain ⟨i, hi⟩ : ∃ i : Nat, Lib.index (toL s) [x] = i := ⟨(Lib.index (toL s) [x]).toNat, by omega⟩
    rw [hi] at h1 h2 h3 HI
    have hp : (0 : Int) ≤ (i : Int) := by omega
    simp only [hp, if_true, Int.toNat_natCast, List.length_singleton] at h1 h2 h3
    have hlt : i < s.size := by
      rcases Nat.lt_or_ge i (toL s).length with h | h
      · rwa [toL_length] at h
      · exfalso
        have e1 : aheadOf x (toL s) = toL s := by rw [← h1, List.take_of_length_le h]
        have e2 : hasB x (toL s) = true := h3.symm
        unfold aheadOf at e1
        unfold hasB at e2
        rw [List.any_eq_true] at e2
        obtain ⟨c, hc, hq⟩ := e2
        have hall : (toL s).all (fun c => c != x) = true := by
          rw [← e1]
          exact List.all_takeWhile
        have := List.all_eq_true.1 hall c hc
        simp only [bne_iff_ne, ne_eq, beq_iff_eq] at this hq
        exact this hq
    have HA : Hid (s.extract 0 i = ofL (aheadOf x (toL s))) := Lib.hid (toL_inj (by rw [toL_extract, toL_ofL, ← h1, List.drop_zero]))
    have HB : Hid (s.extract (i + 1) s.size = ofL (behind x (toL s))) := Lib.hid (toL_inj (by rw [toL_extract, toL_ofL, ← h2, List.take_of_length_le (by rw [toL_length]; exact Nat.le_refl _)]))
    have HQ : Hid (true = hasB x (toL s)) := Lib.hid h3
    have c1 : (i : Int) ≤ (s.size : Int) := by omega
    have c2 : (i : Int) + 1 ≤ (s.size : Int) := by omega
    have c3 : (0 : Int) ≤ (i : Int) + 1 := by omega
    have c4 : (s.size : Int) ≤ 140737488351232 := by omega
    clear h1 h2 h3 hge hle hm hi hlt
    go_enter Tryd.func37, Tryd.ntmps37
    go_wp2_with fail
    refine (HI.out _).mono ?_
    rintro e w' ⟨rfl, rfl⟩
    go_wp2_with fail
    go_region
    go_wp2_with fail
    go_ret3
    exact ⟨ret_cut HA.out HB.out HQ.out, ⟨rfl, rfl, rfl, Nat.le_refl _, fun _ _ => rfl⟩⟩
theorem full_cut (x : UInt8) (s : ByteArray) (hs : s.size ≤ 140737488351232) (w : World) :
    Calls Tryd.prog 24 #[.string s, .string ⟨#[x]⟩] w fun e w' => e = .returned (.tuple #[.string (ofL (aheadOf x (toL s))), .string (ofL (behind x (toL s))), .bool (hasB x (toL s))]) ∧ Below w.heap.size w w' := by
  have H := Lib.hid (lite_cut x s hs)
  clear hs
  go_enter Tryd.func24, Tryd.ntmps24
  go_wp2_with fail
  refine (H.out _).mono ?_
  rintro e w' ⟨rfl, hb⟩
  go_wp2_with fail
  go_ret3
  exact ⟨rfl, hb⟩
end Go.Proofs.YtaiipdjibllodaaDoor.PCutLib

/- Layer 5 of the program: Cut, at whatever size. -/
namespace Go.Proofs.YtaiipdjibllodaaDoor.PCut
open Go.ChangeShapes Go.WideShapes Go.ChangeAt Go.RowKit Bytes Ret PUnder CutAt PCutLib
set_option maxRecDepth 20000
theorem cut_full (s : ByteArray) (hs : s.size ≤ 140737488351232) (w : World) :
    Calls Tryd.prog 31 #[.string s] w fun e w' => e = .returned (.tuple #[.string (ofL (cutA (toL s))), .string (ofL (cutB (toL s))), .bool (cutQ (toL s))]) ∧ Below w.heap.size w w' := by
  have H := Lib.hid (full_cut 63 s hs)
  clear hs
  go_enter Tryd.func31, Tryd.ntmps31
  go_wp2_with fail
  refine (H.out _).mono ?_
  rintro e w' ⟨rfl, hb⟩
  go_wp2_with fail
  go_ret3
  exact ⟨rfl, hb⟩
end Go.Proofs.YtaiipdjibllodaaDoor.PCut
