/- Texts of this seat, one behind another: LexLays, Texts, PLibT, PTrim, PLib, PElements, RBlank, RTrim, RElements, AppendRow, R7Elements, AppendIn, PElems7, FrNames, PFrCh, LexFlat, R7Has, PFrRef, PFrHas, Held, FrBox. -/
import Derived.Shelf.Strings.SlTrimAscii
import Derived.Shelf.Strings.Split
import Derived.Shelf.Small.Strs
import Derived.Test.YtgkdepoimnmhfaaDoorProg
import Derived.Lib.Hide
import Derived.Below
import Derived.Outline
import Derived.LoopTactic
import Derived.Deep.Draws
import Derived.Shelf.Vars
import Derived.Handy
import Derived.Maps.AppendAt
import Derived.Laws.DeepStrings4
import Derived.Laws.AppendOwnNone
import Derived.OwnWalk
import Derived.OwnWalkIn
import Derived.OrdersIn
import Derived.RangeFuncBox
import Derived.RangeFuncNested
import Derived.Test.YtgkdepoimnmhfaaDoorA1
/-
  DERIVED: THE SHELF's CONTRACTS AT THIS DUMP, IN PLAIN WORDS (tools/lay-plain.mjs out of 'YtgkdepoimnmhfaaDoorLexLaysT.lean', which tools/lay-shelf.mjs wrote): THE SAME DECLARATIONS UNDER THE SAME NAMES: 'import', 'namespace', 'open', 'def', 'theorem' AND NOTHING ELSE: no command of the shelf's: FOR A HAND-IN. Each laying: the table of numbers ('.._ren') and one theorem, a field a fact of the dump's own or the kernel's comparison; each contract: ONE APPLICATION.
-/
namespace Go.Proofs
open Go.Shelf
def Tryd.lays137_ren : Go.Shelf.Ren := ⟨fun | 137 => 83 | 217 => 74 | 266 => 81 | n => n, fun | 9 => 9 | 5 => 5 | 3 => 3 | n => n, fun | n => n⟩
theorem Tryd.lays137 : Go.Proofs.Lays.n137 Tryd.prog Tryd.lays137_ren := {
  mixed := by kernel_rfl
  f137 := Tryd.func83.trans (congrArg some (by kernel_rfl))
  f217 := Tryd.func74.trans (congrArg some (by kernel_rfl))
  f266 := Tryd.func81.trans (congrArg some (by kernel_rfl))
  t3 := Tryd.underlying3
  a3 := Tryd.isAgg3
  z3 := Tryd.sizeOf3
  v3 := Tryd.zeroValue3
  t5 := Tryd.underlying5
  a5 := Tryd.isAgg5
  z5 := Tryd.sizeOf5
  v5 := Tryd.zeroValue5
  t9 := Tryd.underlying9
  a9 := Tryd.isAgg9
  z9 := Tryd.sizeOf9
  v9 := Tryd.zeroValue9 }
def Tryd.lays160_ren : Go.Shelf.Ren := ⟨fun | 160 => 53 | 232 => 60 | 231 => 59 | 227 => 61 | 234 => 63 | 233 => 62 | 236 => 65 | 235 => 64 | 228 => 71 | 271 => 73 | 151 => 72 | 197 => 69 | 120 => 80 | 152 => 79 | 260 => 78 | 137 => 83 | 119 => 84 | 224 => 76 | 225 => 75 | 217 => 74 | 266 => 81 | n => n, fun | 9 => 9 | 4 => 4 | 3 => 3 | 5 => 5 | 117 => 77 | 116 => 76 | 0 => 0 | 124 => 80 | 21 => 21 | 105 => 83 | 46 => 88 | 119 => 93 | 139 => 96 | 138 => 95 | n => n, fun | 3 => 1 | 4 => 2 | n => n⟩
theorem Tryd.lays160 : Go.Proofs.Lays.n160 Tryd.prog Tryd.lays160_ren := {
  mixed := by kernel_rfl
  f119 := Tryd.func84.trans (congrArg some (by kernel_rfl))
  f120 := Tryd.func80.trans (congrArg some (by kernel_rfl))
  f137 := Tryd.func83.trans (congrArg some (by kernel_rfl))
  f151 := Tryd.func72.trans (congrArg some (by kernel_rfl))
  f152 := Tryd.func79.trans (congrArg some (by kernel_rfl))
  f160 := Tryd.func53.trans (congrArg some (by kernel_rfl))
  f197 := Tryd.func69.trans (congrArg some (by kernel_rfl))
  f217 := Tryd.func74.trans (congrArg some (by kernel_rfl))
  f224 := Tryd.func76.trans (congrArg some (by kernel_rfl))
  f225 := Tryd.func75.trans (congrArg some (by kernel_rfl))
  f227 := Tryd.func61.trans (congrArg some (by kernel_rfl))
  f228 := Tryd.func71.trans (congrArg some (by kernel_rfl))
  f231 := Tryd.func59.trans (congrArg some (by kernel_rfl))
  f232 := Tryd.func60.trans (congrArg some (by kernel_rfl))
  f233 := Tryd.func62.trans (congrArg some (by kernel_rfl))
  f234 := Tryd.func63.trans (congrArg some (by kernel_rfl))
  f235 := Tryd.func64.trans (congrArg some (by kernel_rfl))
  f236 := Tryd.func65.trans (congrArg some (by kernel_rfl))
  f260 := Tryd.func78.trans (congrArg some (by kernel_rfl))
  f266 := Tryd.func81.trans (congrArg some (by kernel_rfl))
  f271 := Tryd.func73.trans (congrArg some (by kernel_rfl))
  t0 := Tryd.underlying0
  a0 := Tryd.isAgg0
  z0 := Tryd.sizeOf0
  v0 := Tryd.zeroValue0
  t3 := Tryd.underlying3
  a3 := Tryd.isAgg3
  z3 := Tryd.sizeOf3
  v3 := Tryd.zeroValue3
  t4 := Tryd.underlying4
  a4 := Tryd.isAgg4
  z4 := Tryd.sizeOf4
  v4 := Tryd.zeroValue4
  t5 := Tryd.underlying5
  a5 := Tryd.isAgg5
  z5 := Tryd.sizeOf5
  v5 := Tryd.zeroValue5
  t9 := Tryd.underlying9
  a9 := Tryd.isAgg9
  z9 := Tryd.sizeOf9
  v9 := Tryd.zeroValue9
  t21 := Tryd.underlying21
  a21 := Tryd.isAgg21
  z21 := Tryd.sizeOf21
  v21 := Tryd.zeroValue21
  t46 := Tryd.underlying88
  a46 := Tryd.isAgg88
  z46 := Tryd.sizeOf88
  v46 := Tryd.zeroValue88
  t105 := Tryd.underlying83
  a105 := Tryd.isAgg83
  z105 := Tryd.sizeOf83
  v105 := Tryd.zeroValue83
  t116 := Tryd.underlying76
  a116 := Tryd.isAgg76
  z116 := Tryd.sizeOf76
  t117 := Tryd.underlying77
  a117 := Tryd.isAgg77
  z117 := Tryd.sizeOf77
  v117 := Tryd.zeroValue77
  t119 := Tryd.underlying93
  a119 := Tryd.isAgg93
  z119 := Tryd.sizeOf93
  t124 := Tryd.underlying80
  a124 := Tryd.isAgg80
  z124 := Tryd.sizeOf80
  v124 := Tryd.zeroValue80
  t138 := Tryd.underlying95
  a138 := Tryd.isAgg95
  z138 := Tryd.sizeOf95
  v138 := Tryd.zeroValue95
  t139 := Tryd.underlying96
  a139 := Tryd.isAgg96
  z139 := Tryd.sizeOf96
  v139 := Tryd.zeroValue96
  g3 := by kernel_rfl
  g4 := by kernel_rfl }
def Tryd.lays146_ren : Go.Shelf.Ren := ⟨fun | 146 => 48 | 221 => 52 | 268 => 56 | 138 => 57 | 143 => 58 | 195 => 68 | 197 => 69 | 218 => 70 | 219 => 66 | 260 => 78 | 217 => 74 | 225 => 75 | 224 => 76 | 267 => 77 | 266 => 81 | 314 => 82 | n => n, fun | 9 => 9 | 31 => 39 | 3 => 3 | 4 => 4 | 0 => 0 | 105 => 83 | 21 => 21 | 5 => 5 | 46 => 88 | 119 => 93 | 139 => 96 | 138 => 95 | 146 => 91 | 51 => 90 | n => n, fun | 1 => 0 | 3 => 1 | 4 => 2 | n => n⟩
theorem Tryd.lays146 : Go.Proofs.Lays.n146 Tryd.prog Tryd.lays146_ren := {
  mixed := by kernel_rfl
  f138 := Tryd.func57.trans (congrArg some (by kernel_rfl))
  f143 := Tryd.func58.trans (congrArg some (by kernel_rfl))
  f146 := Tryd.func48.trans (congrArg some (by kernel_rfl))
  f195 := Tryd.func68.trans (congrArg some (by kernel_rfl))
  f197 := Tryd.func69.trans (congrArg some (by kernel_rfl))
  f217 := Tryd.func74.trans (congrArg some (by kernel_rfl))
  f218 := Tryd.func70.trans (congrArg some (by kernel_rfl))
  f219 := Tryd.func66.trans (congrArg some (by kernel_rfl))
  f221 := Tryd.func52.trans (congrArg some (by kernel_rfl))
  f224 := Tryd.func76.trans (congrArg some (by kernel_rfl))
  f225 := Tryd.func75.trans (congrArg some (by kernel_rfl))
  f260 := Tryd.func78.trans (congrArg some (by kernel_rfl))
  f266 := Tryd.func81.trans (congrArg some (by kernel_rfl))
  f267 := Tryd.func77.trans (congrArg some (by kernel_rfl))
  f268 := Tryd.func56.trans (congrArg some (by kernel_rfl))
  f314 := Tryd.func82.trans (congrArg some (by kernel_rfl))
  t0 := Tryd.underlying0
  a0 := Tryd.isAgg0
  z0 := Tryd.sizeOf0
  v0 := Tryd.zeroValue0
  t3 := Tryd.underlying3
  a3 := Tryd.isAgg3
  z3 := Tryd.sizeOf3
  v3 := Tryd.zeroValue3
  t4 := Tryd.underlying4
  a4 := Tryd.isAgg4
  z4 := Tryd.sizeOf4
  v4 := Tryd.zeroValue4
  t5 := Tryd.underlying5
  a5 := Tryd.isAgg5
  z5 := Tryd.sizeOf5
  v5 := Tryd.zeroValue5
  t9 := Tryd.underlying9
  a9 := Tryd.isAgg9
  z9 := Tryd.sizeOf9
  v9 := Tryd.zeroValue9
  t21 := Tryd.underlying21
  a21 := Tryd.isAgg21
  z21 := Tryd.sizeOf21
  v21 := Tryd.zeroValue21
  t31 := Tryd.underlying39
  a31 := Tryd.isAgg39
  z31 := Tryd.sizeOf39
  v31 := Tryd.zeroValue39
  t46 := Tryd.underlying88
  a46 := Tryd.isAgg88
  z46 := Tryd.sizeOf88
  v46 := Tryd.zeroValue88
  t51 := Tryd.underlying90
  a51 := Tryd.isAgg90
  z51 := Tryd.sizeOf90
  v51 := Tryd.zeroValue90
  t105 := Tryd.underlying83
  a105 := Tryd.isAgg83
  z105 := Tryd.sizeOf83
  v105 := Tryd.zeroValue83
  t119 := Tryd.underlying93
  a119 := Tryd.isAgg93
  z119 := Tryd.sizeOf93
  t138 := Tryd.underlying95
  a138 := Tryd.isAgg95
  z138 := Tryd.sizeOf95
  v138 := Tryd.zeroValue95
  t139 := Tryd.underlying96
  a139 := Tryd.isAgg96
  z139 := Tryd.sizeOf96
  v139 := Tryd.zeroValue96
  t146 := Tryd.underlying91
  a146 := Tryd.isAgg91
  z146 := Tryd.sizeOf91
  v146 := Tryd.zeroValue91
  g1 := by kernel_rfl
  g3 := by kernel_rfl
  g4 := by kernel_rfl }
end Go.Proofs

/- Lists of texts: how they lie in memory. -/
namespace Go.Proofs.YtgkdepoimnmhfaaDoor.Texts
open Go.ChangeShapes Go.WideShapes Go.ChangeAt Go.RowKit LexPure Bytes Ret Rows1
theorem infoS : (Tryd.prog.info? 9).map (fun i => (i.zero, i.size, i.bytes)) = some (some (.string ByteArray.empty), 1, 16) := by kernel_rfl
def strs (G : List (List UInt8)) : List Value := G.map (fun e => .string (ofL e))
theorem strs_append (G H : List (List UInt8)) : strs (G ++ H) = strs G ++ strs H := by simp [strs]
/-- a list of texts: how it looks and its cells -/
def Texts (w : World) (v : Value) (G : List (List UInt8)) : Prop := ∃ p cap, v = .slice p G.length cap ∧ G.length ≤ 9223372036854775807 ∧ (0 < G.length → ∃ g o, p = some ⟨g, o, none⟩ ∧ g < w.heap.size ∧ ∀ j (hj : j < G.length), w.cell? ⟨g, o + j, none⟩ = some (.string (ofL G[j])))
theorem texts_of {w : World} {base : Nat} {v : Value} {G : List (List UInt8)} (h : w.ownsRow base 9 1 v G.length (Texts.strs G)) : Texts w v G := by
  obtain ⟨p, cap, hv, hle, hc⟩ := row_cells h
  have hcap : cap ≤ maxLen := by
    rcases h.2 with ⟨h1, _⟩ | ⟨_, c2, _, h1, _, _, _, h2, _⟩
    · rw [hv] at h1; injection h1 with _ _ h1; rw [h1]; exact Nat.zero_le _
    · rw [hv] at h1; injection h1 with _ _ h1; rw [h1]; exact h2
  unfold maxLen at hcap
  refine ⟨p, cap, hv, by omega, fun h0 => ?_⟩
  obtain ⟨g, hp, _, hlt, _, hcell⟩ := hc h0
  exact ⟨g, 0, hp, hlt, fun j hj => by rw [Nat.zero_add, hcell j hj]; simp [Texts.strs, List.getElem?_eq_getElem hj]⟩
theorem Texts.below {w w' : World} {v : Value} {G : List (List UInt8)} (h : Texts w v G) (hb : Below w.heap.size w w') : Texts w' v G := by
  obtain ⟨p, cap, hv, hn, hc⟩ := h
  refine ⟨p, cap, hv, hn, fun h0 => ?_⟩
  obtain ⟨g, o, hp, hlt, hcell⟩ := hc h0
  exact ⟨g, o, hp, Nat.lt_of_lt_of_le hlt hb.size, fun j hj => (hb.cell (p := ⟨g, o + j, none⟩) hlt).trans (hcell j hj)⟩
theorem Texts.drewN {w : World} {v : Value} {G : List (List UInt8)} (h : Texts w v G) (m : Nat) : Texts (w.drewN m) v G := h
theorem take_ext {G H : List (List UInt8)} {k : Nat} (hk : k < G.length) (hk2 : k < H.length) (h : G.take k = H.take k) (he : G[k] = H[k]) : G.take (k + 1) = H.take (k + 1) := by
  rw [List.take_add_one, List.take_add_one, h, List.getElem?_eq_getElem hk, List.getElem?_eq_getElem hk2, he]
end Go.Proofs.YtgkdepoimnmhfaaDoor.Texts

/- Layer 4 of the program: what the library's calls answer it (strings.Trim at blanks, strings.IndexByte at the marks), off the shelf's contracts. -/
namespace Go.Proofs.YtgkdepoimnmhfaaDoor.PLibT
open Go.ChangeShapes Go.WideShapes Go.ChangeAt Go.RowKit LexPure Bytes Ret LexSplit Texts Rows1
theorem lib_trim (s : ByteArray) (hs : s.size ≤ maxLen) (w : World) :
    Calls Tryd.prog 53 #[.string s, .string ⟨#[32, 9]⟩] w fun e w' => e = .returned (.string (ofL (trim (toL s)))) ∧ Below w.heap.size w w' := by
  have h := Any.strings_Trim_laid Tryd.lays160 (by kernel_rfl) s ⟨#[32, 9]⟩ w (by unfold maxLen at hs; omega) (by decide) (ascii_of_all (by decide))
  rw [show (⟨#[32, 9]⟩ : ByteArray).data.toList = [32, 9] from rfl, trim_shelf] at h
  exact h
theorem lib_mark (b : UInt8) (w : World) :
    Calls Tryd.prog 83 #[.string marksA, .int .u8 (b.toNat : Int)] w fun e w' => e = .returned (.int .i64 (markI b)) ∧ w' = w := by
  have h := Any.strings_IndexByte Tryd.lays137 marksA (b.toNat : Int) w
  rw [show ((b.toNat : Int)).toNat.toUInt8 = b from by simp] at h
  exact h
end Go.Proofs.YtgkdepoimnmhfaaDoor.PLibT

/- Layer 4 of the program: Trim. -/
namespace Go.Proofs.YtgkdepoimnmhfaaDoor.PTrim
open Go.ChangeShapes Go.WideShapes Go.ChangeAt Go.RowKit LexPure Bytes Ret LexSplit PLibT
set_option maxRecDepth 20000
theorem ptrim_any (s : ByteArray) (hs : s.size ≤ maxLen) (w : World) :
    Calls Tryd.prog 49 #[.string s] w fun e w' => e = .returned (.string (ofL (trim (toL s)))) ∧ Below w.heap.size w w' := by
  have H := Lib.hid (lib_trim s hs w)
  clear hs
  go_enter Tryd.func49, Tryd.ntmps49
  go_wp2_with fail
  refine H.out.mono ?_
  rintro e w1 ⟨rfl, hb1⟩
  go_wp2_with fail
  go_ret
  exact ⟨rfl, hb1⟩
end Go.Proofs.YtgkdepoimnmhfaaDoor.PTrim

/- Layer 4 of the program: what the library's calls answer it (strings.Split at a comma), off the shelf's contracts. -/
namespace Go.Proofs.YtgkdepoimnmhfaaDoor.PLib
open Go.ChangeShapes Go.WideShapes Go.ChangeAt Go.RowKit LexPure Bytes Ret LexSplit Texts Rows1
/-- internal/bytealg.MaxLen holds an int -/
def MaxInt (w : World) : Prop := ∃ m, w.cell? ⟨0, 0, none⟩ = some (.int .i64 m)
theorem MaxInt.of_shape {w : World} (h : w.ShapedOpen Tryd.prog) : MaxInt w :=
  cell_of_shapedOpen_int (t := 3) (zero := #[.int .i64 0]) h (of_decide_eq_true (by kernel_rfl)) (by kernel_rfl) rfl (by kernel_rfl) (by kernel_rfl) Tryd.underlying3
theorem MaxInt.below {w w' : World} (h : MaxInt w) (hb : Below w.heap.size w w') : MaxInt w' := by
  obtain ⟨m, hm⟩ := h
  exact ⟨m, (hb.cell (p := ⟨0, 0, none⟩) (World.block_lt_of_cell? _ _ hm)).trans hm⟩
theorem lib_split (s : ByteArray) (hs : s.size < 4294967281) (w : World) (hm : MaxInt w) :
    Calls Tryd.prog 48 #[.string s, .string ⟨#[44]⟩] w fun e w' => ∃ v, e = .returned v ∧ Texts w' v (pieces (toL s)) ∧ Below w.heap.size w w' := by
  obtain ⟨m, hm⟩ := hm
  refine (Any.strings_Split Tryd.lays146 (by kernel_rfl) s ⟨#[44]⟩ m w hs hm (by decide)).mono ?_
  rintro e w' ⟨rfl, rfl⟩
  have hl : (Go.Lib.splitB ⟨#[44]⟩ 0 (Go.Lib.countB s ⟨#[44]⟩) s).map (·.data.toList) = pieces (toL s) := by
    rw [Go.Lib.splitB_data, show Go.Lib.countB s ⟨#[44]⟩ = s.data.toList.count 44 from Go.Lib.count_one 44 _]
    exact split_pieces _
  have hn : (pieces (toL s)).length = Go.Lib.countB s ⟨#[44]⟩ + 1 := by
    rw [← hl, List.length_map]
    exact Go.Lib.splitB_all ⟨#[44]⟩ (by decide) 0 _ s rfl
  have hle := Go.Lib.countB_le ⟨#[44]⟩ (by decide) s.size s (Nat.le_refl _)
  generalize Go.Lib.splitB ⟨#[44]⟩ 0 (Go.Lib.countB s ⟨#[44]⟩) s = B at *
  refine ⟨_, rfl, ?_, (Below.refl _ _).alloc (Nat.le_refl _) _⟩
  rw [← hn]
  refine ⟨_, _, rfl, by omega, fun h0 => ⟨w.heap.size, 0, rfl, by simp, fun j hj => ?_⟩⟩
  rw [Nat.zero_add]
  have hB : (pieces (toL s))[j]? = (B[j]?).map (·.data.toList) := by rw [← hl, List.getElem?_map]
  rw [List.getElem?_eq_getElem hj] at hB
  cases hx : B[j]? with
  | none => rw [hx] at hB; cases hB
  | some x =>
    rw [hx] at hB
    have hq : (pieces (toL s))[j] = x.data.toList := by simpa using hB
    rw [World.cell?_alloc_at _ _ _ _ (by simp)]
    rw [hq, show ofL x.data.toList = x from toL_inj (toL_ofL _)]
    simp [hx]
end Go.Proofs.YtgkdepoimnmhfaaDoor.PLib

/- Layer 4 of the program: Elements. -/
namespace Go.Proofs.YtgkdepoimnmhfaaDoor.PElements
open Go.ChangeShapes Go.WideShapes Go.ChangeAt Go.RowKit LexPure Bytes Ret LexSplit LexList PLib PTrim Texts Rows1 Mem
set_option maxRecDepth 20000
theorem elements_one (s : List UInt8) : elements s = (pieces s).flatMap one := by
  unfold elements
  induction pieces s with
  | nil => rfl
  | cons p ps ih =>
    rw [List.flatMap_cons, ← ih, List.map_cons, List.filter_cons]
    unfold one
    cases h : (trim p).isEmpty <;> simp
theorem pieces_length (s : List UInt8) : (pieces s).length ≤ s.length + 1 := by
  induction s with
  | nil => simp [pieces]
  | cons c s ih =>
    unfold pieces
    split
    · simp only [List.length_cons]; omega
    · split
      · simp
      · rename_i h
        rw [h] at ih
        simp only [List.length_cons] at ih ⊢; omega
theorem pieces_mem (s : List UInt8) : ∀ p ∈ pieces s, p.length ≤ s.length := by
  induction s with
  | nil => intro p hp; simp [pieces] at hp; subst hp; simp
  | cons c s ih =>
    intro p hp
    unfold pieces at hp
    split at hp
    · rcases List.mem_cons.1 hp with rfl | hp
      · simp
      · have := ih p hp; simp only [List.length_cons]; omega
    · split at hp
      · rcases List.mem_cons.1 hp with rfl | hp
        · simp
        · cases hp
      · rename_i q qs h
        rcases List.mem_cons.1 hp with rfl | hp
        · have := ih q (by rw [h]; exact List.mem_cons_self ..)
          simp only [List.length_cons]; omega
        · have := ih p (by rw [h]; exact List.mem_cons_of_mem _ hp)
          simp only [List.length_cons]; omega
/-- behind the first k pieces -/
structure PInv (w : World) (L : List (List UInt8)) (k : Nat) (v : Value) (G : List (List UInt8)) (wr : World) : Prop where
  row : wr.ownsRow w.heap.size 9 1 v G.length (strs G)
  below : Below w.heap.size w wr
  got : G = (L.take k).flatMap one
  few : G.length ≤ k
theorem ownsRow_mono {w : World} {base base' n size : Nat} {e : TypeId} {v : Value} {xs : List Value} (h : w.ownsRow base e size v n xs) (hb : base' ≤ base) : w.ownsRow base' e size v n xs := by
  refine ⟨h.1, ?_⟩
  rcases h.2 with h0 | ⟨g, cap, cur, h1, h2, h3⟩
  · exact .inl h0
  · exact .inr ⟨g, cap, cur, h1, Nat.le_trans hb h2, h3⟩
theorem ownsRow_below {w w' : World} {base n size : Nat} {e : TypeId} {v : Value} {xs : List Value} (h : w.ownsRow base e size v n xs) (hb : Below w.heap.size w w') : w'.ownsRow base e size v n xs := by
  refine ⟨h.1, ?_⟩
  rcases h.2 with h0 | ⟨g, cap, cur, h1, h2, h3, h4⟩
  · exact .inl h0
  · exact .inr ⟨g, cap, cur, h1, h2, by rw [hb.block g (Array.getElem?_eq_some_iff.1 h3).1]; exact h3, h4⟩
set_option maxHeartbeats 1600000 in
theorem pelements_any (s : ByteArray) (hs : s.size < 4294967281) (w : World) (hm : MaxInt w) :
    Calls Tryd.prog 42 #[.string s] w fun e w' => ∃ v, e = .returned v ∧ w'.ownsRow w.heap.size 9 1 v (elements (toL s)).length (strs (elements (toL s))) ∧ Below w.heap.size w w' := by
  obtain ⟨i0, hi, hz0, hz1, hz2⟩ := info_parts infoS
  have HS := Lib.hid (lib_split s hs w hm)
  have hL := pieces_length (toL s)
  rw [toL_length] at hL
  have hP := pieces_mem (toL s)
  rw [toL_length] at hP
  have HP := Lib.hid hP
  have HE := Lib.hid (elements_one (toL s))
  clear hP hm
  go_enter Tryd.func42, Tryd.ntmps42
  go_wp2_with fail
  refine HS.out.mono ?_
  rintro e w1 ⟨v0, rfl, hT, hb⟩
  clear HS
  obtain ⟨p, cap, rfl, hn1, _⟩ := id hT
  have HT := Lib.hid hT
  clear hT
  generalize pieces (toL s) = L at *
  go_wp2_with fail
  have HI0 : Hid (∃ G, PInv w1 L 0 (.slice none 0 0) G w1) := Lib.hid ⟨[], World.ownsRow_nil _ _ _ _, Below.refl _ _, rfl, Nat.le_refl _⟩
  go_loopw [3, 10] (fun v i wr => ∃ k : Nat, k ≤ L.length ∧ i = .int .i64 k ∧ Hid (∃ G, PInv w1 L k v G wr)) (fun _ i _ => L.length - (intOf i).toNat)
  case atStart => exact ⟨0, Nat.zero_le _, rfl, HI0⟩
  case round =>
    obtain ⟨k, hk, rfl, HI⟩ := hrel
    clear HI0
    obtain ⟨G, I⟩ := HI.out
    by_cases hlt : k < L.length
    · have hki : (k : Int) < (L.length : Int) := by omega
      have hrow := I.row
      have hbw := I.below
      have hfew := I.few
      obtain ⟨p', cap', hv, _, hc⟩ := HT.out.below hbw
      injection hv with hv1 hv2 hv3
      subst hv1
      subst hv3
      obtain ⟨g, o, rfl, hg, hcell⟩ := hc (by omega)
      have cx := hcell k hlt
      have hXs : L[k].length ≤ s.size := HP.out _ (List.getElem_mem hlt)
      have hgot : (L.take (k + 1)).flatMap one = G ++ one L[k] := by
        rw [List.take_add_one, List.getElem?_eq_getElem hlt, List.flatMap_append, ← I.got]
        simp
      generalize L[k] = X at *
      have HTr := Lib.hid (fun w => ptrim_any (ofL X) (by rw [ofL_size]; unfold maxLen; omega) w)
      rw [toL_ofL] at HTr
      by_cases hem : (trim X).isEmpty = true
      · have h1 : one X = [] := by unfold one; rw [if_pos hem]
        have e0 : toL (ofL (trim X)) = [] := by rw [toL_ofL]; exact List.isEmpty_iff.1 hem
        have e1 : (ofL (trim X)).toList = [] := by rw [ByteArray.toList_eq]; exact e0
        have e2 : (ofL (trim X)).toList.isEmpty = true := by rw [e1]; rfl
        have HR : Hid (∀ w2, Below wr.heap.size wr w2 → ∃ G, PInv w1 L (k + 1) u3 G w2) := Lib.hid (fun w2 h2 => ⟨G, ownsRow_below hrow h2, below_chain hbw h2, by rw [hgot, h1, List.append_nil], by omega⟩)
        clear hem h1 e0 hrow hc hcell hgot I HI
        generalize ofL (trim X) = E at *
        go_wp2_with (refine (HTr.out _).mono ?_; rintro e w2 ⟨rfl, hb2⟩)
        have HR2 := Lib.hid (HR.out _ hb2)
        clear HR hb2
        go_roundw
        case rel => exact ⟨k + 1, by omega, by go_num, HR2⟩
        case measure => simp [intOf]; omega
      · have h1 : one X = [trim X] := by unfold one; rw [if_neg hem]
        have e1 : ¬ (ofL (trim X)).toList = [] := fun h => by
          rw [ByteArray.toList_eq] at h
          rw [show (ofL (trim X)).data.toList = trim X from toL_ofL _] at h
          rw [h] at hem
          exact hem rfl
        have e2 : (ofL (trim X)).toList.isEmpty = false := by
          cases h : (ofL (trim X)).toList with
          | nil => exact absurd h e1
          | cons => rfl
        have HR : Hid (∀ w2 v' w3, Below wr.heap.size wr w2 → w3.ownsRow w1.heap.size 9 1 v' (G.length + 1) (strs G ++ [.string (ofL (trim X))]) → Below w1.heap.size w2 w3 → ∃ G, PInv w1 L (k + 1) v' G w3) := Lib.hid (fun w2 v' w3 h2 h3 h4 => ⟨G ++ [trim X], by rw [List.length_append, strs_append]; exact h3, (below_chain hbw h2).trans h4, by rw [hgot, h1], by rw [List.length_append]; simp; omega⟩)
        have hs1 := hbw.size
        clear hem h1 hc hcell hgot I HI
        generalize ofL (trim X) = E at *
        go_wp2_with fail
        refine (HTr.out _).mono ?_
        rintro e w2 ⟨rfl, hb2⟩
        have hrow2 := ownsRow_below hrow hb2
        have hs2 := hb2.size
        have HB2 := Lib.hid hb2
        clear hb2 hrow
        go_wp2_with (at_builtin; refine wpList_append_own _ rfl _ _ 39 rfl w1.heap.size 9 i0 (.string ByteArray.empty) 1 16 Tryd.underlying39 hi hz0 hz1 hz2 rfl (by decide) _ _ _ rfl (hrow2.alloc _) ⟨w2.heap.size, 0, none⟩ 1 1 [.string E] rfl rfl (cell_one_new _ _ _) (fun x hx => by simp at hx; subst hx; rfl) (by unfold maxLen; omega) (by omega) (by simp; omega) ?_; intro v' w3 hown' hgrow3 hnil3)
        have HR2 : Hid (∃ G, PInv w1 L (k + 1) v' G w3) := Lib.hid (HR.out w2 v' w3 HB2.out hown' (Below.grown ((Below.refl _ _).alloc (by omega) _) hgrow3 (by simp; omega) (fun j hj => (hrow2.lt _ hj).1)))
        clear hown' hgrow3 hnil3 HR HB2 hrow2
        go_wp2_with fail
        go_roundw
        case rel => exact ⟨k + 1, by omega, by go_num, HR2⟩
        case measure => simp [intOf]; omega
    · have hall : L.take k = L := List.take_of_length_le (by omega)
      have HF : Hid (G = elements (toL s)) := Lib.hid (by rw [HE.out, I.got, hall])
      have HR : Hid (wr.ownsRow w.heap.size 9 1 u3 G.length (strs G) ∧ Below w.heap.size w wr) := Lib.hid ⟨ownsRow_mono I.row hb.size, below_chain hb I.below⟩
      obtain ⟨pv, cv, hpv, _⟩ := row_form I.row
      subst hpv
      clear I HI hall HE hb HT
      go_wp2_with fail
      go_ret
      rw [← HF.out]
      exact ⟨_, rfl, HR.out⟩
end Go.Proofs.YtgkdepoimnmhfaaDoor.PElements

/- Layer 4, the document's own Blank. -/
namespace Go.Proofs.YtgkdepoimnmhfaaDoor.RBlank
open Go.ChangeShapes Go.WideShapes Go.ChangeAt Go.RowKit LexPure Bytes Ret
set_option maxRecDepth 20000
theorem rblank_any (c : UInt8) (w : World) :
    Calls Tryd.prog 44 #[.int .u8 (c.toNat : Int)] w fun e w' => e = .returned (.bool (blankB c)) ∧ w = w' := by
  rw [← blank_eq]
  generalize (c.toNat : Int) = c
  go_enter Tryd.func44, Tryd.ntmps44
  go_wp2_with fail
  all_goals
    go_ret
    refine ⟨ret_bool ?_, rfl⟩
    first
      | exact Eq.symm (decide_eq_true (by omega))
      | exact Eq.symm (decide_eq_false (by omega))
      | (rw [Bool.decide_or]; rfl)
end Go.Proofs.YtgkdepoimnmhfaaDoor.RBlank

/- Layer 4, the document's own Trim. -/
namespace Go.Proofs.YtgkdepoimnmhfaaDoor.RTrim
open Go.ChangeShapes Go.WideShapes Go.ChangeAt Go.RowKit LexPure Bytes Ret RBlank
set_option maxRecDepth 20000
theorem drop_at (s : ByteArray) (k : Nat) (h : k < s.size) : ((toL s).drop k).dropWhile blankB = if blankB s[k] then ((toL s).drop (k + 1)).dropWhile blankB else (toL s).drop k := by
  rw [toL_drop s k h, List.dropWhile_cons]
theorem last_at (D : List UInt8) (j : Nat) (c : UInt8) (h : D[j]? = some c) : (D.take (j + 1)).reverse.dropWhile blankB = if blankB c then (D.take j).reverse.dropWhile blankB else (D.take (j + 1)).reverse := by
  rw [List.take_add_one, h]
  simp only [Option.toList_some, List.reverse_append, List.reverse_cons, List.reverse_nil, List.nil_append, List.cons_append]
  rw [List.dropWhile_cons]
theorem rtrim_any (s : ByteArray) (hs : s.size ≤ maxLen) (w : World) :
    Calls Tryd.prog 31 #[.string s] w fun e w' => e = .returned (.string (ofL (trim (toL s)))) ∧ w = w' := by
  unfold maxLen at hs
  go_enter Tryd.func31, Tryd.ntmps31
  go_wp2_with fail
  go_loop [3] (fun f => ∃ k : Nat, k ≤ s.size ∧ f = .int .i64 k ∧ Hid ((toL s).dropWhile blankB = ((toL s).drop k).dropWhile blankB)) (fun f => s.size - (intOf f).toNat)
  case atStart => exact ⟨0, Nat.zero_le _, rfl, Lib.hid rfl⟩
  case round =>
    obtain ⟨k, hk, rfl, ha⟩ := hrel
    by_cases hgo : ∃ h : k < s.size, blankB s[k] = true
    · obtain ⟨hlt, hb⟩ := hgo
      have hki : (k : Int) < (s.size : Int) := by omega
      have HA : Hid ((toL s).dropWhile blankB = ((toL s).drop (k + 1)).dropWhile blankB) := Lib.hid (by rw [ha.out, drop_at s k hlt, if_pos hb])
      have HB := Lib.hid hb
      clear hb
      go_wp2_with fail
      refine (rblank_any _ _).mono ?_
      rintro e w' ⟨rfl, rfl⟩
      rw [HB.out]
      go_wp2_with fail
      go_round
      case rel => exact ⟨k + 1, by omega, by go_num, HA⟩
      case measure => simp [intOf]; omega
    · have HD : Hid ((toL s).dropWhile blankB = (toL s).drop k) := Lib.hid (by
        rw [ha.out]
        by_cases hlt : k < s.size
        · rw [drop_at s k hlt, if_neg (fun hb => hgo ⟨hlt, hb⟩)]
        · rw [List.drop_eq_nil_of_le (by rw [toL_length]; omega)]
          rfl)
      have HL : Hid (((toL s).drop k).length = s.size - k) := Lib.hid (by rw [List.length_drop, toL_length])
      have hx : (∃ h : k < s.size, (k : Int) < (s.size : Int) ∧ Hid (blankB s[k] = false)) ∨ (¬ (k : Int) < (s.size : Int)) := by
        by_cases hlt : k < s.size
        · refine .inl ⟨hlt, by omega, Lib.hid ?_⟩
          cases h : blankB s[k] with
          | true => exact absurd ⟨hlt, h⟩ hgo
          | false => rfl
        · exact .inr (by omega)
      clear hgo ha
      rcases hx with ⟨hlt, hki, HB⟩ | hki
      rotate_left
      · have ek : k = s.size := by omega
        subst ek
        have HV : Hid (ByteArray.empty = ofL (trim (toL s))) := Lib.hid (by
          refine toL_inj ?_
          rw [toL_ofL]
          unfold trim
          rw [HD.out, List.drop_eq_nil_of_le (by rw [toL_length]; omega)]
          rfl)
        go_wp2_with fail
        go_loop [4] (fun t => t = .int .i64 (s.size : Nat)) (fun _ => 0)
        case atStart => rfl
        case round =>
          subst hrel
          go_wp2_with fail
          go_ret
          exact ⟨ret_string HV.out, rfl⟩
      · go_wp2_with fail
        refine (rblank_any _ _).mono ?_
        rintro e w' ⟨rfl, rfl⟩
        rw [HB.out]
        go_wp2_with fail
        go_loop [4] (fun t => ∃ m : Nat, k ≤ m ∧ m ≤ s.size ∧ t = .int .i64 m ∧ Hid (((toL s).drop k).reverse.dropWhile blankB = (((toL s).drop k).take (m - k)).reverse.dropWhile blankB)) (fun t => (intOf t).toNat)
        case atStart => exact ⟨s.size, hk, Nat.le_refl _, rfl, Lib.hid (by rw [List.take_of_length_le (by rw [HL.out]; omega)])⟩
        case round =>
          obtain ⟨m, hm1, hm2, rfl, hb⟩ := hrel
          by_cases hlt2 : k < m
          · obtain ⟨j, rfl⟩ : ∃ j, m = j + 1 := ⟨m - 1, by omega⟩
            have hji : (k : Int) < ((j + 1 : Nat) : Int) := by omega
            have HE : Hid (((toL s).drop k)[j - k]? = some s[j]) := Lib.hid (by rw [List.getElem?_drop, show k + (j - k) = j by omega]; exact toL_get s j (by omega))
            have HLA := Lib.hid (last_at _ _ _ HE.out)
            by_cases hbl : blankB s[j] = true
            · have HB2 := Lib.hid hbl
              have HA : Hid (((toL s).drop k).reverse.dropWhile blankB = (((toL s).drop k).take (j - k)).reverse.dropWhile blankB) := Lib.hid (by
                rw [hb.out, show j + 1 - k = j - k + 1 by omega, HLA.out, if_pos hbl])
              clear hbl HLA HE
              go_wp2_with fail
              refine (rblank_any _ _).mono ?_
              rintro e w' ⟨rfl, rfl⟩
              rw [HB2.out]
              go_wp2_with fail
              go_round
              case rel => exact ⟨j, by omega, by omega, rfl, HA⟩
              case measure => simp [intOf]
            · have hbl : blankB s[j] = false := by simpa using hbl
              have HB2 := Lib.hid hbl
              have HV : Hid (s.extract k (j + 1) = ofL (trim (toL s))) := Lib.hid (by
                refine toL_inj ?_
                rw [toL_extract, toL_ofL]
                unfold trim
                rw [HD.out, hb.out, show j + 1 - k = j - k + 1 by omega, HLA.out, if_neg (by rw [hbl]; decide), List.reverse_reverse, List.drop_take, show j + 1 - k = j - k + 1 by omega])
              clear hbl HLA HE
              go_wp2_with fail
              refine (rblank_any _ _).mono ?_
              rintro e w' ⟨rfl, rfl⟩
              rw [HB2.out]
              go_wp2_with fail
              go_ret
              exact ⟨ret_string HV.out, rfl⟩
          · have em : m = k := by omega
            subst em
            have HV : Hid (ByteArray.empty = ofL (trim (toL s))) := Lib.hid (by
              refine toL_inj ?_
              rw [toL_ofL]
              unfold trim
              rw [HD.out, hb.out, Nat.sub_self]
              rfl)
            go_wp2_with fail
            go_ret
            exact ⟨ret_string HV.out, rfl⟩
end Go.Proofs.YtgkdepoimnmhfaaDoor.RTrim

/- Layer 4, the document's own Elements. -/
namespace Go.Proofs.YtgkdepoimnmhfaaDoor.RElements
open Go.ChangeShapes Go.WideShapes Go.ChangeAt Go.RowKit LexPure Bytes Ret RTrim LexList Rows1 Texts
set_option maxRecDepth 20000
def rest (s : ByteArray) (f : Nat) : List (List UInt8) := if f ≤ s.size then elements ((toL s).drop f) else []
/-- behind k bytes, the last comma ahead of f -/
structure EInv (w : World) (s : ByteArray) (k f : Nat) (v : Value) (G : List (List UInt8)) (wr : World) : Prop where
  row : wr.ownsRow w.heap.size 9 1 v G.length (strs G)
  below : Below w.heap.size w wr
  all_ : elements (toL s) = G ++ rest s f
  le : f ≤ k
  in_ : k ≤ s.size → f ≤ s.size
  out_ : s.size < k → s.size < f
  no : noComma (((toL s).drop f).take (k - f)) = true
  few : G.length ≤ k
theorem rest_end {s : ByteArray} {f : Nat} (hf : f ≤ s.size) (h : noComma (((toL s).drop f).take (s.size - f)) = true) : rest s f = one (((toL s).drop f).take (s.size - f)) := by
  unfold rest
  have e : ((toL s).drop f).take (s.size - f) = (toL s).drop f := List.take_of_length_le (by rw [List.length_drop, toL_length]; omega)
  rw [if_pos hf]
  rw [e] at h ⊢
  exact elements_plain h
theorem rest_cut {s : ByteArray} {f k : Nat} (hf : f ≤ k) (hk : k < s.size) (h : noComma (((toL s).drop f).take (k - f)) = true) (hc : s[k] = 44) : rest s f = one (((toL s).drop f).take (k - f)) ++ rest s (k + 1) := by
  unfold rest
  rw [if_pos (by omega), if_pos (by omega)]
  have e : (toL s).drop f = ((toL s).drop f).take (k - f) ++ 44 :: (toL s).drop (k + 1) := by
    have h1 := List.take_append_drop (k - f) ((toL s).drop f)
    rw [List.drop_drop, show f + (k - f) = k by omega, toL_drop s k hk, hc] at h1
    exact h1.symm
  conv => lhs; rw [e]
  exact elements_cut h
theorem piece_eq (s : ByteArray) (f k : Nat) : toL (s.extract f k) = ((toL s).drop f).take (k - f) := by
  rw [toL_extract, List.drop_take]
set_option maxHeartbeats 1600000 in
theorem relements_any (s : ByteArray) (hs : s.size ≤ 8796093022206) (w : World) :
    Calls Tryd.prog 18 #[.string s] w fun e w' => ∃ v, e = .returned v ∧ w'.ownsRow w.heap.size 9 1 v (elements (toL s)).length (strs (elements (toL s))) ∧ Below w.heap.size w w' := by
  obtain ⟨i0, hi, hz0, hz1, hz2⟩ := info_parts infoS
  go_enter Tryd.func18, Tryd.ntmps18
  go_wp2_with fail
  go_loopw [3, 4, 5] (fun v f i wr => ∃ k : Nat, k ≤ s.size + 1 ∧ i = .int .i64 k ∧ ∃ j : Nat, f = .int .i64 j ∧ Hid (∃ G, EInv w s k j v G wr)) (fun _ _ i _ => s.size + 1 - (intOf i).toNat)
  case atStart => exact ⟨0, Nat.zero_le _, rfl, 0, rfl, Lib.hid ⟨[], World.ownsRow_nil _ _ _ _, Below.refl _ _, by simp [rest], Nat.le_refl _, fun _ => Nat.zero_le _, fun h => h, rfl, Nat.le_refl _⟩⟩
  case round =>
    obtain ⟨k, hk, rfl, f, rfl, HI⟩ := hrel
    obtain ⟨G, I⟩ := HI.out
    have hfk := I.le
    by_cases hle : k ≤ s.size
    · have hki : (k : Int) ≤ (s.size : Int) := by omega
      have hfs := I.in_ hle
      by_cases hcut : k = s.size ∨ (∃ h : k < s.size, s[k] = 44)
      · have hE : elements (toL s) = (G ++ one (((toL s).drop f).take (k - f))) ++ rest s (k + 1) := by
          rcases hcut with h | ⟨h, hc⟩
          · subst h
            rw [I.all_, rest_end hfs I.no, show rest s (s.size + 1) = [] by unfold rest; rw [if_neg (by omega)]]
            simp
          · rw [I.all_, rest_cut hfk h I.no hc, List.append_assoc]
        have hsz : (s.extract f k).size ≤ maxLen := by
          have := toL_length (s.extract f k)
          rw [piece_eq, List.length_take, List.length_drop, toL_length] at this
          unfold maxLen
          omega
        have HT := Lib.hid (rtrim_any (s.extract f k) hsz)
        rw [piece_eq] at HT
        clear hsz
        generalize hX : ((toL s).drop f).take (k - f) = X at *
        have hrow := I.row
        have hbw := I.below
        have hfew := I.few
        have hfi : (f : Int) ≤ (k : Int) := by omega
        have hx : (((k : Int) == (s.size : Int)) = true) ∨ (∃ h : k < s.size, ((k : Int) == (s.size : Int)) = false ∧ (k : Int) < (s.size : Int) ∧ ((s[k].toNat : Int) == 44) = true) := by
          rcases hcut with h | ⟨h, hc⟩
          · exact .inl (by rw [h]; exact beq_self_eq_true _)
          · exact .inr ⟨h, beq_eq_false_iff_ne.2 (by omega), by omega, by rw [hc]; rfl⟩
        have HNE : Hid (∀ G' v' wr', wr'.ownsRow w.heap.size 9 1 v' G'.length (strs G') → Below w.heap.size w wr' → G' = G ++ one X → Hid (∃ G, EInv w s (k + 1) (k + 1) v' G wr')) := Lib.hid (fun G' v' wr' h1 h2 h3 => Lib.hid ⟨G', h1, h2, by rw [h3]; exact hE, Nat.le_refl _, fun h => h, fun h => h, by rw [Nat.sub_self]; rfl, by
          have := one_length X
          rw [h3, List.length_append]
          omega⟩)
        clear hE HI I hX hcut
        rcases hx with hq | ⟨hlt, hq, hki2, hc⟩
        all_goals
          go_wp2_with fail
          refine (HT.out _).mono ?_
          rintro e w' ⟨rfl, rfl⟩
          by_cases hem : (trim X).isEmpty = true
          · have h1 : one X = [] := by unfold one; rw [if_pos hem]
            have h2 : (ofL (trim X)).size = 0 := by rw [ofL_size, List.isEmpty_iff.1 hem]; rfl
            have HR := HNE.out G u3 wr hrow hbw (by rw [h1, List.append_nil])
            clear HNE HT h1 hem hrow
            generalize ofL (trim X) = E at *
            go_wp2_with fail
            go_roundw
            case rel => exact ⟨k + 1, by omega, by go_num, k + 1, by go_num, HR⟩
            case measure => simp [intOf]; omega
          · have h1 : one X = [trim X] := by unfold one; rw [if_neg hem]
            have h2 : 0 < (ofL (trim X)).size := by
              rw [ofL_size]
              cases h : trim X with
              | nil => rw [h] at hem; exact absurd rfl hem
              | cons => simp
            rw [h1] at HNE
            have hbase : w.heap.size ≤ wr.heap.size := hbw.size
            have HNF : Hid (∀ v' wr', wr'.ownsRow w.heap.size 9 1 v' (G.length + 1) (strs G ++ [.string (ofL (trim X))]) → Below w.heap.size w wr' → Hid (∃ G, EInv w s (k + 1) (k + 1) v' G wr')) := Lib.hid (fun v' wr' h1 h2 => HNE.out (G ++ [trim X]) v' wr' (by rw [List.length_append, strs_append]; exact h1) h2 rfl)
            clear HNE HT h1 hem
            generalize ofL (trim X) = E at *
            go_wp2_with (at_builtin; refine wpList_append_own _ rfl _ _ 39 rfl w.heap.size 9 i0 (.string ByteArray.empty) 1 16 Tryd.underlying39 hi hz0 hz1 hz2 rfl (by decide) _ _ _ rfl (hrow.alloc _) ⟨wr.heap.size, 0, none⟩ 1 1 [.string E] rfl rfl (cell_one_new _ _ _) (fun x hx => by simp at hx; subst hx; rfl) (by unfold maxLen; omega) (by omega) (by simp; omega) ?_; intro v' w3 hown' hgrow3 hnil3)
            have HR := HNF.out v' w3 hown' (Below.grown (hbw.alloc hbw.size _) hgrow3 (by simp; omega) (fun j hj => (hrow.lt _ hj).1))
            clear hown' hgrow3 hnil3 HNF hrow
            go_wp2_with fail
            go_roundw
            case rel => exact ⟨k + 1, by omega, by go_num, k + 1, by go_num, HR⟩
            case measure => simp [intOf]; omega
      · have hlt : k < s.size := by
          rcases Nat.lt_or_ge k s.size with h | h
          · exact h
          · exact absurd (.inl (by omega)) hcut
        have hcb : (s[k] == 44) = false := by
          rw [beq_eq_false_iff_ne]
          exact fun h => hcut (.inr ⟨hlt, h⟩)
        have hcd : ((s[k].toNat : Int) == 44) = false := by
          have := all_bytes (p := fun b => (((b.toNat : Int) == 44) == (b == 44))) (by decide +kernel) s[k]
          rw [beq_iff_eq] at this
          rw [this]
          exact hcb
        have hq : ((k : Int) == (s.size : Int)) = false := beq_eq_false_iff_ne.2 (by omega)
        have hki2 : (k : Int) < (s.size : Int) := by omega
        have HR : Hid (∃ G, EInv w s (k + 1) f u3 G wr) := Lib.hid ⟨G, I.row, I.below, I.all_, by omega, fun _ => hfs, fun h => by omega, by
          rw [show k + 1 - f = k - f + 1 by omega, List.take_add_one, List.getElem?_drop, show f + (k - f) = k by omega, toL_get s k hlt]
          exact noComma_snoc I.no hcb, by have := I.few; omega⟩
        clear hcut hcb HI I
        go_wp2_with fail
        go_roundw
        case rel => exact ⟨k + 1, by omega, by go_num, f, rfl, HR⟩
        case measure => simp [intOf]; omega
    · have hrow := I.row
      have hbw := I.below
      have hG : G = elements (toL s) := by
        rw [I.all_]
        have hf := I.out_ (by omega)
        have : rest s f = [] := by unfold rest; rw [if_neg (by omega)]
        rw [this, List.append_nil]
      rw [hG] at hrow
      clear I HI
      go_wp2_with fail
      go_ret
      exact ⟨_, rfl, hrow, hbw⟩
end Go.Proofs.YtgkdepoimnmhfaaDoor.RElements

/- append of one row of the call's own onto another: the source nil or not, in one law. No program is named. -/
namespace Go.Proofs.YtgkdepoimnmhfaaDoor.AppendRow

theorem wpList_append_row {P : Program} {w : World} {ops : Array Oper} {rest : List Oper} {o : Oper} {a : Act} {Q : Exit → Act → World → Prop} (hgd : o.guard = none) (s x : Operand) (t : TypeId)
    (ho : o.op = .call { callee := .builtin .append, args := #[s, x], argTypes := #[t, t] })
    (base : Nat) (e : TypeId) (i : TypeInfo) (z : Value) (size bytes : Nat) (ht : P.underlying t = some (.slice e)) (hi : P.info? e = some i) (hz : i.zero = some z)
    (hsize : i.size = size) (hby : i.bytes = bytes) (hzs : z.cells.size = size) (hsz : 0 < size)
    (v : Value) (n : Nat) (xs : List Value) (hs : a.eval s = v) (hown : w.ownsRow base e size v n xs)
    (y : Value) (base' m : Nat) (ys : List Value) (hx : a.eval x = y) (hrow : w.ownsRow base' e size y m ys) (h1 : ∀ u ∈ ys, u.oneCell' = true)
    (h63 : n + m ≤ maxLen) (hbytes : (n + m) * bytes ≤ 140737488355328) (hbase : base ≤ w.heap.size)
    (h : ∀ v' w', w'.ownsRow base e size v' (n + m) (xs ++ ys) → w.grownBy w' v.ownBlock → (v'.ownBlock = v.ownBlock ∨ v'.ownBlock = some w.heap.size) → wpList P ops Q rest (a.put o.dst v') w') :
    wpList P ops Q (o :: rest) a w := by
  rcases hrow.2 with ⟨rfl, rfl⟩ | ⟨g, cap, cur, rfl, _⟩
  · have hys : ys = [] := List.eq_nil_of_length_eq_zero (by simpa using hrow.1)
    subst hys
    exact wpList_append_own_none hgd s x t ho base e i size ht hi v n xs hs hown hx (h v w (by simpa using hown) (World.grownBy.refl w _) (.inl rfl))
  · exact wpList_append_own_at w hgd s x t ho base e i z size bytes ht hi hz hsize hby hzs hsz v n xs hs hown ⟨g, 0, none⟩ m cap ys hx hrow.1 (hrow.cells rfl) h1 h63 hbytes hbase (fun v' w' a1 a2 _ a4 => h v' w' a1 a2 a4)
end Go.Proofs.YtgkdepoimnmhfaaDoor.AppendRow

/- Layer 7, the document's own Elements. -/
namespace Go.Proofs.YtgkdepoimnmhfaaDoor.R7Elements
open Go.ChangeShapes Go.WideShapes Go.ChangeAt Go.RowKit LexPure Bytes Ret Rows1 Texts FieldsPure Flds RAlike7 RElements R7Get KeptRow AppendRow Mem
set_option maxRecDepth 20000
theorem elems_snoc (l : List HField) (f : HField) (n : List UInt8) : elems (l ++ [f]) n = if hit n f then elems l n ++ elements f.2 else elems l n := by
  unfold elems
  rw [List.filter_append, List.flatMap_append]
  cases h : hit n f <;> simp [h]
theorem pieces_len : ∀ s : List UInt8, (pieces s).length ≤ s.length + 1
  | [] => by simp [pieces]
  | c :: s => by
    have ih := pieces_len s
    rw [pieces]
    split
    · simp; omega
    · split
      · simp
      · rename_i p ps hp
        rw [hp] at ih
        simp at ih ⊢
        omega
theorem elements_len (s : List UInt8) : (elements s).length ≤ s.length + 1 := by
  unfold elements
  have h1 := List.length_filter_le (fun e : List UInt8 => !e.isEmpty) ((pieces s).map trim)
  rw [List.length_map] at h1
  have := pieces_len s
  omega
theorem elems_len (l : List HField) (n : List UInt8) (B : Nat) (h : ∀ f ∈ l, f.2.length + 1 ≤ B) : (elems l n).length ≤ l.length * B := by
  induction l with
  | nil => simp [elems]
  | cons f l ih =>
    have ih' := ih (fun g hg => h g (List.mem_cons_of_mem _ hg))
    have hf := h f (List.mem_cons_self)
    have he := elements_len f.2
    unfold elems at *
    rw [List.length_cons, Nat.succ_mul]
    clear h ih
    generalize l.length * B = m at *
    cases hq : hit n f
    · rw [List.filter_cons_of_neg (by rw [hq]; decide)]
      omega
    · rw [List.filter_cons_of_pos hq, List.flatMap_cons, List.length_append]
      omega
/-- the elements of the first k fields -/
structure Gath (w : World) (X : List (List UInt8)) (v : Value) (wr : World) : Prop where
  row : wr.ownsRow w.heap.size 9 1 v X.length (strs X)
  below : Below w.heap.size w wr
theorem Gath.start (w : World) : Gath w [] (.slice none 0 0) w := ⟨World.ownsRow_nil _ _ _ _, Below.refl _ _⟩
theorem Gath.call {w w1 w2 : World} {X : List (List UInt8)} {v : Value} (h : Gath w X v w1) (hb : Below w1.heap.size w1 w2) : Gath w X v w2 :=
  ⟨row_below h.row hb, below_chain h.below hb⟩
theorem Gath.lt {w w1 : World} {X : List (List UInt8)} {v : Value} (h : Gath w X v w1) : ∀ j, v.ownBlock = some j → w.heap.size ≤ j := fun j hj => (h.row.lt j hj).1
theorem strs_cells (L : List (List UInt8)) : ∀ u ∈ Texts.strs L, u.oneCell' = true := by
  intro u hu
  unfold Texts.strs at hu
  obtain ⟨a, _, rfl⟩ := List.mem_map.1 hu
  rfl
set_option maxHeartbeats 1600000 in
theorem r7elements_any (v : Value) (G : List HField) (n : ByteArray) (hn : n.size ≤ 1048576) (hG : Few G) (hle2 : G.length ≤ 1048576) (w : World) (hF : FL w v G) :
    Calls Tryd.prog 20 #[v, .string n] w fun e w' => ∃ v', e = .returned v' ∧ w'.ownsRow w.heap.size 9 1 v' (elems G (toL n)).length (strs (elems G (toL n))) ∧ Below w.heap.size w w' := by
  obtain ⟨i0, hi, hz0, hz1, hz2⟩ := info_parts infoS
  obtain ⟨p, cap, rfl, hle, hc⟩ := hF
  have hbig : ∀ k, (elems (G.take k) (toL n)).length ≤ 1099512676352 := fun k => by
    have := elems_len (G.take k) (toL n) 1048577 (fun f hf => by
      obtain ⟨j, hj, rfl⟩ := List.mem_iff_getElem.1 (List.mem_of_mem_take hf)
      exact Nat.succ_le_succ (hG j hj).2)
    have h2 : (G.take k).length ≤ 1048576 := Nat.le_trans (List.length_take_le' _ _) hle2
    have h3 := Nat.mul_le_mul_right 1048577 h2
    omega
  replace hc := Lib.hid hc
  replace hG := Lib.hid hG
  replace hbig := Lib.hid hbig
  have HK := Lib.hid (Gath.start w)
  go_enter Tryd.func20, Tryd.ntmps20
  go_wp2_with fail
  go_loopw [5, 6] (fun x i wr => ∃ k : Nat, k ≤ G.length ∧ i = .int .i64 k ∧ Hid (Gath w (elems (G.take k) (toL n)) x wr)) (fun _ i _ => G.length - (intOf i).toNat)
  case atStart => exact ⟨0, Nat.zero_le _, rfl, HK⟩
  case round =>
    obtain ⟨k, hk, rfl, HI⟩ := hrel
    clear HK
    by_cases hlt : k < G.length
    · obtain ⟨g, o, rfl, hgl, hcell⟩ := hc.out (by omega)
      obtain ⟨c1, c2⟩ := hcell k hlt
      have hki : (k : Int) < (G.length : Int) := by omega
      obtain ⟨s1, s2⟩ := hG.out k hlt
      have HA := Lib.hid (fun w => ralike7_any (ofL G[k].1) n (by rw [ofL_size]; omega) (by omega) w)
      rw [toL_ofL] at HA
      have HT : Hid (elems (G.take (k + 1)) (toL n) = if hit (toL n) G[k] then elems (G.take k) (toL n) ++ elements G[k].2 else elems (G.take k) (toL n)) := Lib.hid (by rw [← elems_snoc, List.take_add_one, List.getElem?_eq_getElem hlt]; rfl)
      replace c1 := (HI.out.below.cell (p := ⟨g, o + k * 2, none⟩) hgl).trans c1
      replace c2 := (HI.out.below.cell (p := ⟨g, o + k * 2 + 1, none⟩) hgl).trans c2
      have hgl2 := Nat.lt_of_lt_of_le hgl HI.out.below.size
      clear hcell
      cases hh : hit (toL n) G[k]
      · rw [hh] at HT
        rw [show alike G[k].1 (toL n) = false from hh] at HA
        clear hh
        go_wp2_with fail
        refine (HA.out _).mono ?_
        rintro e w2 ⟨rfl, hb2⟩
        have HK3 : Hid (Gath w (elems (G.take (k + 1)) (toL n)) u5 w2) := Lib.hid (by
          rw [HT.out]
          exact HI.out.call hb2)
        clear hb2
        go_wp2_with fail
        go_roundw
        case rel => exact ⟨k + 1, by omega, by go_num, HK3⟩
        case measure => simp [intOf]; omega
      · rw [hh] at HT
        rw [show alike G[k].1 (toL n) = true from hh] at HA
        have HE := Lib.hid (fun w => relements_any (ofL G[k].2) (by rw [ofL_size]; omega) w)
        rw [toL_ofL] at HE
        have hel := elements_len G[k].2
        clear hh
        go_wp2_with fail
        refine (HA.out _).mono ?_
        rintro e w2 ⟨rfl, hb2⟩
        replace c2 := (hb2.cell (p := ⟨g, o + k * 2 + 1, none⟩) hgl2).trans c2
        have HG2 := Lib.hid (HI.out.call hb2)
        clear hb2 c1
        go_wp2_with fail
        refine (HE.out _).mono ?_
        rintro e w3 ⟨v3, rfl, hr3, hb3⟩
        have HG3 := Lib.hid (HG2.out.call hb3)
        have hrow := HG3.out.row
        have hlen := hbig.out k
        clear hb3 HG2 c2
        go_wp2_with (at_builtin; refine wpList_append_row rfl (.tmp 27) (.tmp 28) 39 rfl w.heap.size 9 i0 (.string ByteArray.empty) 1 16 Tryd.underlying39 hi hz0 hz1 hz2 rfl (by decide) u5 _ _ rfl hrow v3 w2.heap.size _ _ rfl hr3 (strs_cells _) (by simp only [maxLen]; omega) (by omega) HG3.out.below.size ?_; intro v4 w4 hown4 hg4 hat4)
        have HK3 : Hid (Gath w (elems (G.take (k + 1)) (toL n)) v4 w4) := Lib.hid (by
          rw [HT.out]
          refine ⟨?_, Below.grown HG3.out.below hg4 HG3.out.below.size HG3.out.lt⟩
          simp only [if_true]
          rw [strs_append, List.length_append]
          exact hown4)
        clear hown4 hg4 hat4 hrow
        go_wp2_with fail
        go_roundw
        case rel => exact ⟨k + 1, by omega, by go_num, HK3⟩
        case measure => simp [intOf]; omega
    · have hall : G.take k = G := List.take_of_length_le (by omega)
      have HE := HI.out
      rw [hall] at HE
      have HEH := Lib.hid HE
      clear HE HI hall
      go_wp2_with fail
      go_ret
      exact ⟨_, rfl, HEH.out.row, HEH.out.below⟩
end Go.Proofs.YtgkdepoimnmhfaaDoor.R7Elements

/- append of one row of the call's own onto another, at the operation, inside a fence: the source nil or not. No program is named. -/
namespace Go.Proofs.YtgkdepoimnmhfaaDoor.AppendIn
open Go.RowKit
theorem run_append_row {P : Program} {w : World} (t ty : TypeId) (base : Nat) (e : TypeId) (i : TypeInfo) (z : Value) (size bytes : Nat) (ht : P.underlying t = some (.slice e)) (hi : P.info? e = some i) (hz : i.zero = some z)
    (hsize : i.size = size) (hby : i.bytes = bytes) (hzs : z.cells.size = size) (hsz : 0 < size)
    (v : Value) (n : Nat) (xs : List Value) (hown : w.ownsRow base e size v n xs)
    (y : Value) (base' m : Nat) (ys : List Value) (hrow : w.ownsRow base' e size y m ys) (h1 : ∀ u ∈ ys, u.oneCell' = true)
    (h63 : n + m ≤ maxLen) (hbytes : (n + m) * bytes ≤ 140737488355328) (hbase : base ≤ w.heap.size) :
    ∃ v' w', (Builtin.append_ #[t, t] ty #[v, y]).run P w = .ok v' w' ∧ w'.ownsRow base e size v' (n + m) (xs ++ ys) ∧ w.grownBy w' v.ownBlock := by
  rcases hrow.2 with ⟨rfl, rfl⟩ | ⟨g, cap, cur, rfl, _⟩
  · have hys : ys = [] := List.eq_nil_of_length_eq_zero (by simpa using hrow.1)
    subst hys
    exact ⟨v, w, run_append_owned_none (P := P) (w := w) base t ty e i size ht hi v n xs hown, by simpa using hown, World.grownBy.refl w _⟩
  · obtain ⟨v', w', hr, h2, h3, _, _⟩ := run_append_own_at (P := P) w base t ty e i z size bytes ht hi hz hsize hby hzs hsz v n xs hown ⟨g, 0, none⟩ m cap ys hrow.1 (hrow.cells rfl) h1 h63 hbytes hbase
    exact ⟨v', w', hr, h2, h3⟩
theorem wpIn_append_row {F : Fence} {nF : Nat} {P : Program} {w : World} {o : Oper} {a : Act} {K : Act → World → Prop} {Q : Exit → Act → World → Prop} (s x : Operand) (t : TypeId)
    (ho : o.op = .call { callee := .builtin .append, args := #[s, x], argTypes := #[t, t] })
    (base : Nat) (e : TypeId) (i : TypeInfo) (z : Value) (size bytes : Nat) (ht : P.underlying t = some (.slice e)) (hi : P.info? e = some i) (hz : i.zero = some z)
    (hsize : i.size = size) (hby : i.bytes = bytes) (hzs : z.cells.size = size) (hsz : 0 < size)
    (v : Value) (n : Nat) (xs : List Value) (hs : a.eval s = v) (hown : w.ownsRow base e size v n xs)
    (y : Value) (base' m : Nat) (ys : List Value) (hx : a.eval x = y) (hrow : w.ownsRow base' e size y m ys) (h1 : ∀ u ∈ ys, u.oneCell' = true)
    (h63 : n + m ≤ maxLen) (hbytes : (n + m) * bytes ≤ 140737488355328) (hbase : base ≤ w.heap.size)
    (h : ∀ v' w', w'.ownsRow base e size v' (n + m) (xs ++ ys) → w.grownBy w' v.ownBlock → K (a.put o.dst v') w') :
    o.wpIn F nF P a w K Q := by
  obtain ⟨v', w', hrun, r1, r2⟩ := run_append_row t o.type base e i z size bytes ht hi hz hsize hby hzs hsz v n xs hown y base' m ys hrow h1 h63 hbytes hbase
  unfold Oper.wpIn
  refine ⟨?_, ?_⟩
  · simp [Oper.about, ho, resolve, Target.leads, Sem.run_pure]
  · rw [Oper.semAt_plain F _ _ (by rw [ho]; intro c hc'; cases hc')]
    simp [execOp, ho, resolve, invoke, builtin, hs, hx, hrun, Result.andThen]
    exact h v' w' r1 r2
/-- behind 'out = append(out, f(..)...)', out in a box: all that the walk owes -/
theorem appended {W w1 w2 : World} {n₀ r0 B : Nat} {t e : TypeId} {size : Nat} {v v' : Value} {k m : Nat} {xs ys : List Value}
    (hv : Boxed W B t v) (hte : t ≠ e) (hrow : W.ownsRow r0 e size v k xs) (hn₀ : n₀ ≤ r0) (hr0 : r0 ≤ W.heap.size) (hB : n₀ ≤ B) (hb : Below W.heap.size W w1) (hrow1 : w1.ownsRow r0 e size v k xs)
    (hown' : w2.ownsRow r0 e size v' m ys) (hg : w1.grownBy w2 v.ownBlock) :
    Boxed w2 B t v ∧ Boxed (w2.setCell ⟨B, 0, none⟩ v') B t v' ∧ (w2.setCell ⟨B, 0, none⟩ v').ownsRow r0 e size v' m ys ∧ KeepsOthers W (w2.setCell ⟨B, 0, none⟩ v') ∧ Below n₀ W (w2.setCell ⟨B, 0, none⟩ v') ∧
      (∀ B' t' u, Boxed W B' t' u → B' < r0 → B' ≠ B → Boxed (w2.setCell ⟨B, 0, none⟩ v') B' t' u) := by
  have hgb : W.grownBy w1 none := ⟨hb.os, hb.tape, hb.output, hb.size, fun k hk _ => hb.block k hk⟩
  have hv0 : Boxed w1 B t v := hv.kept hgb (by simp)
  have hv1 : Boxed w2 B t v := hv0.kept hg (hv.not_row hte hrow)
  have hlt : ∀ j, v.ownBlock = some j → r0 ≤ j := fun j hj => (hrow.lt j hj).1
  refine ⟨hv1, hv1.set v', hown'.kept (grownBy_setCell' w2 B v') (.inr (hv1.not_row hte hown').symm), ?_, ?_, ?_⟩
  · refine ((KeepsOthers.of_grownBy hgb fun j o ej hj => (by cases ej)).trans (KeepsOthers.of_grownBy hg fun j o ej hj => ?_)).trans (KeepsOthers.setCell _ _ _)
    rcases hrow1.2 with ⟨rfl, _⟩ | ⟨g, cap, cur, rfl, _, hgb, _⟩
    · simp [Value.ownBlock] at ej
    · obtain rfl : g = j := by simpa [Value.ownBlock] using ej
      rw [hgb] at hj; cases hj; rfl
  · exact ((hb.mono (Nat.le_trans hn₀ hr0)).grown hg (Nat.le_trans (Nat.le_trans hn₀ hr0) hb.size) fun j ej => Nat.le_trans hn₀ (hlt j ej)).setCell (p := ⟨B, 0, none⟩) hB v'
  · intro B' t' u hu hB' hne
    exact ((hu.kept hgb (by simp)).kept hg (fun e => by have := hlt B' e.symm; omega)).other hne _
end Go.Proofs.YtgkdepoimnmhfaaDoor.AppendIn

/- Layer 7 of the program: Elements. -/
namespace Go.Proofs.YtgkdepoimnmhfaaDoor.PElems7
open Go.ChangeShapes Go.WideShapes Go.ChangeAt Go.RowKit LexPure Bytes Ret Rows1 Texts FieldsPure Flds R7Get KeptRow R7Elements PAlike PLib PElements PVals PGet AppendIn Mem Go.Shelf
set_option maxRecDepth 100000
attribute [local go_sem] Oper.semAt_some
def elemsV (l : List V) : List (List UInt8) := l.flatMap (fun x => elements x.1)
theorem elemsV_snoc (pre : List V) (x : V) : elemsV (pre ++ [x]) = elemsV pre ++ elements x.1 := by simp [elemsV]
theorem elemsV_len (pre : List V) : (elemsV pre).length ≤ pre.length * 1048577 := by
  induction pre with
  | nil => simp [elemsV]
  | cons x pre ih =>
    rw [show x :: pre = [x] ++ pre from rfl]
    unfold elemsV at *
    rw [List.flatMap_append, List.length_append, List.flatMap_singleton, List.length_append, List.length_singleton, Nat.add_mul]
    have := elements_len x.1
    have := x.2
    omega
theorem elemsV_vs (G : List HField) (hG : ∀ f ∈ G, f.2.length ≤ 1048576) (n : List UInt8) : elemsV (vs G n) = elems G n := by
  induction G with
  | nil => rfl
  | cons f G ih =>
    have h1 := ih (fun g hg => hG g (List.mem_cons_of_mem _ hg))
    rw [show f :: G = [f] ++ G from rfl, vs_append, vs_one]
    unfold elemsV elems at *
    rw [List.flatMap_append, h1, List.filter_append, List.flatMap_append]
    congr 1
    cases h : hit n f
    · simp [h]
    · simp [h, clamp_val (hG f List.mem_cons_self)]
theorem ownsRow_below2 {w w' : World} {base n size : Nat} {e : TypeId} {v : Value} {xs : List Value} (h : w.ownsRow base e size v n xs) (hb : Below w.heap.size w w') : w'.ownsRow base e size v n xs := row_below h hb
set_option maxHeartbeats 3200000 in
theorem pelems_any (v : Value) (G : List HField) (nm : ByteArray) (hG : Few G) (hle2 : G.length ≤ 1048576) (w : World) (hm : MaxInt w) (hF : FL w v G) :
    Calls Tryd.prog 35 #[v, .string nm] w fun e w' => ∃ v', e = .returned v' ∧ w'.ownsRow w.heap.size 9 1 v' (elems G (toL nm)).length (strs (elems G (toL nm))) ∧ Below w.heap.size w w' := by
  obtain ⟨i0, hi, hz0, hz1, hz2⟩ := info_parts infoS
  have HV := Lib.hid (elemsV_vs G (fun f hf => (few_all hG f hf).2) (toL nm))
  obtain ⟨p, cap, hvv, hle, _⟩ := id hF
  subst hvv
  have HF := Lib.hid hF
  have HG := Lib.hid hG
  have HM := Lib.hid hm
  clear hF hG hm
  refine (callsIn_wide (n := 3)).1 ?_
  refine callsIn_of_wp_marks Tryd.func35 rfl trivial ?_ rfl
  simp only [Tryd.ntmps35, List.size_toArray, List.length_cons, List.length_nil, Nat.reduceAdd, Nat.reduceSub, Array.replicate_succ, Array.replicate_zero, List.push_toArray, List.append_toArray, List.nil_append, List.cons_append]
  gi_wp2_with fail
  refine ⟨trivial, ?_⟩
  refine (callsIn_wide.2 (pvalues_any _ _ _ nm _)).mono ?_
  rintro e w' ⟨rfl, rfl⟩
  gi_wp2
  have b0 := ((Boxed.new w 39 (.slice none 0 0)).alloc (.cells #[.slice p G.length cap] 22)).alloc (.cells #[.string nm] 9)
  have b2 := (Boxed.new (w.alloc (.cells #[.slice none 0 0] 39)) 22 (.slice p G.length cap)).alloc (.cells #[.string nm] 9)
  have b3 := Boxed.new ((w.alloc (.cells #[.slice none 0 0] 39)).alloc (.cells #[.slice p G.length cap] 22)) 9 (.string nm)
  have hB0 : Below w.heap.size w (((w.alloc (.cells #[.slice none 0 0] 39)).alloc (.cells #[.slice p G.length cap] 22)).alloc (.cells #[.string nm] 9)) :=
    (((Below.refl _ w).alloc (Nat.le_refl _) _).alloc (by simp) _).alloc (by simp; omega) _
  have hsz : (((w.alloc (.cells #[.slice none 0 0] 39)).alloc (.cells #[.slice p G.length cap] 22)).alloc (.cells #[.string nm] 9)).heap.size = w.heap.size + 1 + 1 + 1 := by simp
  simp only [World.size_alloc] at b2 b3
  generalize (((w.alloc (.cells #[.slice none 0 0] 39)).alloc (.cells #[.slice p G.length cap] 22)).alloc (.cells #[.string nm] 9)) = W0 at *
  have hU := (FL.under HF.out).below hB0
  clear HF
  refine wpIn_rangeFunc_ownG rfl (by omega) (gf := 46) (lb := #[.pointer (some ⟨w.heap.size + 1, 0, none⟩), .pointer (some ⟨w.heap.size + 1 + 1, 0, none⟩)]) rfl trivial (enters_of Tryd.func46 (by kernel_rfl) rfl)
    (vals_stops (3 - 1) (w.heap.size + 1) (w.heap.size + 1 + 1) w.heap.size G HG.out nm (.slice p G.length cap) W0 b2.lt (by omega) b2.cell b3.cell hU) kp_t (kp_b (by omega) b3.lt) (Below.refl _ _) (fun _ => rfl)
    (fun pre W => (∃ v, Boxed W w.heap.size 39 v ∧ W.ownsRow W0.heap.size 9 1 v (elemsV pre).length (strs (elemsV pre)) ∧ True) ∧ Boxed W (w.heap.size + 1 + 1) 9 (.string nm) ∧ W0.heap.size ≤ W.heap.size ∧ Below w.heap.size w W)
    (fun _ _ _ => False)
    (OwnFrom.and (Own.from (holdsRow_own W0.heap.size w.heap.size 39 9 1 (fun pre => (elemsV pre).length) (fun pre => strs (elemsV pre)) (fun _ _ => True)) _) (OwnFrom.and (Own.from (boxed_own _ _ (fun _ => Value.string nm)) _) (OwnFrom.and (fun _ _ _ _ hs hg _ => Nat.le_trans hs hg.size) (ownFrom_below (Nat.le_refl _) (by omega)))))
    (fun _ _ _ _ _ hs _ _ => hs)
    ⟨⟨_, b0, World.ownsRow_nil _ _ _ _, trivial⟩, b3, Nat.le_refl _, hB0⟩
    (fun x => { tmps := #[.slice p G.length cap, .string nm, undef, undef, .slice none 0 0, .pointer (some ⟨w.heap.size, 0, none⟩), .string (ofL x.1), .slice p G.length cap, .string nm, .func (.func 46) #[] #[.pointer (some ⟨w.heap.size + 1, 0, none⟩), .pointer (some ⟨w.heap.size + 1 + 1, 0, none⟩)], .string (ofL x.1), undef, undef, undef, undef, undef], defers := [] }) ?assign ?body ?done ?stop
  case assign =>
    intro l x W K hK
    dsimp only [encV]
    gi_wp2
    exact hK
  case body =>
    rintro l pre x W ⟨⟨v, h0, hrow, _⟩, h3, hW0, hB⟩ hlt
    clear b0 b2 b3 hU HG HV
    have hc := h0.cell
    have hmx : Tryd.prog.follows .mixedOrders = true := by kernel_rfl
    have hE : Calls Tryd.prog 42 #[.string (ofL x.1)] W.drew fun e w' => ∃ v, e = .returned v ∧ w'.ownsRow W.heap.size 9 1 v (elements x.1).length (strs (elements x.1)) ∧ Below W.heap.size W w' := by
      have h := pelements_any (ofL x.1) (by rw [ofL_size]; have := x.2; omega) W.drew (HM.out.below (hB.trans ⟨rfl, rfl, rfl, Nat.le_refl _, fun _ _ => rfl⟩))
      rw [toL_ofL] at h
      refine h.mono ?_
      rintro e w' ⟨v, rfl, hr, hb⟩
      exact ⟨v, rfl, hr, ⟨hb.os, hb.tape, hb.output, hb.size, hb.block⟩⟩
    replace hE := Lib.hid hE
    have hlen : (elemsV pre).length + (elements x.1).length ≤ 1099512676352 := by
      have h1 := elemsV_len (pre ++ [x])
      rw [elemsV_snoc, List.length_append, List.length_append, List.length_singleton] at h1
      have h2 : pre.length + 1 ≤ 1048576 := by omega
      have h3 := Nat.mul_le_mul_right 1048577 h2
      omega
    have hX : Hid (strs (elemsV (pre ++ [x])) = strs (elemsV pre) ++ strs (elements x.1) ∧ (elemsV (pre ++ [x])).length = (elemsV pre).length + (elements x.1).length) := Lib.hid ⟨by rw [elemsV_snoc, strs_append], by rw [elemsV_snoc, List.length_append]⟩
    gi_wp2
    refine wpIn_region_any hmx ?_
    change wpAnyIn _ _ _ _ _ _ _ _ _ (World.drew _)
    refine wpAnyIn_ready (rs := [0, 1]) (by kernel_rfl) (by simp) (AllReadyIn.cons rfl (fun K hK => ?_) (AllReadyIn.cons rfl (fun K hK => ?_) AllReadyIn.nil))
    · go_simp
      refine hK _ _ ?_
      clear hK K
      refine wpAnyIn_ready (rs := [1]) (by kernel_rfl) (by simp) (AllReadyIn.cons rfl (fun K hK => ?_) AllReadyIn.nil)
      go_simp
      refine hK _ _ ?_
      clear hK K
      refine wpAnyIn_ready (rs := [2]) (by kernel_rfl) (by simp) (AllReadyIn.cons rfl (fun K hK => ?_) AllReadyIn.nil)
      go_simp
      refine ⟨trivial, ?_⟩
      refine (CallsIn.inRound l (callsIn_wide.2 hE.out)).mono ?_
      rintro e w' ⟨v3, rfl, hr3, hb3⟩
      refine hK _ _ ?_
      clear hK K
      have hrow1 := ownsRow_below2 hrow hb3
      refine wpAnyIn_ready (rs := [3]) (by kernel_rfl) (by simp) (AllReadyIn.cons rfl (fun K hK => ?_) AllReadyIn.nil)
      rw [if_pos (by rfl)]
      refine wpIn_append_row _ _ 39 rfl W0.heap.size 9 i0 (.string ByteArray.empty) 1 16 Tryd.underlying39 hi hz0 hz1 hz2 rfl (by decide) v _ _ rfl hrow1 v3 W.heap.size _ _ rfl hr3 (strs_cells _) (by simp only [maxLen]; omega) (by omega) (Nat.le_trans hW0 hb3.size) (fun v4 w4 hown4 hg4 => hK _ _ ?_)
      clear hK K
      obtain ⟨q1, q2, q3, q4, q5, q6⟩ := appended (n₀ := w.heap.size) h0 (by decide) hrow (by omega) hW0 (Nat.le_refl _) hb3 hrow1 hown4 hg4
      obtain ⟨p4, cap4, rfl, _⟩ := row_form hown4
      have qc := q1.cell
      have qf := q1.frozen
      have q7 := q6 _ _ _ h3 (by omega) (by omega)
      have HR := Lib.hid (And.intro (q4.from W0.heap.size) (And.intro q5 (And.intro q2 (And.intro q3 q7))))
      clear q1 q2 q3 q4 q5 q6 q7 hown4 hg4 hr3 hb3 hrow1 h0 hrow hc h3
      refine wpAnyIn_ready (rs := [4]) (by kernel_rfl) (by simp) (AllReadyIn.cons rfl (fun K hK => ?_) AllReadyIn.nil)
      go_simp
      refine hK _ _ ?_
      clear hK K
      refine wpAnyIn_done (by kernel_rfl) ?_ _
      gi_wp2
      obtain ⟨r1, r2, r3, r4, r5⟩ := HR.out; exact ⟨r1, ⟨r2, fun _ => r5.cell⟩, ⟨_, r3, by rw [hX.out.1, hX.out.2]; exact r4, trivial⟩, r5, Nat.le_trans hW0 r2.size, hB.trans r2⟩
    · go_simp
      refine hK _ _ ?_
      clear hK K
      refine wpAnyIn_ready (rs := [0, 2]) (by kernel_rfl) (by simp) (AllReadyIn.cons rfl (fun K hK => ?_) (AllReadyIn.cons rfl (fun K hK => ?_) AllReadyIn.nil))
      · go_simp
        refine hK _ _ ?_
        clear hK K
        refine wpAnyIn_ready (rs := [2]) (by kernel_rfl) (by simp) (AllReadyIn.cons rfl (fun K hK => ?_) AllReadyIn.nil)
        go_simp
        refine ⟨trivial, ?_⟩
        refine (CallsIn.inRound l (callsIn_wide.2 hE.out)).mono ?_
        rintro e w' ⟨v3, rfl, hr3, hb3⟩
        refine hK _ _ ?_
        clear hK K
        have hrow1 := ownsRow_below2 hrow hb3
        refine wpAnyIn_ready (rs := [3]) (by kernel_rfl) (by simp) (AllReadyIn.cons rfl (fun K hK => ?_) AllReadyIn.nil)
        rw [if_pos (by rfl)]
        refine wpIn_append_row _ _ 39 rfl W0.heap.size 9 i0 (.string ByteArray.empty) 1 16 Tryd.underlying39 hi hz0 hz1 hz2 rfl (by decide) v _ _ rfl hrow1 v3 W.heap.size _ _ rfl hr3 (strs_cells _) (by simp only [maxLen]; omega) (by omega) (Nat.le_trans hW0 hb3.size) (fun v4 w4 hown4 hg4 => hK _ _ ?_)
        clear hK K
        obtain ⟨q1, q2, q3, q4, q5, q6⟩ := appended (n₀ := w.heap.size) h0 (by decide) hrow (by omega) hW0 (Nat.le_refl _) hb3 hrow1 hown4 hg4
        obtain ⟨p4, cap4, rfl, _⟩ := row_form hown4
        have qc := q1.cell
        have qf := q1.frozen
        have q7 := q6 _ _ _ h3 (by omega) (by omega)
        have HR := Lib.hid (And.intro (q4.from W0.heap.size) (And.intro q5 (And.intro q2 (And.intro q3 q7))))
        clear q1 q2 q3 q4 q5 q6 q7 hown4 hg4 hr3 hb3 hrow1 h0 hrow hc h3
        refine wpAnyIn_ready (rs := [4]) (by kernel_rfl) (by simp) (AllReadyIn.cons rfl (fun K hK => ?_) AllReadyIn.nil)
        go_simp
        refine hK _ _ ?_
        clear hK K
        refine wpAnyIn_done (by kernel_rfl) ?_ _
        gi_wp2
        obtain ⟨r1, r2, r3, r4, r5⟩ := HR.out; exact ⟨r1, ⟨r2, fun _ => r5.cell⟩, ⟨_, r3, by rw [hX.out.1, hX.out.2]; exact r4, trivial⟩, r5, Nat.le_trans hW0 r2.size, hB.trans r2⟩
      · go_simp
        refine ⟨trivial, ?_⟩
        refine (CallsIn.inRound l (callsIn_wide.2 hE.out)).mono ?_
        rintro e w' ⟨v3, rfl, hr3, hb3⟩
        refine hK _ _ ?_
        clear hK K
        have hrow1 := ownsRow_below2 hrow hb3
        have hc3 := (h0.kept (show W.grownBy w' none from ⟨hb3.os, hb3.tape, hb3.output, hb3.size, fun k hk _ => hb3.block k hk⟩) (by simp)).cell
        refine wpAnyIn_ready (rs := [0]) (by kernel_rfl) (by simp) (AllReadyIn.cons rfl (fun K hK => ?_) AllReadyIn.nil)
        go_simp
        refine hK _ _ ?_
        clear hK K
        refine wpAnyIn_ready (rs := [3]) (by kernel_rfl) (by simp) (AllReadyIn.cons rfl (fun K hK => ?_) AllReadyIn.nil)
        rw [if_pos (by rfl)]
        refine wpIn_append_row _ _ 39 rfl W0.heap.size 9 i0 (.string ByteArray.empty) 1 16 Tryd.underlying39 hi hz0 hz1 hz2 rfl (by decide) v _ _ rfl hrow1 v3 W.heap.size _ _ rfl hr3 (strs_cells _) (by simp only [maxLen]; omega) (by omega) (Nat.le_trans hW0 hb3.size) (fun v4 w4 hown4 hg4 => hK _ _ ?_)
        clear hK K
        obtain ⟨q1, q2, q3, q4, q5, q6⟩ := appended (n₀ := w.heap.size) h0 (by decide) hrow (by omega) hW0 (Nat.le_refl _) hb3 hrow1 hown4 hg4
        obtain ⟨p4, cap4, rfl, _⟩ := row_form hown4
        have qc := q1.cell
        have qf := q1.frozen
        have q7 := q6 _ _ _ h3 (by omega) (by omega)
        have HR := Lib.hid (And.intro (q4.from W0.heap.size) (And.intro q5 (And.intro q2 (And.intro q3 q7))))
        clear q1 q2 q3 q4 q5 q6 q7 hown4 hg4 hr3 hb3 hrow1 h0 hrow hc h3
        refine wpAnyIn_ready (rs := [4]) (by kernel_rfl) (by simp) (AllReadyIn.cons rfl (fun K hK => ?_) AllReadyIn.nil)
        go_simp
        refine hK _ _ ?_
        clear hK K
        refine wpAnyIn_done (by kernel_rfl) ?_ _
        gi_wp2
        obtain ⟨r1, r2, r3, r4, r5⟩ := HR.out; exact ⟨r1, ⟨r2, fun _ => r5.cell⟩, ⟨_, r3, by rw [hX.out.1, hX.out.2]; exact r4, trivial⟩, r5, Nat.le_trans hW0 r2.size, hB.trans r2⟩
  case done =>
    rintro D ys W hD rfl ⟨⟨v, h0, hrow, _⟩, h3, _, hB⟩ hK
    have hc := h0.cell
    clear b0 b2 b3 hU HG
    gi_wp2
    refine ⟨by simp, .inl ⟨_, _, rfl, run_takeDeferred hK, ?_⟩⟩
    rw [HV.out] at hrow
    exact ⟨_, results_tmp rfl _ _ _, v, rfl, ownsRow_mono (ownsRow_putObj hrow _ hK rfl) (by omega), hB.trans (belowK_b (w := w) (Nat.le_refl _) W D _ _ (by omega) hK rfl rfl)⟩
  case stop =>
    rintro D c pre W _ _ h _
    exact h.elim
end Go.Proofs.YtgkdepoimnmhfaaDoor.PElems7

/- Layer 9 of the program: a name with capitals hits what it hits in small letters. -/
namespace Go.Proofs.YtgkdepoimnmhfaaDoor.FrNames
open Bytes LexPure FieldsPure FramePure
set_option maxRecDepth 20000
def aTENC : List UInt8 := [84, 114, 97, 110, 115, 102, 101, 114, 45, 69, 110, 99, 111, 100, 105, 110, 103]
def aCLEN : List UInt8 := [67, 111, 110, 116, 101, 110, 116, 45, 76, 101, 110, 103, 116, 104]
def aCONN : List UInt8 := [67, 111, 110, 110, 101, 99, 116, 105, 111, 110]
theorem hit_same {a b : List UInt8} (h : lower a = lower b) : hit a = hit b := by
  funext f
  unfold hit alike
  rw [h]
theorem getN_same {a b : List UInt8} (h : lower a = lower b) (G : List HField) : getN G a = getN G b := by
  unfold getN
  rw [hit_same h]
theorem elems_same {a b : List UInt8} (h : lower a = lower b) (G : List HField) : elems G a = elems G b := by
  unfold elems
  rw [hit_same h]
theorem hasE_same {a b : List UInt8} (h : lower a = lower b) (G : List HField) (e : List UInt8) : hasE G a e = hasE G b e := by
  unfold hasE
  rw [elems_same h]
theorem low_t : lower aTENC = lower TENC := by decide
theorem low_l : lower aCLEN = lower CLEN := by decide
theorem low_c : lower aCONN = lower CONNECTION := by decide
end Go.Proofs.YtgkdepoimnmhfaaDoor.FrNames

/- Layer 9 of the program: isChunked, refusal. -/
namespace Go.Proofs.YtgkdepoimnmhfaaDoor.PFrCh
open Go.ChangeShapes Go.WideShapes Go.ChangeAt Go.RowKit LexPure Bytes Ret Rows1 Texts FieldsPure HeadPure FramePure FrNames Flds R7Elements PAlike PLib PElems7 HBox Mem
set_option maxRecDepth 20000
theorem pchunk_any (s : ByteArray) (hs : s.size ≤ maxLen) (w : World) :
    Calls Tryd.prog 36 #[.string s] w fun e w' => e = .returned (.bool (lower (toL s) == CHUNKED)) ∧ Below w.heap.size w w' := by
  have HA := Lib.hid (palike_any s ⟨#[99, 104, 117, 110, 107, 101, 100]⟩ hs w)
  have he : alike (toL s) (toL ⟨#[99, 104, 117, 110, 107, 101, 100]⟩) = (lower (toL s) == CHUNKED) := rfl
  rw [he] at HA
  clear he
  generalize (lower (toL s) == CHUNKED) = b at *
  go_enter Tryd.func36, Tryd.ntmps36
  go_wp2_with fail
  refine HA.out.mono ?_
  rintro e w' ⟨rfl, hb⟩
  have HB := Lib.hid hb
  clear hb HA
  go_wp2_with fail
  go_ret
  exact ⟨rfl, HB.out⟩
/-- what a list of codings is refused with -/
def refN (E : List (List UInt8)) : Int := if codeN E = 2 then 91 else 90
theorem code_say (I : List (List UInt8)) (x : List UInt8) : codeN (I ++ [x]) = if lower x = CHUNKED ∧ I.all (fun y => !(lower y == CHUNKED)) = true then (if I = [] then 1 else 2) else 3 := by
  unfold codeN
  rw [List.reverse_append, List.reverse_singleton, List.singleton_append]
  simp only [List.all_reverse, List.reverse_eq_nil_iff]
theorem ref_bad (E : List (List UInt8)) (k : Nat) (hk : k < E.length) (h : (lower E[k] == CHUNKED) ≠ decide (k + 1 = E.length)) : refN E = 90 := by
  unfold refN
  rcases List.eq_nil_or_concat E with rfl | ⟨I, x, hE⟩
  · cases hk
  · rw [List.concat_eq_append] at hE
    subst hE
    rw [code_say, if_neg]
    intro hc
    by_cases hh : lower x = CHUNKED ∧ I.all (fun y => !(lower y == CHUNKED)) = true
    · have hl : (I ++ [x]).length = I.length + 1 := by simp
      by_cases hx : k = I.length
      · subst hx
        rw [List.getElem_concat_length rfl, hh.1, hl] at h
        simp at h
      · have hlt : k < I.length := by omega
        rw [List.getElem_append_left hlt, hl] at h
        have := List.all_eq_true.1 hh.2 I[k] (List.getElem_mem hlt)
        rw [show decide (k + 1 = I.length + 1) = false from decide_eq_false (by omega)] at h
        cases hq : (lower I[k] == CHUNKED)
        · exact h hq
        · rw [hq] at this
          cases this
    · rw [if_neg hh] at hc
      cases hc
theorem ref_good (E : List (List UInt8)) (h : ∀ k (hk : k < E.length), (lower E[k] == CHUNKED) = decide (k + 1 = E.length)) : refN E = if E.length < 2 then 90 else 91 := by
  unfold refN
  rcases List.eq_nil_or_concat E with rfl | ⟨I, x, hE⟩
  · rfl
  · rw [List.concat_eq_append] at hE
    subst hE
    have hx := h I.length (by simp)
    rw [List.getElem_concat_length rfl] at hx
    simp at hx
    have hall : I.all (fun y => !(lower y == CHUNKED)) = true := by
      rw [List.all_eq_true]
      intro y hy
      obtain ⟨j, hj, rfl⟩ := List.mem_iff_getElem.1 hy
      have h1 := h j (by simp; omega)
      rw [List.getElem_append_left hj] at h1
      rw [h1]
      simp
      omega
    rw [code_say, if_pos (And.intro hx hall)]
    cases I with
    | nil => simp
    | cons y I => simp
end Go.Proofs.YtgkdepoimnmhfaaDoor.PFrCh

/- Elements joined again. No program is named. -/
namespace Go.Proofs.YtgkdepoimnmhfaaDoor.LexFlat
open LexPure Bytes LexList
/-- one element, dressed -/
def dress (e : List UInt8) : List UInt8 := [32, 44] ++ e ++ [9, 44]
def flat (G : List (List UInt8)) : List UInt8 := G.flatMap dress
theorem flat_snoc (G : List (List UInt8)) (e : List UInt8) : flat (G ++ [e]) = flat G ++ dress e := by simp [flat]
theorem trim_blank {e : List UInt8} (h : trim e = e) (hne : e.isEmpty = false) : trim (e ++ [9]) = e := by
  have h1 : ∀ c r, e = c :: r → blankB c = false := fun c r he => trim_head (s := e) c r (by rw [h]; exact he)
  have h2 : ∀ c r, e.reverse = c :: r → blankB c = false := fun c r he => trim_last (s := e) c r (by rw [h]; exact he)
  unfold trim
  have e1 : (e ++ [9]).dropWhile blankB = e ++ [9] := dropWhile_id (fun c r he => by
    cases e with
    | nil => simp at hne
    | cons d t => simp only [List.cons_append, List.cons.injEq] at he; rw [← he.1]; exact h1 d t rfl)
  rw [e1, List.reverse_append, List.reverse_singleton, List.singleton_append, List.dropWhile_cons, if_pos (by decide), dropWhile_id h2, List.reverse_reverse]
theorem elements_dress {e r : List UInt8} (h : trim e = e) (hne : e.isEmpty = false) (hc : noComma e = true) : elements (dress e ++ r) = e :: elements r := by
  have e1 : dress e ++ r = [32] ++ 44 :: ((e ++ [9]) ++ 44 :: r) := by simp [dress]
  have hc2 : noComma (e ++ [9]) = true := noComma_snoc hc (by decide)
  rw [e1, elements_cut (p := [32]) (by decide), elements_cut hc2]
  have o1 : one [32] = [] := by decide
  have o2 : one (e ++ [9]) = [e] := by unfold one; rw [trim_blank h hne, hne]; rfl
  rw [o1, o2]
  rfl
theorem elements_flat : ∀ {G : List (List UInt8)}, (∀ e ∈ G, e.isEmpty = false ∧ trim e = e ∧ noComma e = true) → elements (flat G) = G
  | [], _ => by decide
  | e :: G, h => by
    have h0 := h e (by simp)
    show elements (dress e ++ flat G) = _
    rw [elements_dress h0.2.1 h0.1 h0.2.2, elements_flat (fun x hx => h x (by simp [hx]))]
theorem pieces_count : ∀ s : List UInt8, (pieces s).length ≤ s.length + 1
  | [] => by simp [pieces]
  | c :: s => by
    have := pieces_count s
    rw [pieces]
    split
    · simp; omega
    · split
      · simp
      · rename_i p ps hp
        rw [hp] at this
        simp at this ⊢
        omega
theorem pieces_short : ∀ {s p : List UInt8}, p ∈ pieces s → p.length ≤ s.length
  | [], p, h => by
    simp only [pieces, List.mem_singleton] at h
    subst h
    simp
  | c :: s, p, h => by
    rw [pieces] at h
    split at h
    · rw [List.mem_cons] at h
      rcases h with rfl | h
      · simp
      · have := pieces_short h
        simp
        omega
    · split at h
      · rw [List.mem_singleton] at h
        subst h
        simp
      · rename_i q qs hp
        rw [List.mem_cons] at h
        rcases h with rfl | h
        · have := pieces_short (s := s) (p := q) (by rw [hp]; simp)
          simp
          omega
        · have := pieces_short (s := s) (p := p) (by rw [hp]; simp [h])
          simp
          omega
theorem elements_count (s : List UInt8) : (elements s).length ≤ s.length + 1 := by
  have h1 := List.length_filter_le (fun e : List UInt8 => !e.isEmpty) ((pieces s).map trim)
  rw [List.length_map] at h1
  have := pieces_count s
  unfold elements
  omega
theorem elements_short {s e : List UInt8} (h : e ∈ elements s) : e.length ≤ s.length := by
  unfold elements at h
  rw [List.mem_filter, List.mem_map] at h
  obtain ⟨⟨p, hp, rfl⟩, _⟩ := h
  have h1 := trim_length p
  have h2 := pieces_short hp
  omega
theorem flat_length {n : Nat} : ∀ {G : List (List UInt8)}, (∀ e ∈ G, e.length ≤ n) → (flat G).length ≤ G.length * (n + 4)
  | [], _ => by simp [flat]
  | e :: G, h => by
    have h0 := h e (by simp)
    have h1 := flat_length (G := G) (fun x hx => h x (by simp [hx]))
    show (dress e ++ flat G).length ≤ _
    rw [List.length_append, List.length_cons, Nat.add_mul, Nat.one_mul]
    have : (dress e).length = e.length + 4 := by simp [dress]
    omega
theorem pieces_total : ∀ s : List UInt8, (pieces s).flatten.length ≤ s.length
  | [] => by simp [pieces]
  | c :: s => by
    have := pieces_total s
    rw [pieces]
    split
    · simp at this ⊢; omega
    · split
      · simp
      · rename_i p ps hp
        rw [hp] at this
        simp at this ⊢
        omega
theorem flat_total : ∀ L : List (List UInt8), (flat ((L.map trim).filter (fun e => !e.isEmpty))).length ≤ L.flatten.length + 4 * L.length
  | [] => by simp [flat]
  | p :: L => by
    have ih := flat_total L
    have ht := trim_length p
    rw [List.map_cons, List.filter_cons]
    split
    · show (dress (trim p) ++ flat _).length ≤ _
      rw [List.length_append]
      have : (dress (trim p)).length = (trim p).length + 4 := by simp [dress]
      simp only [List.flatten_cons, List.length_append, List.length_cons]
      omega
    · simp only [List.flatten_cons, List.length_append, List.length_cons]
      omega
theorem elements_total (s : List UInt8) : (flat (elements s)).length ≤ 5 * s.length + 4 := by
  have h1 := flat_total (pieces s)
  have h2 := pieces_total s
  have h3 := pieces_count s
  unfold elements
  omega
theorem flat_take (G : List (List UInt8)) (k : Nat) : (flat (G.take k)).length ≤ (flat G).length := by
  have h : flat G = flat (G.take k) ++ flat (G.drop k) := by
    unfold flat
    rw [← List.flatMap_append, List.take_append_drop]
  rw [h, List.length_append]
  omega
end Go.Proofs.YtgkdepoimnmhfaaDoor.LexFlat

/- Layer 7, the document's own Has. -/
namespace Go.Proofs.YtgkdepoimnmhfaaDoor.R7Has
open Go.ChangeShapes Go.WideShapes Go.ChangeAt Go.RowKit LexPure Bytes Ret Rows1 Texts FieldsPure Flds RAlike7 R7Get KeptRow R7Elements LexFlat Mem
set_option maxRecDepth 20000
theorem elems_short (G : List HField) (n : List UInt8) (hG : Few G) : ∀ (j : Nat) (h : j < (elems G n).length), (elems G n)[j].length ≤ 1048576 := by
  intro j h
  have hm := List.getElem_mem h
  unfold elems at hm
  obtain ⟨f, hf, he⟩ := List.mem_flatMap.1 hm
  obtain ⟨i, hi, rfl⟩ := List.mem_iff_getElem.1 (List.mem_filter.1 hf).1
  exact Nat.le_trans (elements_short he) (hG i hi).2
set_option maxHeartbeats 1600000 in
theorem r7has_any (v : Value) (G : List HField) (n x : ByteArray) (hn : n.size ≤ 1048576) (hx : x.size ≤ 1048576) (hG : Few G) (hle2 : G.length ≤ 1048576) (w : World) (hF : FL w v G) :
    Calls Tryd.prog 29 #[v, .string n, .string x] w fun e w' => e = .returned (.bool (hasE G (toL n) (toL x))) ∧ Below w.heap.size w w' := by
  have HR := Lib.hid (r7elements_any v G n hn hG hle2 w hF)
  have hS := Lib.hid (elems_short G (toL n) hG)
  clear hF hG hle2
  have HV : Hid (hasE G (toL n) (toL x) = (elems G (toL n)).any (fun y => alike y (toL x))) := Lib.hid rfl
  obtain ⟨b, hb⟩ : ∃ b, b = hasE G (toL n) (toL x) := ⟨_, rfl⟩
  rw [← hb] at HV ⊢
  replace hb := Lib.hid hb
  generalize elems G (toL n) = E at *
  go_enter Tryd.func29, Tryd.ntmps29
  go_wp2_with fail
  refine HR.out.mono ?_
  rintro e w2 ⟨v2, rfl, hrow, hb2⟩
  obtain ⟨p, cap, rfl, hle, hc⟩ := texts_of hrow
  replace hc := Lib.hid hc
  have HB0 := Lib.hid hb2
  clear HR hrow hb2
  go_wp2_with fail
  go_loopw [8] (fun i wr => ∃ k : Nat, k ≤ E.length ∧ i = .int .i64 k ∧ Hid ((E.take k).any (fun y => alike y (toL x)) = false) ∧ Hid (Below w2.heap.size w2 wr)) (fun i _ => E.length - (intOf i).toNat)
  case atStart => exact ⟨0, Nat.zero_le _, rfl, Lib.hid rfl, Lib.hid (Below.refl _ _)⟩
  case round =>
    obtain ⟨k, hk, rfl, ha, HB⟩ := hrel
    by_cases hlt : k < E.length
    · obtain ⟨g, o, rfl, hgl, hcell⟩ := hc.out (by omega)
      have c1 := (HB.out.cell (p := ⟨g, o + k, none⟩) hgl).trans (hcell k hlt)
      have hki : (k : Int) < (E.length : Int) := by omega
      have s1 := hS.out k hlt
      have HA := Lib.hid (fun w => ralike7_any (ofL E[k]) x (by rw [ofL_size]; omega) (by omega) w)
      rw [toL_ofL] at HA
      clear hcell
      cases hh : alike E[k] (toL x)
      · have HN : Hid ((E.take (k + 1)).any (fun y => alike y (toL x)) = false) := Lib.hid (by
          rw [List.take_add_one, List.getElem?_eq_getElem hlt, List.any_append, ha.out]
          simp [hh])
        rw [hh] at HA
        clear hh ha
        go_wp2_with fail
        refine (HA.out _).mono ?_
        rintro e w3 ⟨rfl, hb3⟩
        have HB3 := Lib.hid (below_chain HB.out hb3)
        clear hb3 c1
        go_wp2_with fail
        go_roundw
        case rel => exact ⟨k + 1, by omega, by go_num, HN, HB3⟩
        case measure => simp [intOf]; omega
      · have HV2 : Hid (b = true) := Lib.hid (by
          rw [HV.out, List.any_eq_true]
          exact ⟨E[k], List.getElem_mem hlt, hh⟩)
        rw [hh] at HA
        clear hh ha
        go_wp2_with fail
        refine (HA.out _).mono ?_
        rintro e w3 ⟨rfl, hb3⟩
        have HB3 := Lib.hid (below_chain HB0.out (below_chain HB.out hb3))
        clear hb3 c1
        go_wp2_with fail
        go_ret
        exact ⟨ret_bool HV2.out.symm, HB3.out⟩
    · have HV2 : Hid (b = false) := Lib.hid (by
        have h := ha.out
        rw [List.take_of_length_le (by omega)] at h
        rw [HV.out, h])
      have HB3 := Lib.hid (below_chain HB0.out HB.out)
      clear ha
      go_wp2_with fail
      go_ret
      exact ⟨ret_bool HV2.out.symm, HB3.out⟩
end Go.Proofs.YtgkdepoimnmhfaaDoor.R7Has

/- Layer 9 of the program: refusal. -/
namespace Go.Proofs.YtgkdepoimnmhfaaDoor.PFrRef
open Go.ChangeShapes Go.WideShapes Go.ChangeAt Go.RowKit LexPure Bytes Ret Rows1 Texts FieldsPure HeadPure FramePure FrNames Flds R7Elements R7Has PAlike PLib PElems7 PFrCh HBox Mem
set_option maxRecDepth 20000
theorem ret_ref {a b : Int} (h : a = b) : Ending.returned (.int .i64 a) = .returned (.int .i64 b) := by rw [h]
/-- the first k are as they should be -/
def FitTo (E : List (List UInt8)) (n : Nat) : Prop := ∀ k (hk : k < E.length), k < n → (lower E[k] == CHUNKED) = decide (k + 1 = E.length)
set_option maxHeartbeats 1600000 in
theorem pref_any (h : H8) (v : Value) (hG : Few h.fields) (hle : h.fields.length ≤ 1048576) (w : World) (hF : FL w v h.fields) (hm : MaxInt w) :
    Calls Tryd.prog 23 #[hv h v] w fun e w' => e = .returned (.int .i64 (refN (elems h.fields TENC))) ∧ Below w.heap.size w w' := by
  have hb1 := (Below.refl w.heap.size w).alloc (Nat.le_refl _) (.cells (hc h v) 24)
  have HR := Lib.hid (pelems_any v h.fields ⟨#[84, 114, 97, 110, 115, 102, 101, 114, 45, 69, 110, 99, 111, 100, 105, 110, 103]⟩ hG hle _ (hm.below hb1) (hF.below hb1))
  have hS := Lib.hid (elems_short h.fields TENC hG)
  rw [show toL ⟨#[84, 114, 97, 110, 115, 102, 101, 114, 45, 69, 110, 99, 111, 100, 105, 110, 103]⟩ = aTENC from rfl, elems_same low_t] at HR
  obtain ⟨C, hC⟩ : ∃ C, C = refN (elems h.fields TENC) := ⟨_, rfl⟩
  rw [← hC]
  generalize elems h.fields TENC = E at *
  have hBad := Lib.hid (fun k hk h => hC.trans (ref_bad E k hk h))
  have hGood := Lib.hid (fun h => hC.trans (ref_good E h))
  clear hC
  unfold hc at hb1 HR
  unfold hv
  replace hb1 := Lib.hid hb1
  clear hF hm
  go_enter Tryd.func23, Tryd.ntmps23
  go_wp2_with fail
  generalize w.alloc (.cells #[.string (ofL h.method), .string (ofL h.target), .int .i64 h.status, .string (ofL h.reason), .int .i64 h.minor, v] 24) = W at *
  refine HR.out.mono ?_
  rintro e w2 ⟨v2, rfl, hrow, hb2⟩
  obtain ⟨p, cap, rfl, hle2, hc⟩ := texts_of hrow
  have HB0 := Lib.hid (below_chain hb1.out hb2)
  clear HR hrow hb2 hb1
  go_wp2_with fail
  go_loopw [11] (fun i wr => ∃ k : Nat, k ≤ E.length ∧ i = .int .i64 k ∧ Hid (FitTo E k) ∧ Hid (Below w2.heap.size w2 wr)) (fun i _ => E.length - (intOf i).toNat)
  case atStart => exact ⟨0, Nat.zero_le _, rfl, Lib.hid (fun k _ h => by omega), Lib.hid (Below.refl _ _)⟩
  case round =>
    obtain ⟨k, hk, rfl, ha, HBk⟩ := hrel
    by_cases hlt : k < E.length
    · have hki : (k : Int) < (E.length : Int) := by omega
      obtain ⟨g, o, rfl, hgl, hcell⟩ := hc (by omega)
      have c1 := (HBk.out.cell (p := ⟨g, o + k, none⟩) hgl).trans (hcell k hlt)
      have hs1 := hS.out k hlt
      have HL := Lib.hid (fun w => pchunk_any (ofL E[k]) (by rw [ofL_size]; unfold maxLen; omega) w)
      rw [toL_ofL] at HL
      have hB1 := Lib.hid (hBad.out k hlt)
      generalize hbb : (lower E[k] == CHUNKED) = b at *
      clear hc hcell hS hs1
      by_cases hd : k + 1 = E.length
      · have hq : ((k : Int) == (E.length : Int) - 1) = true := by rw [beq_iff_eq]; omega
        rw [decide_eq_true hd] at hB1
        go_wp2_with fail
        refine (HL.out _).mono ?_
        rintro e w3 ⟨rfl, hb3⟩
        have HB := Lib.hid (below_chain HBk.out hb3)
        clear hb3 HL c1
        cases b
        · have hV := Lib.hid (hB1.out (by decide))
          clear hd
          go_wp2_with fail
          go_ret
          exact ⟨ret_ref hV.out.symm, below_chain HB0.out HB.out⟩
        · have HA : Hid (FitTo E (k + 1)) := Lib.hid (fun j hj hl => by
            by_cases hx : j < k
            · exact ha.out j hj hx
            · have : j = k := by omega
              subst this
              rw [hbb, decide_eq_true hd])
          clear hd ha hB1 hbb
          go_wp2_with fail
          go_simp
          exact ⟨⟨k + 1, by omega, by omega, HA⟩, by simp [intOf]; omega⟩
      · have hq : ((k : Int) == (E.length : Int) - 1) = false := beq_eq_false_iff_ne.2 (by omega)
        rw [decide_eq_false hd] at hB1
        go_wp2_with fail
        refine (HL.out _).mono ?_
        rintro e w3 ⟨rfl, hb3⟩
        have HB := Lib.hid (below_chain HBk.out hb3)
        clear hb3 HL c1
        cases b
        · have HA : Hid (FitTo E (k + 1)) := Lib.hid (fun j hj hl => by
            by_cases hx : j < k
            · exact ha.out j hj hx
            · have : j = k := by omega
              subst this
              rw [hbb, decide_eq_false hd])
          clear hd ha hB1 hbb
          go_wp2_with fail
          go_simp
          exact ⟨⟨k + 1, by omega, by omega, HA⟩, by simp [intOf]; omega⟩
        · have hV := Lib.hid (hB1.out (by decide))
          clear hd
          go_wp2_with fail
          go_ret
          exact ⟨ret_ref hV.out.symm, below_chain HB0.out HB.out⟩
    · have hki : ¬ ((k : Int) < (E.length : Int)) := by omega
      have hV := Lib.hid (hGood.out (fun j hj => ha.out j hj (by omega)))
      have HB := Lib.hid (below_chain HB0.out HBk.out)
      clear ha hS hc hBad hGood HBk HB0
      by_cases h2 : E.length < 2
      · have h2i : (E.length : Int) < 2 := by omega
        have hV2 : Hid (C = 90) := Lib.hid (by rw [hV.out, if_pos h2])
        clear hV h2
        go_wp2_with fail
        go_ret
        exact ⟨ret_ref hV2.out.symm, HB.out⟩
      · have h2i : ¬ ((E.length : Int) < 2) := by omega
        have hV2 : Hid (C = 91) := Lib.hid (by rw [hV.out, if_neg h2])
        clear hV h2
        go_wp2_with fail
        go_ret
        exact ⟨ret_ref hV2.out.symm, HB.out⟩
end Go.Proofs.YtgkdepoimnmhfaaDoor.PFrRef

/- Layer 9 of the program: has. -/
namespace Go.Proofs.YtgkdepoimnmhfaaDoor.PFrHas
open Go.ChangeShapes Go.WideShapes Go.ChangeAt Go.RowKit LexPure Bytes Ret FieldsPure HeadPure Flds PGet HBox Mem
set_option maxRecDepth 20000
theorem pfrhas_any (h : H8) (v : Value) (nm : ByteArray) (hG : Few h.fields) (w : World) (hF : FL w v h.fields) :
    Calls Tryd.prog 21 #[hv h v, .string nm] w fun e w' => e = .returned (.bool (decide (0 < getN h.fields (toL nm)))) ∧ Below w.heap.size w w' := by
  have hb1 := (Below.refl w.heap.size w).alloc (Nat.le_refl _) (.cells (hc h v) 24)
  have HR := Lib.hid (pget_any v h.fields nm hG _ (hF.below hb1))
  generalize getN h.fields (toL nm) = n at *
  generalize ofL (getV h.fields (toL nm)) = g at *
  unfold hc at hb1 HR
  unfold hv
  replace hb1 := Lib.hid hb1
  go_enter Tryd.func21, Tryd.ntmps21
  go_wp2_with fail
  refine HR.out.mono ?_
  rintro e w' ⟨rfl, hb2⟩
  have HB := Lib.hid (below_chain hb1.out hb2)
  clear hb2 hb1 HR
  go_wp2_with fail
  go_ret
  exact ⟨rfl, HB.out⟩
end Go.Proofs.YtgkdepoimnmhfaaDoor.PFrHas

/- A variable or a parameter that holds a head, in a box made behind w. -/
namespace Go.Proofs.YtgkdepoimnmhfaaDoor.Held
open Go.ChangeShapes Go.WideShapes Go.ChangeAt Go.RowKit LexPure Bytes Ret Rows1 FieldsPure Flds HeadPure HBox KeptRow Mem
set_option maxRecDepth 20000
/-- box g, made behind w, holds head H with its list v -/
structure LB (w W : World) (g : Nat) (H : H8) (v : Value) : Prop where
  below : Below w.heap.size w W
  low : w.heap.size ≤ g
  box : HBox W g H v
  list : FL W v H.fields
  lt : g < W.heap.size
theorem LB.new {w W : World} {H : H8} {v : Value} (hb : Below w.heap.size w W) (hf : FL W v H.fields) : LB w (W.alloc (.cells (hc H v) 24)) W.heap.size H v :=
  ⟨hb.alloc hb.size _, hb.size, ⟨Has.new W _ _⟩, hf.below ((Below.refl _ _).alloc (Nat.le_refl _) _), by simp⟩
theorem LB.call {w W W' : World} {g : Nat} {H : H8} {v : Value} (h : LB w W g H v) (hb : Below W.heap.size W W') : LB w W' g H v :=
  ⟨below_chain h.below hb, h.low, h.box.below hb h.lt, h.list.below hb, Nat.lt_of_lt_of_le h.lt hb.size⟩
theorem LB.alloc {w W : World} {g : Nat} {H : H8} {v : Value} (h : LB w W g H v) (o : Obj) : LB w (W.alloc o) g H v := h.call ((Below.refl _ _).alloc (Nat.le_refl _) o)
/-- an answer with a row of its own is stored over -/
theorem LB.put {w W W' : World} {g : Nat} {H H' : H8} {v v' : Value} (h : LB w W g H v) (hb : Below W.heap.size W W') (hr : RowF W' W.heap.size v' H'.fields) : LB w (hput W' g H' v') g H' v' :=
  ⟨below_hput (below_chain h.below hb) h.low _ _, h.low, (h.box.below hb h.lt).put _ _, fl_of (row_hput hr.1 (g := g) h.lt H' v') (by have := hr.2; omega), by rw [size_hput]; exact Nat.lt_of_lt_of_le h.lt hb.size⟩
theorem LB.drewN {w W : World} {g : Nat} {H : H8} {v : Value} (h : LB w W g H v) (n : Nat) : LB w (W.drewN n) g H v :=
  ⟨below_drewN h.below n, h.low, ⟨h.box.has.drewN n⟩, h.list, h.lt⟩
end Go.Proofs.YtgkdepoimnmhfaaDoor.Held

/- Layer 9 of the program: a framing in memory, and how a call that answers one ends. -/
namespace Go.Proofs.YtgkdepoimnmhfaaDoor.FrBox
open Go.ChangeShapes Go.WideShapes Go.ChangeAt Go.RowKit LexPure Bytes FieldsPure HeadPure FramePure Flds HBox Mem
set_option maxRecDepth 20000
def rc (x : Int × Int) : Array Value := #[.int .i64 x.1, .int .i64 x.2]
def rv (x : Int × Int) : Value := .agg #[.int .i64 x.1, .int .i64 x.2]
structure RBox (w : World) (g : Nat) (x : Int × Int) : Prop where
  has : Has w g 27 (rc x)
def rput (W : World) (g : Nat) (x : Int × Int) : World := (W.setCell ⟨g, 0, none⟩ (.int .i64 x.1)).setCell ⟨g, 1, none⟩ (.int .i64 x.2)
theorem RBox.put {W : World} {g : Nat} {u : Int × Int} (h : RBox W g u) (x : Int × Int) : RBox (rput W g x) g x :=
  ⟨by have := (h.has.set_ 0 (.int .i64 x.1)).set_ 1 (.int .i64 x.2); unfold rput; simpa [rc] using this⟩
theorem rload {w : World} {g : Nat} {x : Int × Int} (h : RBox w g x) : (loadVar 27 ⟨g, 0, none⟩).run Tryd.prog w = .ok (rv x) w :=
  run_loadVar_row w g 27 27 _ _ _ h.has.at_ Tryd.underlying27 rfl (by kernel_rfl)
theorem RBox.cells {w : World} {g : Nat} {x : Int × Int} (h : RBox w g x) : w.cell? ⟨g, 0, none⟩ = some (.int .i64 x.1) ∧ w.cell? ⟨g, 1, none⟩ = some (.int .i64 x.2) := ⟨(h.has.cell 0).trans rfl, (h.has.cell 1).trans rfl⟩
theorem RBox.frees {w : World} {g : Nat} {x : Int × Int} (h : RBox w g x) : w.frozen? ⟨g, 0, none⟩ = false ∧ w.frozen? ⟨g, 1, none⟩ = false := ⟨h.has.free 0, h.has.free 1⟩
theorem RBox.below {w w' : World} {g B : Nat} {x : Int × Int} (h : RBox w g x) (hb : Below B w w') (hg : g < B) : RBox w' g x := ⟨h.has.below hb hg⟩
/-- the box of a call's answer, made behind w -/
structure RB (w W : World) (g : Nat) (x : Int × Int) : Prop where
  below : Below w.heap.size w W
  low : w.heap.size ≤ g
  box : RBox W g x
  lt : g < W.heap.size
theorem RB.new {w W : World} {x : Int × Int} (hb : Below w.heap.size w W) : RB w (W.alloc (.cells (rc x) 27)) W.heap.size x :=
  ⟨hb.alloc hb.size _, hb.size, ⟨Has.new W _ _⟩, by simp⟩
theorem RB.call {w W W' : World} {g : Nat} {x : Int × Int} (h : RB w W g x) (hb : Below W.heap.size W W') : RB w W' g x :=
  ⟨below_chain h.below hb, h.low, h.box.below hb h.lt, Nat.lt_of_lt_of_le h.lt hb.size⟩
theorem RB.put {w W : World} {g : Nat} {u : Int × Int} (h : RB w W g u) (x : Int × Int) : RB w (rput W g x) g x :=
  ⟨(h.below.setCell (p := ⟨g, 0, none⟩) h.low _).setCell (p := ⟨g, 1, none⟩) h.low _, h.low, h.box.put x, by have := h.lt; simpa [rput] using this⟩
theorem RB.drewN {w W : World} {g : Nat} {x : Int × Int} (h : RB w W g x) (n : Nat) : RB w (W.drewN n) g x :=
  ⟨below_drewN h.below n, h.low, ⟨h.box.has.drewN n⟩, h.lt⟩
/-- a framing and an error -/
def frv9 (r : Int × Int × Int) : Value := .tuple #[.agg #[.int .i64 r.1, .int .i64 r.2.1], .int .i64 r.2.2]
theorem end_rbox {W : World} {g : Nat} {a b v : Int} {r : Int × Int × Int} (hr : r = (a, b, v)) {tmps : Array Value} {p u : Tmp} (hp : tmps.getD p undef = .pointer (some ⟨g, 0, none⟩)) (hu : tmps.getD u undef = .int .i64 v) (h : RBox W g (a, b)) :
    (((asAddr (tmps.getD p undef)).run Tryd.prog W).andThen fun a w₁ => ((loadVar 27 a).run Tryd.prog w₁).andThen fun v w₂ => .ok (.tuple #[v, tmps.getD u undef]) w₂) = .ok (frv9 r) W := by
  rw [hp, hu, hr]
  have := rload h
  simp [asAddr, Result.andThen, this, frv9, rv]
end Go.Proofs.YtgkdepoimnmhfaaDoor.FrBox
