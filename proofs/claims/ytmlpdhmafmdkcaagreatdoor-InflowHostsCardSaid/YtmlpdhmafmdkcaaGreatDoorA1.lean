/- Texts of this seat, one behind another: Bytes, LawKit, LawBase, BuildLays, Mem, Step, LexPure, LexNum, FieldsPure, HeadPure, ChunkPure, ChunkHex, HeadWrit, ChunkText, Rows1, ChObj, Ret, PDigit, PCount, PHex, POfValue, LexList, LexSplit, LexLays, Texts, PLibT, PTrim, PToken, PText. -/
import Derived.ProofKit
import Derived.Laws.Strings
import Derived.Below
import Derived.ChangeSame
import Derived.WideKeyArgs
import Derived.OpenShut
import Derived.Carry
import Derived.SizedLaws
import Derived.Test.YtmlpdhmafmdkcaaGreatDoorRows
import Derived.WalkKit
import Derived.ChangeMaps5
import Derived.Shelf.Strings.Builder1
import Derived.Test.YtmlpdhmafmdkcaaGreatDoorProg
import Derived.Laws.OwnMore
import Derived.Laws.Rows
import Derived.Deep.Draws
import Derived.Laws.AppendOwn
import Derived.Maps.OwnSet
import Derived.Laws.IdiomStrings
import Derived.Lib.BufferRead
import Derived.Lib.Hide
import Derived.Outline
import Derived.LoopTactic
import Derived.Handy
import Derived.Lib.SlTrimSet
import Derived.Lib.SplitLaws
import Derived.Lib.Bytealg
import Derived.Shelf.Strings.SlTrimAscii
import Derived.Shelf.Strings.Split
import Derived.Shelf.Strings.Prefix
import Derived.Shelf.Small.Strs
import Derived.Shelf.Small.Wraps
import Derived.Shelf.Vars

/- Texts as lists of bytes, and facts on all bytes by reckoning. No program is named. -/
namespace Go.Proofs.YtmlpdhmafmdkcaaGreatDoor.Bytes

/-- a text's bytes, and the text of bytes -/
abbrev toL (s : ByteArray) : List UInt8 := s.data.toList
def ofL (l : List UInt8) : ByteArray := ⟨l.toArray⟩
theorem toL_ofL (l : List UInt8) : toL (ofL l) = l := by simp [toL, ofL]
theorem ofL_toL (s : ByteArray) : ofL (toL s) = s := by cases s; simp [toL, ofL]
theorem ofL_inj {l m : List UInt8} (h : ofL l = ofL m) : l = m := by
  have := congrArg toL h
  rwa [toL_ofL, toL_ofL] at this
theorem toL_inj {s t : ByteArray} (h : toL s = toL t) : s = t := by
  rw [← ofL_toL s, ← ofL_toL t, h]
theorem toL_length (s : ByteArray) : (toL s).length = s.size := by simp [toL]
theorem ofL_size (l : List UInt8) : (ofL l).size = l.length := by simp [ofL, ByteArray.size]
theorem toL_get (s : ByteArray) (k : Nat) (h : k < s.size) : (toL s)[k]? = some s[k] := by
  rw [List.getElem?_eq_getElem (by rw [toL_length]; exact h)]
  simp [toL, ByteArray.getElem_eq_getElem_data]
theorem toL_take_succ (s : ByteArray) (k : Nat) (h : k < s.size) : (toL s).take (k + 1) = (toL s).take k ++ [s[k]] := by
  rw [List.take_add_one, toL_get s k h]
  rfl
theorem toL_drop (s : ByteArray) (k : Nat) (h : k < s.size) : (toL s).drop k = s[k] :: (toL s).drop (k + 1) := by
  rw [List.drop_eq_getElem_cons (by rw [toL_length]; exact h)]
  have := toL_get s k h
  rw [List.getElem?_eq_getElem (by rw [toL_length]; exact h)] at this
  rw [Option.some.inj this]
theorem toL_take_all (s : ByteArray) {k : Nat} (h : s.size ≤ k) : (toL s).take k = toL s := List.take_of_length_le (by rw [toL_length]; exact h)
theorem toL_extract (s : ByteArray) (a b : Nat) : toL (s.extract a b) = ((toL s).take b).drop a := by
  simp [toL, ByteArray.data_extract, Array.toList_extract, List.drop_take]
theorem toL_append (s t : ByteArray) : toL (s ++ t) = toL s ++ toL t := by simp [toL, ByteArray.data_append]
/-- texts held against each other, in the walk's form -/
theorem same_text (s t : ByteArray) : (s.toList == t.toList) = (toL s == toL t) := by rw [ByteArray.toList_eq, ByteArray.toList_eq]
theorem same_ofL (l m : List UInt8) : ((ofL l).toList == (ofL m).toList) = (l == m) := by rw [same_text, toL_ofL, toL_ofL]
/-- a fact on all bytes, by reckoning -/
theorem all_bytes {p : UInt8 → Bool} (h : (List.range 256).all (fun n => p (UInt8.ofNat n)) = true) (b : UInt8) : p b = true := by
  have := List.all_eq_true.1 h b.toNat (List.mem_range.2 b.toNat_lt)
  simpa using this
end Go.Proofs.YtmlpdhmafmdkcaaGreatDoor.Bytes

/- The row's last step for any law that changes nothing of what was there: the arguments read as they did, the result is true. No program is named. -/
namespace Go.Proofs.YtmlpdhmafmdkcaaGreatDoor.LawKit
open Go.ChangeShapes Go.WideShapes Go.ChangeAt Go.RowKit
variable {H : Type} {enc : TypeId × Value → H} {P : Program}

theorem trodAll_stays (hl : laidOutB P = true) {W W' : World} {sp : Nat → Bool} : ∀ {ts : List TypeId} {vs : List Value} {ds : List (DataW H)} {ps : List MemPlace},
    (∀ t ∈ ts, P.readableRec t = true ∧ t < P.types.size) → DataW.TrodAll enc P W 0 (fun _ => true) true ts vs ds ps → (∀ p ∈ ps, W.sameAt W' p) → (∀ p ∈ ps, sp p.block = true) →
    DataW.TrodAll enc P W' 0 sp true ts vs ds ps
  | [], [], [], _, _, h, _, _ => h
  | t :: ts, v :: vs, d :: ds, ps, ht, h, hs, hsp => by
    obtain ⟨p, q, h1, h2, rfl⟩ := h
    obtain ⟨hr, hrow⟩ := ht t (List.mem_cons_self ..)
    exact ⟨p, q, WideElems.Trod_stays hl hr hrow h1 (fun x hx => hs x (List.mem_append_left _ hx)) (fun x hx => hsp x (List.mem_append_left _ hx)),
      trodAll_stays hl (fun t ht' => ht t (List.mem_cons_of_mem _ ht')) h2 (fun x hx => hs x (List.mem_append_right _ hx)) (fun x hx => hsp x (List.mem_append_right _ hx)), rfl⟩
  | [], _ :: _, _, _, _, h, _, _ => h.elim
  | [], [], _ :: _, _, _, h, _, _ => h.elim
  | _ :: _, [], _, _, _, h, _, _ => h.elim
  | _ :: _, _ :: _, [], _, _, h, _, _ => h.elim

/-- a law without package variables: true, and nothing that was there has turned -/
theorem law_post {f : Func} {s : ChangeSpec} {W W' : World} {args : Array Value} {ds gs : List (DataW H)} {before : List MemPlace} {bt : TypeId}
    (hl : laidOutB P = true) (ht : f.params.toList.all (fun t => P.readableRec t && decide (t < P.types.size)) = true)
    (hW : DataW.Whole enc P f.params.toList s.vars false W args.toList ds gs before) (hvars : s.vars = [])
    (hfn : s.fn H (ds ++ gs) = { results := [.lit (.bool true)], args := ds }) (hres : f.resultTypes = #[bt]) (hbt : P.underlying bt = some .bool)
    (hb : Below W.heap.size W W') : s.post enc P f false true false false W args (.bool true) W' := by
  have hW' := hW
  obtain ⟨p, q, hA, hV, rfl, hfz, hnd⟩ := hW
  rw [hvars] at hV
  have hlt : ∀ x ∈ p ++ q, x.block < W.heap.size := fun x hx => by simpa using hW'.lt x hx
  obtain ⟨rfl, rfl⟩ : gs = [] ∧ q = [] := by
    cases gs with
    | nil => exact ⟨rfl, hV⟩
    | cons => exact hV.elim
  have hall : ∀ sp : Nat → Bool, (∀ x ∈ p ++ [], sp x.block = true) → DataW.TrodAll enc P W' 0 sp true f.params.toList args.toList ds p := fun sp hsp =>
    trodAll_stays hl (fun t htt => by
      have := List.all_eq_true.1 ht t htt
      simpa using this) hA (fun x hx => hb.same (hlt x (List.mem_append_left _ hx))) (fun x hx => hsp x (List.mem_append_left _ hx))
  have hold : ∀ x ∈ p ++ [], (fun b => decide (b < W.heap.size)) x.block = true := fun x hx => by simpa using hlt x hx
  have hT : ∀ (b : Nat) (sp : Nat → Bool) (hd : Bool), DataW.TrodAll enc P W' b sp hd f.resultTypes.toList ((Value.bool true).resultList f.resultTypes.size) [.lit (.bool true)] [] := fun b sp hd => by
    rw [hres]
    exact trodAll_cons_mk (shut_bool hbt _) trodAll_mk0
  refine ⟨ds, [], p ++ [], [], p, [], hW', ?_, ?_, ?_, World.keptBut_mono (fun x hx => ⟨hx, ?_⟩) (hb.frame (· ∈ p ++ [])), fun h => by cases h⟩
  · rw [hfn]; exact hT _ _ _
  · rw [hfn]; exact hall _ hold
  · rw [hfn, hvars]; rfl
  · exact Or.inr (Or.inl (by simpa using hx))
/-- what is reached through one argument weighs no more than the form lets -/
theorem weights_get {q : Nat → Bool} : ∀ (ts : List TypeId) (ds : List (DataW H)) (i : Nat) (t : TypeId) (d : DataW H), (DataW.weightsEach P ts ds).all q = true → ts[i]? = some t → ds[i]? = some d → (d.weights P t).all q = true
  | [], _, _, _, _, _, h, _ => by simp at h
  | _ :: _, [], _, _, _, _, _, h => by simp at h
  | t' :: ts, d' :: ds, 0, t, d, hq, ht, hd => by
    simp only [List.getElem?_cons_zero, Option.some.injEq] at ht hd
    subst ht; subst hd
    simp only [DataW.weightsEach, List.all_append, Bool.and_eq_true] at hq
    exact hq.1
  | t' :: ts, d' :: ds, i + 1, t, d, hq, ht, hd => by
    simp only [List.getElem?_cons_succ] at ht hd
    simp only [DataW.weightsEach, List.all_append, Bool.and_eq_true] at hq
    exact weights_get ts ds i t d hq.2 ht hd
theorem weight_string {t : TypeId} {s : ByteArray} (h : ((DataW.lit (H := H) (.string s.data.toList)).weights P t).all (fun x => decide (x ≤ reachBytes)) = true) : s.size ≤ 140737488351232 := by
  simp only [DataW.weights, List.all_cons, List.all_nil, Bool.and_true, reachBytes] at h
  have := of_decide_eq_true h
  simpa using this
end Go.Proofs.YtmlpdhmafmdkcaaGreatDoor.LawKit

/- Two closed facts on the loaded program, laid once for all laws of the seat. -/
namespace Go.Proofs.YtmlpdhmafmdkcaaGreatDoor.LawBase
theorem own : ownKnob Tryz.prog.godebug = none := by kernel_rfl
theorem laidOut : laidOutB Tryz.prog = true := by kernel_rfl
end Go.Proofs.YtmlpdhmafmdkcaaGreatDoor.LawBase

/-
  DERIVED: THE SHELF's CONTRACTS AT THIS DUMP, IN PLAIN WORDS (tools/lay-plain.mjs out of 'YtmlpdhmafmdkcaaGreatDoorBuildLaysT.lean', which tools/lay-shelf.mjs wrote): THE SAME DECLARATIONS UNDER THE SAME NAMES: 'import', 'namespace', 'open', 'def', 'theorem' AND NOTHING ELSE: no command of the shelf's: FOR A HAND-IN. Each laying: the table of numbers ('.._ren') and one theorem, a field a fact of the dump's own or the kernel's comparison; each contract: ONE APPLICATION.
-/
namespace Go.Proofs
open Go.Shelf
def Tryz.lays166_ren : Go.Shelf.Ren := ⟨fun | 166 => 16 | 240 => 22 | 276 => 31 | n => n, fun | 70 => 49 | 9 => 9 | 3 => 3 | 75 => 56 | 0 => 0 | 72 => 51 | 37 => 46 | 4 => 4 | 164 => 75 | 80 => 62 | 5 => 5 | n => n, fun | n => n⟩
theorem Tryz.lays166 : Go.Proofs.Lays.n166 Tryz.prog Tryz.lays166_ren := {
  mixed := by kernel_rfl
  f166 := Tryz.func16.trans (congrArg some (by kernel_rfl))
  f240 := Tryz.func22.trans (congrArg some (by kernel_rfl))
  f276 := Tryz.func31.trans (congrArg some (by kernel_rfl))
  t0 := Tryz.underlying0
  a0 := Tryz.isAgg0
  z0 := Tryz.sizeOf0
  v0 := Tryz.zeroValue0
  t3 := Tryz.underlying3
  a3 := Tryz.isAgg3
  z3 := Tryz.sizeOf3
  v3 := Tryz.zeroValue3
  t4 := Tryz.underlying4
  a4 := Tryz.isAgg4
  z4 := Tryz.sizeOf4
  v4 := Tryz.zeroValue4
  t9 := Tryz.underlying9
  a9 := Tryz.isAgg9
  z9 := Tryz.sizeOf9
  v9 := Tryz.zeroValue9
  t20 := Tryz.underlying20
  a20 := Tryz.isAgg20
  z20 := Tryz.sizeOf20
  v20 := Tryz.zeroValue20
  t37 := Tryz.underlying46
  a37 := Tryz.isAgg46
  z37 := Tryz.sizeOf46
  v37 := Tryz.zeroValue46
  t70 := Tryz.underlying49
  a70 := Tryz.isAgg49
  z70 := Tryz.sizeOf49
  v70 := Tryz.zeroValue49
  t72 := Tryz.underlying51
  a72 := Tryz.isAgg51
  z72 := Tryz.sizeOf51
  v72 := Tryz.zeroValue51
  t75 := Tryz.underlying56
  a75 := Tryz.isAgg56
  z75 := Tryz.sizeOf56
  v75 := Tryz.zeroValue56
  t164 := Tryz.underlying75
  a164 := Tryz.isAgg75
  z164 := Tryz.sizeOf75
  v164 := Tryz.zeroValue75 }
def Tryz.lays167_ren : Go.Shelf.Ren := ⟨fun | 167 => 113 | 240 => 22 | 276 => 31 | n => n, fun | 70 => 49 | 5 => 5 | 75 => 56 | 0 => 0 | 72 => 51 | 37 => 46 | 4 => 4 | 164 => 75 | 80 => 62 | 9 => 9 | n => n, fun | n => n⟩
theorem Tryz.lays167 : Go.Proofs.Lays.n167 Tryz.prog Tryz.lays167_ren := {
  mixed := by kernel_rfl
  f167 := Tryz.func113.trans (congrArg some (by kernel_rfl))
  f240 := Tryz.func22.trans (congrArg some (by kernel_rfl))
  f276 := Tryz.func31.trans (congrArg some (by kernel_rfl))
  t0 := Tryz.underlying0
  a0 := Tryz.isAgg0
  z0 := Tryz.sizeOf0
  v0 := Tryz.zeroValue0
  t4 := Tryz.underlying4
  a4 := Tryz.isAgg4
  z4 := Tryz.sizeOf4
  v4 := Tryz.zeroValue4
  t5 := Tryz.underlying5
  a5 := Tryz.isAgg5
  z5 := Tryz.sizeOf5
  v5 := Tryz.zeroValue5
  t9 := Tryz.underlying9
  a9 := Tryz.isAgg9
  z9 := Tryz.sizeOf9
  v9 := Tryz.zeroValue9
  t20 := Tryz.underlying20
  a20 := Tryz.isAgg20
  z20 := Tryz.sizeOf20
  v20 := Tryz.zeroValue20
  t37 := Tryz.underlying46
  a37 := Tryz.isAgg46
  z37 := Tryz.sizeOf46
  v37 := Tryz.zeroValue46
  t70 := Tryz.underlying49
  a70 := Tryz.isAgg49
  z70 := Tryz.sizeOf49
  v70 := Tryz.zeroValue49
  t72 := Tryz.underlying51
  a72 := Tryz.isAgg51
  z72 := Tryz.sizeOf51
  v72 := Tryz.zeroValue51
  t75 := Tryz.underlying56
  a75 := Tryz.isAgg56
  z75 := Tryz.sizeOf56
  v75 := Tryz.zeroValue56
  t164 := Tryz.underlying75
  a164 := Tryz.isAgg75
  z164 := Tryz.sizeOf75
  v164 := Tryz.zeroValue75 }
def Tryz.lays169_ren : Go.Shelf.Ren := ⟨fun | 169 => 29 | n => n, fun | 70 => 49 | 9 => 9 | 0 => 0 | 72 => 51 | 37 => 46 | 127 => 93 | 3 => 3 | 5 => 5 | n => n, fun | n => n⟩
theorem Tryz.lays169 : Go.Proofs.Lays.n169 Tryz.prog Tryz.lays169_ren := {
  mixed := by kernel_rfl
  f169 := Tryz.func29.trans (congrArg some (by kernel_rfl))
  t0 := Tryz.underlying0
  a0 := Tryz.isAgg0
  z0 := Tryz.sizeOf0
  v0 := Tryz.zeroValue0
  t3 := Tryz.underlying3
  a3 := Tryz.isAgg3
  z3 := Tryz.sizeOf3
  v3 := Tryz.zeroValue3
  t9 := Tryz.underlying9
  a9 := Tryz.isAgg9
  z9 := Tryz.sizeOf9
  v9 := Tryz.zeroValue9
  t37 := Tryz.underlying46
  a37 := Tryz.isAgg46
  z37 := Tryz.sizeOf46
  v37 := Tryz.zeroValue46
  t70 := Tryz.underlying49
  a70 := Tryz.isAgg49
  z70 := Tryz.sizeOf49
  v70 := Tryz.zeroValue49
  t72 := Tryz.underlying51
  a72 := Tryz.isAgg51
  z72 := Tryz.sizeOf51
  v72 := Tryz.zeroValue51
  t127 := Tryz.underlying93
  a127 := Tryz.isAgg93
  z127 := Tryz.sizeOf93
  v127 := Tryz.zeroValue93 }
end Go.Proofs

/- Words for memory, of my own: a block that holds just these cells; a world in which only one block, and what is new, has turned. No program is named. -/
namespace Go.Proofs.YtmlpdhmafmdkcaaGreatDoor.Mem
open Go.RowKit

/-- block g holds just the cells cs, of element type t; none of them is frozen -/
structure Has (w : World) (g : Nat) (t : TypeId) (cs : Array Value) : Prop where
  at_ : w.heap[g]? = some (.cells cs t (0, 0))

section
variable {w w' : World} {g : Nat} {t : TypeId} {cs : Array Value}
theorem Has.lt (h : Has w g t cs) : g < w.heap.size := by
  have := h.at_
  rcases Nat.lt_or_ge g w.heap.size with hl | hl
  · exact hl
  · rw [Array.getElem?_eq_none hl] at this; cases this
theorem Has.cell (h : Has w g t cs) (i : Nat) : w.cell? ⟨g, i, none⟩ = cs[i]? := cell_of_row w g i cs t (0, 0) h.at_
theorem Has.free (h : Has w g t cs) (i : Nat) : w.frozen? ⟨g, i, none⟩ = false := by
  have := h.at_
  simp [World.frozen?, this]
theorem Has.new (w : World) (t : TypeId) (cs : Array Value) : Has (w.alloc (.cells cs t)) w.heap.size t cs := ⟨heap_alloc_new w _⟩
theorem Has.alloc (h : Has w g t cs) (o : Obj) : Has (w.alloc o) g t cs := ⟨(Below.heap_alloc w o g h.lt).trans h.at_⟩
theorem Has.drew (h : Has w g t cs) : Has w.drew g t cs := ⟨h.at_⟩
theorem Has.drewN (h : Has w g t cs) (n : Nat) : Has (w.drewN n) g t cs := ⟨h.at_⟩
theorem Has.set_ (h : Has w g t cs) (i : Nat) (u : Value) : Has (w.setCell ⟨g, i, none⟩ u) g t (cs.setIfInBounds i u) := by
  have := h.at_
  exact ⟨by simp [World.setCell, Array.getElem?_modify, this]⟩
theorem Has.far (h : Has w g t cs) {p : Addr} (hp : g ≠ p.block) (u : Value) : Has (w.setCell p u) g t cs := ⟨(Below.heap_setCell w p u g hp).trans h.at_⟩
theorem Has.below {B : Nat} (h : Has w g t cs) (hb : Below B w w') (hg : g < B) : Has w' g t cs := ⟨(hb.block g hg).trans h.at_⟩
theorem Has.grown {row : Option Nat} (h : Has w g t cs) (hb : w.grownBy w' row) (hg : some g ≠ row) : Has w' g t cs := ⟨(hb.block g h.lt hg).trans h.at_⟩
theorem Has.ne_ {g' : Nat} {t' : TypeId} {cs' : Array Value} (h : Has w g t cs) (h' : Has w g' t' cs') (hne : t ≠ t') : g ≠ g' := by
  rintro rfl
  have h1 := h.at_
  rw [h'.at_] at h1
  injection h1 with h1
  injection h1 with _ h2
  exact hne h2.symm
end

/-! ### only block g, and what is new -/
section
variable {a w w' : World} {g : Nat} {row : Option Nat}
theorem own_drew (h : a.grownBy w row) : a.grownBy w.drew row := ⟨h.os, h.tape, h.output, h.size, h.block⟩
theorem own_drewN (h : a.grownBy w row) (n : Nat) : a.grownBy (w.drewN n) row := ⟨h.os, h.tape, h.output, h.size, h.block⟩
theorem own_alloc (h : a.grownBy w row) (o : Obj) : a.grownBy (w.alloc o) row :=
  ⟨h.os, h.tape, h.output, Nat.le_trans h.size (by simp), fun i hi hne => (Below.heap_alloc w o i (Nat.lt_of_lt_of_le hi h.size)).trans (h.block i hi hne)⟩
theorem own_set (h : a.grownBy w (some g)) (i : Nat) (u : Value) : a.grownBy (w.setCell ⟨g, i, none⟩ u) (some g) :=
  ⟨h.os, h.tape, h.output, by simpa [World.setCell] using h.size, fun j hj hne => (Below.heap_setCell w _ u j (fun e => hne (by rw [e]))).trans (h.block j hj hne)⟩
theorem own_set_new (h : a.grownBy w row) {p : Addr} (hp : a.heap.size ≤ p.block) (u : Value) : a.grownBy (w.setCell p u) row :=
  ⟨h.os, h.tape, h.output, by simpa [World.setCell] using h.size, fun j hj hne => (Below.heap_setCell w _ u j (fun e => by omega)).trans (h.block j hj hne)⟩
theorem own_of_below (h : Below a.heap.size a w) (row : Option Nat) : a.grownBy w row := ⟨h.os, h.tape, h.output, h.size, fun i hi _ => h.block i hi⟩
theorem own_trans (h : a.grownBy w row) (k : w.grownBy w' row) : a.grownBy w' row :=
  ⟨k.os.trans h.os, k.tape.trans h.tape, k.output.trans h.output, Nat.le_trans h.size k.size, fun i hi hne => (k.block i (Nat.lt_of_lt_of_le hi h.size) hne).trans (h.block i hi hne)⟩
/-- a cell of another block reads as it did -/
theorem own_cell {b i : Nat} (h : a.grownBy w (some g)) (hb : b < a.heap.size) (hne : b ≠ g) : w.cell? ⟨b, i, none⟩ = a.cell? ⟨b, i, none⟩ :=
  World.cell?_of_block (w := a) (h.block b hb (fun e => hne (Option.some.inj e)))
/-- what lies from B on may turn -/
theorem below_own {B : Nat} (h : Below B a w) (k : w.grownBy w' (some g)) (hB : B ≤ w.heap.size) (hg : B ≤ g) : Below B a w' :=
  h.grown k hB (fun j hj => by injection hj with hj; omega)
/-- one call behind another -/
theorem below_chain {a b c : World} (h : Below a.heap.size a b) (k : Below b.heap.size b c) : Below a.heap.size a c :=
  ⟨k.os.trans h.os, k.tape.trans h.tape, k.output.trans h.output, Nat.le_trans h.size k.size, fun i hi => (k.block i (Nat.lt_of_lt_of_le hi h.size)).trans (h.block i hi)⟩
end
end Go.Proofs.YtmlpdhmafmdkcaaGreatDoor.Mem

/- Words for memory, of my own: an object that holds several blocks (F: which), and a world in which only these, and what is new, have turned. No program is named. -/
namespace Go.Proofs.YtmlpdhmafmdkcaaGreatDoor.Step
open Go.RowKit Mem

/-- w' is w but for the blocks of F and new ones; F' is F and perhaps some of the new ones -/
structure Step (w w' : World) (F F' : Nat → Prop) : Prop where
  os : w'.os = w.os
  tape : w'.tape = w.tape
  output : w'.output = w.output
  size : w.heap.size ≤ w'.heap.size
  block : ∀ k, k < w.heap.size → ¬ F k → w'.heap[k]? = w.heap[k]?
  grow : ∀ k, F' k → F k ∨ (w.heap.size ≤ k ∧ k < w'.heap.size)

section
variable {w w1 w2 w' : World} {F F1 F2 F' : Nat → Prop}
theorem Step.refl (w : World) (F : Nat → Prop) : Step w w F F := ⟨rfl, rfl, rfl, Nat.le_refl _, fun _ _ _ => rfl, fun _ h => .inl h⟩
theorem Step.trans (h : Step w w1 F F1) (k : Step w1 w2 F1 F2) : Step w w2 F F2 :=
  ⟨k.os.trans h.os, k.tape.trans h.tape, k.output.trans h.output, Nat.le_trans h.size k.size,
    fun i hi hn => (k.block i (Nat.lt_of_lt_of_le hi h.size) (fun hf => (h.grow i hf).elim hn (fun ⟨a, _⟩ => by omega))).trans (h.block i hi hn),
    fun i hi => (k.grow i hi).elim (fun hf => (h.grow i hf).elim .inl (fun ⟨a, b⟩ => .inr ⟨a, Nat.lt_of_lt_of_le b k.size⟩)) (fun ⟨a, b⟩ => .inr ⟨Nat.le_trans h.size a, b⟩)⟩
/-- a wider F -/
theorem Step.widen (h : Step w w' F F') {G : Nat → Prop} (hG : ∀ k, F k → G k) : Step w w' G (fun k => F' k ∨ G k) :=
  ⟨h.os, h.tape, h.output, h.size, fun k hk hn => h.block k hk (fun hf => hn (hG k hf)), fun k hk => hk.elim (fun hf => (h.grow k hf).imp (hG k) id) .inl⟩
theorem Step.less (h : Step w w' F F') {G : Nat → Prop} (hG : ∀ k, G k → F' k) : Step w w' F G := { h with grow := fun k hk => h.grow k (hG k hk) }
theorem Step.regrow (h : Step w w' F F') {G : Nat → Prop} (hG : ∀ k, G k → F k ∨ (w.heap.size ≤ k ∧ k < w'.heap.size)) : Step w w' F G := { h with grow := hG }
theorem Step.more (h : Step w w' F F') {G : Nat → Prop} (hG : ∀ k, F k → G k) (hG' : ∀ k, F' k → G k ∨ (w.heap.size ≤ k ∧ k < w'.heap.size)) : Step w w' G F' :=
  ⟨h.os, h.tape, h.output, h.size, fun k hk hn => h.block k hk (fun hf => hn (hG k hf)), hG'⟩
theorem Step.up (h : Step w w' F F') {G : Nat → Prop} (hG : ∀ k, F k → G k) : Step w w' G G :=
  ⟨h.os, h.tape, h.output, h.size, fun k hk hn => h.block k hk (fun hf => hn (hG k hf)), fun _ hk => .inl hk⟩
theorem Step.up2 (h : Step w w' F F') {G : Nat → Prop} (hG : ∀ k, F k → G k) : Step w w' G F' :=
  ⟨h.os, h.tape, h.output, h.size, fun k hk hn => h.block k hk (fun hf => hn (hG k hf)), fun k hk => (h.grow k hk).imp (hG k) id⟩
theorem Step.beyond (h : Step w w1 F F') {G G' : Nat → Prop} (k : Step w1 w2 G G') (hG : ∀ j, G j → w.heap.size ≤ j) : Step w w2 F F' :=
  ⟨k.os.trans h.os, k.tape.trans h.tape, k.output.trans h.output, Nat.le_trans h.size k.size,
    fun i hi hn => (k.block i (Nat.lt_of_lt_of_le hi h.size) (fun hg => by have := hG i hg; omega)).trans (h.block i hi hn),
    fun i hi => (h.grow i hi).imp id (fun ⟨a, b⟩ => ⟨a, Nat.lt_of_lt_of_le b k.size⟩)⟩
theorem Step.of_grown {row : Option Nat} (h : w.grownBy w' row) (hF : ∀ k, row = some k → F k) : Step w w' F F :=
  ⟨h.os, h.tape, h.output, h.size, fun k hk hn => h.block k hk (fun e => hn (hF k e.symm)), fun _ h => .inl h⟩
theorem Step.alloc (w : World) (o : Obj) (F : Nat → Prop) : Step w (w.alloc o) F F := Step.of_grown (World.grownBy_alloc w o none) (fun _ e => by cases e)
theorem Step.drew (w : World) (F : Nat → Prop) : Step w w.drew F F := ⟨rfl, rfl, rfl, Nat.le_refl _, fun _ _ _ => rfl, fun _ h => .inl h⟩
theorem Step.drewN (w : World) (n : Nat) (F : Nat → Prop) : Step w (w.drewN n) F F := ⟨rfl, rfl, rfl, Nat.le_refl _, fun _ _ _ => rfl, fun _ h => .inl h⟩
theorem Step.set_ (w : World) {g : Nat} (hg : F g) (i : Nat) (u : Value) : Step w (w.setCell ⟨g, i, none⟩ u) F F :=
  ⟨rfl, rfl, rfl, by simp [World.setCell], fun k _ hn => Below.heap_setCell w _ u k (fun e => hn (by rw [e]; exact hg)), fun _ h => .inl h⟩
theorem Step.of_below (h : Below w.heap.size w w') (F : Nat → Prop) : Step w w' F F := ⟨h.os, h.tape, h.output, h.size, fun k hk _ => h.block k hk, fun _ h => .inl h⟩
theorem Step.cell (h : Step w w' F F') {b i : Nat} (hb : b < w.heap.size) (hn : ¬ F b) : w'.cell? ⟨b, i, none⟩ = w.cell? ⟨b, i, none⟩ :=
  World.cell?_of_block (w := w) (h.block b hb hn)
theorem Step.has {g : Nat} {t : TypeId} {cs : Array Value} (h : Step w w' F F') (hh : Has w g t cs) (hn : ¬ F g) : Has w' g t cs := ⟨(h.block g hh.lt hn).trans hh.at_⟩
theorem Step.row {base n size : Nat} {e : TypeId} {v : Value} {xs : List Value} (h : Step w w' F F') (hr : w.ownsRow base e size v n xs) (hn : ∀ b, v.ownBlock = some b → ¬ F b) : w'.ownsRow base e size v n xs := by
  refine ⟨hr.1, ?_⟩
  rcases hr.2 with hx | ⟨g, cap, cur, rfl, hb, hgg, rest⟩
  · exact .inl hx
  · refine .inr ⟨g, cap, cur, rfl, hb, ?_, rest⟩
    rw [h.block g (Array.getElem?_eq_some_iff.1 hgg).1 (hn g rfl)]
    exact hgg
theorem Step.map {H : Type} {P : Program} {k : TypeId} {R : Value → Option (DataW H × List MemPlace)} {b n : Nat} {D : DataW H} (h : Step w w' F F') (hm : w.ownsMap P k R b n D) (hn : ¬ F b) : w'.ownsMap P k R b n D := by
  have hlt := hm.lt
  obtain ⟨es, clock, hb, rest⟩ := hm
  exact ⟨es, clock, (h.block b hlt hn).trans hb, rest⟩
theorem Step.below (h : Step w w' F F') {B : Nat} (hB : B ≤ w.heap.size) (hF : ∀ k, F k → B ≤ k) : Below B w w' :=
  ⟨h.os, h.tape, h.output, Nat.le_trans hB h.size |> fun _ => h.size, fun k hk => h.block k (by omega) (fun hf => by have := hF k hf; omega)⟩
end

/-- F, and one block more -/
def plus (F : Nat → Prop) (m : Nat) : Nat → Prop := fun k => F k ∨ k = m
theorem Step.with_ {w w' : World} {F F' : Nat → Prop} (h : Step w w' F F') (m : Nat) : Step w w' (plus F m) (plus F' m) :=
  ⟨h.os, h.tape, h.output, h.size, fun k hk hn => h.block k hk (fun hf => hn (.inl hf)), fun k hk => hk.elim (fun hf => (h.grow k hf).imp .inl id) (fun e => .inl (.inr e))⟩
theorem Step.with2 {w w' : World} {F F' : Nat → Prop} {m : Nat} (h : Step w w' (plus F m) F') : Step w w' (plus F m) (plus F' m) :=
  h.regrow (fun k hk => hk.elim (h.grow k) (fun e => .inl (.inr e)))
theorem Step.only {w w' : World} {G : Nat → Prop} (h : Step w w' G G) (F : Nat → Prop) {m : Nat} (hG : ∀ k, G k → k = m) : Step w w' (plus F m) (plus F m) := h.up (fun k hk => .inr (hG k hk))
theorem Step.none {w w' : World} {G : Nat → Prop} (h : Step w w' G G) (F : Nat → Prop) (hG : ∀ k, ¬ G k) : Step w w' F F := h.up (fun k hk => (hG k hk).elim)
theorem new_cell {W : World} {cs : Array Value} {t : TypeId} {n : Nat} (h : W.heap.size = n) (i : Nat) : (W.alloc (.cells cs t)).cell? ⟨n, i, none⟩ = cs[i]? := by
  subst h
  exact (Has.new W t cs).cell i
theorem row_lt {w : World} {base n size : Nat} {e : TypeId} {v : Value} {xs : List Value} (hr : w.ownsRow base e size v n xs) {b : Nat} (h : v.ownBlock = some b) : b < w.heap.size := (hr.lt b h).2
end Go.Proofs.YtmlpdhmafmdkcaaGreatDoor.Step

/- The grammar's small pieces over bytes: what each call of layer 4 answers. No program is named. -/
namespace Go.Proofs.YtmlpdhmafmdkcaaGreatDoor.LexPure
open Bytes

/-- a byte of a token -/
def MarkP (c : Int) : Prop := (48 ≤ c ∧ c ≤ 57) ∨ (65 ≤ c ∧ c ≤ 90) ∨ (97 ≤ c ∧ c ≤ 122) ∨ c = 33 ∨ c = 35 ∨ c = 36 ∨ c = 37 ∨ c = 38 ∨ c = 39 ∨ c = 42 ∨ c = 43 ∨ c = 45 ∨ c = 46 ∨ c = 94 ∨ c = 95 ∨ c = 96 ∨ c = 124 ∨ c = 126
instance (c : Int) : Decidable (MarkP c) := by unfold MarkP; infer_instance
def markB (c : UInt8) : Bool := decide (MarkP (c.toNat : Int))
def blankB (c : UInt8) : Bool := c == 32 || c == 9
def plainB (c : UInt8) : Bool := decide (32 ≤ c.toNat) && c != 127 || c == 9
def small (c : UInt8) : UInt8 := if decide (65 ≤ c.toNat) && decide (c.toNat ≤ 90) then c + 32 else c
def token (s : List UInt8) : Bool := s.all markB && !s.isEmpty
def trim (s : List UInt8) : List UInt8 := ((s.dropWhile blankB).reverse.dropWhile blankB).reverse
def value (s : List UInt8) : Bool := s.all plainB && (s.isEmpty || (!blankB (s.headD 0) && !blankB (s.getLastD 0)))
def lower (s : List UInt8) : List UInt8 := s.map small
def alike (s t : List UInt8) : Bool := lower s == lower t
/-- the pieces between commas -/
def pieces : List UInt8 → List (List UInt8)
  | [] => [[]]
  | c :: s => if c == 44 then [] :: pieces s else match pieces s with
    | [] => [[c]]
    | p :: ps => (c :: p) :: ps
def elements (s : List UInt8) : List (List UInt8) := ((pieces s).map trim).filter (fun e => !e.isEmpty)
/-- a digit's worth (99: none) -/
def dig (c : UInt8) : Nat := if 48 ≤ c.toNat ∧ c.toNat ≤ 57 then c.toNat - 48 else if 65 ≤ c.toNat ∧ c.toNat ≤ 70 then c.toNat - 55 else if 97 ≤ c.toNat ∧ c.toNat ≤ 102 then c.toNat - 87 else 99
def numV (base : Nat) (s : List UInt8) : Nat := s.foldl (fun n c => base * n + dig c) 0
def numOk (base : Nat) (digits : Int) (s : List UInt8) : Bool := !s.isEmpty && decide ((s.length : Int) ≤ digits) && s.all (fun c => decide (dig c < base))
def numR (base : Nat) (digits : Int) (s : List UInt8) : Int := if numOk base digits s then (numV base s : Int) else 0

/-! ### bytes -/
theorem blank_eq (b : UInt8) : decide ((b.toNat : Int) = 32 ∨ (b.toNat : Int) = 9) = blankB b := by
  have := all_bytes (p := fun b => decide ((b.toNat : Int) = 32 ∨ (b.toNat : Int) = 9) == blankB b) (by decide +kernel) b
  simpa using this
theorem small_small (b : UInt8) : small (small b) = small b := by
  have := all_bytes (p := fun b => small (small b) == small b) (by decide +kernel) b
  simpa using this
theorem small_mark (b : UInt8) : markB (small b) = markB b := by
  have := all_bytes (p := fun b => markB (small b) == markB b) (by decide +kernel) b
  simpa using this
theorem small_plain (b : UInt8) : plainB (small b) = plainB b := by
  have := all_bytes (p := fun b => plainB (small b) == plainB b) (by decide +kernel) b
  simpa using this
theorem small_blank (b : UInt8) : blankB (small b) = blankB b := by
  have := all_bytes (p := fun b => blankB (small b) == blankB b) (by decide +kernel) b
  simpa using this
theorem small_comma (b : UInt8) : (small b == 44) = (b == 44) := by
  have := all_bytes (p := fun b => (small b == 44) == (b == 44)) (by decide +kernel) b
  simpa using this

/-! ### small letters -/
theorem lower_lower (s : List UInt8) : lower (lower s) = lower s := by
  simp [lower, Function.comp_def, small_small]
theorem lower_length (s : List UInt8) : (lower s).length = s.length := by simp [lower]
theorem alike_self (s : List UInt8) : alike s s = true := by simp [alike]
theorem alike_lower (s : List UInt8) : alike s (lower s) = true := by simp [alike, lower_lower]
theorem alike_lower' (s : List UInt8) : alike (lower s) s = true := by simp [alike, lower_lower]
theorem alike_comm (s t : List UInt8) : alike s t = alike t s := by
  unfold alike
  rw [Bool.eq_iff_iff, beq_iff_eq, beq_iff_eq]
  exact eq_comm
theorem alike_lower_left (s t : List UInt8) : alike (lower s) t = alike s t := by simp [alike, lower_lower]
theorem token_lower (s : List UInt8) : token (lower s) = token s := by
  unfold token lower
  simp [List.all_map, Function.comp_def, small_mark]
theorem headD_map (s : List UInt8) : blankB ((s.map small).headD 0) = blankB (s.headD 0) := by
  cases s with
  | nil => rfl
  | cons c s => exact small_blank c
theorem getLastD_map (s : List UInt8) : blankB ((s.map small).getLastD 0) = blankB (s.getLastD 0) := by
  rw [List.getLastD_eq_getLast?, List.getLastD_eq_getLast?, List.getLast?_map]
  cases s.getLast? with
  | none => rfl
  | some c => exact small_blank c
theorem value_lower (s : List UInt8) : value (lower s) = value s := by
  unfold value lower
  rw [headD_map, getLastD_map]
  simp [List.all_map, Function.comp_def, small_plain]

/-! ### blanks at both ends -/
theorem dropWhile_idem (s : List UInt8) : (s.dropWhile blankB).dropWhile blankB = s.dropWhile blankB := by
  induction s with
  | nil => rfl
  | cons c s ih =>
    by_cases h : blankB c = true
    · simp [h, ih]
    · simp [h]
/-- what stays has no blank at its beginning -/
theorem dropWhile_head {s : List UInt8} {c : UInt8} {r : List UInt8} (h : s.dropWhile blankB = c :: r) : blankB c = false := by
  induction s with
  | nil => cases h
  | cons d s ih =>
    by_cases hd : blankB d = true
    · rw [List.dropWhile_cons, if_pos hd] at h
      exact ih h
    · rw [List.dropWhile_cons, if_neg hd] at h
      injection h with h1 h2
      subst h1
      simpa using hd
theorem dropWhile_id {s : List UInt8} (h : ∀ c r, s = c :: r → blankB c = false) : s.dropWhile blankB = s := by
  cases s with
  | nil => rfl
  | cons c r => rw [List.dropWhile_cons, if_neg (by rw [h c r rfl]; decide)]
/-- cutting at the end leaves the beginning -/
theorem rev_head {s : List UInt8} (h : ∀ c r, s = c :: r → blankB c = false) : ∀ c r, (s.reverse.dropWhile blankB).reverse = c :: r → blankB c = false := by
  intro c r he
  have hp : (s.reverse.dropWhile blankB).reverse <+: s := by
    have := List.dropWhile_suffix (l := s.reverse) blankB
    rw [← List.reverse_reverse s]
    exact List.reverse_prefix.2 (by simpa using this)
  rw [he] at hp
  obtain ⟨t, ht⟩ := hp
  exact h c (r ++ t) (by rw [← ht]; rfl)
theorem trim_head {s : List UInt8} : ∀ c r, trim s = c :: r → blankB c = false := rev_head (fun _ _ => dropWhile_head)
theorem trim_last {s : List UInt8} : ∀ c r, (trim s).reverse = c :: r → blankB c = false := by
  intro c r h
  unfold trim at h
  rw [List.reverse_reverse] at h
  exact dropWhile_head h
theorem trim_id {s : List UInt8} (h1 : ∀ c r, s = c :: r → blankB c = false) (h2 : ∀ c r, s.reverse = c :: r → blankB c = false) : trim s = s := by
  unfold trim
  rw [dropWhile_id h1, dropWhile_id h2, List.reverse_reverse]
theorem trim_trim (s : List UInt8) : trim (trim s) = trim s := trim_id trim_head trim_last
theorem trim_length (s : List UInt8) : (trim s).length ≤ s.length := by
  unfold trim
  rw [List.length_reverse]
  have h1 := (List.dropWhile_suffix (l := (s.dropWhile blankB).reverse) blankB).length_le
  have h2 := (List.dropWhile_suffix (l := s) blankB).length_le
  rw [List.length_reverse] at h1
  omega
end Go.Proofs.YtmlpdhmafmdkcaaGreatDoor.LexPure

/- Numbers read from digits. No program is named. -/
namespace Go.Proofs.YtmlpdhmafmdkcaaGreatDoor.LexNum
open LexPure Bytes
theorem numV_snoc (base : Nat) (l : List UInt8) (c : UInt8) : numV base (l ++ [c]) = base * numV base l + dig c := by
  simp [numV, List.foldl_append]
theorem numV_lt (base : Nat) (l : List UInt8) (h : l.all (fun c => decide (dig c < base)) = true) : numV base l < base ^ l.length := by
  have key : ∀ r : List UInt8, r.reverse.all (fun c => decide (dig c < base)) = true → numV base r.reverse < base ^ r.length := by
    intro r
    induction r with
    | nil => intro _; simp [numV]
    | cons c r ih =>
      intro h
      rw [List.reverse_cons, List.all_append, Bool.and_eq_true] at h
      have h1 := ih h.1
      have h2 : dig c < base := by simpa using h.2
      rw [List.reverse_cons, numV_snoc, List.length_cons, Nat.pow_succ]
      have h3 : base * (numV base r.reverse + 1) ≤ base * base ^ r.length := Nat.mul_le_mul_left _ h1
      rw [Nat.mul_add, Nat.mul_one, Nat.mul_comm base (base ^ r.length)] at h3
      omega
  have := key l.reverse (by rw [List.reverse_reverse]; exact h)
  rwa [List.reverse_reverse, List.length_reverse] at this
/-- the base and how many digits may be read in it -/
def Fit (base : Nat) (digits : Int) : Prop := (base = 10 ∧ digits ≤ 18) ∨ (base = 16 ∧ digits ≤ 15)
theorem Fit.bound {base : Nat} {digits : Int} (h : Fit base digits) {l : List UInt8} (hl : (l.length : Int) < digits) (ha : l.all (fun c => decide (dig c < base)) = true) : base * numV base l ≤ 1152921504606846976 ∧ base ≤ 16 := by
  have hv := numV_lt base l ha
  rcases h with ⟨rfl, hd⟩ | ⟨rfl, hd⟩
  · have : 10 ^ l.length ≤ 10 ^ 17 := Nat.pow_le_pow_right (by decide) (by omega)
    omega
  · have : 16 ^ l.length ≤ 16 ^ 14 := Nat.pow_le_pow_right (by decide) (by omega)
    omega
/-- where a byte lies among the digits -/
theorem dig_at (b : UInt8) : ((b.toNat : Int) < 48 ∧ dig b = 99) ∨ (48 ≤ (b.toNat : Int) ∧ (b.toNat : Int) ≤ 57 ∧ (dig b : Int) = (b.toNat : Int) - 48) ∨ (57 < (b.toNat : Int) ∧ (b.toNat : Int) < 65 ∧ dig b = 99) ∨
    (65 ≤ (b.toNat : Int) ∧ (b.toNat : Int) ≤ 70 ∧ (dig b : Int) = (b.toNat : Int) - 55) ∨ (70 < (b.toNat : Int) ∧ (b.toNat : Int) < 97 ∧ dig b = 99) ∨ (97 ≤ (b.toNat : Int) ∧ (b.toNat : Int) ≤ 102 ∧ (dig b : Int) = (b.toNat : Int) - 87) ∨ (102 < (b.toNat : Int) ∧ dig b = 99) := by
  have := all_bytes (p := fun b => decide (((b.toNat : Int) < 48 ∧ dig b = 99) ∨ (48 ≤ (b.toNat : Int) ∧ (b.toNat : Int) ≤ 57 ∧ (dig b : Int) = (b.toNat : Int) - 48) ∨ (57 < (b.toNat : Int) ∧ (b.toNat : Int) < 65 ∧ dig b = 99) ∨
    (65 ≤ (b.toNat : Int) ∧ (b.toNat : Int) ≤ 70 ∧ (dig b : Int) = (b.toNat : Int) - 55) ∨ (70 < (b.toNat : Int) ∧ (b.toNat : Int) < 97 ∧ dig b = 99) ∨ (97 ≤ (b.toNat : Int) ∧ (b.toNat : Int) ≤ 102 ∧ (dig b : Int) = (b.toNat : Int) - 87) ∨ (102 < (b.toNat : Int) ∧ dig b = 99))) (by decide +kernel) b
  exact of_decide_eq_true this
theorem dig_le (b : UInt8) : dig b ≤ 99 := by
  have := dig_at b
  omega
end Go.Proofs.YtmlpdhmafmdkcaaGreatDoor.LexNum

/- Layer 7: fields, as lists of names and values. No program is named. -/
namespace Go.Proofs.YtmlpdhmafmdkcaaGreatDoor.FieldsPure
open LexPure Bytes
/-- a field: its name and its value -/
abbrev HField := List UInt8 × List UInt8
def hit (n : List UInt8) (f : HField) : Bool := alike f.1 n
/-- the value of the first field of a name, and how many there are -/
def getV (l : List HField) (n : List UInt8) : List UInt8 := ((l.find? (hit n)).map (·.2)).getD []
def getN (l : List HField) (n : List UInt8) : Nat := l.countP (hit n)
def elems (l : List HField) (n : List UInt8) : List (List UInt8) := (l.filter (hit n)).flatMap (fun f => elements f.2)
def hasE (l : List HField) (n e : List UInt8) : Bool := (elems l n).any (fun x => alike x e)
def remove (l : List HField) (n : List UInt8) : List HField := l.filter (fun f => !hit n f)
def setF (l : List HField) (n v : List UInt8) : List HField := remove l n ++ [(n, v)]
def right (f : HField) : Bool := token f.1 && value f.2 && decide (f.1.length + f.2.length ≤ 512)
def check (l : List HField) : Int := if l.all right then (if l.length ≤ 32 then 0 else 71) else 70
def CONNECTION : List UInt8 := [99, 111, 110, 110, 101, 99, 116, 105, 111, 110]
/-- the seven names -/
def fixed : List (List UInt8) := [CONNECTION, [107, 101, 101, 112, 45, 97, 108, 105, 118, 101], [112, 114, 111, 120, 121, 45, 99, 111, 110, 110, 101, 99, 116, 105, 111, 110], [116, 101], [116, 114, 97, 105, 108, 101, 114], [116, 114, 97, 110, 115, 102, 101, 114, 45, 101, 110, 99, 111, 100, 105, 110, 103], [117, 112, 103, 114, 97, 100, 101]]
def one (l : List HField) (n : List UInt8) : Bool := fixed.any (fun x => alike x n) || hasE l CONNECTION n
def strip (l : List HField) : List HField := l.filter (fun f => !one l f.1)

/-! ### alike -/
theorem alike_iff (s t : List UInt8) : alike s t = true ↔ lower s = lower t := by unfold alike; exact beq_iff_eq
theorem alike_congr {s t : List UInt8} (h : alike s t = true) (u : List UInt8) : alike u s = alike u t := by
  rw [alike_iff] at h
  unfold alike
  rw [h]
theorem hit_congr {n m : List UInt8} (h : alike n m = true) (f : HField) : hit n f = hit m f := alike_congr h f.1
theorem hit_other {n m : List UInt8} (h : alike n m = false) {f : HField} (hf : hit n f = true) : hit m f = false := by
  unfold hit at *
  cases hm : alike f.1 m with
  | false => rfl
  | true =>
    rw [alike_iff] at hf hm
    have : alike n m = true := by rw [alike_iff, ← hf, hm]
    rw [this] at h
    cases h

/-! ### Get behind Remove and Set -/
theorem get_remove (l : List HField) (n : List UInt8) : getN (remove l n) n = 0 := by
  unfold getN remove
  rw [List.countP_eq_zero]
  intro f hf
  have := (List.mem_filter.1 hf).2
  simpa using this
theorem getN_append (a b : List HField) (n : List UInt8) : getN (a ++ b) n = getN a n + getN b n := by
  unfold getN
  exact List.countP_append
theorem getV_none {l : List HField} {n : List UInt8} (h : getN l n = 0) : getV l n = [] ∧ l.find? (hit n) = none := by
  unfold getN at h
  rw [List.countP_eq_zero] at h
  have hf : l.find? (hit n) = none := by
    rw [List.find?_eq_none]
    exact h
  exact ⟨by unfold getV; rw [hf]; rfl, hf⟩
theorem getV_append (a b : List HField) (n : List UInt8) (h : getN a n = 0) : getV (a ++ b) n = getV b n := by
  have := (getV_none h).2
  unfold getV
  rw [List.find?_append, this]
  rfl
theorem get_set (l : List HField) (n v : List UInt8) : getN (setF l n v) n = 1 ∧ getV (setF l n v) n = v := by
  have h0 := get_remove l n
  have hh : hit n (n, v) = true := alike_self n
  unfold setF
  constructor
  · rw [getN_append, h0]
    unfold getN
    simp [hh]
  · rw [getV_append _ _ _ h0]
    unfold getV
    simp [hh]
theorem get_other_remove (l : List HField) (n m : List UInt8) (h : alike n m = false) : getN (remove l n) m = getN l m ∧ getV (remove l n) m = getV l m := by
  unfold getN getV remove
  induction l with
  | nil => exact ⟨rfl, rfl⟩
  | cons f l ih =>
    by_cases hf : hit n f = true
    · have hm := hit_other h hf
      rw [List.filter_cons_of_neg (by rw [hf]; decide), List.countP_cons_of_neg (by rw [hm]; decide), List.find?_cons_of_neg (by rw [hm]; decide)]
      exact ih
    · have hf' : hit n f = false := by simpa using hf
      rw [List.filter_cons_of_pos (by rw [hf']; decide)]
      cases hm : hit m f
      · rw [List.countP_cons_of_neg (by rw [hm]; decide), List.countP_cons_of_neg (by rw [hm]; decide), List.find?_cons_of_neg (by rw [hm]; decide), List.find?_cons_of_neg (by rw [hm]; decide)]
        exact ih
      · rw [List.countP_cons_of_pos hm, List.countP_cons_of_pos hm, List.find?_cons_of_pos hm, List.find?_cons_of_pos hm]
        exact ⟨by rw [ih.1], rfl⟩
theorem get_other_set (l : List HField) (n v m : List UInt8) (h : alike n m = false) : getN (setF l n v) m = getN l m ∧ getV (setF l n v) m = getV l m := by
  obtain ⟨h1, h2⟩ := get_other_remove l n m h
  have hh : hit m (n, v) = false := h
  have hz : getN [(n, v)] m = 0 := by unfold getN; simp [hh]
  unfold setF
  constructor
  · rw [getN_append, hz, h1]; rfl
  · rw [← h2]
    unfold getV
    rw [List.find?_append, (getV_none hz).2]
    simp

/-! ### Strip -/
theorem one_congr {n m : List UInt8} (h : alike n m = true) (l : List HField) : one l n = one l m := by
  unfold one hasE
  congr 1
  · congr 1; funext x; exact alike_congr h x
  · congr 1; funext x; exact alike_congr h x
theorem strip_none (l : List HField) (n : List UInt8) (h : one l n = true) : getN (strip l) n = 0 := by
  unfold getN strip
  rw [List.countP_eq_zero]
  intro f hf
  have h2 := (List.mem_filter.1 hf).2
  intro h3
  unfold hit at h3
  rw [one_congr h3 l, h] at h2
  cases h2
theorem one_fixed (l : List HField) {n : List UInt8} (h : n ∈ fixed) : one l n = true := by
  unfold one
  rw [Bool.or_eq_true]
  left
  rw [List.any_eq_true]
  exact ⟨n, h, alike_self n⟩
theorem elems_congr {n m : List UInt8} (h : alike n m = true) (l : List HField) : elems l n = elems l m := by
  unfold elems
  congr 1
  congr 1
  funext f
  exact hit_congr h f
theorem one_named (l : List HField) {n : List UInt8} (h : n ∈ elems l CONNECTION) : one l n = true := by
  unfold one hasE
  rw [Bool.or_eq_true]
  right
  rw [List.any_eq_true]
  exact ⟨n, h, alike_self n⟩
/-- behind Strip no Connection field is left, so nothing is named -/
theorem elems_strip (l : List HField) : elems (strip l) CONNECTION = [] := by
  have h := strip_none l CONNECTION (one_fixed l (by decide))
  unfold getN at h
  rw [List.countP_eq_zero] at h
  unfold elems
  have : (strip l).filter (hit CONNECTION) = [] := by
    rw [List.filter_eq_nil_iff]
    exact h
  rw [this]
  rfl
theorem one_strip (l : List HField) (n : List UInt8) : one (strip l) n = fixed.any (fun x => alike x n) := by
  unfold one hasE
  rw [elems_strip]
  simp
theorem strip_strip (l : List HField) : strip (strip l) = strip l := by
  have key : ∀ f ∈ strip l, (!one (strip l) f.1) = true := fun f hf => by
    have h2 := (List.mem_filter.1 hf).2
    rw [one_strip]
    unfold one at h2
    rw [Bool.not_eq_true', Bool.or_eq_false_iff] at h2
    rw [h2.1]
    rfl
  show (strip l).filter _ = strip l
  exact List.filter_eq_self.2 key
/-- the order stays: a list that is held against the longer one, from left to right, is met whole -/
theorem strip_sub (l : List HField) : (strip l).Sublist l := List.filter_sublist
theorem greedy_step {s l : List HField} {k i : Nat} {f : HField} (hi : l[i]? = some f) (h : (s.drop k).Sublist (l.drop i)) :
    (s[k]? = some f → (s.drop (k + 1)).Sublist (l.drop (i + 1))) ∧ (s[k]? ≠ some f → (s.drop k).Sublist (l.drop (i + 1))) := by
  obtain ⟨hl, he⟩ := List.getElem?_eq_some_iff.1 hi
  rw [List.drop_eq_getElem_cons hl, he] at h
  by_cases hk : k < s.length
  · have hs : s[k]? = some s[k] := List.getElem?_eq_getElem hk
    rw [List.drop_eq_getElem_cons hk] at h ⊢
    rw [hs]
    generalize s[k] = x at *
    constructor
    · intro e
      cases h with
      | cons _ h => exact (List.sublist_cons_self _ _).trans h
      | cons_cons _ h => exact h
    · intro e
      cases h with
      | cons _ h => exact h
      | cons_cons _ h => exact absurd rfl e
  · have hs : s[k]? = none := List.getElem?_eq_none (by omega)
    rw [hs, List.drop_of_length_le (by omega : s.length ≤ k)]
    exact ⟨fun e => (by cases e), fun _ => List.nil_sublist _⟩
theorem greedy_end {s l : List HField} {k : Nat} (h : (s.drop k).Sublist (l.drop l.length)) : s.length ≤ k := by
  rw [List.drop_length] at h
  have := List.sublist_nil.1 h
  exact List.drop_eq_nil_iff.1 this
/-! ### the bounds -/
theorem token_n (k : Nat) (h : 1 ≤ k) : token (List.replicate k 110) = true := by
  unfold token
  rw [Bool.and_eq_true]
  constructor
  · rw [List.all_eq_true]
    intro c hc
    rw [List.eq_of_mem_replicate hc]
    decide
  · cases k with
    | zero => omega
    | succ k => rfl
theorem value_v (k : Nat) : value (List.replicate k 118) = true := by
  unfold value
  rw [Bool.and_eq_true]
  constructor
  · rw [List.all_eq_true]
    intro c hc
    rw [List.eq_of_mem_replicate hc]
    decide
  · cases k with
    | zero => rfl
    | succ k =>
      have h1 : (List.replicate (k + 1) (118 : UInt8)).headD 0 = 118 := rfl
      have h2 : (List.replicate (k + 1) (118 : UInt8)).getLastD 0 = 118 := by
        rw [List.getLastD_eq_getLast?, List.getLast?_replicate]
        rfl
      rw [h1, h2]
      rfl
theorem check_one (f : HField) : check [f] = if right f then 0 else 70 := by
  unfold check
  simp only [List.all_cons, List.all_nil, Bool.and_true]
  split
  · rfl
  · rfl
theorem right_a : right ([97], []) = true := by decide
theorem check_many (k : Nat) : check (List.replicate k ([97], [])) = if k ≤ 32 then 0 else 71 := by
  unfold check
  have : (List.replicate k (([97], []) : HField)).all right = true := by
    rw [List.all_eq_true]
    intro f hf
    rw [List.eq_of_mem_replicate hf]
    exact right_a
  rw [this, List.length_replicate]
  rfl
theorem check_past (l : List HField) {f : HField} (h : right f = false) : check (l ++ [f]) = 70 := by
  unfold check
  rw [List.all_append, List.all_cons, h]
  simp
end Go.Proofs.YtmlpdhmafmdkcaaGreatDoor.FieldsPure

/- Layer 8: heads, as lists of bytes. No program is named. -/
namespace Go.Proofs.YtmlpdhmafmdkcaaGreatDoor.HeadPure
open LexPure Bytes FieldsPure
structure H8 where
  method : List UInt8
  target : List UInt8
  status : Int
  reason : List UInt8
  minor : Int
  fields : List HField
def zero8 : H8 := ⟨[], [], 0, [], 0, []⟩
def digitB (c : UInt8) : Bool := decide (48 ≤ c.toNat) && decide (c.toNat ≤ 57)
/-- the minor digit and the error of a version -/
def version8 (s : List UInt8) : Int × Int :=
  match s with
  | [h, t, t2, p, sl, a, d, b] => if h = 72 ∧ t = 84 ∧ t2 = 84 ∧ p = 80 ∧ sl = 47 ∧ d = 46 ∧ digitB a = true ∧ digitB b = true then (if a = 49 then ((b.toNat : Int) - 48, 0) else (0, 81)) else (0, 80)
  | _ => (0, 80)
def upB (s : List UInt8) : List UInt8 := s.takeWhile (fun c => c != 32)
def seenB (c : UInt8) : Bool := decide (32 < c.toNat) && decide (c.toNat < 127)
/-- a start line -/
def start8 (l : List UInt8) : H8 × Int :=
  if (upB l).length < l.length ∧ (upB l).length ≤ 16 ∧ token (upB l) = true then
    (let r := l.drop ((upB l).length + 1)
     if (upB r).length < r.length ∧ 0 < (upB r).length ∧ (upB r).all seenB = true then
       (let v := version8 (r.drop ((upB r).length + 1))
        if v.2 = 0 then (⟨upB l, upB r, 0, [], v.1, []⟩, 0) else (zero8, v.2))
     else (zero8, 80))
  else (zero8, 80)
/-- a status line -/
def status8 (l : List UInt8) : H8 × Int :=
  if 12 ≤ l.length ∧ l[8]? = some 32 ∧ numOk 10 3 ((l.drop 9).take 3) = true ∧ 100 ≤ numR 10 3 ((l.drop 9).take 3) ∧ numR 10 3 ((l.drop 9).take 3) < 600 ∧ (l.length = 12 ∨ l[12]? = some 32) ∧ (l.drop 13).all plainB = true then
    (let v := version8 (l.take 8)
     if v.2 = 0 then (⟨[], [], numR 10 3 ((l.drop 9).take 3), l.drop 13, v.1, []⟩, 0) else (zero8, v.2))
  else (zero8, 80)
def nameB (s : List UInt8) : List UInt8 := s.takeWhile (fun c => c != 58)
/-- a field's line -/
def field8 (l : List UInt8) : HField × Int :=
  if (nameB l).length < l.length ∧ token (nameB l) = true ∧ value (trim (l.drop ((nameB l).length + 1))) = true then ((nameB l, trim (l.drop ((nameB l).length + 1))), 0) else (([], []), 70)
/-- what stands at the place -/
inductive Line where
  | whole (k : Nat)
  | bad (e : Int)
  | wait
def scan (most : Nat) (over : Int) : Nat → List UInt8 → Line
  | _, [] => .wait
  | i, c :: s => if c = 10 then .bad 80 else if c = 13 then (match s with
      | [] => .wait
      | d :: _ => if d = 10 then .whole i else .bad 80)
    else if most ≤ i then .bad over else scan most over (i + 1) s
/-- what a reading comes to -/
inductive Res where
  | wait
  | bad (e : Int)
  | done (h : H8) (n : Nat)
def skip8 : List UInt8 → Nat
  | c :: d :: s => if c = 13 ∧ d = 10 then skip8 s + 2 else 0
  | _ => 0
/-- the fields' lines from place a on, m more fields to come at most -/
def fields8 (h : H8) : Nat → List HField → Nat → List UInt8 → Res
  | m, acc, a, s => match scan 512 83 0 s with
    | .wait => .wait
    | .bad e => .bad e
    | .whole k => if k = 0 then .done { h with fields := acc } (a + 2) else
      match m with
      | 0 => .bad 83
      | m + 1 => if (field8 (s.take k)).2 = 0 then fields8 h m (acc ++ [(field8 (s.take k)).1]) (a + k + 2) (s.drop (k + 2)) else .bad 70
/-- from the start line or status line on, at place a -/
def from8 (response : Bool) (a : Nat) (s : List UInt8) : Res :=
  match scan 1100 82 0 s with
  | .wait => .wait
  | .bad e => .bad e
  | .whole k =>
    (let x := if response then status8 (s.take k) else start8 (s.take k)
     if x.2 = 0 then fields8 x.1 32 [] (a + k + 2) (s.drop (k + 2)) else .bad x.2)
def skipOf (response : Bool) (s : List UInt8) : Nat := if response then 0 else skip8 s
def read8 (response : Bool) (s : List UInt8) : Res := from8 response (skipOf response s) (s.drop (skipOf response s))
def resH : Res → H8
  | .done h _ => h
  | _ => zero8
def resN : Res → Nat
  | .done _ n => n
  | _ => 0
def resE : Res → Int
  | .bad e => e
  | _ => 0

/-! ### a line -/
theorem scan_cons (most : Nat) (over : Int) (i : Nat) (c : UInt8) (s : List UInt8) : scan most over i (c :: s) = if c = 10 then .bad 80 else if c = 13 then (match s with
      | [] => .wait
      | d :: _ => if d = 10 then .whole i else .bad 80)
    else if most ≤ i then .bad over else scan most over (i + 1) s := by cases s <;> rfl
theorem scan_append (most : Nat) (over : Int) (t : List UInt8) : ∀ (s : List UInt8) (i : Nat), scan most over i s ≠ .wait → scan most over i (s ++ t) = scan most over i s
  | [], i, h => absurd rfl h
  | c :: s, i, h => by
    rw [scan_cons] at h
    rw [List.cons_append, scan_cons, scan_cons]
    by_cases h1 : c = 10
    · rw [if_pos h1, if_pos h1]
    · rw [if_neg h1] at h
      rw [if_neg h1, if_neg h1]
      by_cases h2 : c = 13
      · rw [if_pos h2] at h
        rw [if_pos h2, if_pos h2]
        cases s with
        | nil => exact absurd rfl h
        | cons d s => rfl
      · rw [if_neg h2] at h
        rw [if_neg h2, if_neg h2]
        by_cases h3 : most ≤ i
        · rw [if_pos h3, if_pos h3]
        · rw [if_neg h3] at h
          rw [if_neg h3, if_neg h3]
          exact scan_append most over t s (i + 1) h
/-- a whole line: no 10 and no 13 in it, then 13 and 10 -/
theorem scan_whole (most : Nat) (over : Int) : ∀ (s : List UInt8) (i k : Nat), scan most over i s = .whole k → ∃ l q, s = l ++ 13 :: 10 :: q ∧ k = i + l.length ∧ (∀ c ∈ l, c ≠ 10 ∧ c ≠ 13) ∧ (l.length = 0 ∨ i + l.length ≤ most)
  | [], i, k, h => by simp [scan] at h
  | c :: s, i, k, h => by
    rw [scan_cons] at h
    by_cases h1 : c = 10
    · rw [if_pos h1] at h; cases h
    · rw [if_neg h1] at h
      by_cases h2 : c = 13
      · rw [if_pos h2] at h
        cases s with
        | nil => cases h
        | cons d s =>
          simp only at h
          by_cases h4 : d = 10
          · rw [if_pos h4] at h
            injection h with h
            exact ⟨[], s, (by rw [h2, h4]; rfl), h.symm, (fun c hc => by cases hc), Or.inl rfl⟩
          · rw [if_neg h4] at h; cases h
      · rw [if_neg h2] at h
        by_cases h3 : most ≤ i
        · rw [if_pos h3] at h; cases h
        · rw [if_neg h3] at h
          obtain ⟨l, q, e1, e2, e3, e4⟩ := scan_whole most over s (i + 1) k h
          refine ⟨c :: l, q, by rw [e1]; rfl, by rw [List.length_cons]; omega, fun x hx => ?_, .inr ?_⟩
          · rcases List.mem_cons.1 hx with rfl | hx
            · exact ⟨h1, h2⟩
            · exact e3 x hx
          · rw [List.length_cons]
            rcases e4 with e4 | e4 <;> omega
theorem scan_line (most : Nat) (over : Int) (q : List UInt8) : ∀ (l : List UInt8) (i : Nat), (∀ c ∈ l, c ≠ 10 ∧ c ≠ 13) → (l.length = 0 ∨ i + l.length ≤ most) → scan most over i (l ++ 13 :: 10 :: q) = .whole (i + l.length)
  | [], i, _, _ => by rw [List.nil_append, scan_cons]; simp
  | c :: l, i, h, hm => by
    have hc := h c List.mem_cons_self
    rw [List.length_cons] at hm
    rw [List.cons_append, scan_cons, if_neg hc.1, if_neg hc.2, if_neg (by omega), scan_line most over q l (i + 1) (fun x hx => h x (List.mem_cons_of_mem _ hx)) (by omega), List.length_cons]
    congr 1
    omega
theorem scan_bad (most : Nat) (over : Int) (ho : over ≠ 0) : ∀ (s : List UInt8) (i : Nat) (e : Int), scan most over i s = .bad e → e ≠ 0
  | [], i, e, h => by simp [scan] at h
  | c :: s, i, e, h => by
    rw [scan_cons] at h
    split at h
    · injection h with h; omega
    · split at h
      · split at h
        · cases h
        · split at h
          · cases h
          · injection h with h; omega
      · split at h
        · injection h with h; omega
        · exact scan_bad most over ho s (i + 1) e h
theorem whole_take {most : Nat} {over : Int} {s : List UInt8} {k : Nat} (h : scan most over 0 s = .whole k) : k + 2 ≤ s.length ∧ (∀ t, (s ++ t).take k = s.take k ∧ (s ++ t).drop (k + 2) = s.drop (k + 2) ++ t) := by
  obtain ⟨l, q, rfl, hk, _⟩ := scan_whole most over s 0 k h
  rw [Nat.zero_add] at hk
  have hl : k + 2 ≤ (l ++ 13 :: 10 :: q).length := by simp; omega
  refine ⟨hl, fun t => ⟨?_, ?_⟩⟩
  · rw [List.take_append_of_le_length (by omega)]
  · rw [List.drop_append_of_le_length hl]

/-! ### what has been told stays so -/
theorem fields_append (h : H8) (t : List UInt8) : ∀ (m : Nat) (acc : List HField) (a : Nat) (s : List UInt8), fields8 h m acc a s ≠ .wait → fields8 h m acc a (s ++ t) = fields8 h m acc a s := by
  intro m
  induction m with
  | zero =>
    intro acc a s hw
    unfold fields8 at hw ⊢
    cases hs : scan 512 83 0 s with
    | wait => rw [hs] at hw; exact absurd rfl hw
    | bad e => rw [scan_append 512 83 t s 0 (by rw [hs]; intro hh; cases hh), hs]
    | whole k => rw [scan_append 512 83 t s 0 (by rw [hs]; intro hh; cases hh), hs]
  | succ m ih =>
    intro acc a s hw
    unfold fields8 at hw ⊢
    cases hs : scan 512 83 0 s with
    | wait => rw [hs] at hw; exact absurd rfl hw
    | bad e => rw [scan_append 512 83 t s 0 (by rw [hs]; intro hh; cases hh), hs]
    | whole k =>
      rw [scan_append 512 83 t s 0 (by rw [hs]; intro hh; cases hh), hs]
      rw [hs] at hw
      obtain ⟨_, h2⟩ := whole_take hs
      obtain ⟨h3, h4⟩ := h2 t
      simp only [h3, h4] at hw ⊢
      by_cases hk : k = 0
      · rw [if_pos hk, if_pos hk]
      · rw [if_neg hk] at hw
        rw [if_neg hk, if_neg hk]
        by_cases hf : (field8 (s.take k)).2 = 0
        · rw [if_pos hf] at hw
          rw [if_pos hf, if_pos hf]
          exact ih _ _ _ hw
        · rw [if_neg hf, if_neg hf]
theorem from_append (r : Bool) (t : List UInt8) (a : Nat) (s : List UInt8) (hw : from8 r a s ≠ .wait) : from8 r a (s ++ t) = from8 r a s := by
  unfold from8 at hw ⊢
  cases hs : scan 1100 82 0 s with
  | wait => rw [hs] at hw; exact absurd rfl hw
  | bad e => rw [scan_append 1100 82 t s 0 (by rw [hs]; intro hh; cases hh), hs]
  | whole k =>
    rw [scan_append 1100 82 t s 0 (by rw [hs]; intro hh; cases hh), hs]
    rw [hs] at hw
    obtain ⟨_, h2⟩ := whole_take hs
    obtain ⟨h3, h4⟩ := h2 t
    simp only [h3, h4] at hw ⊢
    by_cases hx : (if r = true then status8 (s.take k) else start8 (s.take k)).2 = 0
    · rw [if_pos hx] at hw
      rw [if_pos hx, if_pos hx]
      exact fields_append _ t _ _ _ _ hw
    · rw [if_neg hx, if_neg hx]
theorem skip_append (t : List UInt8) : ∀ s : List UInt8, s.drop (skip8 s) ≠ [] → s.drop (skip8 s) ≠ [13] → skip8 (s ++ t) = skip8 s
  | [], h, _ => absurd rfl h
  | [c], _, h2 => by
    have hc : c ≠ 13 := fun e => h2 (by rw [e]; rfl)
    cases t with
    | nil => rfl
    | cons d t =>
      show skip8 (c :: d :: t) = 0
      rw [skip8, if_neg (fun h => hc h.1)]
  | c :: d :: s, h1, h2 => by
    rw [List.cons_append, List.cons_append, skip8, skip8]
    rw [skip8] at h1 h2
    by_cases hc : c = 13 ∧ d = 10
    · rw [if_pos hc] at h1 h2
      rw [if_pos hc, if_pos hc]
      rw [skip_append t s h1 h2]
    · rw [if_neg hc, if_neg hc]
theorem skip_le : ∀ s : List UInt8, skip8 s ≤ s.length
  | [] => Nat.le_refl _
  | [_] => Nat.zero_le _
  | c :: d :: s => by
    rw [skip8]
    split
    · have := skip_le s
      simp
      omega
    · exact Nat.zero_le _
theorem skipOf_le (r : Bool) (s : List UInt8) : skipOf r s ≤ s.length := by
  unfold skipOf
  split
  · exact Nat.zero_le _
  · exact skip_le s
theorem from_some (r : Bool) (a : Nat) (s : List UInt8) (h : from8 r a s ≠ .wait) : s ≠ [] ∧ s ≠ [13] := by
  constructor
  · rintro rfl
    exact h rfl
  · rintro rfl
    exact h rfl
/-- P8.1, P8.2: what has been told stays so -/
theorem read_append (r : Bool) (s t : List UInt8) (h : read8 r s ≠ .wait) : read8 r (s ++ t) = read8 r s := by
  unfold read8 at h ⊢
  obtain ⟨h1, h2⟩ := from_some _ _ _ h
  have hk : skipOf r (s ++ t) = skipOf r s := by
    unfold skipOf at h1 h2 ⊢
    cases r
    · exact skip_append t s h1 h2
    · rfl
  rw [hk, List.drop_append_of_le_length (skipOf_le r s)]
  exact from_append r t _ _ h

/-! ### the bytes that a head has -/
/-- no 10 without a 13 ahead of it, no 13 without a 10 behind it -/
def Clean (p : List UInt8) : Prop := ∀ (i : Nat) (c : UInt8), p[i]? = some c → (c = 10 → ∃ j, i = j + 1 ∧ p[j]? = some 13) ∧ (c = 13 → p[i + 1]? = some 10)
theorem clean_nil : Clean [] := fun i c h => by simp at h
theorem clean_append {p q : List UInt8} (hp : Clean p) (hq : Clean q) : Clean (p ++ q) := fun i c h => by
  by_cases hi : i < p.length
  · rw [List.getElem?_append_left hi] at h
    obtain ⟨h1, h2⟩ := hp i c h
    refine ⟨fun e => ?_, fun e => ?_⟩
    · obtain ⟨j, hj, h3⟩ := h1 e
      exact ⟨j, hj, by rw [List.getElem?_append_left (by omega)]; exact h3⟩
    · have h3 := h2 e
      have h4 := (List.getElem?_eq_some_iff.1 h3).1
      rw [List.getElem?_append_left h4]
      exact h3
  · rw [List.getElem?_append_right (by omega)] at h
    obtain ⟨h1, h2⟩ := hq _ c h
    refine ⟨fun e => ?_, fun e => ?_⟩
    · obtain ⟨j, hj, h3⟩ := h1 e
      exact ⟨p.length + j, by omega, by rw [List.getElem?_append_right (by omega), Nat.add_sub_cancel_left]; exact h3⟩
    · have h3 := h2 e
      rw [List.getElem?_append_right (by omega)]
      rw [show i + 1 - p.length = i - p.length + 1 by omega]
      exact h3
theorem clean_bare {l : List UInt8} (h : ∀ c ∈ l, c ≠ 10 ∧ c ≠ 13) : Clean l := fun i c hc => by
  have hm := List.mem_of_getElem? hc
  exact ⟨fun e => absurd e (h c hm).1, fun e => absurd e (h c hm).2⟩
theorem clean_end : Clean [13, 10] := fun i c h => by
  match i, h with
  | 0, h =>
    have e : (13 : UInt8) = c := by simpa using h
    subst e
    exact ⟨fun e => absurd e (by decide), fun _ => rfl⟩
  | 1, h =>
    have e : (10 : UInt8) = c := by simpa using h
    subst e
    exact ⟨fun _ => ⟨0, rfl, rfl⟩, fun e => absurd e (by decide)⟩
  | i + 2, h => simp at h
theorem clean_line {l : List UInt8} (h : ∀ c ∈ l, c ≠ 10 ∧ c ≠ 13) : Clean (l ++ [13, 10]) := clean_append (clean_bare h) clean_end
theorem fields_done (h : H8) : ∀ (m : Nat) (acc : List HField) (a : Nat) (s : List UInt8) (h' : H8) (n : Nat), fields8 h m acc a s = .done h' n →
    ∃ p q, s = p ++ q ∧ n = a + p.length ∧ 0 < p.length ∧ Clean p ∧ ∀ q', fields8 h m acc a (p ++ q') = .done h' n := by
  intro m
  induction m with
  | zero =>
    intro acc a s h' n hd
    unfold fields8 at hd
    cases hs : scan 512 83 0 s with
    | wait => rw [hs] at hd; cases hd
    | bad e => rw [hs] at hd; cases hd
    | whole k =>
      rw [hs] at hd
      simp only at hd
      obtain ⟨l, q, rfl, hk, hl, hm⟩ := scan_whole 512 83 s 0 k hs
      by_cases h0 : k = 0
      · rw [if_pos h0] at hd
        have hl0 : l = [] := List.eq_nil_of_length_eq_zero (by omega)
        subst hl0
        refine ⟨[13, 10], q, rfl, ?_, by decide, clean_end, fun q' => ?_⟩
        · injection hd with _ e
          rw [← e]
          rfl
        · unfold fields8
          rw [show [13, 10] ++ q' = ([] : List UInt8) ++ 13 :: 10 :: q' from rfl, scan_line 512 83 q' [] 0 (fun c hc => by cases hc) (.inl rfl)]
          exact hd
      · rw [if_neg h0] at hd
        cases hd
  | succ m ih =>
    intro acc a s h' n hd
    unfold fields8 at hd
    cases hs : scan 512 83 0 s with
    | wait => rw [hs] at hd; cases hd
    | bad e => rw [hs] at hd; cases hd
    | whole k =>
      rw [hs] at hd
      simp only at hd
      obtain ⟨l, q, rfl, hk, hl, hm⟩ := scan_whole 512 83 s 0 k hs
      rw [Nat.zero_add] at hk
      by_cases h0 : k = 0
      · rw [if_pos h0] at hd
        have hl0 : l = [] := List.eq_nil_of_length_eq_zero (by omega)
        subst hl0
        refine ⟨[13, 10], q, rfl, ?_, by decide, clean_end, fun q' => ?_⟩
        · injection hd with _ e
          rw [← e]
          rfl
        · unfold fields8
          rw [show [13, 10] ++ q' = ([] : List UInt8) ++ 13 :: 10 :: q' from rfl, scan_line 512 83 q' [] 0 (fun c hc => by cases hc) (.inl rfl)]
          exact hd
      · rw [if_neg h0] at hd
        have e1 : (l ++ 13 :: 10 :: q).take k = l := by rw [hk]; exact List.take_left
        have e2 : (l ++ 13 :: 10 :: q).drop (k + 2) = q := by
          rw [hk, ← List.drop_drop, List.drop_left]
          rfl
        rw [e1, e2] at hd
        by_cases hf : (field8 l).2 = 0
        · rw [if_pos hf] at hd
          obtain ⟨p, q2, rfl, hn, hp, hcl, hall⟩ := ih _ _ _ _ _ hd
          refine ⟨l ++ [13, 10] ++ p, q2, by simp, by simp; omega, by simp; omega, clean_append (clean_line hl) hcl, fun q' => ?_⟩
          unfold fields8
          rw [show l ++ [13, 10] ++ p ++ q' = l ++ 13 :: 10 :: (p ++ q') by simp, scan_line 512 83 (p ++ q') l 0 hl hm]
          simp only [Nat.zero_add]
          rw [← hk, if_neg h0]
          have e3 : (l ++ 13 :: 10 :: (p ++ q')).take k = l := by rw [hk]; exact List.take_left
          have e4 : (l ++ 13 :: 10 :: (p ++ q')).drop (k + 2) = p ++ q' := by
            rw [hk, ← List.drop_drop, List.drop_left]
            rfl
          rw [e3, e4, if_pos hf]
          exact hall q'
        · rw [if_neg hf] at hd
          cases hd
theorem start_nil : (start8 []).2 ≠ 0 := by decide
theorem status_nil : (status8 []).2 ≠ 0 := by decide
theorem from_done (r : Bool) (a : Nat) (s : List UInt8) (h' : H8) (n : Nat) (hd : from8 r a s = .done h' n) :
    ∃ p q, s = p ++ q ∧ n = a + p.length ∧ 2 < p.length ∧ Clean p ∧ ∀ q', from8 r a (p ++ q') = .done h' n := by
  unfold from8 at hd
  cases hs : scan 1100 82 0 s with
  | wait => rw [hs] at hd; cases hd
  | bad e => rw [hs] at hd; cases hd
  | whole k =>
    rw [hs] at hd
    simp only at hd
    obtain ⟨l, q, rfl, hk, hl, hm⟩ := scan_whole 1100 82 s 0 k hs
    rw [Nat.zero_add] at hk
    have e1 : (l ++ 13 :: 10 :: q).take k = l := by rw [hk]; exact List.take_left
    have e2 : (l ++ 13 :: 10 :: q).drop (k + 2) = q := by
      rw [hk, ← List.drop_drop, List.drop_left]
      rfl
    rw [e1, e2] at hd
    by_cases hx : (if r = true then status8 l else start8 l).2 = 0
    · rw [if_pos hx] at hd
      have hl0 : 0 < l.length := by
        cases l with
        | nil =>
          cases r
          · exact absurd hx start_nil
          · exact absurd hx status_nil
        | cons => simp
      obtain ⟨p, q2, rfl, hn, hp, hcl, hall⟩ := fields_done _ _ _ _ _ _ _ hd
      refine ⟨l ++ [13, 10] ++ p, q2, by simp, by simp; omega, by simp; omega, clean_append (clean_line hl) hcl, fun q' => ?_⟩
      unfold from8
      rw [show l ++ [13, 10] ++ p ++ q' = l ++ 13 :: 10 :: (p ++ q') by simp, scan_line 1100 82 (p ++ q') l 0 hl hm]
      simp only [Nat.zero_add]
      have e3 : (l ++ 13 :: 10 :: (p ++ q')).take l.length = l := List.take_left
      have e4 : (l ++ 13 :: 10 :: (p ++ q')).drop (l.length + 2) = p ++ q' := by
        rw [← List.drop_drop, List.drop_left]
        rfl
      rw [e3, e4, if_pos hx, ← hk]
      exact hall q'
    · rw [if_neg hx] at hd
      cases hd
theorem skip_split : ∀ s : List UInt8, ∃ u, s = u ++ s.drop (skip8 s) ∧ u.length = skip8 s ∧ Clean u ∧ skip8 (s.drop (skip8 s)) = 0 ∧ ∀ x, skip8 (u ++ x) = u.length + skip8 x
  | [] => ⟨[], rfl, rfl, clean_nil, rfl, fun x => by simp⟩
  | [c] => ⟨[], rfl, rfl, clean_nil, rfl, fun x => by simp⟩
  | c :: d :: s => by
    by_cases hc : c = 13 ∧ d = 10
    · obtain ⟨u, h1, h2, h3, h4, h5⟩ := skip_split s
      have hk : skip8 (c :: d :: s) = skip8 s + 2 := by rw [skip8, if_pos hc]
      obtain ⟨rfl, rfl⟩ := hc
      refine ⟨13 :: 10 :: u, ?_, ?_, clean_append (p := [13, 10]) clean_end h3, ?_, fun x => ?_⟩
      · rw [hk, List.drop_succ_cons, List.drop_succ_cons, List.cons_append, List.cons_append, ← h1]
      · rw [hk, List.length_cons, List.length_cons, h2]
      · rw [hk, List.drop_succ_cons, List.drop_succ_cons]
        exact h4
      · rw [List.cons_append, List.cons_append, skip8, if_pos ⟨rfl, rfl⟩, h5, List.length_cons, List.length_cons]
        omega
    · have hk : skip8 (c :: d :: s) = 0 := by rw [skip8, if_neg hc]
      exact ⟨[], by rw [hk]; rfl, by rw [hk]; rfl, clean_nil, by rw [hk]; exact hk, fun x => by simp⟩
theorem skip_two {p : List UInt8} (h2 : 2 ≤ p.length) (q q' : List UInt8) (h : skip8 (p ++ q) = 0) : skip8 (p ++ q') = 0 := by
  match p, h2 with
  | c :: d :: p, _ =>
    rw [List.cons_append, List.cons_append, skip8] at h ⊢
    by_cases hc : c = 13 ∧ d = 10
    · rw [if_pos hc] at h; omega
    · rw [if_neg hc]
/-- a head that is taken: its bytes alone make it, and they are clean -/
theorem read_done (r : Bool) (s : List UInt8) (h' : H8) (n : Nat) (hd : read8 r s = .done h' n) :
    ∃ p q, s = p ++ q ∧ n = p.length ∧ 0 < n ∧ Clean p ∧ ∀ q', read8 r (p ++ q') = .done h' n := by
  unfold read8 skipOf at hd
  cases r with
  | true =>
    simp only [if_true, List.drop_zero] at hd
    obtain ⟨p, q, rfl, hn, hp, hc, hall⟩ := from_done _ _ _ _ _ hd
    exact ⟨p, q, rfl, by omega, by omega, hc, fun q' => by unfold read8 skipOf; simpa using hall q'⟩
  | false =>
    simp only [Bool.false_eq_true, if_false] at hd
    obtain ⟨u, h1, h2, h3, h4, h5⟩ := skip_split s
    obtain ⟨p, q, e, hn, hp, hc, hall⟩ := from_done _ _ _ _ _ hd
    rw [e] at h1 h4
    refine ⟨u ++ p, q, by rw [List.append_assoc]; exact h1, by rw [List.length_append]; omega, by omega, clean_append h3 hc, fun q' => ?_⟩
    unfold read8 skipOf
    simp only [Bool.false_eq_true, if_false]
    have e1 : skip8 (u ++ p ++ q') = u.length := by rw [List.append_assoc, h5, skip_two (by omega) q q' h4, Nat.add_zero]
    rw [e1, List.append_assoc, List.drop_left, h2]
    exact hall q'
/-- cut short anywhere it isn't whole -/
theorem read_cut (r : Bool) (s : List UInt8) (h' : H8) (n cut : Nat) (hd : read8 r s = .done h' n) (hc : cut < n) : read8 r (s.take cut) = .wait := by
  cases hw : read8 r (s.take cut) with
  | wait => rfl
  | bad e =>
    have := read_append r (s.take cut) (s.drop cut) (by rw [hw]; intro h; cases h)
    rw [List.take_append_drop, hd, hw] at this
    cases this
  | done h2 n2 =>
    have := read_append r (s.take cut) (s.drop cut) (by rw [hw]; intro h; cases h)
    rw [List.take_append_drop, hd, hw] at this
    injection this with _ e
    obtain ⟨p, q, e1, e2, _⟩ := read_done r _ _ _ hw
    have e3 := congrArg List.length e1
    rw [List.length_take, List.length_append] at e3
    omega
theorem read_front (r : Bool) (s : List UInt8) (h' : H8) (n : Nat) (hd : read8 r s = .done h' n) : n ≤ s.length ∧ 0 < n ∧ read8 r (s.take n) = .done h' n ∧ Clean (s.take n) := by
  obtain ⟨p, q, rfl, hn, h0, hc, hall⟩ := read_done r s h' n hd
  have ht : (p ++ q).take n = p := by rw [hn]; exact List.take_left
  exact ⟨by rw [List.length_append]; omega, h0, by rw [ht]; have := hall []; rwa [List.append_nil] at this, by rw [ht]; exact hc⟩

/-! ### empty lines ahead -/
def shift (d : Nat) : Res → Res
  | .done h n => .done h (n + d)
  | x => x
theorem fields_shift (h : H8) (d : Nat) : ∀ (m : Nat) (acc : List HField) (a : Nat) (s : List UInt8), fields8 h m acc (a + d) s = shift d (fields8 h m acc a s) := by
  intro m
  induction m with
  | zero =>
    intro acc a s
    unfold fields8
    cases scan 512 83 0 s with
    | wait => rfl
    | bad e => rfl
    | whole k =>
      simp only
      split
      · unfold shift; simp only; congr 1; omega
      · rfl
  | succ m ih =>
    intro acc a s
    unfold fields8
    cases scan 512 83 0 s with
    | wait => rfl
    | bad e => rfl
    | whole k =>
      simp only
      split
      · unfold shift; simp only; congr 1; omega
      · split
        · rw [show a + d + k + 2 = a + k + 2 + d by omega]
          exact ih _ _ _
        · rfl
theorem from_shift (r : Bool) (d a : Nat) (s : List UInt8) : from8 r (a + d) s = shift d (from8 r a s) := by
  unfold from8
  cases scan 1100 82 0 s with
  | wait => rfl
  | bad e => rfl
  | whole k =>
    simp only
    by_cases hx : (if r = true then status8 (s.take k) else start8 (s.take k)).2 = 0
    · rw [if_pos hx, if_pos hx, show a + d + k + 2 = a + k + 2 + d by omega]
      exact fields_shift _ _ _ _ _ _
    · rw [if_neg hx, if_neg hx]
      rfl
def emptiesOf (k : Nat) : List UInt8 := (List.replicate k [13, 10]).flatten
theorem ahead_succ (k : Nat) : emptiesOf (k + 1) = 13 :: 10 :: emptiesOf k := by simp [emptiesOf, List.replicate_succ]
theorem ahead_snoc (k : Nat) : emptiesOf (k + 1) = emptiesOf k ++ [13, 10] := by simp [emptiesOf, List.replicate_succ', List.flatten_append]
theorem read_ahead (k : Nat) (s : List UInt8) : read8 false (emptiesOf k ++ s) = shift (2 * k) (read8 false s) := by
  have hk : ∀ k, skip8 (emptiesOf k ++ s) = 2 * k + skip8 s ∧ (emptiesOf k ++ s).drop (2 * k + skip8 s) = s.drop (skip8 s) := by
    intro k
    induction k with
    | zero => simp [emptiesOf]
    | succ k ih =>
      rw [ahead_succ, List.cons_append, List.cons_append, skip8, if_pos ⟨rfl, rfl⟩, ih.1]
      refine ⟨by omega, ?_⟩
      rw [show 2 * (k + 1) + skip8 s = 2 * k + skip8 s + 1 + 1 by omega, List.drop_succ_cons, List.drop_succ_cons]
      exact ih.2
  unfold read8 skipOf
  simp only [Bool.false_eq_true, if_false]
  rw [(hk k).1, (hk k).2, Nat.add_comm]
  exact from_shift _ _ _ _
end Go.Proofs.YtmlpdhmafmdkcaaGreatDoor.HeadPure

/- Layer 10: bodies in chunks, read byte by byte, and written. No program is named. -/
namespace Go.Proofs.YtmlpdhmafmdkcaaGreatDoor.ChunkPure
open Bytes LexPure LexNum HeadPure
set_option maxRecDepth 20000
inductive Ph where
  | size
  | data (left : Nat)
  | after
  | trail (n : Nat)
  | done
  | bad (e : Int)
/-- where the reading stands: the line so far, whether a 13 stands behind it -/
structure M where
  most : Int
  size : Nat
  ph : Ph
  line : List UInt8
  cr : Bool
def begin_ (most : Int) : M := ⟨most, 0, .size, [], false⟩
def bound : Ph → Nat
  | .size => 64
  | .trail _ => 512
  | _ => 0
def extB (c : UInt8) : Bool := c == 9 || (decide (32 ≤ c) && decide (c ≤ 126))
/-- the size that a size line says, or -1 -/
def sizeL (l : List UInt8) : Int := if numOk 16 8 (l.takeWhile (fun c => c != 59)) = true then numR 16 8 (l.takeWhile (fun c => c != 59)) else -1
/-- a line has its semicolon or its colon -/
def parted (l : List UInt8) : Bool := l.any (fun c => c == 59 || c == 58)
/-- may c stand next in a size line, in a trailer? -/
def fitsSize (l : List UInt8) (c : UInt8) : Bool := if parted l = true then extB c else if c = 59 then !l.isEmpty else decide (dig c < 16) && decide (l.length < 8)
def fitsTrail (l : List UInt8) (c : UInt8) : Bool := if parted l = true then plainB c else if c = 58 then !l.isEmpty else markB c
def fits (ph : Ph) (l : List UInt8) (c : UInt8) : Bool :=
  match ph with
  | .size => decide (l.length < 64) && fitsSize l c
  | .trail _ => decide (l.length < 512) && fitsTrail l c
  | _ => false
theorem fits_bound {ph : Ph} {l : List UInt8} {c : UInt8} (h : fits ph l c = true) : l.length < bound ph := by
  unfold fits at h
  unfold bound
  split at h
  · rw [Bool.and_eq_true] at h; exact of_decide_eq_true h.1
  · rw [Bool.and_eq_true] at h; exact of_decide_eq_true h.1
  · cases h
def fail (m : M) (e : Int) : M := ⟨m.most, m.size, .bad e, [], false⟩
def goOn (m : M) (ph : Ph) : M := ⟨m.most, m.size, ph, [], false⟩
/-- a line's end -/
def endLine (m : M) : M :=
  match m.ph with
  | .size => if sizeL m.line < 0 then fail m 100 else if m.most < m.size + sizeL m.line then fail m 101 else if sizeL m.line = 0 then goOn m (.trail 0) else goOn m (.data (sizeL m.line).toNat)
  | .after => goOn m .size
  | .trail n => if m.line = [] then goOn m .done else if (field8 m.line).2 ≠ 0 ∨ n = 32 then fail m 100 else goOn m (.trail (n + 1))
  | _ => m
def lineStep (m : M) (c : UInt8) : M :=
  if m.cr then (if c = 10 then endLine m else fail m 100)
  else if c = 13 then { m with cr := true }
  else if fits m.ph m.line c = true then { m with line := m.line ++ [c] } else fail m 100
def bstep (m : M) (c : UInt8) : M × List UInt8 :=
  match m.ph with
  | .data left => (⟨m.most, m.size + 1, if left ≤ 1 then .after else .data (left - 1), m.line, m.cr⟩, [c])
  | .done => (m, [])
  | .bad _ => (m, [])
  | _ => (lineStep m c, [])
def stop (m : M) : Bool :=
  match m.ph with
  | .done => true
  | .bad _ => true
  | _ => false
def run : M → List UInt8 → M × List UInt8 × Nat
  | m, [] => (m, [], 0)
  | m, c :: l => if stop m = true then (m, [], 0) else ((run (bstep m c).1 l).1, (bstep m c).2 ++ (run (bstep m c).1 l).2.1, (run (bstep m c).1 l).2.2 + 1)
theorem run_stop {m : M} (h : stop m = true) (l : List UInt8) : run m l = (m, [], 0) := by
  cases l with
  | nil => rfl
  | cons c l => unfold run; rw [if_pos h]
theorem run_cons {m : M} (h : stop m = false) (c : UInt8) (l : List UInt8) : run m (c :: l) = ((run (bstep m c).1 l).1, (bstep m c).2 ++ (run (bstep m c).1 l).2.1, (run (bstep m c).1 l).2.2 + 1) := by
  conv => lhs; unfold run
  rw [if_neg (by rw [h]; decide)]
theorem run_append : ∀ (m : M) (a b : List UInt8), run m (a ++ b) = ((run (run m a).1 b).1, (run m a).2.1 ++ (run (run m a).1 b).2.1, (run m a).2.2 + (run (run m a).1 b).2.2)
  | m, [], b => by
    rw [List.nil_append]
    show run m b = ((run m b).1, [] ++ (run m b).2.1, 0 + (run m b).2.2)
    rw [List.nil_append, Nat.zero_add]
  | m, c :: a, b => by
    cases h : stop m
    · rw [List.cons_append, run_cons h, run_cons h, run_append]
      simp only [List.append_assoc]
      congr 2
      omega
    · rw [run_stop h, run_stop h]
      show (m, [], 0) = ((run m b).1, [] ++ (run m b).2.1, 0 + (run m b).2.2)
      rw [run_stop h]
      rfl
theorem run_used (m : M) (l : List UInt8) : (run m l).2.2 ≤ l.length ∧ (run m l).2.1.length ≤ (run m l).2.2 ∧ (stop (run m l).1 = false → (run m l).2.2 = l.length) := by
  induction l generalizing m with
  | nil => exact ⟨Nat.le_refl _, Nat.le_refl _, fun _ => rfl⟩
  | cons c l ih =>
    cases h : stop m
    · rw [run_cons h]
      obtain ⟨h1, h2, h3⟩ := ih (bstep m c).1
      have h4 : (bstep m c).2.length ≤ 1 := by
        unfold bstep
        split <;> simp
      refine ⟨by simpa using h1, ?_, fun hs => ?_⟩
      · rw [List.length_append]
        show _ ≤ (run (bstep m c).1 l).2.2 + 1
        omega
      · show (run (bstep m c).1 l).2.2 + 1 = _
        rw [h3 hs, List.length_cons]
    · rw [run_stop h]
      exact ⟨Nat.zero_le _, Nat.le_refl _, fun hs => by rw [h] at hs; cases hs⟩
/-- the whole is in order -/
structure Ok (m : M) : Prop where
  most : (m.size : Int) ≤ m.most ∨ m.size = 0
  left : ∀ n, m.ph = .data n → 1 ≤ n ∧ (m.size : Int) + n ≤ m.most
  line : m.line.length ≤ 512
  trail : ∀ n, m.ph = .trail n → n ≤ 32
theorem Ok.start (most : Int) : Ok (begin_ most) := ⟨.inr rfl, fun n h => (by cases h), Nat.zero_le _, fun n h => (by cases h)⟩
theorem Ok.fail {m : M} (h : Ok m) (e : Int) : Ok (fail m e) := ⟨h.most, fun n h => (by cases h), Nat.zero_le _, fun n h => (by cases h)⟩
theorem numR_nonneg (base : Nat) (d : Int) (p : List UInt8) : 0 ≤ numR base d p := by
  unfold numR
  split
  · omega
  · exact Int.le_refl 0
theorem Ok.endLine {m : M} (h : Ok m) : Ok (endLine m) := by
  unfold ChunkPure.endLine
  split
  · split
    · exact h.fail _
    · split
      · exact h.fail _
      · split
        · exact ⟨h.most, fun n h => (by cases h), Nat.zero_le _, fun n h => (by cases h; exact Nat.zero_le _)⟩
        · rename_i h1 h2 h3
          refine ⟨h.most, fun n hn => ?_, Nat.zero_le _, fun n h => (by cases h)⟩
          have hn2 : (sizeL m.line).toNat = n := by
            have : Ph.data (sizeL m.line).toNat = Ph.data n := hn
            injection this
          have e : (goOn m (.data (sizeL m.line).toNat)).size = m.size := rfl
          have e2 : (goOn m (.data (sizeL m.line).toNat)).most = m.most := rfl
          rw [e, e2]
          omega
  · exact ⟨h.most, fun n h => (by cases h), Nat.zero_le _, fun n h => (by cases h)⟩
  · rename_i n hp
    split
    · exact ⟨h.most, fun n h => (by cases h), Nat.zero_le _, fun n h => (by cases h)⟩
    · split
      · exact h.fail _
      · rename_i h1 h2
        refine ⟨h.most, fun n h => (by cases h), Nat.zero_le _, fun k hk => ?_⟩
        have hk2 : n + 1 = k := by
          have : Ph.trail (n + 1) = Ph.trail k := hk
          injection this
        have := h.trail n hp
        omega
  · exact h
theorem Ok.lineStep {m : M} (h : Ok m) (c : UInt8) : Ok (lineStep m c) := by
  unfold ChunkPure.lineStep
  split
  · split
    · exact h.endLine
    · exact h.fail _
  · split
    · exact ⟨h.most, h.left, h.line, h.trail⟩
    · split
      rotate_left
      · exact h.fail _
      · rename_i h1 h2 h3
        replace h3 := fits_bound h3
        refine ⟨h.most, h.left, ?_, h.trail⟩
        show (m.line ++ [c]).length ≤ 512
        rw [List.length_append, List.length_singleton]
        have : bound m.ph ≤ 512 := by unfold bound; split <;> omega
        omega
theorem Ok.bstep {m : M} (h : Ok m) (c : UInt8) : Ok (bstep m c).1 := by
  unfold ChunkPure.bstep
  split
  · rename_i left hp
    obtain ⟨h1, h2⟩ := h.left left hp
    refine ⟨.inl (by show ((m.size + 1 : Nat) : Int) ≤ m.most; omega), fun n hn => ?_, h.line, fun n hn => ?_⟩
    · have hn2 : (if left ≤ 1 then Ph.after else Ph.data (left - 1)) = Ph.data n := hn
      by_cases hl : left ≤ 1
      · rw [if_pos hl] at hn2; cases hn2
      · rw [if_neg hl] at hn2
        injection hn2 with hn3
        show 1 ≤ n ∧ ((m.size + 1 : Nat) : Int) + n ≤ m.most
        omega
    · have hn2 : (if left ≤ 1 then Ph.after else Ph.data (left - 1)) = Ph.trail n := hn
      split at hn2 <;> cases hn2
  · exact h
  · exact h
  · exact h.lineStep c
theorem Ok.run {m : M} (h : Ok m) (l : List UInt8) : Ok (run m l).1 := by
  induction l generalizing m with
  | nil => exact h
  | cons c l ih =>
    cases hs : stop m
    · rw [run_cons hs]
      exact ih (h.bstep c)
    · rw [run_stop hs]
      exact h
theorem end_keeps (m : M) : (endLine m).size = m.size ∧ (endLine m).most = m.most := by
  unfold endLine
  split
  · split
    · exact ⟨rfl, rfl⟩
    · split
      · exact ⟨rfl, rfl⟩
      · split <;> exact ⟨rfl, rfl⟩
  · exact ⟨rfl, rfl⟩
  · split
    · exact ⟨rfl, rfl⟩
    · split <;> exact ⟨rfl, rfl⟩
  · exact ⟨rfl, rfl⟩
theorem step_size (m : M) (c : UInt8) : (bstep m c).1.size = m.size + (bstep m c).2.length ∧ (bstep m c).1.most = m.most := by
  unfold bstep
  split
  · exact ⟨rfl, rfl⟩
  · exact ⟨rfl, rfl⟩
  · exact ⟨rfl, rfl⟩
  · unfold lineStep
    split
    · split
      · exact end_keeps m
      · exact ⟨rfl, rfl⟩
    · split
      · exact ⟨rfl, rfl⟩
      · split <;> exact ⟨rfl, rfl⟩
theorem run_size (m : M) (l : List UInt8) : (run m l).1.size = m.size + (run m l).2.1.length ∧ (run m l).1.most = m.most := by
  induction l generalizing m with
  | nil => exact ⟨rfl, rfl⟩
  | cons c l ih =>
    cases hs : stop m
    · rw [run_cons hs]
      obtain ⟨h1, h2⟩ := ih (bstep m c).1
      obtain ⟨h3, h4⟩ := step_size m c
      refine ⟨?_, h2.trans h4⟩
      rw [List.length_append]
      show (run (bstep m c).1 l).1.size = _
      omega
    · rw [run_stop hs]
      exact ⟨rfl, rfl⟩
/-! ### what a call answers -/
/-- the bytes of the body, how many were read, whether it is whole, the error -/
def ans (m : M) (l : List UInt8) : List UInt8 × Nat × Bool × Int :=
  match (run m l).1.ph with
  | .bad e => ([], 0, false, e)
  | .done => ((run m l).2.1, (run m l).2.2, true, 0)
  | _ => ((run m l).2.1, (run m l).2.2, false, 0)
def next (m : M) (l : List UInt8) : M := (run m l).1
theorem ans_used (m : M) (l : List UInt8) : (ans m l).2.1 ≤ l.length ∧ (ans m l).1.length ≤ (ans m l).2.1 ∧ ((ans m l).2.2.2 ≠ 0 → (ans m l).1 = []) := by
  obtain ⟨h1, h2, _⟩ := run_used m l
  unfold ans
  split
  · exact ⟨Nat.zero_le _, Nat.le_refl _, fun _ => rfl⟩
  · exact ⟨h1, h2, fun h => absurd rfl h⟩
  · exact ⟨h1, h2, fun h => absurd rfl h⟩
theorem ans_size (m : M) (l : List UInt8) : m.size + (ans m l).1.length ≤ (next m l).size := by
  have := (run_size m l).1
  unfold ans next
  split
  · show m.size + 0 ≤ _
    omega
  · show m.size + (run m l).2.1.length ≤ _
    omega
  · show m.size + (run m l).2.1.length ≤ _
    omega
/-! ### in whatever pieces -/
/-- no error stands -/
def good (m : M) : Bool :=
  match m.ph with
  | .bad _ => false
  | _ => true
def whole (m : M) : Bool :=
  match m.ph with
  | .done => true
  | _ => false
theorem stop_say (m : M) : stop m = (!good m || whole m) := by
  unfold stop good whole
  split <;> simp_all
theorem ans_good {m : M} {l : List UInt8} (h : good (run m l).1 = true) : ans m l = ((run m l).2.1, (run m l).2.2, whole (run m l).1, 0) := by
  unfold ans whole
  unfold good at h
  split <;> simp_all
theorem ans_bad {m : M} {l : List UInt8} (h : good (run m l).1 = false) : ∃ e, (run m l).1.ph = .bad e ∧ ans m l = ([], 0, false, e) := by
  unfold good at h
  split at h
  · rename_i e he
    refine ⟨e, he, ?_⟩
    unfold ans
    rw [he]
  · cases h
/-- errors have numbers -/
def Told (m : M) : Prop := ∀ e, m.ph = .bad e → e = 100 ∨ e = 101
theorem Told.start (most : Int) : Told (begin_ most) := fun e h => by cases h
theorem told_fail {m : M} {e : Int} (he : e = 100 ∨ e = 101) : Told (fail m e) := fun k h => by
  have : Ph.bad e = Ph.bad k := h
  injection this with h2
  rw [← h2]
  exact he
theorem told_end {m : M} (h : Told m) : Told (endLine m) := by
  unfold endLine
  split
  · split
    · exact told_fail (.inl rfl)
    · split
      · exact told_fail (.inr rfl)
      · split
        · exact fun e he => by cases he
        · exact fun e he => by cases he
  · exact fun e he => by cases he
  · split
    · exact fun e he => by cases he
    · split
      · exact told_fail (.inl rfl)
      · exact fun e he => by cases he
  · exact h
theorem told_step {m : M} (h : Told m) (c : UInt8) : Told (bstep m c).1 := by
  unfold bstep
  split
  · intro e he
    have he2 : (if _ ≤ 1 then Ph.after else Ph.data _) = Ph.bad e := he
    split at he2 <;> cases he2
  · exact h
  · exact h
  · unfold lineStep
    split
    · split
      · exact told_end h
      · exact told_fail (.inl rfl)
    · split
      · exact h
      · split
        · exact h
        · exact told_fail (.inl rfl)
theorem Told.run {m : M} (h : Told m) (l : List UInt8) : Told (run m l).1 := by
  induction l generalizing m with
  | nil => exact h
  | cons c l ih =>
    cases hs : stop m
    · rw [run_cons hs]
      exact ih (told_step h c)
    · rw [run_stop hs]
      exact h
theorem ans_err {m : M} {l : List UInt8} (ht : Told m) : (ans m l).2.2.2 = 0 ↔ good (run m l).1 = true := by
  cases h : good (run m l).1
  · obtain ⟨e, he, ha⟩ := ans_bad h
    rw [ha]
    have := ht.run l e he
    simp
    omega
  · rw [ans_good h]
    simp
theorem next_next (m : M) (a b : List UInt8) : next (next m a) b = next m (a ++ b) := by
  unfold next
  rw [run_append]
theorem piece_bad {m : M} (ht : Told m) {a b d : List UInt8} (h : (ans (next m a) b).2.2.2 ≠ 0) : ans m (a ++ b ++ d) = ([], 0, false, (ans (next m a) b).2.2.2) := by
  have ht2 : Told (next m a) := ht.run a
  have hg : good (run (next m a) b).1 = false := by
    cases q : good (run (next m a) b).1
    · rfl
    · exact absurd ((ans_err ht2).2 q) h
  obtain ⟨e, he, ha⟩ := ans_bad hg
  have h1 : (run m (a ++ b)).1 = (run (next m a) b).1 := by rw [run_append]; rfl
  have hs : stop (run m (a ++ b)).1 = true := by rw [stop_say, h1, hg]; rfl
  have h2 : (run m (a ++ b ++ d)).1 = (run (next m a) b).1 := by
    rw [run_append, run_stop hs, h1]
  rw [ha]
  unfold ans
  rw [h2, he]
theorem piece_ok {m : M} (ht : Told m) {a b : List UInt8} (d : List UInt8) (h : (ans (next m a) b).2.2.2 = 0) :
    good (run m (a ++ b)).1 = true ∧ (run m (a ++ b)).2.1 = (run m a).2.1 ++ (ans (next m a) b).1 ∧ (run m (a ++ b)).2.2 = (run m a).2.2 + (ans (next m a) b).2.1 ∧
      (ans (next m a) b).2.2.1 = ((ans m (a ++ b ++ d)).2.2.1 && decide ((run m (a ++ b)).2.2 = (ans m (a ++ b ++ d)).2.1)) := by
  have ht2 : Told (next m a) := ht.run a
  have hg := (ans_err ht2).1 h
  have h1 : (run m (a ++ b)).1 = (run (next m a) b).1 := by rw [run_append]; rfl
  refine ⟨by rw [h1]; exact hg, by rw [ans_good hg, run_append]; rfl, by rw [ans_good hg, run_append]; rfl, ?_⟩
  rw [show (ans (next m a) b).2.2.1 = whole (run (next m a) b).1 by rw [ans_good hg], ← h1]
  rw [← h1] at hg
  cases hw : whole (run m (a ++ b)).1
  · have hs : stop (run m (a ++ b)).1 = false := by rw [stop_say, hg, hw]; rfl
    cases hr : good (run m (a ++ b ++ d)).1
    · obtain ⟨e, _, ha⟩ := ans_bad hr
      rw [ha]
      rfl
    · rw [ans_good hr]
      cases hw2 : whole (run m (a ++ b ++ d)).1
      · rfl
      · rw [Bool.true_and]
        symm
        rw [decide_eq_false_iff_not]
        intro heq
        have hra := run_append m (a ++ b) d
        have h3 : (run (run m (a ++ b)).1 d).2.2 = 0 := by
          have := congrArg (fun r => r.2.2) hra
          dsimp only at this heq
          omega
        have h4 : (run (run m (a ++ b)).1 d).1 = (run m (a ++ b)).1 := by
          cases d with
          | nil => rfl
          | cons c d =>
            rw [run_cons hs] at h3
            cases h3
        have h5 : (run m (a ++ b ++ d)).1 = (run m (a ++ b)).1 := by rw [hra]; exact h4
        rw [h5, hw] at hw2
        cases hw2
  · have hs : stop (run m (a ++ b)).1 = true := by rw [stop_say, hw, Bool.or_true]
    have h2 : run m (a ++ b ++ d) = run m (a ++ b) := by
      rw [run_append, run_stop hs]
      simp
    have hr : good (run m (a ++ b ++ d)).1 = true := by rw [h2]; exact hg
    rw [ans_good hr, h2, hw]
    simp
end Go.Proofs.YtmlpdhmafmdkcaaGreatDoor.ChunkPure

/- Layer 10: sizes in hexadecimal, and what is written. No program is named. -/
namespace Go.Proofs.YtmlpdhmafmdkcaaGreatDoor.ChunkHex
open Bytes LexPure LexNum HeadPure
set_option maxRecDepth 20000
/-! ### a size in hexadecimal -/
def hexB (n : Nat) : UInt8 := if n < 10 then UInt8.ofNat (48 + n) else UInt8.ofNat (87 + n)
def hexN (n : Nat) : List UInt8 := if _h : n < 16 then [hexB n] else hexN (n / 16) ++ [hexB (n % 16)]
termination_by n
decreasing_by omega
theorem hexN_small {n : Nat} (h : n < 16) : hexN n = [hexB n] := by
  conv => lhs; unfold hexN
  rw [dif_pos h]
theorem hexN_more {n : Nat} (h : ¬ n < 16) : hexN n = hexN (n / 16) ++ [hexB (n % 16)] := by
  conv => lhs; unfold hexN
  rw [dif_neg h]
theorem hexB_say : ∀ n, n < 16 → dig (hexB n) = n ∧ hexB n ≠ 13 ∧ hexB n ≠ 10 ∧ hexB n ≠ 59 := by
  have : ∀ n : Fin 16, dig (hexB n.1) = n.1 ∧ hexB n.1 ≠ 13 ∧ hexB n.1 ≠ 10 ∧ hexB n.1 ≠ 59 := by decide +kernel
  intro n hn
  exact this ⟨n, hn⟩
theorem hexN_ne (n : Nat) : hexN n ≠ [] := by
  by_cases h : n < 16
  · rw [hexN_small h]; simp
  · rw [hexN_more h]; simp
theorem hexN_val (n : Nat) : numV 16 (hexN n) = n := by
  induction n using Nat.strongRecOn with
  | ind n ih =>
    by_cases h : n < 16
    · rw [hexN_small h]
      have := (hexB_say n h).1
      simp [numV, this]
    · rw [hexN_more h, numV_snoc, ih (n / 16) (by omega), (hexB_say (n % 16) (by omega)).1]
      omega
theorem hexN_all (n : Nat) : ∀ c ∈ hexN n, dig c < 16 ∧ c ≠ 13 ∧ c ≠ 10 ∧ c ≠ 59 := by
  induction n using Nat.strongRecOn with
  | ind n ih =>
    intro c hc
    by_cases h : n < 16
    · rw [hexN_small h, List.mem_singleton] at hc
      subst hc
      obtain ⟨h1, h2⟩ := hexB_say n h
      exact ⟨by omega, h2⟩
    · rw [hexN_more h, List.mem_append, List.mem_singleton] at hc
      rcases hc with hc | rfl
      · exact ih (n / 16) (by omega) c hc
      · obtain ⟨h1, h2⟩ := hexB_say (n % 16) (by omega)
        exact ⟨by omega, h2⟩
theorem hexN_len (k : Nat) : ∀ n, n < 16 ^ (k + 1) → (hexN n).length ≤ k + 1 := by
  induction k with
  | zero =>
    intro n h
    rw [hexN_small (by omega)]
    exact Nat.le_refl _
  | succ k ih =>
    intro n h
    by_cases h2 : n < 16
    · rw [hexN_small h2]
      simp
    · rw [hexN_more h2, List.length_append, List.length_singleton]
      have := ih (n / 16) (by rw [Nat.pow_succ] at h; omega)
      omega
def enc (t : List UInt8) : List UInt8 := if t = [] then [] else hexN t.length ++ [13, 10] ++ t ++ [13, 10]
def lastL : List UInt8 := [48, 13, 10, 13, 10]
theorem enc_len (t : List UInt8) (h : t.length < 4294967296) : (enc t).length ≤ 13 * t.length := by
  unfold enc
  by_cases h0 : t = []
  · rw [if_pos h0]
    simp
  · rw [if_neg h0]
    have := List.length_pos_iff.2 h0
    have := hexN_len 7 t.length h
    simp only [List.length_append, List.length_cons, List.length_nil]
    omega
end Go.Proofs.YtmlpdhmafmdkcaaGreatDoor.ChunkHex

/- Layer 8: a head that is written line by line is read back as it is. No program is named. -/
namespace Go.Proofs.YtmlpdhmafmdkcaaGreatDoor.HeadWrit
open LexPure Bytes FieldsPure HeadPure
theorem drop_blanks {b v : List UInt8} (hb : b.all blankB = true) (hv : ∀ c r, v = c :: r → blankB c = false) : (b ++ v).dropWhile blankB = v := by
  induction b with
  | nil => exact dropWhile_id hv
  | cons c b ih =>
    rw [List.all_cons, Bool.and_eq_true] at hb
    rw [List.cons_append, List.dropWhile_cons_of_pos hb.1]
    exact ih hb.2
theorem value_ends {v : List UInt8} (h : value v = true) : (∀ c r, v = c :: r → blankB c = false) ∧ (∀ c r, v.reverse = c :: r → blankB c = false) := by
  unfold value at h
  rw [Bool.and_eq_true, Bool.or_eq_true, Bool.and_eq_true] at h
  constructor
  · intro c r e
    subst e
    rcases h.2 with h2 | h2
    · cases h2
    · simpa using h2.1
  · intro c r e
    have e2 : v = r.reverse ++ [c] := by
      have := congrArg List.reverse e
      rwa [List.reverse_reverse, List.reverse_cons] at this
    rcases h.2 with h2 | h2
    · rw [e2] at h2; simp at h2
    · have := h2.2
      rw [e2] at this
      simpa using this
theorem trim_wrap {b v : List UInt8} (hb : b.all blankB = true) (hv : value v = true) : trim (b ++ v ++ b) = v := by
  obtain ⟨h1, h2⟩ := value_ends hv
  have hb2 : b.reverse.all blankB = true := by rw [List.all_reverse]; exact hb
  unfold trim
  cases v with
  | nil =>
    have e : (b ++ [] ++ b).dropWhile blankB = [] := by
      rw [List.append_nil]
      have := drop_blanks (b := b ++ b) (v := []) (by rw [List.all_append, hb]; rfl) (fun c r e => by cases e)
      rwa [List.append_nil] at this
    rw [e]
    rfl
  | cons c v =>
    have e : (b ++ (c :: v) ++ b).dropWhile blankB = (c :: v) ++ b := by
      rw [List.append_assoc]
      exact drop_blanks hb (fun d r e => by
        rw [List.cons_append] at e
        injection e with e _
        rw [← e]
        exact h1 c v rfl)
    rw [e, List.reverse_append, drop_blanks hb2 h2, List.reverse_reverse]
/-- a field's line, with blanks about the value -/
def wline (b : List UInt8) (f : HField) : List UInt8 := f.1 ++ 58 :: (b ++ f.2 ++ b)
theorem mark_not (c : UInt8) : (markB c = true → c ≠ 58 ∧ c ≠ 10 ∧ c ≠ 13 ∧ c ≠ 32) ∧ (plainB c = true → c ≠ 10 ∧ c ≠ 13) ∧ (blankB c = true → c ≠ 10 ∧ c ≠ 13) ∧ (seenB c = true → c ≠ 10 ∧ c ≠ 13 ∧ c ≠ 32) := by
  have := all_bytes (p := fun c => decide ((markB c = true → c ≠ 58 ∧ c ≠ 10 ∧ c ≠ 13 ∧ c ≠ 32) ∧ (plainB c = true → c ≠ 10 ∧ c ≠ 13) ∧ (blankB c = true → c ≠ 10 ∧ c ≠ 13) ∧ (seenB c = true → c ≠ 10 ∧ c ≠ 13 ∧ c ≠ 32))) (by decide +kernel) c
  exact of_decide_eq_true this
theorem take_until {p : UInt8 → Bool} {l x : List UInt8} {d : UInt8} (hl : ∀ c ∈ l, p c = true) (hd : p d = false) : (l ++ d :: x).takeWhile p = l := by
  rw [List.takeWhile_append_of_pos hl, List.takeWhile_cons_of_neg (by rw [hd]; decide), List.append_nil]
theorem field_line {b : List UInt8} {f : HField} (hb : b.all blankB = true) (ht : token f.1 = true) (hv : value f.2 = true) : field8 (wline b f) = (f, 0) := by
  have hm : ∀ c ∈ f.1, markB c = true := by
    unfold token at ht
    rw [Bool.and_eq_true] at ht
    exact List.all_eq_true.1 ht.1
  have e1 : nameB (wline b f) = f.1 := take_until (fun c hc => by
    have := ((mark_not c).1 (hm c hc)).1
    simpa using this) (by decide)
  have e2 : (wline b f).drop (f.1.length + 1) = b ++ f.2 ++ b := by
    unfold wline
    rw [← List.drop_drop, List.drop_left]
    rfl
  unfold field8
  rw [e1, e2, trim_wrap hb hv, if_pos ⟨by unfold wline; simp, ht, hv⟩]
theorem line_bare {b : List UInt8} {f : HField} (hb : b.all blankB = true) (ht : token f.1 = true) (hv : value f.2 = true) : ∀ c ∈ wline b f, c ≠ 10 ∧ c ≠ 13 := by
  intro c hc
  have hm : ∀ c ∈ f.1, markB c = true := by
    unfold token at ht
    rw [Bool.and_eq_true] at ht
    exact List.all_eq_true.1 ht.1
  have hp : ∀ c ∈ f.2, plainB c = true := by
    unfold value at hv
    rw [Bool.and_eq_true] at hv
    exact List.all_eq_true.1 hv.1
  have hbb : ∀ c ∈ b, blankB c = true := List.all_eq_true.1 hb
  unfold wline at hc
  simp only [List.mem_append, List.mem_cons] at hc
  rcases hc with h | rfl | (h | h) | h
  · exact ⟨((mark_not c).1 (hm c h)).2.1, ((mark_not c).1 (hm c h)).2.2.1⟩
  · decide
  · exact (mark_not c).2.2.1 (hbb c h)
  · exact (mark_not c).2.1 (hp c h)
  · exact (mark_not c).2.2.1 (hbb c h)
def wlines (b : List UInt8) (l : List HField) : List UInt8 := l.flatMap (fun f => wline b f ++ [13, 10])
theorem wlines_snoc (b : List UInt8) (l : List HField) (f : HField) : wlines b (l ++ [f]) = wlines b l ++ (wline b f ++ [13, 10]) := by simp [wlines]
theorem fields_written (h : H8) {b : List UInt8} (hb : b.all blankB = true) (hbl : b.length ≤ 10) : ∀ (l : List HField) (m : Nat) (acc : List HField) (a : Nat), l.length ≤ m → (∀ f ∈ l, token f.1 = true ∧ value f.2 = true ∧ f.1.length + f.2.length ≤ 490) →
    fields8 h m acc a (wlines b l ++ [13, 10]) = .done { h with fields := acc ++ l } (a + (wlines b l).length + 2)
  | [], m, acc, a, _, _ => by
    unfold fields8
    rw [show wlines b [] ++ [13, 10] = [] ++ 13 :: 10 :: [] from rfl, scan_line 512 83 [] [] 0 (fun c hc => by cases hc) (.inl rfl)]
    simp [wlines]
  | f :: l, m, acc, a, hm, hf => by
    obtain ⟨ht, hv, hn⟩ := hf f List.mem_cons_self
    match m, hm with
    | m + 1, hm =>
      unfold fields8
      have e : wlines b (f :: l) ++ [13, 10] = wline b f ++ 13 :: 10 :: (wlines b l ++ [13, 10]) := by simp [wlines]
      have hlen : (wline b f).length ≤ 512 ∧ 0 < (wline b f).length := by unfold wline; simp; omega
      rw [e, scan_line 512 83 _ (wline b f) 0 (line_bare hb ht hv) (.inr (by omega))]
      simp only [Nat.zero_add]
      rw [if_neg (by omega)]
      have e3 : (wline b f ++ 13 :: 10 :: (wlines b l ++ [13, 10])).take (wline b f).length = wline b f := List.take_left
      have e4 : (wline b f ++ 13 :: 10 :: (wlines b l ++ [13, 10])).drop ((wline b f).length + 2) = wlines b l ++ [13, 10] := by
        rw [← List.drop_drop, List.drop_left]
        rfl
      rw [e3, e4, field_line hb ht hv, if_pos rfl, fields_written h hb hbl l m _ _ (by simpa using hm) (fun g hg => hf g (List.mem_cons_of_mem _ hg))]
      rw [List.append_assoc]
      congr 1
      have : (wlines b (f :: l)).length = (wline b f).length + 2 + (wlines b l).length := by simp [wlines]; omega
      omega
def HTTP11 : List UInt8 := [32, 72, 84, 84, 80, 47, 49, 46, 49]
/-- a head, as it is written -/
def wrote (m t b : List UInt8) (l : List HField) : List UInt8 := m ++ 32 :: t ++ HTTP11 ++ [13, 10] ++ wlines b l
theorem token_marks {m : List UInt8} (h : token m = true) : (∀ c ∈ m, markB c = true) ∧ 0 < m.length := by
  unfold token at h
  rw [Bool.and_eq_true] at h
  refine ⟨List.all_eq_true.1 h.1, ?_⟩
  cases m with
  | nil => simp at h
  | cons => simp
theorem read_written {m t b : List UInt8} {l : List HField} (hm : token m = true) (hml : m.length ≤ 16) (ht : t.all seenB = true) (ht0 : 0 < t.length) (htl : t.length ≤ 1024) (hb : b.all blankB = true) (hbl : b.length ≤ 10)
    (hl : l.length ≤ 32) (hf : ∀ f ∈ l, token f.1 = true ∧ value f.2 = true ∧ f.1.length + f.2.length ≤ 490) :
    read8 false (wrote m t b l ++ [13, 10]) = .done ⟨m, t, 0, [], 1, l⟩ ((wrote m t b l).length + 2) := by
  obtain ⟨hmm, hm0⟩ := token_marks hm
  have hts : ∀ c ∈ t, seenB c = true := List.all_eq_true.1 ht
  have e0 : wrote m t b l ++ [13, 10] = (m ++ 32 :: (t ++ HTTP11)) ++ 13 :: 10 :: (wlines b l ++ [13, 10]) := by unfold wrote; simp
  have hsk : skip8 (wrote m t b l ++ [13, 10]) = 0 := by
    rw [e0]
    cases m with
    | nil => simp at hm0
    | cons c m =>
      have hc := ((mark_not c).1 (hmm c List.mem_cons_self)).2.2.1
      cases hx : m ++ 32 :: (t ++ HTTP11) ++ 13 :: 10 :: (wlines b l ++ [13, 10]) with
      | nil => simp at hx
      | cons d x =>
        rw [List.cons_append, List.cons_append, hx, skip8, if_neg (fun h => hc h.1)]
  have hbare : ∀ c ∈ m ++ 32 :: (t ++ HTTP11), c ≠ 10 ∧ c ≠ 13 := by
    intro c hc
    simp only [List.mem_append, List.mem_cons] at hc
    rcases hc with h | rfl | h | h
    · exact ⟨((mark_not c).1 (hmm c h)).2.1, ((mark_not c).1 (hmm c h)).2.2.1⟩
    · decide
    · exact ⟨((mark_not c).2.2.2 (hts c h)).1, ((mark_not c).2.2.2 (hts c h)).2.1⟩
    · unfold HTTP11 at h
      simp only [List.mem_cons, List.not_mem_nil, or_false] at h
      rcases h with rfl | rfl | rfl | rfl | rfl | rfl | rfl | rfl | rfl <;> decide
  have hlen : (m ++ 32 :: (t ++ HTTP11)).length = m.length + t.length + 10 := by simp [HTTP11]; omega
  have hst : start8 (m ++ 32 :: (t ++ HTTP11)) = (⟨m, t, 0, [], 1, []⟩, 0) := by
    have u1 : upB (m ++ 32 :: (t ++ HTTP11)) = m := take_until (fun c hc => by
      have := ((mark_not c).1 (hmm c hc)).2.2.2
      simpa using this) (by decide)
    have d1 : (m ++ 32 :: (t ++ HTTP11)).drop (m.length + 1) = t ++ HTTP11 := by
      rw [← List.drop_drop, List.drop_left]
      rfl
    have u2 : upB (t ++ HTTP11) = t := take_until (x := [72, 84, 84, 80, 47, 49, 46, 49]) (fun c hc => by
      have := ((mark_not c).2.2.2 (hts c hc)).2.2
      simpa using this) (by decide)
    have d2 : (t ++ HTTP11).drop (t.length + 1) = [72, 84, 84, 80, 47, 49, 46, 49] := by
      rw [← List.drop_drop, List.drop_left]
      rfl
    unfold start8
    rw [u1, d1, if_pos ⟨by simp, hml, hm⟩]
    simp only [u2, d2]
    rw [if_pos ⟨by simp [HTTP11], ht0, ht⟩]
    rfl
  unfold read8 skipOf
  simp only [Bool.false_eq_true, if_false]
  rw [hsk, List.drop_zero, e0]
  unfold from8
  rw [scan_line 1100 82 _ _ 0 hbare (.inr (by omega))]
  simp only [Nat.zero_add, Bool.false_eq_true, if_false]
  have e3 : ((m ++ 32 :: (t ++ HTTP11)) ++ 13 :: 10 :: (wlines b l ++ [13, 10])).take (m ++ 32 :: (t ++ HTTP11)).length = m ++ 32 :: (t ++ HTTP11) := List.take_left
  have e4 : ((m ++ 32 :: (t ++ HTTP11)) ++ 13 :: 10 :: (wlines b l ++ [13, 10])).drop ((m ++ 32 :: (t ++ HTTP11)).length + 2) = wlines b l ++ [13, 10] := by
    rw [← List.drop_drop, List.drop_left]
    rfl
  rw [e3, e4, hst, if_pos rfl, fields_written _ hb hbl l 32 [] _ hl hf]
  have hw : (wrote m t b l).length = (m ++ 32 :: (t ++ HTTP11)).length + 2 + (wlines b l).length := by unfold wrote; simp; omega
  rw [List.nil_append]
  congr 1
  omega
end Go.Proofs.YtmlpdhmafmdkcaaGreatDoor.HeadWrit

/- Layer 10: what is written is read back. No program is named. -/
namespace Go.Proofs.YtmlpdhmafmdkcaaGreatDoor.ChunkText
open Bytes LexPure LexNum HeadPure HeadWrit ChunkPure ChunkHex
set_option maxRecDepth 20000
/-! ### lines -/
/-- a line may be read here -/
def lineP (m : M) : Prop := (m.ph = .size ∨ m.ph = .after ∨ ∃ n, m.ph = .trail n) ∧ m.cr = false
def plainL (l : List UInt8) : Prop := ∀ c ∈ l, c ≠ 13 ∧ c ≠ 10
theorem line_step {m : M} (h : m.ph = .size ∨ m.ph = .after ∨ ∃ n, m.ph = .trail n) (c : UInt8) : bstep m c = (lineStep m c, []) ∧ stop m = false := by
  rcases h with h | h | ⟨n, h⟩ <;> (unfold bstep stop; rw [h]; exact ⟨rfl, rfl⟩)
/-- each byte of l may stand where it stands, behind acc -/
def fitL (ph : Ph) : List UInt8 → List UInt8 → Bool
  | _, [] => true
  | acc, c :: l => fits ph acc c && fitL ph (acc ++ [c]) l
theorem fitL_append (ph : Ph) : ∀ (a acc b : List UInt8), fitL ph acc (a ++ b) = (fitL ph acc a && fitL ph (acc ++ a) b)
  | [], acc, b => by simp [fitL]
  | c :: a, acc, b => by
    show (fits ph acc c && fitL ph (acc ++ [c]) (a ++ b)) = ((fits ph acc c && fitL ph (acc ++ [c]) a) && fitL ph (acc ++ c :: a) b)
    rw [fitL_append ph a (acc ++ [c]) b, Bool.and_assoc, List.append_assoc]
    rfl
theorem run_line : ∀ (l : List UInt8) (m : M), lineP m → plainL l → fitL m.ph m.line l = true → run m l = ({ m with line := m.line ++ l }, [], l.length)
  | [], m, _, _, _ => by
    show (m, [], 0) = _
    simp
  | c :: l, m, h, hp, hb => by
    obtain ⟨h1, h2⟩ := line_step h.1 c
    obtain ⟨q1, q2⟩ := hp c List.mem_cons_self
    unfold fitL at hb
    rw [Bool.and_eq_true] at hb
    have hs : lineStep m c = { m with line := m.line ++ [c] } := by
      unfold lineStep
      rw [if_neg (by rw [h.2]; decide), if_neg q1, if_pos hb.1]
    rw [run_cons h2, h1, hs]
    have ih := run_line l { m with line := m.line ++ [c] } ⟨h.1, h.2⟩ (fun x hx => hp x (List.mem_cons_of_mem _ hx)) hb.2
    rw [ih]
    simp
theorem run_end {m : M} (h : lineP m) (hl : endLine { m with cr := true } = endLine m) : run m [13, 10] = (endLine m, [], 2) := by
  obtain ⟨h1, h2⟩ := line_step h.1 13
  have hs : lineStep m 13 = { m with cr := true } := by
    unfold lineStep
    rw [if_neg (by rw [h.2]; decide), if_pos rfl]
  rw [run_cons h2, h1, hs]
  obtain ⟨h3, h4⟩ := line_step (m := { m with cr := true }) h.1 10
  have hs2 : lineStep { m with cr := true } 10 = endLine m := by
    unfold lineStep
    rw [if_pos rfl, if_pos rfl]
    exact hl
  rw [run_cons h4, h3, hs2]
  rfl
theorem end_cr {m : M} (h : m.ph = .size ∨ m.ph = .after ∨ ∃ n, m.ph = .trail n) : endLine { m with cr := true } = endLine m := by
  rcases h with h | h | ⟨n, h⟩ <;> (unfold endLine; simp only [h]; rfl)
/-- a whole line -/
theorem run_whole {m : M} (h : lineP m) {l : List UInt8} (hl : plainL l) (h0 : m.line = []) (hb : fitL m.ph [] l = true) : run m (l ++ [13, 10]) = (endLine { m with line := l }, [], l.length + 2) := by
  have e : { m with line := m.line ++ l } = { m with line := l } := by rw [h0, List.nil_append]
  rw [run_append, run_line l m h hl (by rw [h0]; exact hb), e]
  have h2 : lineP { m with line := l } := ⟨h.1, h.2⟩
  rw [run_end h2 (end_cr h2.1)]
  rfl
theorem run_data : ∀ (l : List UInt8) (m : M), m.ph = .data l.length → l ≠ [] → run m l = (⟨m.most, m.size + l.length, .after, m.line, m.cr⟩, l, l.length)
  | [], m, _, h => absurd rfl h
  | [c], m, hp, _ => by
    have hs : stop m = false := by unfold stop; rw [hp]
    rw [run_cons hs]
    have : bstep m c = (⟨m.most, m.size + 1, .after, m.line, m.cr⟩, [c]) := by
      unfold bstep
      rw [hp]
      rfl
    rw [this]
    rfl
  | c :: d :: l, m, hp, _ => by
    have hs : stop m = false := by unfold stop; rw [hp]
    rw [run_cons hs]
    have h1 : bstep m c = (⟨m.most, m.size + 1, .data (d :: l).length, m.line, m.cr⟩, [c]) := by
      unfold bstep
      rw [hp]
      show ((⟨m.most, m.size + 1, if (c :: d :: l).length ≤ 1 then Ph.after else Ph.data ((c :: d :: l).length - 1), m.line, m.cr⟩ : M), [c]) = _
      rw [if_neg (by simp)]
      rfl
    rw [h1]
    have ih := run_data (d :: l) ⟨m.most, m.size + 1, .data (d :: l).length, m.line, m.cr⟩ rfl (by simp)
    rw [ih]
    simp only [List.length_cons]
    congr 2
    omega
/-- between chunks -/
def at_ (most : Int) (n : Nat) : M := ⟨most, n, .size, [], false⟩
theorem at_line (most : Int) (n : Nat) : lineP (at_ most n) := ⟨.inl rfl, rfl⟩
/-- a chunk: its size line, its bytes, its end -/
theorem run_chunk {most : Int} {n : Nat} {L t : List UInt8} (hL : plainL L) (hb : fitL .size [] L = true) (hs : sizeL L = t.length) (ht : t ≠ []) (hm : (n : Int) + t.length ≤ most) :
    run (at_ most n) (L ++ [13, 10] ++ t ++ [13, 10]) = (at_ most (n + t.length), t, (L ++ [13, 10] ++ t ++ [13, 10]).length) := by
  have h0 : 0 < t.length := List.length_pos_iff.2 ht
  have h1 := run_whole (at_line most n) hL rfl hb
  have e1 : endLine { at_ most n with line := L } = ⟨most, n, .data t.length, [], false⟩ := by
    unfold endLine at_ goOn
    simp only [hs]
    rw [if_neg (by omega), if_neg (by omega), if_neg (by omega)]
    simp
  rw [e1] at h1
  have h2 := run_data t ⟨most, n, .data t.length, [], false⟩ rfl ht
  have h3 : run ⟨most, n + t.length, .after, [], false⟩ [13, 10] = (at_ most (n + t.length), [], 2) := by
    rw [run_end ⟨.inr (.inl rfl), rfl⟩ rfl]
    rfl
  rw [run_append, run_append, h1]
  simp only
  rw [h2]
  simp only
  rw [h3]
  have e : (L ++ [13, 10] ++ t ++ [13, 10]).length = L.length + 2 + t.length + 2 := by simp only [List.length_append, List.length_cons, List.length_nil]
  rw [e]
  simp
/-- a chunk that is too much -/
theorem run_over {most : Int} {n : Nat} {L t x : List UInt8} (hL : plainL L) (hb : fitL .size [] L = true) (hs : sizeL L = t.length) (ht : t ≠ []) (hm : most < (n : Int) + t.length) :
    (run (at_ most n) (L ++ [13, 10] ++ x)).1.ph = .bad 101 := by
  have h0 : 0 < t.length := List.length_pos_iff.2 ht
  have h1 := run_whole (at_line most n) hL rfl hb
  have e1 : endLine { at_ most n with line := L } = ⟨most, n, .bad 101, [], false⟩ := by
    unfold endLine at_ fail
    simp only [hs]
    rw [if_neg (by omega), if_pos (by omega)]
  rw [e1] at h1
  rw [run_append, h1, run_stop rfl]
/-! ### written texts -/
theorem size_hex {n : Nat} {z e : List UInt8} (hz : ∀ c ∈ z, c = 48) (he : e = [] ∨ ∃ r, e = 59 :: r) (hl : z.length + (hexN n).length ≤ 8) : sizeL (z ++ hexN n ++ e) = n := by
  have hno : ∀ c ∈ z ++ hexN n, (c != 59) = true := by
    intro c hc
    rw [List.mem_append] at hc
    rcases hc with hc | hc
    · rw [hz c hc]; decide
    · exact bne_iff_ne.2 (hexN_all n c hc).2.2.2
  have htk : (z ++ hexN n ++ e).takeWhile (fun c => c != 59) = z ++ hexN n := by
    rw [List.takeWhile_append_of_pos hno]
    rcases he with rfl | ⟨r, rfl⟩
    · simp
    · rw [List.takeWhile_cons_of_neg (by decide)]
      simp
  have hne := hexN_ne n
  have hok : numOk 16 8 (z ++ hexN n) = true := by
    unfold numOk
    have h1 : (z ++ hexN n).isEmpty = false := by
      cases h : z ++ hexN n with
      | nil => exact absurd (List.append_eq_nil_iff.1 h).2 hne
      | cons => rfl
    have h2 : (((z ++ hexN n).length : Nat) : Int) ≤ 8 := by rw [List.length_append]; omega
    have h3 : (z ++ hexN n).all (fun c => decide (dig c < 16)) = true := by
      rw [List.all_eq_true]
      intro c hc
      rw [List.mem_append] at hc
      rcases hc with hc | hc
      · rw [hz c hc]; decide
      · exact decide_eq_true (hexN_all n c hc).1
    rw [h1, decide_eq_true h2, h3]
    rfl
  unfold sizeL
  rw [htk, if_pos hok]
  unfold numR
  rw [if_pos hok]
  have hv : numV 16 (z ++ hexN n) = n := by
    have h0 : ∀ z : List UInt8, (∀ c ∈ z, c = 48) → z.foldl (fun n c => 16 * n + dig c) 0 = 0 := by
      intro z
      induction z with
      | nil => intro _; rfl
      | cons c z ih =>
        intro h
        rw [List.foldl_cons, h c List.mem_cons_self]
        exact ih (fun x hx => h x (List.mem_cons_of_mem _ hx))
    unfold numV
    rw [List.foldl_append, h0 z hz]
    exact hexN_val n
  rw [hv]
theorem dig_no : ∀ c : UInt8, dig c < 16 → c ≠ 59 ∧ c ≠ 58 := by
  intro c h
  have := all_bytes (p := fun c => !decide (dig c < 16) || decide (c ≠ 59 ∧ c ≠ 58)) (by decide +kernel) c
  rw [decide_eq_true h] at this
  simpa using this
theorem parted_digits {l : List UInt8} (h : ∀ c ∈ l, dig c < 16) : parted l = false := by
  unfold parted
  rw [List.any_eq_false]
  intro c hc
  obtain ⟨h1, h2⟩ := dig_no c (h c hc)
  simp [h1, h2]
/-- digits behind digits -/
theorem fit_digits : ∀ (l acc : List UInt8), (∀ c ∈ acc, dig c < 16) → (∀ c ∈ l, dig c < 16) → acc.length + l.length ≤ 8 → fitL .size acc l = true
  | [], _, _, _, _ => rfl
  | c :: l, acc, ha, hl, hn => by
    rw [List.length_cons] at hn
    have hc := hl c List.mem_cons_self
    unfold fitL
    rw [Bool.and_eq_true]
    refine ⟨?_, fit_digits l (acc ++ [c]) ?_ (fun x hx => hl x (List.mem_cons_of_mem _ hx)) (by rw [List.length_append, List.length_singleton]; omega)⟩
    · unfold fits fitsSize
      simp only
      rw [parted_digits ha, if_neg (by decide), if_neg (dig_no c hc).1, decide_eq_true hc, decide_eq_true (show acc.length < 8 by omega), decide_eq_true (show acc.length < 64 by omega)]
      rfl
    · intro x hx
      rcases List.mem_append.1 hx with hx | hx
      · exact ha x hx
      · rw [List.mem_singleton] at hx
        rw [hx]; exact hc
/-- an extension behind its semicolon -/
theorem fit_ext : ∀ (l acc : List UInt8), parted acc = true → l.all extB = true → acc.length + l.length ≤ 64 → fitL .size acc l = true
  | [], _, _, _, _ => rfl
  | c :: l, acc, ha, hl, hn => by
    rw [List.length_cons] at hn
    rw [List.all_cons, Bool.and_eq_true] at hl
    unfold fitL
    rw [Bool.and_eq_true]
    refine ⟨?_, fit_ext l (acc ++ [c]) ?_ hl.2 (by rw [List.length_append, List.length_singleton]; omega)⟩
    · unfold fits fitsSize
      simp only
      rw [if_pos ha, hl.1, decide_eq_true (show acc.length < 64 by omega)]
      rfl
    · unfold parted at ha ⊢
      rw [List.any_append, ha]
      rfl
/-- a value behind its colon -/
theorem fit_value (n : Nat) : ∀ (l acc : List UInt8), parted acc = true → l.all plainB = true → acc.length + l.length ≤ 512 → fitL (.trail n) acc l = true
  | [], _, _, _, _ => rfl
  | c :: l, acc, ha, hl, hn => by
    rw [List.length_cons] at hn
    rw [List.all_cons, Bool.and_eq_true] at hl
    unfold fitL
    rw [Bool.and_eq_true]
    refine ⟨?_, fit_value n l (acc ++ [c]) ?_ hl.2 (by rw [List.length_append, List.length_singleton]; omega)⟩
    · unfold fits fitsTrail
      simp only
      rw [if_pos ha, hl.1, decide_eq_true (show acc.length < 512 by omega)]
      rfl
    · unfold parted at ha ⊢
      rw [List.any_append, ha]
      rfl
/-- a size line: noughts, a size, an extension -/
theorem fit_size {n : Nat} {z e : List UInt8} (hz : ∀ c ∈ z, c = 48) (he : e = [] ∨ ∃ r, e = 59 :: r ∧ r.all extB = true) (hl : z.length + (hexN n).length ≤ 8) (he40 : e.length ≤ 50) : fitL .size [] (z ++ hexN n ++ e) = true := by
  have hd : ∀ c ∈ z ++ hexN n, dig c < 16 := by
    intro c hc
    rcases List.mem_append.1 hc with hc | hc
    · rw [hz c hc]; decide
    · exact (hexN_all n c hc).1
  have hln : (z ++ hexN n).length ≤ 8 := by rw [List.length_append]; exact hl
  rw [fitL_append, fit_digits _ [] (fun c hc => by cases hc) hd (by simpa using hln), Bool.true_and, List.nil_append]
  rcases he with rfl | ⟨r, rfl, hr⟩
  · rfl
  · unfold fitL
    rw [List.length_cons] at he40
    rw [Bool.and_eq_true]
    refine ⟨?_, fit_ext r _ (by unfold parted; rw [List.any_append]; simp) hr (by rw [List.length_append, List.length_singleton]; omega)⟩
    have hne : (z ++ hexN n).isEmpty = false := by
      cases h : z ++ hexN n with
      | nil => exact absurd (List.append_eq_nil_iff.1 h).2 (hexN_ne n)
      | cons => rfl
    unfold fits fitsSize
    simp only
    rw [parted_digits hd, if_neg (by decide), if_pos trivial, hne, decide_eq_true (show (z ++ hexN n).length < 64 by omega)]
    rfl
theorem hex_plain (n : Nat) : plainL (hexN n) := fun c hc => ⟨(hexN_all n c hc).2.1, (hexN_all n c hc).2.2.1⟩
theorem hex_size {n : Nat} (h : n < 4294967296) : sizeL (hexN n) = n ∧ fitL .size [] (hexN n) = true := by
  have hl := hexN_len 7 n h
  have h1 := size_hex (n := n) (z := []) (e := []) (fun c hc => by cases hc) (.inl rfl) (by simpa using hl)
  have h2 := fit_size (n := n) (z := []) (e := []) (fun c hc => by cases hc) (.inl rfl) (by simpa using hl) (Nat.zero_le _)
  simp only [List.nil_append, List.append_nil] at h1 h2
  exact ⟨h1, h2⟩
theorem run_enc {most : Int} {n : Nat} {t : List UInt8} (h : t.length < 4294967296) (hm : (n : Int) + t.length ≤ most ∨ t = []) : run (at_ most n) (enc t) = (at_ most (n + t.length), t, (enc t).length) := by
  unfold enc
  by_cases h0 : t = []
  · subst h0
    rfl
  · rw [if_neg h0]
    obtain ⟨h1, h2⟩ := hex_size h
    exact run_chunk (hex_plain _) h2 h1 h0 (by rcases hm with h | h; exact h; exact absurd h h0)
/-- many texts, one behind another -/
theorem run_many : ∀ (T : List (List UInt8)) (most : Int) (n : Nat), (∀ t ∈ T, t.length < 4294967296) → ((n : Int) + T.flatten.length ≤ most ∨ T.flatten = []) → run (at_ most n) (T.flatMap enc) = (at_ most (n + T.flatten.length), T.flatten, (T.flatMap enc).length)
  | [], most, n, _, _ => rfl
  | t :: T, most, n, h, hm => by
    rw [List.flatMap_cons, List.flatten_cons, run_append]
    rw [List.flatten_cons] at hm
    have ht := h t List.mem_cons_self
    have h1 : (n : Int) + t.length ≤ most ∨ t = [] := by
      rcases hm with hm | hm
      · rw [List.length_append] at hm
        left
        omega
      · exact .inr (List.append_eq_nil_iff.1 hm).1
    rw [run_enc ht h1]
    have h2 : ((n + t.length : Nat) : Int) + T.flatten.length ≤ most ∨ T.flatten = [] := by
      rcases hm with hm | hm
      · rw [List.length_append] at hm
        left
        omega
      · exact .inr (List.append_eq_nil_iff.1 hm).2
    have ih := run_many T most (n + t.length) (fun x hx => h x (List.mem_cons_of_mem _ hx)) h2
    simp only
    rw [ih]
    simp only [List.length_append]
    rw [Nat.add_assoc]
theorem run_last {most : Int} {n : Nat} (hm : (n : Int) ≤ most) (x : List UInt8) : run (at_ most n) (lastL ++ x) = (⟨most, n, .done, [], false⟩, [], 5) := by
  have h1 : run (at_ most n) [48, 13, 10] = (⟨most, n, .trail 0, [], false⟩, [], 3) := by
    have := run_whole (at_line most n) (l := [48]) (by intro c hc; rw [List.mem_singleton] at hc; subst hc; decide) rfl (show fitL .size [] [48] = true by decide)
    rw [show ([48] : List UInt8) ++ [13, 10] = [48, 13, 10] from rfl] at this
    rw [this]
    have hs : sizeL [48] = 0 := by decide
    unfold endLine at_ goOn
    simp only [hs]
    rw [if_neg (by decide), if_neg (by omega), if_pos trivial]
    rfl
  have h2 : run ⟨most, n, .trail 0, [], false⟩ [13, 10] = (⟨most, n, .done, [], false⟩, [], 2) := by
    rw [run_end ⟨.inr (.inr ⟨0, rfl⟩), rfl⟩ rfl]
    rfl
  rw [show lastL ++ x = [48, 13, 10] ++ ([13, 10] ++ x) from rfl, run_append, h1]
  simp only
  rw [run_append, h2]
  simp only
  rw [run_stop rfl]
  rfl
/-- ChunkBack: all is read back -/
theorem back_say (T : List (List UInt8)) (x : List UInt8) (h : ∀ t ∈ T, t.length < 4294967296) : ans (begin_ T.flatten.length) (T.flatMap enc ++ lastL ++ x) = (T.flatten, (T.flatMap enc ++ lastL).length, true, 0) := by
  have h1 := run_many T T.flatten.length 0 h (.inl (by omega))
  have h2 : run (begin_ T.flatten.length) (T.flatMap enc ++ lastL ++ x) = (⟨T.flatten.length, T.flatten.length, .done, [], false⟩, T.flatten, (T.flatMap enc ++ lastL).length) := by
    rw [List.append_assoc, run_append]
    rw [show begin_ T.flatten.length = at_ T.flatten.length 0 from rfl, h1]
    simp only
    rw [run_last (by omega)]
    simp [lastL]
  unfold ans
  rw [h2]
theorem back_over : ∀ (T : List (List UInt8)) (most : Int) (n : Nat) (x : List UInt8), (∀ t ∈ T, t.length < 4294967296) → (n : Int) ≤ most → most < (n : Int) + T.flatten.length → (run (at_ most n) (T.flatMap enc ++ x)).1.ph = .bad 101
  | [], most, n, x, _, h1, h2 => by
    exfalso
    simp at h2
    omega
  | t :: T, most, n, x, h, h1, h2 => by
    rw [List.flatten_cons, List.length_append] at h2
    rw [List.flatMap_cons, List.append_assoc]
    have ht := h t List.mem_cons_self
    by_cases h0 : t = []
    · subst h0
      exact back_over T most n x (fun y hy => h y (List.mem_cons_of_mem _ hy)) h1 (by simpa using h2)
    · by_cases hm : (n : Int) + t.length ≤ most
      · rw [run_append, run_enc ht (.inl hm)]
        exact back_over T most (n + t.length) x (fun y hy => h y (List.mem_cons_of_mem _ hy)) (by omega) (by omega)
      · obtain ⟨q1, q2⟩ := hex_size ht
        have e : enc t = hexN t.length ++ [13, 10] ++ t ++ [13, 10] := by unfold enc; rw [if_neg h0]
        rw [e]
        have := run_over (x := t ++ [13, 10] ++ (T.flatMap enc ++ x)) (hex_plain t.length) q2 q1 h0 (show most < (n : Int) + t.length by omega)
        simpa using this
theorem over_say (T : List (List UInt8)) (x : List UInt8) (h : ∀ t ∈ T, t.length < 4294967296) (hne : 0 < T.flatten.length) : (ans (begin_ ((T.flatten.length : Int) - 1)) (T.flatMap enc ++ x)).2.2.2 = 101 := by
  have := back_over T ((T.flatten.length : Int) - 1) 0 x h (by omega) (by omega)
  unfold ans
  rw [show begin_ ((T.flatten.length : Int) - 1) = at_ ((T.flatten.length : Int) - 1) 0 from rfl, this]
end Go.Proofs.YtmlpdhmafmdkcaaGreatDoor.ChunkText

/- Rows of bytes and of texts that a call owns. No program is named. -/
namespace Go.Proofs.YtmlpdhmafmdkcaaGreatDoor.Rows1
open Bytes Go.RowKit

def bv (c : UInt8) : Value := .int .u8 (c.toNat : Int)
def bvs (l : List UInt8) : List Value := l.map bv
theorem bvs_length (l : List UInt8) : (bvs l).length = l.length := by simp [bvs]
theorem bvs_append (l m : List UInt8) : bvs (l ++ m) = bvs l ++ bvs m := by simp [bvs]
/-- how a row's value looks -/
theorem row_form {w : World} {base n size : Nat} {e : TypeId} {v : Value} {xs : List Value} (h : w.ownsRow base e size v n xs) : ∃ p cap, v = .slice p n cap ∧ (0 < n → ∃ g, p = some ⟨g, 0, none⟩ ∧ v.ownBlock = some g) := by
  rcases h.2 with ⟨hv, hn⟩ | ⟨g, cap, cur, hv, _⟩
  · exact ⟨none, 0, by rw [hv, hn], fun h0 => by omega⟩
  · exact ⟨_, cap, hv, fun _ => ⟨g, rfl, by rw [hv]; rfl⟩⟩
/-- a row of one-cell elements: how it looks, and its cells -/
theorem row_cells {w : World} {base n : Nat} {e : TypeId} {v : Value} {xs : List Value} (h : w.ownsRow base e 1 v n xs) : ∃ p cap, v = .slice p n cap ∧ n ≤ cap ∧ (0 < n → ∃ g, p = some ⟨g, 0, none⟩ ∧ base ≤ g ∧ g < w.heap.size ∧ v.ownBlock = some g ∧ ∀ j, j < n → w.cell? ⟨g, j, none⟩ = xs[j]?) := by
  rcases h.2 with ⟨hv, hn⟩ | ⟨g, cap, cur, hv, hb, hg, hcap, rest⟩
  · exact ⟨none, 0, by rw [hv, hn], by omega, fun h0 => by omega⟩
  · refine ⟨_, cap, hv, hcap, fun _ => ⟨g, rfl, hb, (Array.getElem?_eq_some_iff.1 hg).1, by rw [hv]; rfl, fun j hj => ?_⟩⟩
    have hl : j < xs.length := by have := h.1; omega
    have := h.cells (g := g) (by rw [hv]; rfl) j xs[j] (List.getElem?_eq_getElem hl)
    rw [List.getElem?_eq_getElem hl]
    have e : (⟨g, 0, none⟩ : Addr).add j = ⟨g, j, none⟩ := by unfold Addr.add; split <;> simp_all
    rwa [e] at this
/-- the beginning of a row -/
theorem row_cut {w : World} {base n m cap : Nat} {e : TypeId} {p : Option Addr} {xs : List Value} (h : w.ownsRow base e 1 (.slice p n cap) n xs) (hm : m ≤ n) : w.ownsRow base e 1 (.slice p m cap) m (xs.take m) := by
  refine ⟨by have := h.1; rw [List.length_take]; omega, ?_⟩
  rcases h.2 with ⟨hv, hn⟩ | ⟨g, c, cur, hv, hb, hg, hcap, hmx, hsz, ht⟩
  · injection hv with h1 h2 h3
    exact .inl ⟨by rw [h1, h3, show m = 0 by omega], by omega⟩
  · injection hv with h1 h2 h3
    subst h3
    exact .inr ⟨g, _, cur, by rw [h1], hb, hg, by omega, hmx, hsz, by rw [← ht, List.take_take]; congr 1; omega⟩
/-- 'string(b)' of a row of the call's own -/
theorem own_string {P : Program} {w : World} {base n : Nat} {e : TypeId} {v : Value} {l : List UInt8} (h : w.ownsRow base e 1 v n (bvs l)) (src dst : TypeId) (hs : P.underlying src = some (.slice e)) (he : P.underlying e = some (.int .u8)) (hd : P.underlying dst = some .string) :
    (Go.convert src dst v).run P w = .ok (.string (ofL l)) w := by
  have hl : l.length = n := by have := h.1; rw [bvs_length] at this; omega
  rcases h.2 with ⟨rfl, hn⟩ | ⟨g, cap, cur, rfl, hb, hg, rest⟩
  · have : l = [] := List.length_eq_zero_iff.1 (by omega)
    subst this
    exact Lib.run_convert_nil_bytes w src dst e 0 hs he hd
  · subst hl
    refine run_convert_bytes_back w src dst e ⟨g, 0, none⟩ cap l hs he hd (fun j hj => ?_)
    exact h.cells rfl j _ (by simp [bvs, bv, List.getElem?_eq_getElem hj])
end Go.Proofs.YtmlpdhmafmdkcaaGreatDoor.Rows1

/- Layer 10 of the program: its decoder in memory. -/
namespace Go.Proofs.YtmlpdhmafmdkcaaGreatDoor.ChObj
open Go.ChangeShapes Go.WideShapes Go.ChangeAt Go.RowKit Bytes ChunkPure ChunkText Mem Step Rows1
set_option maxRecDepth 20000
/-- what the cells say, but for the most -/
structure Raw where
  size : Int
  next : Int
  left : Int
  line : List UInt8
  part : Bool
  cr : Bool
  trail : Int
  ref : Int
def cells (most : Int) (r : Raw) (v : Value) : Array Value := #[.int .i64 most, .int .i64 r.size, .int .i64 r.next, .int .i64 r.left, v, .bool r.part, .bool r.cr, .int .i64 r.trail, .int .i64 r.ref]
/-- block g, and those of F, hold it; its line is the row v -/
structure Cod (w : World) (F : Nat → Prop) (g : Nat) (most : Int) (r : Raw) (v : Value) : Prop where
  has : Has w g 90 (cells most r v)
  row : w.ownsRow 0 5 1 v r.line.length (bvs r.line)
  own : ∀ b, v.ownBlock = some b → F b ∧ b ≠ g
  mine : F g
  nil : r.line = [] → v = .slice none 0 0
  lt : ∀ k, F k → k < w.heap.size
section
variable {w w' : World} {F F' : Nat → Prop} {g : Nat} {most : Int} {r : Raw} {v : Value}
theorem Cod.c0 (h : Cod w F g most r v) : w.cell? ⟨g, 0, none⟩ = some (.int .i64 most) := h.has.cell 0
theorem Cod.c1 (h : Cod w F g most r v) : w.cell? ⟨g, 1, none⟩ = some (.int .i64 r.size) := h.has.cell 1
theorem Cod.c2 (h : Cod w F g most r v) : w.cell? ⟨g, 2, none⟩ = some (.int .i64 r.next) := h.has.cell 2
theorem Cod.c3 (h : Cod w F g most r v) : w.cell? ⟨g, 3, none⟩ = some (.int .i64 r.left) := h.has.cell 3
theorem Cod.c4 (h : Cod w F g most r v) : w.cell? ⟨g, 4, none⟩ = some v := h.has.cell 4
theorem Cod.c5 (h : Cod w F g most r v) : w.cell? ⟨g, 5, none⟩ = some (.bool r.part) := h.has.cell 5
theorem Cod.c6 (h : Cod w F g most r v) : w.cell? ⟨g, 6, none⟩ = some (.bool r.cr) := h.has.cell 6
theorem Cod.c7 (h : Cod w F g most r v) : w.cell? ⟨g, 7, none⟩ = some (.int .i64 r.trail) := h.has.cell 7
theorem Cod.c8 (h : Cod w F g most r v) : w.cell? ⟨g, 8, none⟩ = some (.int .i64 r.ref) := h.has.cell 8
theorem Cod.free (h : Cod w F g most r v) (i : Nat) : w.frozen? ⟨g, i, none⟩ = false := h.has.free i
theorem Cod.far (h : Cod w F g most r v) {G G' : Nat → Prop} (hs : Step w w' G G') (hf : ∀ k, F k → ¬ G k) : Cod w' F g most r v :=
  ⟨hs.has h.has (hf g h.mine), hs.row h.row (fun b hb => hf b (h.own b hb).1), h.own, h.mine, h.nil, fun k hk => Nat.lt_of_lt_of_le (h.lt k hk) hs.size⟩
theorem Cod.below (h : Cod w F g most r v) (hb : Below w.heap.size w w') : Cod w' F g most r v :=
  h.far (Step.of_below hb (fun _ => False)) (fun _ _ h => h)
/-- a store -/
theorem Cod.set (h : Cod w F g most r v) (i : Nat) (u : Value) (r' : Raw) (hc : (cells most r v).setIfInBounds i u = cells most r' v) (hl : r'.line = r.line) : Cod (w.setCell ⟨g, i, none⟩ u) F g most r' v :=
  ⟨by rw [← hc]; exact h.has.set_ i u, by
    rw [hl]
    exact (Step.set_ (F := fun k => k = g) w rfl i u).row h.row (fun b hb => (h.own b hb).2), h.own, h.mine, by rw [hl]; exact h.nil, fun k hk => by
    have := h.lt k hk
    simpa [World.setCell] using this⟩
/-- another line -/
theorem Cod.setLine (h : Cod w F g most r v) (u : Value) (l : List UInt8) (hr : w.ownsRow 0 5 1 u l.length (bvs l)) (ho : ∀ b, u.ownBlock = some b → F b ∧ b ≠ g) (hn : l = [] → u = .slice none 0 0) : Cod (w.setCell ⟨g, 4, none⟩ u) F g most { r with line := l } u :=
  ⟨h.has.set_ 4 u, (Step.set_ (F := fun k => k = g) w rfl 4 u).row hr (fun b hb => (ho b hb).2), ho, h.mine, hn, fun k hk => by
    have := h.lt k hk
    simpa [World.setCell] using this⟩
theorem Cod.widen (h : Cod w F g most r v) {G : Nat → Prop} (hG : ∀ k, F k → G k) (hl : ∀ k, G k → k < w.heap.size) : Cod w G g most r v :=
  ⟨h.has, h.row, fun b hb => ⟨hG b (h.own b hb).1, (h.own b hb).2⟩, hG g h.mine, h.nil, hl⟩
/-- with no line the decoder is one block -/
theorem Cod.alone (h : Cod w F g most r (.slice none 0 0)) : Cod w (fun k => k = g) g most r (.slice none 0 0) :=
  ⟨h.has, h.row, fun b hb => (by cases hb), rfl, fun _ => rfl, fun k hk => (by rw [hk]; exact h.lt g h.mine)⟩
/-- the line's value -/
theorem Cod.form (h : Cod w F g most r v) : ∃ p cap, v = .slice p r.line.length cap := by
  obtain ⟨p, cap, h1, _⟩ := row_form h.row
  exact ⟨p, cap, h1⟩
end
/-- from world w on: what it is, and that nothing else has turned -/
structure CS (w : World) (F : Nat → Prop) (w' : World) (F' : Nat → Prop) (g : Nat) (most : Int) (r : Raw) (v : Value) : Prop where
  cod : Cod w' F' g most r v
  step : Step w w' F F'
section
variable {w W W' : World} {F F' : Nat → Prop} {g : Nat} {most : Int} {r : Raw} {v : Value}
theorem CS.start (h : Cod w F g most r v) : CS w F w F g most r v := ⟨h, Step.refl w F⟩
theorem CS.call (h : CS w F W F' g most r v) (hb : Below W.heap.size W W') : CS w F W' F' g most r v :=
  ⟨h.cod.below hb, h.step.trans (Step.of_below hb F')⟩
theorem CS.set (h : CS w F W F' g most r v) (i : Nat) (u : Value) (r' : Raw) (hc : (cells most r v).setIfInBounds i u = cells most r' v) (hl : r'.line = r.line) : CS w F (W.setCell ⟨g, i, none⟩ u) F' g most r' v :=
  ⟨h.cod.set i u r' hc hl, h.step.trans (Step.set_ W h.cod.mine i u)⟩
theorem CS.setLine (h : CS w F W F' g most r v) (u : Value) (l : List UInt8) (hr : W.ownsRow 0 5 1 u l.length (bvs l)) (ho : ∀ b, u.ownBlock = some b → F' b ∧ b ≠ g) (hn : l = [] → u = .slice none 0 0) : CS w F (W.setCell ⟨g, 4, none⟩ u) F' g most { r with line := l } u :=
  ⟨h.cod.setLine u l hr ho hn, h.step.trans (Step.set_ W h.cod.mine 4 u)⟩
theorem CS.then {F1 : Nat → Prop} {r1 : Raw} {v1 : Value} (h : CS w F W F' g most r v) (k : CS W F' W' F1 g most r1 v1) : CS w F W' F1 g most r1 v1 :=
  ⟨k.cod, h.step.trans k.step⟩
end
/-! ### where it stands -/
/-- the body's bytes and the most of them are ints, and the body is within it -/
def InR (x : Int) : Prop := -9223372036854775808 ≤ x ∧ x ≤ 9223372036854775807
theorem InR.of_wf {x : Int} (h : (Lit.int .i64 x).wf = true) : InR x := by
  have h1 : (decide (IntKind.i64.min ≤ x) && decide (x ≤ IntKind.i64.max)) = true := h
  rw [show IntKind.i64.max = 9223372036854775807 from rfl, show IntKind.i64.min = -9223372036854775808 from rfl, Bool.and_eq_true, decide_eq_true_eq, decide_eq_true_eq] at h1
  exact h1
def Sane (m : M) : Prop := InR m.most ∧ ((m.size : Int) ≤ m.most ∨ m.size = 0)
def phN : Ph → Int
  | .size => 0
  | .data _ => 1
  | .after => 2
  | .trail _ => 3
  | .done => 4
  | .bad _ => 5
/-- the error -/
def errN (m : M) : Int :=
  match m.ph with
  | .bad e => e
  | _ => 0
structure Rel (r : Raw) (m : M) : Prop where
  size : r.size = m.size
  next : r.next = phN m.ph
  left : ∀ n, m.ph = .data n → r.left = n
  line : r.line = m.line
  part : r.part = parted m.line
  cr : r.cr = m.cr
  trail : ∀ n, m.ph = .trail n → r.trail = n
  none : r.next ≤ 2 → r.trail = 0
/-- a step's outcome: the error, and where it then stands -/
structure Out (r : Raw) (m : M) : Prop where
  ref : r.ref = 0
  rel : good m = true → Rel r m
def CSF (w : World) (F : Nat → Prop) (w' : World) (g : Nat) (most : Int) (m : M) : Prop := ∃ F' r v, CS w F w' F' g most r v ∧ Out r m
theorem errN_good {m : M} (h : good m = true) : errN m = 0 := by
  unfold good at h
  unfold errN
  split <;> simp_all
end Go.Proofs.YtmlpdhmafmdkcaaGreatDoor.ChObj

/- Results that are equal. No program is named. -/
namespace Go.Proofs.YtmlpdhmafmdkcaaGreatDoor.Ret
theorem ret_bool {a b : Bool} (h : a = b) : Ending.returned (.bool a) = .returned (.bool b) := by rw [h]
theorem ret_string {a b : ByteArray} (h : a = b) : Ending.returned (.string a) = .returned (.string b) := by rw [h]
theorem ret_num {a b : Int} {p q : Bool} (h : a = b) (k : p = q) : Ending.returned (.tuple #[.int .i64 a, .bool p]) = .returned (.tuple #[.int .i64 b, .bool q]) := by rw [h, k]
end Go.Proofs.YtmlpdhmafmdkcaaGreatDoor.Ret

/- Layer 4 of the program: digit. -/
namespace Go.Proofs.YtmlpdhmafmdkcaaGreatDoor.PDigit
open Go.ChangeShapes Go.WideShapes Go.ChangeAt Go.RowKit LexPure Bytes Ret LexNum
set_option maxRecDepth 20000
/-- what the program counts a byte as: 16 where the document's is no digit -/
def digP (b : UInt8) : Nat := if dig b ≤ 15 then dig b else 16
theorem digP_cases (b : UInt8) : ((b.toNat : Int) < 48 ∧ digP b = 16) ∨ (48 ≤ (b.toNat : Int) ∧ (b.toNat : Int) ≤ 57 ∧ (digP b : Int) = (b.toNat : Int) - 48) ∨ (57 < (b.toNat : Int) ∧ (b.toNat : Int) < 65 ∧ digP b = 16) ∨
    (65 ≤ (b.toNat : Int) ∧ (b.toNat : Int) ≤ 70 ∧ (digP b : Int) = (b.toNat : Int) - 65 + 10) ∨ (70 < (b.toNat : Int) ∧ (b.toNat : Int) < 97 ∧ digP b = 16) ∨ (97 ≤ (b.toNat : Int) ∧ (b.toNat : Int) ≤ 102 ∧ (digP b : Int) = (b.toNat : Int) - 97 + 10) ∨ (102 < (b.toNat : Int) ∧ digP b = 16) := by
  have := all_bytes (p := fun b => decide (((b.toNat : Int) < 48 ∧ digP b = 16) ∨ (48 ≤ (b.toNat : Int) ∧ (b.toNat : Int) ≤ 57 ∧ (digP b : Int) = (b.toNat : Int) - 48) ∨ (57 < (b.toNat : Int) ∧ (b.toNat : Int) < 65 ∧ digP b = 16) ∨
    (65 ≤ (b.toNat : Int) ∧ (b.toNat : Int) ≤ 70 ∧ (digP b : Int) = (b.toNat : Int) - 65 + 10) ∨ (70 < (b.toNat : Int) ∧ (b.toNat : Int) < 97 ∧ digP b = 16) ∨ (97 ≤ (b.toNat : Int) ∧ (b.toNat : Int) ≤ 102 ∧ (digP b : Int) = (b.toNat : Int) - 97 + 10) ∨ (102 < (b.toNat : Int) ∧ digP b = 16))) (by decide +kernel) b
  simpa only [decide_eq_true_eq] using this
theorem pdigit_any (b : UInt8) (w : World) :
    Calls Tryz.prog 111 #[.int .u8 (b.toNat : Int)] w fun e w' => e = .returned (.int .i64 (digP b : Int)) ∧ w = w' := by
  have hub : (b.toNat : Int) ≤ 255 := by have := b.toNat_lt; omega
  rcases digP_cases b with ⟨h1, h2⟩ | ⟨h1, h2, h3⟩ | ⟨h1, h2, h3⟩ | ⟨h1, h2, h3⟩ | ⟨h1, h2, h3⟩ | ⟨h1, h2, h3⟩ | ⟨h1, h2⟩
  · rw [h2]
    clear h2
    generalize (b.toNat : Int) = c at *
    go_enter Tryz.func111, Tryz.ntmps111
    go_wp2_with fail
    go_ret
    exact ⟨rfl, rfl⟩
  · rw [h3]
    clear h3
    generalize (b.toNat : Int) = c at *
    go_enter Tryz.func111, Tryz.ntmps111
    go_wp2_with fail
    go_ret
    exact ⟨rfl, rfl⟩
  · rw [h3]
    clear h3
    generalize (b.toNat : Int) = c at *
    go_enter Tryz.func111, Tryz.ntmps111
    go_wp2_with fail
    go_ret
    exact ⟨rfl, rfl⟩
  · rw [h3]
    clear h3
    generalize (b.toNat : Int) = c at *
    go_enter Tryz.func111, Tryz.ntmps111
    go_wp2_with fail
    go_ret
    exact ⟨rfl, rfl⟩
  · rw [h3]
    clear h3
    generalize (b.toNat : Int) = c at *
    go_enter Tryz.func111, Tryz.ntmps111
    go_wp2_with fail
    go_ret
    exact ⟨rfl, rfl⟩
  · rw [h3]
    clear h3
    generalize (b.toNat : Int) = c at *
    go_enter Tryz.func111, Tryz.ntmps111
    go_wp2_with fail
    go_ret
    exact ⟨rfl, rfl⟩
  · rw [h2]
    clear h2
    generalize (b.toNat : Int) = c at *
    go_enter Tryz.func111, Tryz.ntmps111
    go_wp2_with fail
    go_ret
    exact ⟨rfl, rfl⟩
end Go.Proofs.YtmlpdhmafmdkcaaGreatDoor.PDigit

/- Layer 4 of the program: number. -/
namespace Go.Proofs.YtmlpdhmafmdkcaaGreatDoor.PCount
open Go.ChangeShapes Go.WideShapes Go.ChangeAt Go.RowKit LexPure Bytes Ret LexNum PDigit
set_option maxRecDepth 20000
theorem digP_lt {b : UInt8} {base : Nat} (hb : base ≤ 16) (h : dig b < base) : digP b = dig b := by
  unfold digP
  rw [if_pos (by omega)]
theorem digP_ge {b : UInt8} {base : Nat} (hb : base ≤ 16) (h : ¬ dig b < base) : base ≤ digP b := by
  unfold digP
  split <;> omega
set_option maxHeartbeats 2000000 in
theorem pnumber_any (s : ByteArray) (hs : s.size ≤ maxLen) (digits : Int) (base : Nat) (hF : Fit base digits) (w : World) :
    Calls Tryz.prog 89 #[.string s, .int .i64 digits, .int .i64 (base : Int)] w fun e w' => e = .returned (.tuple #[.int .i64 (numR base digits (toL s)), .bool (numOk base digits (toL s))]) ∧ w = w' := by
  unfold maxLen at hs
  have HF := Lib.hid hF
  have hb16 : base ≤ 16 := by rcases hF with ⟨h, _⟩ | ⟨h, _⟩ <;> omega
  clear hF
  by_cases hlen : 1 ≤ s.size ∧ (s.size : Int) ≤ digits
  · obtain ⟨hl1, hl2⟩ := hlen
    have h1 : ¬ s.toList = [] := fun h => by
      rw [ByteArray.toList_eq] at h
      have h2 := toL_length s
      rw [show toL s = [] from h] at h2
      simp at h2
      omega
    have h2 : s.toList.isEmpty = false := by
      cases h : s.toList with
      | nil => exact absurd h h1
      | cons => rfl
    go_enter Tryz.func89, Tryz.ntmps89
    go_wp2_with fail
    go_loop [8, 21] (fun n i => ∃ k : Nat, k ≤ s.size ∧ i = .int .i64 k ∧ n = .int .i64 (numV base ((toL s).take k) : Nat) ∧ Hid (((toL s).take k).all (fun c => decide (dig c < base)) = true)) (fun _ i => s.size - (intOf i).toNat)
    case atStart => exact ⟨0, Nat.zero_le _, rfl, rfl, Lib.hid rfl⟩
    case round =>
      obtain ⟨k, hk, rfl, rfl, ha⟩ := hrel
      by_cases hlt : k < s.size
      · have hki : (k : Int) < (s.size : Int) := by omega
        have HT := Lib.hid (toL_take_succ s k hlt)
        have HG := Lib.hid (toL_get s k hlt)
        obtain ⟨hb1, hb2⟩ := HF.out.bound (l := (toL s).take k) (by rw [List.length_take, toL_length]; omega) ha.out
        have HN : Hid (numV base ((toL s).take (k + 1)) = base * numV base ((toL s).take k) + dig s[k]) := Lib.hid (by rw [HT.out, numV_snoc])
        have HC := Lib.hid (fun w => pdigit_any s[k] w)
        generalize numV base ((toL s).take k) = n at *
        have hcomm : (base : Int) * (n : Int) = (n : Int) * (base : Int) := Int.mul_comm _ _
        have hp0 : 0 ≤ (n : Int) * (base : Int) := by omega
        have hp1 : (n : Int) * (base : Int) ≤ 1152921504606846976 := by
          have : ((base * n : Nat) : Int) ≤ 1152921504606846976 := by omega
          rw [Int.natCast_mul] at this
          omega
        clear hb1
        by_cases hdb : dig s[k] < base
        · have HA : Hid (((toL s).take (k + 1)).all (fun c => decide (dig c < base)) = true) := Lib.hid (by rw [HT.out, List.all_append, ha.out]; simp [hdb])
          have HN2 : Hid ((n : Int) * (base : Int) + (dig s[k] : Nat) = (numV base ((toL s).take (k + 1)) : Int)) := Lib.hid (by rw [HN.out, ← hcomm]; push_cast; rfl)
          rw [digP_lt hb16 hdb] at HC
          have hdn : ¬ ((base : Int) ≤ (dig s[k] : Int)) := by omega
          have hdm : (dig s[k] : Int) ≤ 16 := by omega
          clear HT HG HN ha hdb hcomm hb16
          generalize dig s[k] = d at *
          go_wp2_with (refine (HC.out _).mono ?_; rintro e w' ⟨rfl, rfl⟩)
          go_round
          case rel => exact ⟨k + 1, by omega, by go_num, by rw [HN2.out], HA⟩
          case measure => simp [intOf]; omega
        · have HV2 : Hid (numOk base digits (toL s) = false) := Lib.hid (by
            unfold numOk
            rw [Bool.and_eq_false_iff]
            right
            rw [List.all_eq_false]
            exact ⟨s[k], List.mem_of_getElem? HG.out, by simpa using hdb⟩)
          have HV1 : Hid (numR base digits (toL s) = 0) := Lib.hid (by unfold numR; rw [HV2.out]; rfl)
          have hdn : (base : Int) ≤ (digP s[k] : Int) := by have := digP_ge hb16 hdb; omega
          clear HT HG HN ha hdb hcomm hb16
          generalize digP s[k] = d at *
          go_wp2_with (refine (HC.out _).mono ?_; rintro e w' ⟨rfl, rfl⟩)
          go_ret2
          exact ⟨ret_num HV1.out.symm HV2.out.symm, rfl⟩
      · have hall : (toL s).take k = toL s := toL_take_all s (by omega)
        have HV2 : Hid (numOk base digits (toL s) = true) := Lib.hid (by
          unfold numOk
          have h := ha.out
          rw [hall] at h
          rw [h, toL_length, decide_eq_true hl2]
          have : (toL s).isEmpty = false := by
            cases hl : toL s with
            | nil => have := toL_length s; rw [hl] at this; simp at this; omega
            | cons => rfl
          rw [this]
          rfl)
        have HV1 : Hid (numR base digits (toL s) = (numV base (toL s) : Int)) := Lib.hid (by unfold numR; rw [HV2.out]; rfl)
        rw [hall]
        clear ha hall hb16
        go_wp2_with fail
        go_ret2
        exact ⟨ret_num HV1.out.symm HV2.out.symm, rfl⟩
  · have HV2 : Hid (numOk base digits (toL s) = false) := Lib.hid (by
      unfold numOk
      rw [toL_length]
      by_cases h0 : s.size = 0
      · rw [List.isEmpty_iff.2 (List.length_eq_zero_iff.1 (by rw [toL_length]; exact h0))]
        rfl
      · rw [decide_eq_false (by omega)]
        simp)
    have HV1 : Hid (numR base digits (toL s) = 0) := Lib.hid (by unfold numR; rw [HV2.out]; rfl)
    clear hb16
    by_cases h0 : s.size = 0
    · have h1 : s.toList = [] := by
        rw [ByteArray.toList_eq]
        exact List.length_eq_zero_iff.1 (by rw [← h0]; exact toL_length s)
      have h2 : s.toList.isEmpty = true := by rw [h1]; rfl
      clear hlen
      go_enter Tryz.func89, Tryz.ntmps89
      go_wp2_with fail
      go_ret2
      exact ⟨ret_num HV1.out.symm HV2.out.symm, rfl⟩
    · have hx : digits < (s.size : Int) := by omega
      have h1 : ¬ s.toList = [] := fun h => by
        rw [ByteArray.toList_eq] at h
        have h2 := toL_length s
        rw [show toL s = [] from h] at h2
        simp at h2
        omega
      have h2 : s.toList.isEmpty = false := by
        cases h : s.toList with
        | nil => exact absurd h h1
        | cons => rfl
      clear hlen
      go_enter Tryz.func89, Tryz.ntmps89
      go_wp2_with fail
      go_ret2
      exact ⟨ret_num HV1.out.symm HV2.out.symm, rfl⟩
end Go.Proofs.YtmlpdhmafmdkcaaGreatDoor.PCount

/- Layer 4 of the program: Hex. -/
namespace Go.Proofs.YtmlpdhmafmdkcaaGreatDoor.PHex
open Go.ChangeShapes Go.WideShapes Go.ChangeAt Go.RowKit LexPure Bytes Ret LexNum PCount
set_option maxRecDepth 20000
theorem phex_any (s : ByteArray) (hs : s.size ≤ maxLen) (digits : Int) (w : World) :
    Calls Tryz.prog 120 #[.string s, .int .i64 digits] w fun e w' => e = .returned (.tuple #[.int .i64 (numR 16 (min digits 15) (toL s)), .bool (numOk 16 (min digits 15) (toL s))]) ∧ w = w' := by
  have HN := Lib.hid (pnumber_any s hs (min digits 15) 16 (.inr ⟨rfl, Int.min_le_right _ _⟩))
  clear hs
  rcases (show digits < 15 ∨ digits = 15 ∨ 15 < digits by omega) with h | h | h
  · have hm : min digits 15 = digits := by omega
    rw [hm] at HN ⊢
    go_enter Tryz.func120, Tryz.ntmps120
    go_wp2_with fail
    refine (HN.out _).mono ?_
    rintro e w' ⟨rfl, rfl⟩
    go_wp2_with fail
    go_ret2
    exact ⟨rfl, rfl⟩
  · subst h
    have hm : min 15 15 = (15 : Int) := rfl
    rw [hm] at HN ⊢
    go_enter Tryz.func120, Tryz.ntmps120
    go_wp2_with fail
    refine (HN.out _).mono ?_
    rintro e w' ⟨rfl, rfl⟩
    go_wp2_with fail
    go_ret2
    exact ⟨rfl, rfl⟩
  · have hm : min digits 15 = 15 := by omega
    rw [hm] at HN ⊢
    go_enter Tryz.func120, Tryz.ntmps120
    go_wp2_with fail
    refine (HN.out _).mono ?_
    rintro e w' ⟨rfl, rfl⟩
    go_wp2_with fail
    go_ret2
    exact ⟨rfl, rfl⟩
end Go.Proofs.YtmlpdhmafmdkcaaGreatDoor.PHex

/- Layer 4 of the program: what its function of one byte of a value answers (ofValue). -/
namespace Go.Proofs.YtmlpdhmafmdkcaaGreatDoor.POfValue
open Go.ChangeShapes Go.WideShapes Go.ChangeAt Go.RowKit LexPure Bytes Ret LexNum
set_option maxRecDepth 20000
theorem plain_cases (b : UInt8) : plainB b = decide ((b.toNat : Int) = 9 ∨ (32 ≤ (b.toNat : Int) ∧ ¬ (b.toNat : Int) = 127)) := by
  have := all_bytes (p := fun b => plainB b == decide ((b.toNat : Int) = 9 ∨ (32 ≤ (b.toNat : Int) ∧ ¬ (b.toNat : Int) = 127))) (by decide +kernel) b
  simpa using this
theorem pofvalue_any (b : UInt8) (w : World) :
    Calls Tryz.prog 106 #[.int .u8 (b.toNat : Int)] w fun e w' => e = .returned (.bool (plainB b)) ∧ w = w' := by
  rw [plain_cases]
  generalize (b.toNat : Int) = c
  go_enter Tryz.func106, Tryz.ntmps106
  go_wp2_with fail
  all_goals
    go_ret
    refine ⟨ret_bool ?_, rfl⟩
    try simp only [beq_eq_false_iff_ne, beq_iff_eq, ne_eq] at *
    first
      | exact Eq.symm (decide_eq_true (by omega))
      | exact Eq.symm (decide_eq_false (by omega))
      | (by_cases e1 : c = 9 <;> by_cases e2 : c = 127 <;> by_cases e3 : 32 ≤ c <;> first | (exfalso; omega) | simp [e1, e2, e3] | (subst e1; decide) | (subst e2; decide))
end Go.Proofs.YtmlpdhmafmdkcaaGreatDoor.POfValue

/- A text's elements. No program is named. -/
namespace Go.Proofs.YtmlpdhmafmdkcaaGreatDoor.LexList
open LexPure Bytes
def noComma (p : List UInt8) : Bool := p.all (fun c => c != 44)
theorem pieces_ne (s : List UInt8) : pieces s ≠ [] := by
  cases s with
  | nil => simp [pieces]
  | cons c s =>
    unfold pieces
    split
    · simp
    · split <;> simp
theorem pieces_plain : ∀ {p : List UInt8}, noComma p = true → pieces p = [p]
  | [], _ => rfl
  | c :: p, h => by
    unfold noComma at h
    rw [List.all_cons, Bool.and_eq_true] at h
    unfold pieces
    rw [if_neg (by simpa using h.1), pieces_plain (p := p) h.2]
theorem pieces_cut : ∀ {p : List UInt8} {r : List UInt8}, noComma p = true → pieces (p ++ 44 :: r) = p :: pieces r
  | [], r, _ => by
    show pieces (44 :: r) = _
    unfold pieces
    rw [if_pos (by decide)]
    cases r <;> rfl
  | c :: p, r, h => by
    unfold noComma at h
    rw [List.all_cons, Bool.and_eq_true] at h
    show pieces (c :: (p ++ 44 :: r)) = _
    rw [pieces, if_neg (by simpa using h.1), pieces_cut (p := p) (r := r) h.2]
/-- one piece's element -/
def one (p : List UInt8) : List (List UInt8) := if (trim p).isEmpty then [] else [trim p]
theorem elements_plain {p : List UInt8} (h : noComma p = true) : elements p = one p := by
  unfold elements one
  rw [pieces_plain h]
  cases ht : (trim p).isEmpty <;> simp [ht]
theorem elements_cut {p r : List UInt8} (h : noComma p = true) : elements (p ++ 44 :: r) = one p ++ elements r := by
  unfold elements one
  rw [pieces_cut h]
  cases ht : (trim p).isEmpty <;> simp [ht]
theorem one_length (p : List UInt8) : (one p).length ≤ 1 := by
  unfold one
  split <;> simp
theorem noComma_snoc {p : List UInt8} {c : UInt8} (h : noComma p = true) (hc : (c == 44) = false) : noComma (p ++ [c]) = true := by
  unfold noComma at *
  rw [List.all_append, h]
  simp only [List.all_cons, List.all_nil, Bool.and_true, Bool.true_and]
  simpa [bne] using hc
/-- elements are trimmed and not empty -/
theorem elements_mem {s e : List UInt8} (h : e ∈ elements s) : e.isEmpty = false ∧ trim e = e := by
  unfold elements at h
  rw [List.mem_filter, List.mem_map] at h
  obtain ⟨⟨p, _, rfl⟩, h2⟩ := h
  exact ⟨by simpa using h2, trim_trim p⟩
theorem trim_noComma {p : List UInt8} (h : noComma p = true) : noComma (trim p) = true := by
  unfold noComma at *
  rw [List.all_eq_true] at *
  intro c hc
  refine h c ?_
  unfold trim at hc
  rw [List.mem_reverse] at hc
  have h1 := (List.dropWhile_suffix (l := (p.dropWhile blankB).reverse) blankB).subset hc
  rw [List.mem_reverse] at h1
  exact (List.dropWhile_suffix (l := p) blankB).subset h1
theorem pieces_noComma : ∀ {s p : List UInt8}, p ∈ pieces s → noComma p = true
  | [], p, h => by
    simp only [pieces, List.mem_singleton] at h
    subst h
    rfl
  | c :: s, p, h => by
    rw [pieces] at h
    by_cases hc : (c == 44) = true
    · rw [if_pos hc, List.mem_cons] at h
      rcases h with rfl | h
      · rfl
      · exact pieces_noComma h
    · rw [if_neg hc] at h
      have hc' : (c == 44) = false := by simpa using hc
      split at h
      · rename_i hp
        exact absurd hp (pieces_ne s)
      · rename_i q qs hp
        rw [List.mem_cons] at h
        rcases h with rfl | h
        · have := pieces_noComma (s := s) (p := q) (by rw [hp]; simp)
          unfold noComma at *
          rw [List.all_cons, this]
          simp [bne, hc']
        · exact pieces_noComma (s := s) (p := p) (by rw [hp]; simp [h])
theorem elements_noComma {s e : List UInt8} (h : e ∈ elements s) : noComma e = true := by
  unfold elements at h
  rw [List.mem_filter, List.mem_map] at h
  obtain ⟨⟨p, hp, rfl⟩, _⟩ := h
  exact trim_noComma (pieces_noComma hp)
end Go.Proofs.YtmlpdhmafmdkcaaGreatDoor.LexList

/- The shelf's words for strings.Trim, strings.Split and strings.IndexByte, and the grammar's: they say one thing. No program is named. -/
namespace Go.Proofs.YtmlpdhmafmdkcaaGreatDoor.LexSplit
open LexPure Bytes LexList
/-! ### Trim -/
def rdrop (s : List UInt8) : List UInt8 := (s.reverse.dropWhile blankB).reverse
theorem rdrop_cons (c : UInt8) (r : List UInt8) : rdrop (c :: r) = if (rdrop r).isEmpty then (if blankB c then [] else [c]) else c :: rdrop r := by
  unfold rdrop
  rw [List.reverse_cons, List.dropWhile_append]
  cases h : (r.reverse.dropWhile blankB).isEmpty with
  | true =>
    have h2 : r.reverse.dropWhile blankB = [] := List.isEmpty_iff.1 h
    rw [h2]
    cases hb : blankB c <;> simp [hb]
  | false =>
    have h2 : ((r.reverse.dropWhile blankB).reverse).isEmpty = false := by
      cases hx : r.reverse.dropWhile blankB with
      | nil => rw [hx] at h; cases h
      | cons a t => simp
    rw [h2]
    simp
theorem drop_rdrop : ∀ s : List UInt8, (rdrop s).dropWhile blankB = rdrop (s.dropWhile blankB)
  | [] => rfl
  | c :: r => by
    cases hb : blankB c with
    | true =>
      rw [List.dropWhile_cons, if_pos hb, rdrop_cons, ← drop_rdrop r]
      cases h : (rdrop r).isEmpty with
      | true => rw [List.isEmpty_iff.1 h]; simp [hb]
      | false => simp [hb]
    | false =>
      rw [List.dropWhile_cons, hb]
      simp only [Bool.false_eq_true, if_false]
      rw [rdrop_cons]
      cases h : (rdrop r).isEmpty <;> simp [hb]
theorem blank_set (b : UInt8) : ([32, 9] : List UInt8).contains b = blankB b := by
  have := all_bytes (p := fun b => ([32, 9] : List UInt8).contains b == blankB b) (by decide +kernel) b
  simpa using this
theorem trim_shelf (s : List UInt8) : Go.Lib.trimS s [32, 9] = trim s := by
  have e : (fun b => ([32, 9] : List UInt8).contains b) = blankB := funext blank_set
  unfold Go.Lib.trimS Go.Lib.trimLeftS Go.Lib.trimRightS
  rw [e]
  exact drop_rdrop s
/-! ### Split -/
theorem index_cons (c : UInt8) (l : List UInt8) (h : (c == 44) = false) : Go.Lib.index (c :: l) [44] = if Go.Lib.index l [44] == -1 then -1 else Go.Lib.index l [44] + 1 := by
  have hp : ([44] : List UInt8).isPrefixOf (c :: l) = false := by
    have : ¬ (44 : UInt8) = c := fun e => by rw [← e] at h; cases h
    simp [List.isPrefixOf, this]
  rw [Go.Lib.index, hp]
  rfl
theorem split_pieces : ∀ s : List UInt8, Go.Lib.splitK [44] 0 (s.count 44) s = pieces s
  | [] => rfl
  | c :: l => by
    by_cases hc : c = 44
    · subst hc
      have hix : Go.Lib.index (44 :: l) [44] = 0 := by rw [Go.Lib.index]; simp [List.isPrefixOf]
      rw [List.count_cons_self, Go.Lib.splitK, hix, if_neg (by decide), pieces, if_pos (by decide), ← split_pieces l]
      rfl
    · have hq : (c == 44) = false := by simpa using hc
      have ih := split_pieces l
      rw [List.count_cons_of_ne (by simpa using hc), pieces, if_neg (by simp [hq]), ← ih]
      cases hk : l.count 44 with
      | zero => rfl
      | succ k =>
        unfold Go.Lib.splitK
        rw [index_cons c l hq]
        by_cases hm : Go.Lib.index l [44] = -1
        · rw [hm]; rfl
        · have hge := Go.Lib.index_ge l [44]
          obtain ⟨i, hi⟩ : ∃ i : Nat, Go.Lib.index l [44] = i := ⟨(Go.Lib.index l [44]).toNat, by omega⟩
          rw [hi]
          have h1 : ((i : Int) == -1) = false := beq_eq_false_iff_ne.2 (by omega)
          have h2 : (((i : Int) + 1) == -1) = false := beq_eq_false_iff_ne.2 (by omega)
          have h3 : ((i : Int) + 1).toNat = i + 1 := by omega
          have h4 : ((i : Int)).toNat = i := by omega
          simp [h1, h2, h3, h4]
/-- the marks of a token -/
def marksA : ByteArray := ⟨#[33, 35, 36, 37, 38, 39, 42, 43, 45, 46, 94, 95, 124, 126, 96]⟩
def markI (b : UInt8) : Int := Go.Lib.indexByte marksA.data.toList b
theorem mark_cases (b : UInt8) : markB b = (decide (48 ≤ (b.toNat : Int) ∧ (b.toNat : Int) ≤ 57) || decide (65 ≤ (b.toNat : Int) ∧ (b.toNat : Int) ≤ 90) || decide (97 ≤ (b.toNat : Int) ∧ (b.toNat : Int) ≤ 122) || decide (0 ≤ markI b)) := by
  have := all_bytes (p := fun b => markB b == (decide (48 ≤ (b.toNat : Int) ∧ (b.toNat : Int) ≤ 57) || decide (65 ≤ (b.toNat : Int) ∧ (b.toNat : Int) ≤ 90) || decide (97 ≤ (b.toNat : Int) ∧ (b.toNat : Int) ≤ 122) || decide (0 ≤ markI b))) (by decide +kernel) b
  simpa using this
end Go.Proofs.YtmlpdhmafmdkcaaGreatDoor.LexSplit

/-
  DERIVED: THE SHELF's CONTRACTS AT THIS DUMP, IN PLAIN WORDS (tools/lay-plain.mjs out of 'YtmlpdhmafmdkcaaGreatDoorLexLaysT.lean', which tools/lay-shelf.mjs wrote): THE SAME DECLARATIONS UNDER THE SAME NAMES: 'import', 'namespace', 'open', 'def', 'theorem' AND NOTHING ELSE: no command of the shelf's: FOR A HAND-IN. Each laying: the table of numbers ('.._ren') and one theorem, a field a fact of the dump's own or the kernel's comparison; each contract: ONE APPLICATION.
-/
namespace Go.Proofs
open Go.Shelf
def Tryz.lays137_ren : Go.Shelf.Ren := ⟨fun | 137 => 87 | 217 => 107 | 266 => 127 | n => n, fun | 9 => 9 | 5 => 5 | 3 => 3 | n => n, fun | n => n⟩
theorem Tryz.lays137 : Go.Proofs.Lays.n137 Tryz.prog Tryz.lays137_ren := {
  mixed := by kernel_rfl
  f137 := Tryz.func87.trans (congrArg some (by kernel_rfl))
  f217 := Tryz.func107.trans (congrArg some (by kernel_rfl))
  f266 := Tryz.func127.trans (congrArg some (by kernel_rfl))
  t3 := Tryz.underlying3
  a3 := Tryz.isAgg3
  z3 := Tryz.sizeOf3
  v3 := Tryz.zeroValue3
  t5 := Tryz.underlying5
  a5 := Tryz.isAgg5
  z5 := Tryz.sizeOf5
  v5 := Tryz.zeroValue5
  t9 := Tryz.underlying9
  a9 := Tryz.isAgg9
  z9 := Tryz.sizeOf9
  v9 := Tryz.zeroValue9 }
def Tryz.lays146_ren : Go.Shelf.Ren := ⟨fun | 146 => 100 | 221 => 119 | 268 => 131 | 138 => 132 | 143 => 118 | 195 => 137 | 197 => 133 | 218 => 138 | 219 => 86 | 260 => 139 | 217 => 107 | 225 => 108 | 224 => 109 | 267 => 110 | 266 => 127 | 314 => 128 | n => n, fun | 9 => 9 | 31 => 22 | 3 => 3 | 4 => 4 | 0 => 0 | 105 => 164 | 21 => 21 | 5 => 5 | 46 => 148 | 119 => 169 | 139 => 172 | 138 => 171 | 146 => 161 | 51 => 160 | n => n, fun | 1 => 0 | 3 => 1 | 4 => 2 | n => n⟩
theorem Tryz.lays146 : Go.Proofs.Lays.n146 Tryz.prog Tryz.lays146_ren := {
  mixed := by kernel_rfl
  f138 := Tryz.func132.trans (congrArg some (by kernel_rfl))
  f143 := Tryz.func118.trans (congrArg some (by kernel_rfl))
  f146 := Tryz.func100.trans (congrArg some (by kernel_rfl))
  f195 := Tryz.func137.trans (congrArg some (by kernel_rfl))
  f197 := Tryz.func133.trans (congrArg some (by kernel_rfl))
  f217 := Tryz.func107.trans (congrArg some (by kernel_rfl))
  f218 := Tryz.func138.trans (congrArg some (by kernel_rfl))
  f219 := Tryz.func86.trans (congrArg some (by kernel_rfl))
  f221 := Tryz.func119.trans (congrArg some (by kernel_rfl))
  f224 := Tryz.func109.trans (congrArg some (by kernel_rfl))
  f225 := Tryz.func108.trans (congrArg some (by kernel_rfl))
  f260 := Tryz.func139.trans (congrArg some (by kernel_rfl))
  f266 := Tryz.func127.trans (congrArg some (by kernel_rfl))
  f267 := Tryz.func110.trans (congrArg some (by kernel_rfl))
  f268 := Tryz.func131.trans (congrArg some (by kernel_rfl))
  f314 := Tryz.func128.trans (congrArg some (by kernel_rfl))
  t0 := Tryz.underlying0
  a0 := Tryz.isAgg0
  z0 := Tryz.sizeOf0
  v0 := Tryz.zeroValue0
  t3 := Tryz.underlying3
  a3 := Tryz.isAgg3
  z3 := Tryz.sizeOf3
  v3 := Tryz.zeroValue3
  t4 := Tryz.underlying4
  a4 := Tryz.isAgg4
  z4 := Tryz.sizeOf4
  v4 := Tryz.zeroValue4
  t5 := Tryz.underlying5
  a5 := Tryz.isAgg5
  z5 := Tryz.sizeOf5
  v5 := Tryz.zeroValue5
  t9 := Tryz.underlying9
  a9 := Tryz.isAgg9
  z9 := Tryz.sizeOf9
  v9 := Tryz.zeroValue9
  t21 := Tryz.underlying21
  a21 := Tryz.isAgg21
  z21 := Tryz.sizeOf21
  v21 := Tryz.zeroValue21
  t31 := Tryz.underlying22
  a31 := Tryz.isAgg22
  z31 := Tryz.sizeOf22
  v31 := Tryz.zeroValue22
  t46 := Tryz.underlying148
  a46 := Tryz.isAgg148
  z46 := Tryz.sizeOf148
  v46 := Tryz.zeroValue148
  t51 := Tryz.underlying160
  a51 := Tryz.isAgg160
  z51 := Tryz.sizeOf160
  v51 := Tryz.zeroValue160
  t105 := Tryz.underlying164
  a105 := Tryz.isAgg164
  z105 := Tryz.sizeOf164
  v105 := Tryz.zeroValue164
  t119 := Tryz.underlying169
  a119 := Tryz.isAgg169
  z119 := Tryz.sizeOf169
  t138 := Tryz.underlying171
  a138 := Tryz.isAgg171
  z138 := Tryz.sizeOf171
  v138 := Tryz.zeroValue171
  t139 := Tryz.underlying172
  a139 := Tryz.isAgg172
  z139 := Tryz.sizeOf172
  v139 := Tryz.zeroValue172
  t146 := Tryz.underlying161
  a146 := Tryz.isAgg161
  z146 := Tryz.sizeOf161
  v146 := Tryz.zeroValue161
  g1 := by kernel_rfl
  g3 := by kernel_rfl
  g4 := by kernel_rfl }
def Tryz.lays160_ren : Go.Shelf.Ren := ⟨fun | 160 => 105 | 232 => 122 | 231 => 121 | 227 => 94 | 234 => 124 | 233 => 123 | 236 => 126 | 235 => 125 | 228 => 95 | 271 => 135 | 151 => 134 | 197 => 133 | 120 => 140 | 152 => 92 | 260 => 139 | 137 => 87 | 119 => 117 | 224 => 109 | 225 => 108 | 217 => 107 | 266 => 127 | n => n, fun | 9 => 9 | 4 => 4 | 3 => 3 | 5 => 5 | 117 => 140 | 116 => 139 | 0 => 0 | 124 => 156 | 21 => 21 | 105 => 164 | 46 => 148 | 119 => 169 | 139 => 172 | 138 => 171 | n => n, fun | 3 => 1 | 4 => 2 | n => n⟩
theorem Tryz.lays160 : Go.Proofs.Lays.n160 Tryz.prog Tryz.lays160_ren := {
  mixed := by kernel_rfl
  f119 := Tryz.func117.trans (congrArg some (by kernel_rfl))
  f120 := Tryz.func140.trans (congrArg some (by kernel_rfl))
  f137 := Tryz.func87.trans (congrArg some (by kernel_rfl))
  f151 := Tryz.func134.trans (congrArg some (by kernel_rfl))
  f152 := Tryz.func92.trans (congrArg some (by kernel_rfl))
  f160 := Tryz.func105.trans (congrArg some (by kernel_rfl))
  f197 := Tryz.func133.trans (congrArg some (by kernel_rfl))
  f217 := Tryz.func107.trans (congrArg some (by kernel_rfl))
  f224 := Tryz.func109.trans (congrArg some (by kernel_rfl))
  f225 := Tryz.func108.trans (congrArg some (by kernel_rfl))
  f227 := Tryz.func94.trans (congrArg some (by kernel_rfl))
  f228 := Tryz.func95.trans (congrArg some (by kernel_rfl))
  f231 := Tryz.func121.trans (congrArg some (by kernel_rfl))
  f232 := Tryz.func122.trans (congrArg some (by kernel_rfl))
  f233 := Tryz.func123.trans (congrArg some (by kernel_rfl))
  f234 := Tryz.func124.trans (congrArg some (by kernel_rfl))
  f235 := Tryz.func125.trans (congrArg some (by kernel_rfl))
  f236 := Tryz.func126.trans (congrArg some (by kernel_rfl))
  f260 := Tryz.func139.trans (congrArg some (by kernel_rfl))
  f266 := Tryz.func127.trans (congrArg some (by kernel_rfl))
  f271 := Tryz.func135.trans (congrArg some (by kernel_rfl))
  t0 := Tryz.underlying0
  a0 := Tryz.isAgg0
  z0 := Tryz.sizeOf0
  v0 := Tryz.zeroValue0
  t3 := Tryz.underlying3
  a3 := Tryz.isAgg3
  z3 := Tryz.sizeOf3
  v3 := Tryz.zeroValue3
  t4 := Tryz.underlying4
  a4 := Tryz.isAgg4
  z4 := Tryz.sizeOf4
  v4 := Tryz.zeroValue4
  t5 := Tryz.underlying5
  a5 := Tryz.isAgg5
  z5 := Tryz.sizeOf5
  v5 := Tryz.zeroValue5
  t9 := Tryz.underlying9
  a9 := Tryz.isAgg9
  z9 := Tryz.sizeOf9
  v9 := Tryz.zeroValue9
  t21 := Tryz.underlying21
  a21 := Tryz.isAgg21
  z21 := Tryz.sizeOf21
  v21 := Tryz.zeroValue21
  t46 := Tryz.underlying148
  a46 := Tryz.isAgg148
  z46 := Tryz.sizeOf148
  v46 := Tryz.zeroValue148
  t105 := Tryz.underlying164
  a105 := Tryz.isAgg164
  z105 := Tryz.sizeOf164
  v105 := Tryz.zeroValue164
  t116 := Tryz.underlying139
  a116 := Tryz.isAgg139
  z116 := Tryz.sizeOf139
  t117 := Tryz.underlying140
  a117 := Tryz.isAgg140
  z117 := Tryz.sizeOf140
  v117 := Tryz.zeroValue140
  t119 := Tryz.underlying169
  a119 := Tryz.isAgg169
  z119 := Tryz.sizeOf169
  t124 := Tryz.underlying156
  a124 := Tryz.isAgg156
  z124 := Tryz.sizeOf156
  v124 := Tryz.zeroValue156
  t138 := Tryz.underlying171
  a138 := Tryz.isAgg171
  z138 := Tryz.sizeOf171
  v138 := Tryz.zeroValue171
  t139 := Tryz.underlying172
  a139 := Tryz.isAgg172
  z139 := Tryz.sizeOf172
  v139 := Tryz.zeroValue172
  g3 := by kernel_rfl
  g4 := by kernel_rfl }
def Tryz.lays99_ren : Go.Shelf.Ren := ⟨fun | 99 => 32 | 206 => 42 | n => n, fun | 9 => 9 | 4 => 4 | 3 => 3 | n => n, fun | n => n⟩
theorem Tryz.lays99 : Go.Proofs.Lays.n99 Tryz.prog Tryz.lays99_ren := {
  mixed := by kernel_rfl
  f99 := Tryz.func32.trans (congrArg some (by kernel_rfl))
  f206 := Tryz.func42.trans (congrArg some (by kernel_rfl))
  t3 := Tryz.underlying3
  a3 := Tryz.isAgg3
  z3 := Tryz.sizeOf3
  v3 := Tryz.zeroValue3
  t4 := Tryz.underlying4
  a4 := Tryz.isAgg4
  z4 := Tryz.sizeOf4
  v4 := Tryz.zeroValue4
  t9 := Tryz.underlying9
  a9 := Tryz.isAgg9
  z9 := Tryz.sizeOf9
  v9 := Tryz.zeroValue9 }
def Tryz.lays103_ren : Go.Shelf.Ren := ⟨fun | 103 => 68 | 210 => 88 | 206 => 42 | n => n, fun | 9 => 9 | 4 => 4 | 24 => 120 | 3 => 3 | n => n, fun | n => n⟩
theorem Tryz.lays103 : Go.Proofs.Lays.n103 Tryz.prog Tryz.lays103_ren := {
  mixed := by kernel_rfl
  f103 := Tryz.func68.trans (congrArg some (by kernel_rfl))
  f206 := Tryz.func42.trans (congrArg some (by kernel_rfl))
  f210 := Tryz.func88.trans (congrArg some (by kernel_rfl))
  t3 := Tryz.underlying3
  a3 := Tryz.isAgg3
  z3 := Tryz.sizeOf3
  v3 := Tryz.zeroValue3
  t4 := Tryz.underlying4
  a4 := Tryz.isAgg4
  z4 := Tryz.sizeOf4
  v4 := Tryz.zeroValue4
  t9 := Tryz.underlying9
  a9 := Tryz.isAgg9
  z9 := Tryz.sizeOf9
  v9 := Tryz.zeroValue9
  t24 := Tryz.underlying120
  a24 := Tryz.isAgg120
  z24 := Tryz.sizeOf120
  v24 := Tryz.zeroValue120 }
end Go.Proofs

/- Lists of texts: how they lie in memory. -/
namespace Go.Proofs.YtmlpdhmafmdkcaaGreatDoor.Texts
open Go.ChangeShapes Go.WideShapes Go.ChangeAt Go.RowKit LexPure Bytes Ret Rows1
theorem infoS : (Tryz.prog.info? 9).map (fun i => (i.zero, i.size, i.bytes)) = some (some (.string ByteArray.empty), 1, 16) := by kernel_rfl
def strs (G : List (List UInt8)) : List Value := G.map (fun e => .string (ofL e))
theorem strs_append (G H : List (List UInt8)) : strs (G ++ H) = strs G ++ strs H := by simp [strs]
/-- a list of texts: how it looks and its cells -/
def Texts (w : World) (v : Value) (G : List (List UInt8)) : Prop := ∃ p cap, v = .slice p G.length cap ∧ G.length ≤ 9223372036854775807 ∧ (0 < G.length → ∃ g o, p = some ⟨g, o, none⟩ ∧ g < w.heap.size ∧ ∀ j (hj : j < G.length), w.cell? ⟨g, o + j, none⟩ = some (.string (ofL G[j])))
theorem texts_of {w : World} {base : Nat} {v : Value} {G : List (List UInt8)} (h : w.ownsRow base 9 1 v G.length (Texts.strs G)) : Texts w v G := by
  obtain ⟨p, cap, hv, hle, hc⟩ := row_cells h
  have hcap : cap ≤ maxLen := by
    rcases h.2 with ⟨h1, _⟩ | ⟨_, c2, _, h1, _, _, _, h2, _⟩
    · rw [hv] at h1; injection h1 with _ _ h1; rw [h1]; exact Nat.zero_le _
    · rw [hv] at h1; injection h1 with _ _ h1; rw [h1]; exact h2
  unfold maxLen at hcap
  refine ⟨p, cap, hv, by omega, fun h0 => ?_⟩
  obtain ⟨g, hp, _, hlt, _, hcell⟩ := hc h0
  exact ⟨g, 0, hp, hlt, fun j hj => by rw [Nat.zero_add, hcell j hj]; simp [Texts.strs, List.getElem?_eq_getElem hj]⟩
theorem Texts.below {w w' : World} {v : Value} {G : List (List UInt8)} (h : Texts w v G) (hb : Below w.heap.size w w') : Texts w' v G := by
  obtain ⟨p, cap, hv, hn, hc⟩ := h
  refine ⟨p, cap, hv, hn, fun h0 => ?_⟩
  obtain ⟨g, o, hp, hlt, hcell⟩ := hc h0
  exact ⟨g, o, hp, Nat.lt_of_lt_of_le hlt hb.size, fun j hj => (hb.cell (p := ⟨g, o + j, none⟩) hlt).trans (hcell j hj)⟩
theorem Texts.drewN {w : World} {v : Value} {G : List (List UInt8)} (h : Texts w v G) (m : Nat) : Texts (w.drewN m) v G := h
theorem take_ext {G H : List (List UInt8)} {k : Nat} (hk : k < G.length) (hk2 : k < H.length) (h : G.take k = H.take k) (he : G[k] = H[k]) : G.take (k + 1) = H.take (k + 1) := by
  rw [List.take_add_one, List.take_add_one, h, List.getElem?_eq_getElem hk, List.getElem?_eq_getElem hk2, he]
end Go.Proofs.YtmlpdhmafmdkcaaGreatDoor.Texts

/- Layer 4 of the program: what the library's calls answer it (strings.Trim at blanks, strings.IndexByte at the marks), off the shelf's contracts. -/
namespace Go.Proofs.YtmlpdhmafmdkcaaGreatDoor.PLibT
open Go.ChangeShapes Go.WideShapes Go.ChangeAt Go.RowKit LexPure Bytes Ret LexSplit Texts Rows1
theorem lib_trim (s : ByteArray) (hs : s.size ≤ maxLen) (w : World) :
    Calls Tryz.prog 105 #[.string s, .string ⟨#[32, 9]⟩] w fun e w' => e = .returned (.string (ofL (trim (toL s)))) ∧ Below w.heap.size w w' := by
  have h := Any.strings_Trim_laid Tryz.lays160 (by kernel_rfl) s ⟨#[32, 9]⟩ w (by unfold maxLen at hs; omega) (by decide) (ascii_of_all (by decide))
  rw [show (⟨#[32, 9]⟩ : ByteArray).data.toList = [32, 9] from rfl, trim_shelf] at h
  exact h
theorem lib_mark (b : UInt8) (w : World) :
    Calls Tryz.prog 87 #[.string marksA, .int .u8 (b.toNat : Int)] w fun e w' => e = .returned (.int .i64 (markI b)) ∧ w' = w := by
  have h := Any.strings_IndexByte Tryz.lays137 marksA (b.toNat : Int) w
  rw [show ((b.toNat : Int)).toNat.toUInt8 = b from by simp] at h
  exact h
end Go.Proofs.YtmlpdhmafmdkcaaGreatDoor.PLibT

/- Layer 4 of the program: Trim. -/
namespace Go.Proofs.YtmlpdhmafmdkcaaGreatDoor.PTrim
open Go.ChangeShapes Go.WideShapes Go.ChangeAt Go.RowKit LexPure Bytes Ret LexSplit PLibT
set_option maxRecDepth 20000
theorem ptrim_any (s : ByteArray) (hs : s.size ≤ maxLen) (w : World) :
    Calls Tryz.prog 84 #[.string s] w fun e w' => e = .returned (.string (ofL (trim (toL s)))) ∧ Below w.heap.size w w' := by
  have H := Lib.hid (lib_trim s hs w)
  clear hs
  go_enter Tryz.func84, Tryz.ntmps84
  go_wp2_with fail
  refine H.out.mono ?_
  rintro e w1 ⟨rfl, hb1⟩
  go_wp2_with fail
  go_ret
  exact ⟨rfl, hb1⟩
end Go.Proofs.YtmlpdhmafmdkcaaGreatDoor.PTrim

/- Layer 4 of the program: Token. -/
namespace Go.Proofs.YtmlpdhmafmdkcaaGreatDoor.PToken
open Go.ChangeShapes Go.WideShapes Go.ChangeAt Go.RowKit LexPure Bytes Ret LexSplit PLibT POfValue
set_option maxRecDepth 20000
theorem toList_eq' (s : ByteArray) : s.toList = toL s := ByteArray.toList_eq s
theorem poftoken_any (b : UInt8) (w : World) :
    Calls Tryz.prog 67 #[.int .u8 (b.toNat : Int)] w fun e w' => e = .returned (.bool (markB b)) ∧ w = w' := by
  have HM := Lib.hid (lib_mark b w)
  rw [mark_cases]
  unfold marksA at HM
  generalize markI b = i at *
  generalize (b.toNat : Int) = c at *
  go_enter Tryz.func67, Tryz.ntmps67
  go_wp2_with (refine HM.out.mono ?_; rintro e w' ⟨rfl, rfl⟩)
  all_goals
    go_ret
    refine ⟨ret_bool ?_, rfl⟩
  all_goals first
    | rfl
    | exact Eq.symm (decide_eq_true (by omega))
    | exact Eq.symm (by rw [decide_eq_true (show 48 ≤ c ∧ c ≤ 57 by omega)]; rfl)
    | exact Eq.symm (by rw [decide_eq_true (show 65 ≤ c ∧ c ≤ 90 by omega), Bool.or_true]; rfl)
    | exact Eq.symm (by rw [decide_eq_true (show 97 ≤ c ∧ c ≤ 122 by omega), Bool.or_true]; rfl)
    | (rw [decide_eq_false (show ¬ (48 ≤ c ∧ c ≤ 57) by omega), decide_eq_false (show ¬ (65 ≤ c ∧ c ≤ 90) by omega), decide_eq_false (show ¬ (97 ≤ c ∧ c ≤ 122) by omega)]; first | (simp; done) | (simp; intro h; omega))
theorem ptoken_any (s : ByteArray) (hs : s.size ≤ maxLen) (w : World) :
    Calls Tryz.prog 46 #[.string s] w fun e w' => e = .returned (.bool (token (toL s))) ∧ w = w' := by
  unfold maxLen at hs
  go_enter Tryz.func46, Tryz.ntmps46
  go_wp2_with fail
  go_loop [6] (fun i => ∃ k : Nat, k ≤ s.size ∧ i = .int .i64 k ∧ Hid (((toL s).take k).all markB = true)) (fun i => s.size - (intOf i).toNat)
  case atStart => exact ⟨0, Nat.zero_le _, rfl, Lib.hid rfl⟩
  case round =>
    obtain ⟨k, hk, rfl, ha⟩ := hrel
    by_cases hlt : k < s.size
    · have hki : (k : Int) < (s.size : Int) := by omega
      have HT := Lib.hid (toL_take_succ s k hlt)
      have HG := Lib.hid (toL_get s k hlt)
      have HC := Lib.hid (fun w => poftoken_any s[k] w)
      by_cases hm : markB s[k] = true
      · have HA : Hid (((toL s).take (k + 1)).all markB = true) := Lib.hid (by rw [HT.out, List.all_append, ha.out]; simp [hm])
        rw [hm] at HC
        clear hm HT HG
        go_wp2_with (refine (HC.out _).mono ?_; rintro e w' ⟨rfl, rfl⟩)
        go_round
        case rel => exact ⟨k + 1, by omega, by go_num, HA⟩
        case measure => simp [intOf]; omega
      · have hmf : markB s[k] = false := by simpa using hm
        have HV : Hid (token (toL s) = false) := Lib.hid (by
          unfold token
          rw [Bool.and_eq_false_iff]
          left
          rw [List.all_eq_false]
          exact ⟨s[k], List.mem_of_getElem? HG.out, hm⟩)
        rw [hmf] at HC
        clear hm HT HG hmf
        go_wp2_with (refine (HC.out _).mono ?_; rintro e w' ⟨rfl, rfl⟩)
        go_ret
        exact ⟨by rw [HV.out]; rfl, rfl⟩
    · have hall : (toL s).take k = toL s := toL_take_all s (by omega)
      have HA : Hid ((toL s).all markB = true) := Lib.hid (by rw [← hall]; exact ha.out)
      clear ha hall
      by_cases h0 : s.size = 0
      · have h1 : s.toList = [] := by
          rw [ByteArray.toList_eq]
          exact List.length_eq_zero_iff.1 (by rw [← h0]; exact toL_length s)
        have h2 : s.toList.isEmpty = true := by rw [h1]; rfl
        have HV : Hid (token (toL s) = false) := Lib.hid (by
          unfold token
          rw [show toL s = [] from List.length_eq_zero_iff.1 (by rw [← h0]; exact toL_length s)]
          rfl)
        go_wp2_with fail
        go_ret
        exact ⟨by rw [HV.out]; rfl, rfl⟩
      · have h1 : ¬ s.toList = [] := fun h => by
          rw [ByteArray.toList_eq] at h
          have h2 := toL_length s
          rw [show toL s = [] from h] at h2
          simp at h2
          omega
        have h2 : s.toList.isEmpty = false := by
          cases h : s.toList with
          | nil => exact absurd h h1
          | cons => rfl
        have HV : Hid (token (toL s) = true) := Lib.hid (by
          unfold token
          rw [HA.out, ← toList_eq', h2]
          rfl)
        go_wp2_with fail
        go_ret
        exact ⟨by rw [HV.out]; rfl, rfl⟩
end Go.Proofs.YtmlpdhmafmdkcaaGreatDoor.PToken

/- Layer 4 of the program: Value. -/
namespace Go.Proofs.YtmlpdhmafmdkcaaGreatDoor.PText
open Go.ChangeShapes Go.WideShapes Go.ChangeAt Go.RowKit LexPure Bytes Ret LexSplit PLibT PTrim POfValue
set_option maxRecDepth 20000
/-- a value, as the program asks it -/
theorem value_trim (s : List UInt8) : value s = (s.all plainB && decide (trim s = s)) := by
  unfold value
  cases h : s.all plainB with
  | false => rfl
  | true =>
    rw [Bool.true_and, Bool.true_and]
    cases hs : s with
    | nil => rfl
    | cons c r =>
      have h2 : (c :: r).getLastD 0 = ((c :: r).reverse).headD 0 := by
        rw [List.headD_eq_head?_getD, List.head?_reverse, List.getLastD_eq_getLast?]
      rw [h2]
      rw [Bool.eq_iff_iff]
      simp only [List.isEmpty_cons, Bool.false_or, Bool.and_eq_true, Bool.not_eq_true', List.headD_cons, decide_eq_true_eq]
      constructor
      · rintro ⟨h1, h3⟩
        refine trim_id (fun a t e => ?_) (fun a t e => ?_)
        · injection e with e1 e2
          rw [← e1]; exact h1
        · rw [e] at h3; exact h3
      · intro e
        refine ⟨trim_head (s := c :: r) c r e, ?_⟩
        cases hr : (c :: r).reverse with
        | nil => simp at hr
        | cons a t => exact trim_last (s := c :: r) a t (by rw [e]; exact hr)
theorem pvalue_any (s : ByteArray) (hs : s.size ≤ maxLen) (w : World) :
    Calls Tryz.prog 85 #[.string s] w fun e w' => e = .returned (.bool (value (toL s))) ∧ Below w.heap.size w w' := by
  have HT := Lib.hid (fun w => ptrim_any s hs w)
  unfold maxLen at hs
  go_enter Tryz.func85, Tryz.ntmps85
  go_wp2_with fail
  go_loop [6] (fun i => ∃ k : Nat, k ≤ s.size ∧ i = .int .i64 k ∧ Hid (((toL s).take k).all plainB = true)) (fun i => s.size - (intOf i).toNat)
  case atStart => exact ⟨0, Nat.zero_le _, rfl, Lib.hid rfl⟩
  case round =>
    obtain ⟨k, hk, rfl, ha⟩ := hrel
    by_cases hlt : k < s.size
    · have hki : (k : Int) < (s.size : Int) := by omega
      have HS := Lib.hid (toL_take_succ s k hlt)
      have HG := Lib.hid (toL_get s k hlt)
      have HC := Lib.hid (fun w => pofvalue_any s[k] w)
      clear HT
      by_cases hm : plainB s[k] = true
      · have HA : Hid (((toL s).take (k + 1)).all plainB = true) := Lib.hid (by rw [HS.out, List.all_append, ha.out]; simp [hm])
        rw [hm] at HC
        clear hm HS HG
        go_wp2_with (refine (HC.out _).mono ?_; rintro e w' ⟨rfl, rfl⟩)
        go_round
        case rel => exact ⟨k + 1, by omega, by go_num, HA⟩
        case measure => simp [intOf]; omega
      · have hmf : plainB s[k] = false := by simpa using hm
        have HV : Hid (value (toL s) = false) := Lib.hid (by
          unfold value
          rw [Bool.and_eq_false_iff]
          left
          rw [List.all_eq_false]
          exact ⟨s[k], List.mem_of_getElem? HG.out, hm⟩)
        rw [hmf] at HC
        clear hm HS HG hmf
        go_wp2_with (refine (HC.out _).mono ?_; rintro e w' ⟨rfl, rfl⟩)
        go_ret
        exact ⟨by rw [HV.out]; rfl, Below.refl _ _⟩
    · have hall : (toL s).take k = toL s := toL_take_all s (by omega)
      have HQ : Hid (value (toL s) = ((ofL (trim (toL s))).toList == s.toList)) := Lib.hid (by
        rw [value_trim, ← hall, ha.out, hall, Bool.true_and, ByteArray.toList_eq, ByteArray.toList_eq, show (ofL (trim (toL s))).data.toList = trim (toL s) from toL_ofL _]
        by_cases h : trim (toL s) = toL s
        · rw [decide_eq_true h, h]; exact (beq_self_eq_true _).symm
        · rw [decide_eq_false h]; exact (beq_eq_false_iff_ne.2 h).symm)
      clear ha hall
      go_wp2_with fail
      refine (HT.out _).mono ?_
      rintro e w1 ⟨rfl, hb1⟩
      go_wp2_with fail
      go_ret
      exact ⟨by rw [HQ.out]; rfl, hb1⟩
end Go.Proofs.YtmlpdhmafmdkcaaGreatDoor.PText
