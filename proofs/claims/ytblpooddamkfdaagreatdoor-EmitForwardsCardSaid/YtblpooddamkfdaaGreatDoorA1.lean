/- Texts of this seat, one behind another: Bytes, LawKit, LawBase, BuildLays, Mem, Step, Freeze, PBuildT, Rows1, InEmb, LexPure, FieldsPure, HeadPure, HeadWrit, HeadLines, LexNum, FramePure, LexList, DecN, EmitPure, Ret, Texts, PEmTx, Flds, RLower, RAlike7, R7Get, PAlone, PLsmall, BRow, PLower, PStrip1, KeptRow, PWithout, PAlike. -/
import Derived.ProofKit
import Derived.Laws.Strings
import Derived.Below
import Derived.ChangeSame
import Derived.WideKeyArgs
import Derived.OpenShut
import Derived.Carry
import Derived.SizedLaws
import Derived.Test.YtblpooddamkfdaaGreatDoorRows
import Derived.WalkKit
import Derived.ChangeMaps5
import Derived.Shelf.Strings.Builder1
import Derived.Test.YtblpooddamkfdaaGreatDoorProg
import Derived.Laws.OwnMore
import Derived.Laws.Rows
import Derived.Deep.Draws
import Derived.Laws.AppendOwn
import Derived.Maps.OwnSet
import Derived.Lib.Hide
import Derived.Laws.IdiomStrings
import Derived.Lib.BufferRead
import Derived.Outline
import Derived.Handy
import Derived.Deep.RegionWith
import Derived.Lib.FrozenHead
import Derived.Deep.DeepAppendWide
import Derived.LoopTactic
import Derived.Maps.AppendAt
import Derived.Laws.NewBlocks
import Derived.Deep.QuietTactic
import Derived.BigQuiet
import Derived.OwnWalk
import Derived.Deep.AppendLies

/- Texts as lists of bytes, and facts on all bytes by reckoning. No program is named. -/
namespace Go.Proofs.YtblpooddamkfdaaGreatDoor.Bytes

/-- a text's bytes, and the text of bytes -/
abbrev toL (s : ByteArray) : List UInt8 := s.data.toList
def ofL (l : List UInt8) : ByteArray := ⟨l.toArray⟩
theorem toL_ofL (l : List UInt8) : toL (ofL l) = l := by simp [toL, ofL]
theorem ofL_toL (s : ByteArray) : ofL (toL s) = s := by cases s; simp [toL, ofL]
theorem ofL_inj {l m : List UInt8} (h : ofL l = ofL m) : l = m := by
  have := congrArg toL h
  rwa [toL_ofL, toL_ofL] at this
theorem toL_inj {s t : ByteArray} (h : toL s = toL t) : s = t := by
  rw [← ofL_toL s, ← ofL_toL t, h]
theorem toL_length (s : ByteArray) : (toL s).length = s.size := by simp [toL]
theorem ofL_size (l : List UInt8) : (ofL l).size = l.length := by simp [ofL, ByteArray.size]
theorem toL_get (s : ByteArray) (k : Nat) (h : k < s.size) : (toL s)[k]? = some s[k] := by
  rw [List.getElem?_eq_getElem (by rw [toL_length]; exact h)]
  simp [toL, ByteArray.getElem_eq_getElem_data]
theorem toL_take_succ (s : ByteArray) (k : Nat) (h : k < s.size) : (toL s).take (k + 1) = (toL s).take k ++ [s[k]] := by
  rw [List.take_add_one, toL_get s k h]
  rfl
theorem toL_drop (s : ByteArray) (k : Nat) (h : k < s.size) : (toL s).drop k = s[k] :: (toL s).drop (k + 1) := by
  rw [List.drop_eq_getElem_cons (by rw [toL_length]; exact h)]
  have := toL_get s k h
  rw [List.getElem?_eq_getElem (by rw [toL_length]; exact h)] at this
  rw [Option.some.inj this]
theorem toL_take_all (s : ByteArray) {k : Nat} (h : s.size ≤ k) : (toL s).take k = toL s := List.take_of_length_le (by rw [toL_length]; exact h)
theorem toL_extract (s : ByteArray) (a b : Nat) : toL (s.extract a b) = ((toL s).take b).drop a := by
  simp [toL, ByteArray.data_extract, Array.toList_extract, List.drop_take]
theorem toL_append (s t : ByteArray) : toL (s ++ t) = toL s ++ toL t := by simp [toL, ByteArray.data_append]
/-- texts held against each other, in the walk's form -/
theorem same_text (s t : ByteArray) : (s.toList == t.toList) = (toL s == toL t) := by rw [ByteArray.toList_eq, ByteArray.toList_eq]
theorem same_ofL (l m : List UInt8) : ((ofL l).toList == (ofL m).toList) = (l == m) := by rw [same_text, toL_ofL, toL_ofL]
/-- a fact on all bytes, by reckoning -/
theorem all_bytes {p : UInt8 → Bool} (h : (List.range 256).all (fun n => p (UInt8.ofNat n)) = true) (b : UInt8) : p b = true := by
  have := List.all_eq_true.1 h b.toNat (List.mem_range.2 b.toNat_lt)
  simpa using this
end Go.Proofs.YtblpooddamkfdaaGreatDoor.Bytes

/- The row's last step for any law that changes nothing of what was there: the arguments read as they did, the result is true. No program is named. -/
namespace Go.Proofs.YtblpooddamkfdaaGreatDoor.LawKit
open Go.ChangeShapes Go.WideShapes Go.ChangeAt Go.RowKit
variable {H : Type} {enc : TypeId × Value → H} {P : Program}

theorem trodAll_stays (hl : laidOutB P = true) {W W' : World} {sp : Nat → Bool} : ∀ {ts : List TypeId} {vs : List Value} {ds : List (DataW H)} {ps : List MemPlace},
    (∀ t ∈ ts, P.readableRec t = true ∧ t < P.types.size) → DataW.TrodAll enc P W 0 (fun _ => true) true ts vs ds ps → (∀ p ∈ ps, W.sameAt W' p) → (∀ p ∈ ps, sp p.block = true) →
    DataW.TrodAll enc P W' 0 sp true ts vs ds ps
  | [], [], [], _, _, h, _, _ => h
  | t :: ts, v :: vs, d :: ds, ps, ht, h, hs, hsp => by
    obtain ⟨p, q, h1, h2, rfl⟩ := h
    obtain ⟨hr, hrow⟩ := ht t (List.mem_cons_self ..)
    exact ⟨p, q, WideElems.Trod_stays hl hr hrow h1 (fun x hx => hs x (List.mem_append_left _ hx)) (fun x hx => hsp x (List.mem_append_left _ hx)),
      trodAll_stays hl (fun t ht' => ht t (List.mem_cons_of_mem _ ht')) h2 (fun x hx => hs x (List.mem_append_right _ hx)) (fun x hx => hsp x (List.mem_append_right _ hx)), rfl⟩
  | [], _ :: _, _, _, _, h, _, _ => h.elim
  | [], [], _ :: _, _, _, h, _, _ => h.elim
  | _ :: _, [], _, _, _, h, _, _ => h.elim
  | _ :: _, _ :: _, [], _, _, h, _, _ => h.elim

/-- a law without package variables: true, and nothing that was there has turned -/
theorem law_post {f : Func} {s : ChangeSpec} {W W' : World} {args : Array Value} {ds gs : List (DataW H)} {before : List MemPlace} {bt : TypeId}
    (hl : laidOutB P = true) (ht : f.params.toList.all (fun t => P.readableRec t && decide (t < P.types.size)) = true)
    (hW : DataW.Whole enc P f.params.toList s.vars false W args.toList ds gs before) (hvars : s.vars = [])
    (hfn : s.fn H (ds ++ gs) = { results := [.lit (.bool true)], args := ds }) (hres : f.resultTypes = #[bt]) (hbt : P.underlying bt = some .bool)
    (hb : Below W.heap.size W W') : s.post enc P f false true false false W args (.bool true) W' := by
  have hW' := hW
  obtain ⟨p, q, hA, hV, rfl, hfz, hnd⟩ := hW
  rw [hvars] at hV
  have hlt : ∀ x ∈ p ++ q, x.block < W.heap.size := fun x hx => by simpa using hW'.lt x hx
  obtain ⟨rfl, rfl⟩ : gs = [] ∧ q = [] := by
    cases gs with
    | nil => exact ⟨rfl, hV⟩
    | cons => exact hV.elim
  have hall : ∀ sp : Nat → Bool, (∀ x ∈ p ++ [], sp x.block = true) → DataW.TrodAll enc P W' 0 sp true f.params.toList args.toList ds p := fun sp hsp =>
    trodAll_stays hl (fun t htt => by
      have := List.all_eq_true.1 ht t htt
      simpa using this) hA (fun x hx => hb.same (hlt x (List.mem_append_left _ hx))) (fun x hx => hsp x (List.mem_append_left _ hx))
  have hold : ∀ x ∈ p ++ [], (fun b => decide (b < W.heap.size)) x.block = true := fun x hx => by simpa using hlt x hx
  have hT : ∀ (b : Nat) (sp : Nat → Bool) (hd : Bool), DataW.TrodAll enc P W' b sp hd f.resultTypes.toList ((Value.bool true).resultList f.resultTypes.size) [.lit (.bool true)] [] := fun b sp hd => by
    rw [hres]
    exact trodAll_cons_mk (shut_bool hbt _) trodAll_mk0
  refine ⟨ds, [], p ++ [], [], p, [], hW', ?_, ?_, ?_, World.keptBut_mono (fun x hx => ⟨hx, ?_⟩) (hb.frame (· ∈ p ++ [])), fun h => by cases h⟩
  · rw [hfn]; exact hT _ _ _
  · rw [hfn]; exact hall _ hold
  · rw [hfn, hvars]; rfl
  · exact Or.inr (Or.inl (by simpa using hx))
/-- what is reached through one argument weighs no more than the form lets -/
theorem weights_get {q : Nat → Bool} : ∀ (ts : List TypeId) (ds : List (DataW H)) (i : Nat) (t : TypeId) (d : DataW H), (DataW.weightsEach P ts ds).all q = true → ts[i]? = some t → ds[i]? = some d → (d.weights P t).all q = true
  | [], _, _, _, _, _, h, _ => by simp at h
  | _ :: _, [], _, _, _, _, _, h => by simp at h
  | t' :: ts, d' :: ds, 0, t, d, hq, ht, hd => by
    simp only [List.getElem?_cons_zero, Option.some.injEq] at ht hd
    subst ht; subst hd
    simp only [DataW.weightsEach, List.all_append, Bool.and_eq_true] at hq
    exact hq.1
  | t' :: ts, d' :: ds, i + 1, t, d, hq, ht, hd => by
    simp only [List.getElem?_cons_succ] at ht hd
    simp only [DataW.weightsEach, List.all_append, Bool.and_eq_true] at hq
    exact weights_get ts ds i t d hq.2 ht hd
theorem weight_string {t : TypeId} {s : ByteArray} (h : ((DataW.lit (H := H) (.string s.data.toList)).weights P t).all (fun x => decide (x ≤ reachBytes)) = true) : s.size ≤ 140737488351232 := by
  simp only [DataW.weights, List.all_cons, List.all_nil, Bool.and_true, reachBytes] at h
  have := of_decide_eq_true h
  simpa using this
end Go.Proofs.YtblpooddamkfdaaGreatDoor.LawKit

/- Two closed facts on the loaded program, laid once for all laws of the seat. -/
namespace Go.Proofs.YtblpooddamkfdaaGreatDoor.LawBase
theorem own : ownKnob Tryz.prog.godebug = none := by kernel_rfl
theorem laidOut : laidOutB Tryz.prog = true := by kernel_rfl
end Go.Proofs.YtblpooddamkfdaaGreatDoor.LawBase

/-
  DERIVED: THE SHELF's CONTRACTS AT THIS DUMP, IN PLAIN WORDS (tools/lay-plain.mjs out of 'YtblpooddamkfdaaGreatDoorBuildLaysT.lean', which tools/lay-shelf.mjs wrote): THE SAME DECLARATIONS UNDER THE SAME NAMES: 'import', 'namespace', 'open', 'def', 'theorem' AND NOTHING ELSE: no command of the shelf's: FOR A HAND-IN. Each laying: the table of numbers ('.._ren') and one theorem, a field a fact of the dump's own or the kernel's comparison; each contract: ONE APPLICATION.
-/
namespace Go.Proofs
open Go.Shelf
def Tryz.lays166_ren : Go.Shelf.Ren := ⟨fun | 166 => 38 | 240 => 64 | 276 => 84 | n => n, fun | 70 => 75 | 9 => 9 | 3 => 3 | 75 => 89 | 0 => 0 | 72 => 78 | 37 => 76 | 4 => 4 | 164 => 137 | 80 => 53 | 5 => 5 | n => n, fun | n => n⟩
theorem Tryz.lays166 : Go.Proofs.Lays.n166 Tryz.prog Tryz.lays166_ren := {
  mixed := by kernel_rfl
  f166 := Tryz.func38.trans (congrArg some (by kernel_rfl))
  f240 := Tryz.func64.trans (congrArg some (by kernel_rfl))
  f276 := Tryz.func84.trans (congrArg some (by kernel_rfl))
  t0 := Tryz.underlying0
  a0 := Tryz.isAgg0
  z0 := Tryz.sizeOf0
  v0 := Tryz.zeroValue0
  t3 := Tryz.underlying3
  a3 := Tryz.isAgg3
  z3 := Tryz.sizeOf3
  v3 := Tryz.zeroValue3
  t4 := Tryz.underlying4
  a4 := Tryz.isAgg4
  z4 := Tryz.sizeOf4
  v4 := Tryz.zeroValue4
  t9 := Tryz.underlying9
  a9 := Tryz.isAgg9
  z9 := Tryz.sizeOf9
  v9 := Tryz.zeroValue9
  t20 := Tryz.underlying20
  a20 := Tryz.isAgg20
  z20 := Tryz.sizeOf20
  v20 := Tryz.zeroValue20
  t37 := Tryz.underlying76
  a37 := Tryz.isAgg76
  z37 := Tryz.sizeOf76
  v37 := Tryz.zeroValue76
  t70 := Tryz.underlying75
  a70 := Tryz.isAgg75
  z70 := Tryz.sizeOf75
  v70 := Tryz.zeroValue75
  t72 := Tryz.underlying78
  a72 := Tryz.isAgg78
  z72 := Tryz.sizeOf78
  v72 := Tryz.zeroValue78
  t75 := Tryz.underlying89
  a75 := Tryz.isAgg89
  z75 := Tryz.sizeOf89
  v75 := Tryz.zeroValue89
  t164 := Tryz.underlying137
  a164 := Tryz.isAgg137
  z164 := Tryz.sizeOf137
  v164 := Tryz.zeroValue137 }
def Tryz.lays169_ren : Go.Shelf.Ren := ⟨fun | 169 => 39 | n => n, fun | 70 => 75 | 9 => 9 | 0 => 0 | 72 => 78 | 37 => 76 | 127 => 116 | 3 => 3 | 5 => 5 | n => n, fun | n => n⟩
theorem Tryz.lays169 : Go.Proofs.Lays.n169 Tryz.prog Tryz.lays169_ren := {
  mixed := by kernel_rfl
  f169 := Tryz.func39.trans (congrArg some (by kernel_rfl))
  t0 := Tryz.underlying0
  a0 := Tryz.isAgg0
  z0 := Tryz.sizeOf0
  v0 := Tryz.zeroValue0
  t3 := Tryz.underlying3
  a3 := Tryz.isAgg3
  z3 := Tryz.sizeOf3
  v3 := Tryz.zeroValue3
  t9 := Tryz.underlying9
  a9 := Tryz.isAgg9
  z9 := Tryz.sizeOf9
  v9 := Tryz.zeroValue9
  t37 := Tryz.underlying76
  a37 := Tryz.isAgg76
  z37 := Tryz.sizeOf76
  v37 := Tryz.zeroValue76
  t70 := Tryz.underlying75
  a70 := Tryz.isAgg75
  z70 := Tryz.sizeOf75
  v70 := Tryz.zeroValue75
  t72 := Tryz.underlying78
  a72 := Tryz.isAgg78
  z72 := Tryz.sizeOf78
  v72 := Tryz.zeroValue78
  t127 := Tryz.underlying116
  a127 := Tryz.isAgg116
  z127 := Tryz.sizeOf116
  v127 := Tryz.zeroValue116 }
end Go.Proofs

/- Words for memory, of my own: a block that holds just these cells; a world in which only one block, and what is new, has turned. No program is named. -/
namespace Go.Proofs.YtblpooddamkfdaaGreatDoor.Mem
open Go.RowKit

/-- block g holds just the cells cs, of element type t; none of them is frozen -/
structure Has (w : World) (g : Nat) (t : TypeId) (cs : Array Value) : Prop where
  at_ : w.heap[g]? = some (.cells cs t (0, 0))

section
variable {w w' : World} {g : Nat} {t : TypeId} {cs : Array Value}
theorem Has.lt (h : Has w g t cs) : g < w.heap.size := by
  have := h.at_
  rcases Nat.lt_or_ge g w.heap.size with hl | hl
  · exact hl
  · rw [Array.getElem?_eq_none hl] at this; cases this
theorem Has.cell (h : Has w g t cs) (i : Nat) : w.cell? ⟨g, i, none⟩ = cs[i]? := cell_of_row w g i cs t (0, 0) h.at_
theorem Has.free (h : Has w g t cs) (i : Nat) : w.frozen? ⟨g, i, none⟩ = false := by
  have := h.at_
  simp [World.frozen?, this]
theorem Has.new (w : World) (t : TypeId) (cs : Array Value) : Has (w.alloc (.cells cs t)) w.heap.size t cs := ⟨heap_alloc_new w _⟩
theorem Has.alloc (h : Has w g t cs) (o : Obj) : Has (w.alloc o) g t cs := ⟨(Below.heap_alloc w o g h.lt).trans h.at_⟩
theorem Has.drew (h : Has w g t cs) : Has w.drew g t cs := ⟨h.at_⟩
theorem Has.drewN (h : Has w g t cs) (n : Nat) : Has (w.drewN n) g t cs := ⟨h.at_⟩
theorem Has.set_ (h : Has w g t cs) (i : Nat) (u : Value) : Has (w.setCell ⟨g, i, none⟩ u) g t (cs.setIfInBounds i u) := by
  have := h.at_
  exact ⟨by simp [World.setCell, Array.getElem?_modify, this]⟩
theorem Has.far (h : Has w g t cs) {p : Addr} (hp : g ≠ p.block) (u : Value) : Has (w.setCell p u) g t cs := ⟨(Below.heap_setCell w p u g hp).trans h.at_⟩
theorem Has.below {B : Nat} (h : Has w g t cs) (hb : Below B w w') (hg : g < B) : Has w' g t cs := ⟨(hb.block g hg).trans h.at_⟩
theorem Has.grown {row : Option Nat} (h : Has w g t cs) (hb : w.grownBy w' row) (hg : some g ≠ row) : Has w' g t cs := ⟨(hb.block g h.lt hg).trans h.at_⟩
theorem Has.ne_ {g' : Nat} {t' : TypeId} {cs' : Array Value} (h : Has w g t cs) (h' : Has w g' t' cs') (hne : t ≠ t') : g ≠ g' := by
  rintro rfl
  have h1 := h.at_
  rw [h'.at_] at h1
  injection h1 with h1
  injection h1 with _ h2
  exact hne h2.symm
end

/-! ### only block g, and what is new -/
section
variable {a w w' : World} {g : Nat} {row : Option Nat}
theorem own_drew (h : a.grownBy w row) : a.grownBy w.drew row := ⟨h.os, h.tape, h.output, h.size, h.block⟩
theorem own_drewN (h : a.grownBy w row) (n : Nat) : a.grownBy (w.drewN n) row := ⟨h.os, h.tape, h.output, h.size, h.block⟩
theorem own_alloc (h : a.grownBy w row) (o : Obj) : a.grownBy (w.alloc o) row :=
  ⟨h.os, h.tape, h.output, Nat.le_trans h.size (by simp), fun i hi hne => (Below.heap_alloc w o i (Nat.lt_of_lt_of_le hi h.size)).trans (h.block i hi hne)⟩
theorem own_set (h : a.grownBy w (some g)) (i : Nat) (u : Value) : a.grownBy (w.setCell ⟨g, i, none⟩ u) (some g) :=
  ⟨h.os, h.tape, h.output, by simpa [World.setCell] using h.size, fun j hj hne => (Below.heap_setCell w _ u j (fun e => hne (by rw [e]))).trans (h.block j hj hne)⟩
theorem own_set_new (h : a.grownBy w row) {p : Addr} (hp : a.heap.size ≤ p.block) (u : Value) : a.grownBy (w.setCell p u) row :=
  ⟨h.os, h.tape, h.output, by simpa [World.setCell] using h.size, fun j hj hne => (Below.heap_setCell w _ u j (fun e => by omega)).trans (h.block j hj hne)⟩
theorem own_of_below (h : Below a.heap.size a w) (row : Option Nat) : a.grownBy w row := ⟨h.os, h.tape, h.output, h.size, fun i hi _ => h.block i hi⟩
theorem own_trans (h : a.grownBy w row) (k : w.grownBy w' row) : a.grownBy w' row :=
  ⟨k.os.trans h.os, k.tape.trans h.tape, k.output.trans h.output, Nat.le_trans h.size k.size, fun i hi hne => (k.block i (Nat.lt_of_lt_of_le hi h.size) hne).trans (h.block i hi hne)⟩
/-- a cell of another block reads as it did -/
theorem own_cell {b i : Nat} (h : a.grownBy w (some g)) (hb : b < a.heap.size) (hne : b ≠ g) : w.cell? ⟨b, i, none⟩ = a.cell? ⟨b, i, none⟩ :=
  World.cell?_of_block (w := a) (h.block b hb (fun e => hne (Option.some.inj e)))
/-- what lies from B on may turn -/
theorem below_own {B : Nat} (h : Below B a w) (k : w.grownBy w' (some g)) (hB : B ≤ w.heap.size) (hg : B ≤ g) : Below B a w' :=
  h.grown k hB (fun j hj => by injection hj with hj; omega)
/-- one call behind another -/
theorem below_chain {a b c : World} (h : Below a.heap.size a b) (k : Below b.heap.size b c) : Below a.heap.size a c :=
  ⟨k.os.trans h.os, k.tape.trans h.tape, k.output.trans h.output, Nat.le_trans h.size k.size, fun i hi => (k.block i (Nat.lt_of_lt_of_le hi h.size)).trans (h.block i hi)⟩
end
end Go.Proofs.YtblpooddamkfdaaGreatDoor.Mem

/- Words for memory, of my own: an object that holds several blocks (F: which), and a world in which only these, and what is new, have turned. No program is named. -/
namespace Go.Proofs.YtblpooddamkfdaaGreatDoor.Step
open Go.RowKit Mem

/-- w' is w but for the blocks of F and new ones; F' is F and perhaps some of the new ones -/
structure Step (w w' : World) (F F' : Nat → Prop) : Prop where
  os : w'.os = w.os
  tape : w'.tape = w.tape
  output : w'.output = w.output
  size : w.heap.size ≤ w'.heap.size
  block : ∀ k, k < w.heap.size → ¬ F k → w'.heap[k]? = w.heap[k]?
  grow : ∀ k, F' k → F k ∨ (w.heap.size ≤ k ∧ k < w'.heap.size)

section
variable {w w1 w2 w' : World} {F F1 F2 F' : Nat → Prop}
theorem Step.refl (w : World) (F : Nat → Prop) : Step w w F F := ⟨rfl, rfl, rfl, Nat.le_refl _, fun _ _ _ => rfl, fun _ h => .inl h⟩
theorem Step.trans (h : Step w w1 F F1) (k : Step w1 w2 F1 F2) : Step w w2 F F2 :=
  ⟨k.os.trans h.os, k.tape.trans h.tape, k.output.trans h.output, Nat.le_trans h.size k.size,
    fun i hi hn => (k.block i (Nat.lt_of_lt_of_le hi h.size) (fun hf => (h.grow i hf).elim hn (fun ⟨a, _⟩ => by omega))).trans (h.block i hi hn),
    fun i hi => (k.grow i hi).elim (fun hf => (h.grow i hf).elim .inl (fun ⟨a, b⟩ => .inr ⟨a, Nat.lt_of_lt_of_le b k.size⟩)) (fun ⟨a, b⟩ => .inr ⟨Nat.le_trans h.size a, b⟩)⟩
/-- a wider F -/
theorem Step.widen (h : Step w w' F F') {G : Nat → Prop} (hG : ∀ k, F k → G k) : Step w w' G (fun k => F' k ∨ G k) :=
  ⟨h.os, h.tape, h.output, h.size, fun k hk hn => h.block k hk (fun hf => hn (hG k hf)), fun k hk => hk.elim (fun hf => (h.grow k hf).imp (hG k) id) .inl⟩
theorem Step.less (h : Step w w' F F') {G : Nat → Prop} (hG : ∀ k, G k → F' k) : Step w w' F G := { h with grow := fun k hk => h.grow k (hG k hk) }
theorem Step.regrow (h : Step w w' F F') {G : Nat → Prop} (hG : ∀ k, G k → F k ∨ (w.heap.size ≤ k ∧ k < w'.heap.size)) : Step w w' F G := { h with grow := hG }
theorem Step.more (h : Step w w' F F') {G : Nat → Prop} (hG : ∀ k, F k → G k) (hG' : ∀ k, F' k → G k ∨ (w.heap.size ≤ k ∧ k < w'.heap.size)) : Step w w' G F' :=
  ⟨h.os, h.tape, h.output, h.size, fun k hk hn => h.block k hk (fun hf => hn (hG k hf)), hG'⟩
theorem Step.up (h : Step w w' F F') {G : Nat → Prop} (hG : ∀ k, F k → G k) : Step w w' G G :=
  ⟨h.os, h.tape, h.output, h.size, fun k hk hn => h.block k hk (fun hf => hn (hG k hf)), fun _ hk => .inl hk⟩
theorem Step.up2 (h : Step w w' F F') {G : Nat → Prop} (hG : ∀ k, F k → G k) : Step w w' G F' :=
  ⟨h.os, h.tape, h.output, h.size, fun k hk hn => h.block k hk (fun hf => hn (hG k hf)), fun k hk => (h.grow k hk).imp (hG k) id⟩
theorem Step.beyond (h : Step w w1 F F') {G G' : Nat → Prop} (k : Step w1 w2 G G') (hG : ∀ j, G j → w.heap.size ≤ j) : Step w w2 F F' :=
  ⟨k.os.trans h.os, k.tape.trans h.tape, k.output.trans h.output, Nat.le_trans h.size k.size,
    fun i hi hn => (k.block i (Nat.lt_of_lt_of_le hi h.size) (fun hg => by have := hG i hg; omega)).trans (h.block i hi hn),
    fun i hi => (h.grow i hi).imp id (fun ⟨a, b⟩ => ⟨a, Nat.lt_of_lt_of_le b k.size⟩)⟩
theorem Step.of_grown {row : Option Nat} (h : w.grownBy w' row) (hF : ∀ k, row = some k → F k) : Step w w' F F :=
  ⟨h.os, h.tape, h.output, h.size, fun k hk hn => h.block k hk (fun e => hn (hF k e.symm)), fun _ h => .inl h⟩
theorem Step.alloc (w : World) (o : Obj) (F : Nat → Prop) : Step w (w.alloc o) F F := Step.of_grown (World.grownBy_alloc w o none) (fun _ e => by cases e)
theorem Step.drew (w : World) (F : Nat → Prop) : Step w w.drew F F := ⟨rfl, rfl, rfl, Nat.le_refl _, fun _ _ _ => rfl, fun _ h => .inl h⟩
theorem Step.drewN (w : World) (n : Nat) (F : Nat → Prop) : Step w (w.drewN n) F F := ⟨rfl, rfl, rfl, Nat.le_refl _, fun _ _ _ => rfl, fun _ h => .inl h⟩
theorem Step.set_ (w : World) {g : Nat} (hg : F g) (i : Nat) (u : Value) : Step w (w.setCell ⟨g, i, none⟩ u) F F :=
  ⟨rfl, rfl, rfl, by simp [World.setCell], fun k _ hn => Below.heap_setCell w _ u k (fun e => hn (by rw [e]; exact hg)), fun _ h => .inl h⟩
theorem Step.of_below (h : Below w.heap.size w w') (F : Nat → Prop) : Step w w' F F := ⟨h.os, h.tape, h.output, h.size, fun k hk _ => h.block k hk, fun _ h => .inl h⟩
theorem Step.cell (h : Step w w' F F') {b i : Nat} (hb : b < w.heap.size) (hn : ¬ F b) : w'.cell? ⟨b, i, none⟩ = w.cell? ⟨b, i, none⟩ :=
  World.cell?_of_block (w := w) (h.block b hb hn)
theorem Step.has {g : Nat} {t : TypeId} {cs : Array Value} (h : Step w w' F F') (hh : Has w g t cs) (hn : ¬ F g) : Has w' g t cs := ⟨(h.block g hh.lt hn).trans hh.at_⟩
theorem Step.row {base n size : Nat} {e : TypeId} {v : Value} {xs : List Value} (h : Step w w' F F') (hr : w.ownsRow base e size v n xs) (hn : ∀ b, v.ownBlock = some b → ¬ F b) : w'.ownsRow base e size v n xs := by
  refine ⟨hr.1, ?_⟩
  rcases hr.2 with hx | ⟨g, cap, cur, rfl, hb, hgg, rest⟩
  · exact .inl hx
  · refine .inr ⟨g, cap, cur, rfl, hb, ?_, rest⟩
    rw [h.block g (Array.getElem?_eq_some_iff.1 hgg).1 (hn g rfl)]
    exact hgg
theorem Step.map {H : Type} {P : Program} {k : TypeId} {R : Value → Option (DataW H × List MemPlace)} {b n : Nat} {D : DataW H} (h : Step w w' F F') (hm : w.ownsMap P k R b n D) (hn : ¬ F b) : w'.ownsMap P k R b n D := by
  have hlt := hm.lt
  obtain ⟨es, clock, hb, rest⟩ := hm
  exact ⟨es, clock, (h.block b hlt hn).trans hb, rest⟩
theorem Step.below (h : Step w w' F F') {B : Nat} (hB : B ≤ w.heap.size) (hF : ∀ k, F k → B ≤ k) : Below B w w' :=
  ⟨h.os, h.tape, h.output, Nat.le_trans hB h.size |> fun _ => h.size, fun k hk => h.block k (by omega) (fun hf => by have := hF k hf; omega)⟩
end

/-- F, and one block more -/
def plus (F : Nat → Prop) (m : Nat) : Nat → Prop := fun k => F k ∨ k = m
theorem Step.with_ {w w' : World} {F F' : Nat → Prop} (h : Step w w' F F') (m : Nat) : Step w w' (plus F m) (plus F' m) :=
  ⟨h.os, h.tape, h.output, h.size, fun k hk hn => h.block k hk (fun hf => hn (.inl hf)), fun k hk => hk.elim (fun hf => (h.grow k hf).imp .inl id) (fun e => .inl (.inr e))⟩
theorem Step.with2 {w w' : World} {F F' : Nat → Prop} {m : Nat} (h : Step w w' (plus F m) F') : Step w w' (plus F m) (plus F' m) :=
  h.regrow (fun k hk => hk.elim (h.grow k) (fun e => .inl (.inr e)))
theorem Step.only {w w' : World} {G : Nat → Prop} (h : Step w w' G G) (F : Nat → Prop) {m : Nat} (hG : ∀ k, G k → k = m) : Step w w' (plus F m) (plus F m) := h.up (fun k hk => .inr (hG k hk))
theorem Step.none {w w' : World} {G : Nat → Prop} (h : Step w w' G G) (F : Nat → Prop) (hG : ∀ k, ¬ G k) : Step w w' F F := h.up (fun k hk => (hG k hk).elim)
theorem new_cell {W : World} {cs : Array Value} {t : TypeId} {n : Nat} (h : W.heap.size = n) (i : Nat) : (W.alloc (.cells cs t)).cell? ⟨n, i, none⟩ = cs[i]? := by
  subst h
  exact (Has.new W t cs).cell i
theorem row_lt {w : World} {base n size : Nat} {e : TypeId} {v : Value} {xs : List Value} (hr : w.ownsRow base e size v n xs) {b : Nat} (h : v.ownBlock = some b) : b < w.heap.size := (hr.lt b h).2
end Go.Proofs.YtblpooddamkfdaaGreatDoor.Step

/- What freezing a stretch of a row turns. No program is named. -/
namespace Go.Proofs.YtblpooddamkfdaaGreatDoor.Freeze
open Go.RowKit Mem Step
theorem freeze_far (w : World) (p : Addr) (n k : Nat) (h : k ≠ p.block) : (w.freeze p n).heap[k]? = w.heap[k]? := by
  unfold World.freeze
  split
  · rfl
  · simp only [Array.getElem?_modify]
    rw [if_neg (fun e => h e.symm)]
theorem freeze_size (w : World) (p : Addr) (n : Nat) : (w.freeze p n).heap.size = w.heap.size := by
  unfold World.freeze
  split <;> simp
theorem freeze_rest (w : World) (p : Addr) (n : Nat) : (w.freeze p n).os = w.os ∧ (w.freeze p n).tape = w.tape ∧ (w.freeze p n).output = w.output := by
  unfold World.freeze
  split <;> exact ⟨rfl, rfl, rfl⟩
theorem freeze_step (w : World) (g n : Nat) : Step w (w.drew.freeze ⟨g, 0, none⟩ n) (fun k => k = g) (fun k => k = g) := by
  obtain ⟨h1, h2, h3⟩ := freeze_rest w.drew ⟨g, 0, none⟩ n
  exact ⟨h1, h2, h3, by rw [freeze_size]; exact Nat.le_refl _, fun k _ hk => freeze_far w.drew ⟨g, 0, none⟩ n k hk, fun _ h => .inl h⟩
end Go.Proofs.YtblpooddamkfdaaGreatDoor.Freeze

/- A strings.Builder that a call has made itself: its writes and its text, in the words of lists of bytes. -/
namespace Go.Proofs.YtblpooddamkfdaaGreatDoor.PBuildT
open Go.ChangeShapes Go.WideShapes Go.ChangeAt Go.RowKit Bytes
theorem extra166 : Builder.Extra Tryz.prog Tryz.lays166_ren := {
  sizeBuilder := by kernel_rfl
  liesBuilder := by kernel_rfl
  t5 := Tryz.underlying5
  a5 := Tryz.isAgg5
  z5 := Tryz.sizeOf5
  v5 := Tryz.zeroValue5
  infoByte := by kernel_rfl
  cellsByte := by kernel_rfl
  sizeByte := by kernel_rfl
  neB5 := by decide }
theorem extra169 : Builder.Extra Tryz.prog Tryz.lays169_ren := {
  sizeBuilder := by kernel_rfl
  liesBuilder := by kernel_rfl
  t5 := Tryz.underlying5
  a5 := Tryz.isAgg5
  z5 := Tryz.sizeOf5
  v5 := Tryz.zeroValue5
  infoByte := by kernel_rfl
  cellsByte := by kernel_rfl
  sizeByte := by kernel_rfl
  neB5 := by decide }
/-- the builder in block b, made by the call that began in world w, holds acc -/
def Bld (w : World) (b : Nat) (acc : List UInt8) (wr : World) : Prop := Lib.IsBuilder 78 5 w.heap.size b (Lib.byteCells acc) wr ∧ Below w.heap.size w wr
theorem Bld.start (w : World) : Bld w w.heap.size [] (w.alloc (.cells #[.pointer none, .slice none 0 0] 78)) :=
  ⟨Lib.fresh_isBuilder _ _ w, (Below.refl _ w).alloc (Nat.le_refl _) _⟩
theorem at_below {T e : TypeId} {B b : Nat} {p : Value} {bs : List Value} {w w' : World} (h : Lib.BuilderAt T e B b p bs w) (hb : Below w.heap.size w w') : Lib.BuilderAt T e B b p bs w' := by
  obtain ⟨hB, v, hv, hown, hne⟩ := h
  have hlt : b < w.heap.size := (Array.getElem?_eq_some_iff.1 hv).1
  refine ⟨hB, v, by rw [hb.block b hlt]; exact hv, ⟨hown.1, ?_⟩, hne⟩
  rcases hown.2 with h0 | ⟨g, cap, cur, h1, h2, h3, h4⟩
  · exact .inl h0
  · exact .inr ⟨g, cap, cur, h1, h2, by rw [hb.block g (Array.getElem?_eq_some_iff.1 h3).1]; exact h3, h4⟩
theorem Bld.keep {w wr w' : World} {b : Nat} {acc : List UInt8} (h : Bld w b acc wr) (hb : Below wr.heap.size wr w') : Bld w b acc w' :=
  ⟨h.1.elim (fun x => .inl (at_below x hb)) (fun x => .inr (at_below x hb)), ⟨hb.os.trans h.2.os, hb.tape.trans h.2.tape, hb.output.trans h.2.output, Nat.le_trans h.2.size hb.size, fun i hi => (hb.block i (Nat.lt_of_lt_of_le hi h.2.size)).trans (h.2.block i hi)⟩⟩
theorem bld_text {w wr : World} {b : Nat} {acc : List UInt8} (h : Bld w b acc wr) (s : ByteArray) (hl : acc.length + s.size ≤ 140737488355328) :
    Calls Tryz.prog 38 #[.pointer (some ⟨b, 0, none⟩), .string s] wr fun e w' => e = .returned (.tuple #[.int .i64 s.size, .nilIface]) ∧ Bld w b (acc ++ toL s) w' := by
  refine (Any.Builder_WriteString Tryz.lays166 extra166 w.heap.size b _ s wr h.1 (by rw [Lib.byteCells_length]; exact hl) h.2.size).mono ?_
  rintro e w' ⟨rfl, h1, h2⟩
  refine ⟨rfl, ?_, h.2.trans h2⟩
  rw [Lib.byteCells_append]
  exact .inr h1
theorem bld_out {w wr : World} {b : Nat} {acc : List UInt8} (h : Bld w b acc wr) :
    Calls Tryz.prog 39 #[.pointer (some ⟨b, 0, none⟩)] wr fun e w' => e = .returned (.string (ofL acc)) ∧ Below w.heap.size w w' := by
  refine (Any.Builder_String_any Tryz.lays169 extra169 w.heap.size b acc wr h.1 h.2.size).mono ?_
  rintro e w' ⟨rfl, h2⟩
  exact ⟨rfl, h.2.trans h2⟩
end Go.Proofs.YtblpooddamkfdaaGreatDoor.PBuildT

/- Rows of bytes and of texts that a call owns. No program is named. -/
namespace Go.Proofs.YtblpooddamkfdaaGreatDoor.Rows1
open Bytes Go.RowKit

def bv (c : UInt8) : Value := .int .u8 (c.toNat : Int)
def bvs (l : List UInt8) : List Value := l.map bv
theorem bvs_length (l : List UInt8) : (bvs l).length = l.length := by simp [bvs]
theorem bvs_append (l m : List UInt8) : bvs (l ++ m) = bvs l ++ bvs m := by simp [bvs]
/-- how a row's value looks -/
theorem row_form {w : World} {base n size : Nat} {e : TypeId} {v : Value} {xs : List Value} (h : w.ownsRow base e size v n xs) : ∃ p cap, v = .slice p n cap ∧ (0 < n → ∃ g, p = some ⟨g, 0, none⟩ ∧ v.ownBlock = some g) := by
  rcases h.2 with ⟨hv, hn⟩ | ⟨g, cap, cur, hv, _⟩
  · exact ⟨none, 0, by rw [hv, hn], fun h0 => by omega⟩
  · exact ⟨_, cap, hv, fun _ => ⟨g, rfl, by rw [hv]; rfl⟩⟩
/-- a row of one-cell elements: how it looks, and its cells -/
theorem row_cells {w : World} {base n : Nat} {e : TypeId} {v : Value} {xs : List Value} (h : w.ownsRow base e 1 v n xs) : ∃ p cap, v = .slice p n cap ∧ n ≤ cap ∧ (0 < n → ∃ g, p = some ⟨g, 0, none⟩ ∧ base ≤ g ∧ g < w.heap.size ∧ v.ownBlock = some g ∧ ∀ j, j < n → w.cell? ⟨g, j, none⟩ = xs[j]?) := by
  rcases h.2 with ⟨hv, hn⟩ | ⟨g, cap, cur, hv, hb, hg, hcap, rest⟩
  · exact ⟨none, 0, by rw [hv, hn], by omega, fun h0 => by omega⟩
  · refine ⟨_, cap, hv, hcap, fun _ => ⟨g, rfl, hb, (Array.getElem?_eq_some_iff.1 hg).1, by rw [hv]; rfl, fun j hj => ?_⟩⟩
    have hl : j < xs.length := by have := h.1; omega
    have := h.cells (g := g) (by rw [hv]; rfl) j xs[j] (List.getElem?_eq_getElem hl)
    rw [List.getElem?_eq_getElem hl]
    have e : (⟨g, 0, none⟩ : Addr).add j = ⟨g, j, none⟩ := by unfold Addr.add; split <;> simp_all
    rwa [e] at this
/-- the beginning of a row -/
theorem row_cut {w : World} {base n m cap : Nat} {e : TypeId} {p : Option Addr} {xs : List Value} (h : w.ownsRow base e 1 (.slice p n cap) n xs) (hm : m ≤ n) : w.ownsRow base e 1 (.slice p m cap) m (xs.take m) := by
  refine ⟨by have := h.1; rw [List.length_take]; omega, ?_⟩
  rcases h.2 with ⟨hv, hn⟩ | ⟨g, c, cur, hv, hb, hg, hcap, hmx, hsz, ht⟩
  · injection hv with h1 h2 h3
    exact .inl ⟨by rw [h1, h3, show m = 0 by omega], by omega⟩
  · injection hv with h1 h2 h3
    subst h3
    exact .inr ⟨g, _, cur, by rw [h1], hb, hg, by omega, hmx, hsz, by rw [← ht, List.take_take]; congr 1; omega⟩
/-- 'string(b)' of a row of the call's own -/
theorem own_string {P : Program} {w : World} {base n : Nat} {e : TypeId} {v : Value} {l : List UInt8} (h : w.ownsRow base e 1 v n (bvs l)) (src dst : TypeId) (hs : P.underlying src = some (.slice e)) (he : P.underlying e = some (.int .u8)) (hd : P.underlying dst = some .string) :
    (Go.convert src dst v).run P w = .ok (.string (ofL l)) w := by
  have hl : l.length = n := by have := h.1; rw [bvs_length] at this; omega
  rcases h.2 with ⟨rfl, hn⟩ | ⟨g, cap, cur, rfl, hb, hg, rest⟩
  · have : l = [] := List.length_eq_zero_iff.1 (by omega)
    subst this
    exact Lib.run_convert_nil_bytes w src dst e 0 hs he hd
  · subst hl
    refine run_convert_bytes_back w src dst e ⟨g, 0, none⟩ cap l hs he hd (fun j hj => ?_)
    exact h.cells rfl j _ (by simp [bvs, bv, List.getElem?_eq_getElem hj])
end Go.Proofs.YtblpooddamkfdaaGreatDoor.Rows1

/- A strings.Builder that is a part of a struct in memory: its writes, its text, its reset. -/
namespace Go.Proofs.YtblpooddamkfdaaGreatDoor.InEmb
open Go.ChangeShapes Go.WideShapes Go.ChangeAt Go.RowKit Bytes Mem Step Freeze
set_option maxRecDepth 100000
/-! ### an append to a row of bytes whose head may be frozen, and where the row then lies -/
theorem append_near {w : World} (t u ty e : TypeId) (i : TypeInfo) (ht : Tryz.prog.underlying t = some (.slice e)) (hu : Tryz.prog.underlying u = some .string) (hi : Tryz.prog.info? e = some i) (hz : i.zero = some (.int .u8 0)) (hsize : i.size = 1) (hby : i.bytes = 1)
    (v : Value) (n : Nat) (xs : List Value) (hown : w.ownsRowF 0 e 1 v n xs) (s : ByteArray) (h63 : n + s.size ≤ maxLen) (hbytes : n + s.size ≤ 140737488355328) :
    ∃ v' w', (Builtin.append_ #[t, u] ty #[v, .string s]).run Tryz.prog w = .ok v' w' ∧ w'.ownsRowF 0 e 1 v' (n + s.size) (xs ++ Lib.strCells s) ∧ w.grownBy w' v.ownBlock ∧ ∀ k, v'.ownBlock = some k → v.ownBlock = some k ∨ w.heap.size ≤ k := by
  obtain ⟨v', w', h1, h2, h3, _⟩ := Lib.run_append_own_stringF (P := Tryz.prog) w 0 t u ty e i ht hu hi hz hsize hby v n xs hown s h63 hbytes (Nat.zero_le _)
  refine ⟨v', w', h1, h2, h3, ?_⟩
  rcases hown.2 with ⟨rfl, rfl⟩ | ⟨g, cap, cur, fz, rfl, _, hg, hfz, hnc, hcm, hcs, htake⟩
  · obtain ⟨v2, w2, k1, k2, _⟩ := Lib.run_append_own_string (P := Tryz.prog) w w.heap.size t u ty e i ht hu hi hz hsize hby (.slice none 0 0) 0 xs ⟨hown.1, .inl ⟨rfl, rfl⟩⟩ s h63 hbytes (Nat.le_refl _)
    rw [h1] at k1
    injection k1 with e1 e2
    subst e1
    subst e2
    exact fun k hk => .inr (k2.lt k hk).1
  · by_cases hroom : n + s.size ≤ cap
    · have hr := Lib.run_append_room_stringF (P := Tryz.prog) w t u ty e i ht hu hi hsize g n cap cur fz hg (by simpa using hfz) s hroom (by rw [Nat.mul_one] at hcs; omega)
      rw [h1] at hr
      injection hr with e1 e2
      subst e1
      exact fun k hk => .inl hk
    · have hxl : xs.length = n := by simpa using hown.1
      have hr := Lib.run_append_grow_string (P := Tryz.prog) w t u ty e i (.int .u8 0) ht hu hi hz ⟨g, 0, none⟩ n cap xs (by rw [hsize]; simpa using hxl) (hown.cells (g := g) rfl) s (by omega) (by simp only [maxLen] at h63; omega) (by rw [hby]; exact growslice_fits (by omega) (by omega))
      rw [h1] at hr
      injection hr with e1 e2
      subst e1
      intro k hk
      simp [Value.ownBlock] at hk
      exact .inr (by omega)
/-- a row of bytes in a new block, spare cells behind it -/
theorem fresh_row (w : World) (e : TypeId) (ys : List Value) (cs : Array Value) (m cap : Nat) (hm : ys.length = m) (h1 : m ≤ cap) (h2 : cap ≤ maxLen) (hcs : cs = ys.toArray ++ Builtin.zeroCells (Value.int .u8 0).cells (cap - m)) :
    (w.alloc (.cells cs e)).ownsRowF 0 e 1 (.slice (some ⟨w.heap.size, 0, none⟩) m cap) m ys := by
  subst hcs
  refine ⟨by omega, .inr ⟨w.heap.size, cap, _, (0, 0), rfl, Nat.zero_le _, heap_alloc_new w _, Nat.zero_le _, h1, h2, ?_, ?_⟩⟩
  · rw [Array.size_append, size_zeroCells, List.size_toArray, hm, show (Value.int IntKind.u8 0).cells.size = 1 from rfl]
    omega
  · rw [Nat.mul_one, Array.toList_append]
    exact List.take_left' hm
theorem fresh_grown (w : World) (o : Obj) (row : Option Nat) : w.grownBy (w.drew.alloc o) row := ⟨rfl, rfl, rfl, by simp, fun k hk _ => heap_alloc_old w.drew o hk⟩
theorem bytes_cells (s : ByteArray) : (s.data.map fun b => Value.int .u8 b.toNat) = (Lib.strCells s).toArray := by
  apply Array.ext'
  simp [Lib.strCells]
theorem append_at {w : World} (t u ty e : TypeId) (i : TypeInfo) (ht : Tryz.prog.underlying t = some (.slice e)) (hu : Tryz.prog.underlying u = some .string) (hi : Tryz.prog.info? e = some i) (hz : i.zero = some (.int .u8 0)) (hsize : i.size = 1) (hby : i.bytes = 1)
    (v : Value) (n : Nat) (xs : List Value) (hown : w.ownsRowF 0 e 1 v n xs) (s : ByteArray) (h63 : n + s.size ≤ maxLen) (hbytes : n + s.size ≤ 211106232532992) :
    ∃ v' w', (Builtin.append_ #[t, u] ty #[v, .string s]).run Tryz.prog w = .ok v' w' ∧ w'.ownsRowF 0 e 1 v' (n + s.size) (xs ++ Lib.strCells s) ∧ w.grownBy w' v.ownBlock ∧ ∀ k, v'.ownBlock = some k → v.ownBlock = some k ∨ w.heap.size ≤ k := by
  by_cases hsm : n + s.size ≤ 140737488355328
  · exact append_near t u ty e i ht hu hi hz hsize hby v n xs hown s h63 hsm
  have hxl : xs.length = n := by simpa using hown.1
  have hall : (xs ++ Lib.strCells s).length = n + s.size := by rw [List.length_append, hxl, Lib.strCells_length]
  have h63i : ((n + s.size : Nat) : Int) ≤ 9223372036854775807 := by omega
  rcases hown.2 with ⟨rfl, rfl⟩ | ⟨g, cap, cur, fz, rfl, _, hg, hfz, hnc, hcm, hcs, htake⟩
  · have hx : xs = [] := List.eq_nil_of_length_eq_zero hxl
    subst hx
    have hr := run_append_nil_string (P := Tryz.prog) w t u ty e i (.int .u8 0) ht hu hi hz s (by omega) (by omega) (by rw [hby]; omega)
    rw [Nat.zero_add] at h63 ⊢
    rw [List.nil_append] at hall ⊢
    refine ⟨_, _, hr, fresh_row w.drew e (Lib.strCells s) _ _ _ (Lib.strCells_length s) (grownCap_ge _ _ _ _) (grownCap_le_maxLen _ _ _ _ h63) (congrArg (· ++ _) (bytes_cells s)), fresh_grown w _ _, fun k hk => ?_⟩
    simp [Value.ownBlock] at hk
    exact .inr (by omega)
  · by_cases hroom : n + s.size ≤ cap
    · rw [Nat.mul_one] at hcs hfz htake
      have hr := Lib.run_append_room_stringF (P := Tryz.prog) w t u ty e i ht hu hi hsize g n cap cur fz hg hfz s hroom (by omega)
      rw [htake] at hr
      refine ⟨_, _, hr, ⟨by rw [Nat.mul_one]; exact hall, .inr ⟨g, cap, _, fz, rfl, Nat.zero_le _, setRow_heap w g cur _ e _ hg, by omega, hroom, hcm, ?_, ?_⟩⟩, ⟨rfl, rfl, rfl, by simp, fun k _ hk => setRow_other w g k _ (fun e => hk (by simp [Value.ownBlock, e]))⟩, fun k hk => .inl hk⟩
      · rw [Nat.mul_one, List.size_toArray, List.length_append, hall, List.length_drop, Array.length_toList, hcs]
        omega
      · rw [Nat.mul_one]
        exact List.take_left' hall
    · have hr := Lib.run_append_grow_string (P := Tryz.prog) w t u ty e i (.int .u8 0) ht hu hi hz ⟨g, 0, none⟩ n cap xs (by rw [hsize]; simpa using hxl) (hown.cells (g := g) rfl) s (by omega) h63i (by rw [hby]; exact growslice_fits_wide (by omega) (by omega))
      refine ⟨_, _, hr, fresh_row w.drew e (xs ++ Lib.strCells s) _ _ _ hall (grownCap_ge _ _ _ _) (grownCap_le_maxLen _ _ _ _ h63) (by simp), fresh_grown w _ _, fun k hk => ?_⟩
      simp [Value.ownBlock] at hk
      exact .inr (by omega)
theorem wpList_append_string_at {ops : Array Oper} {rest : List Oper} {o : Oper} {a : Act} {w : World} {Q : Exit → Act → World → Prop} (hgd : o.guard = none) (sl x : Operand) (t u : TypeId)
    (ho : o.op = .call { callee := .builtin .append, args := #[sl, x], argTypes := #[t, u] }) (e : TypeId) (i : TypeInfo) (ht : Tryz.prog.underlying t = some (.slice e)) (hu : Tryz.prog.underlying u = some .string) (hi : Tryz.prog.info? e = some i) (hz : i.zero = some (.int .u8 0)) (hsize : i.size = 1) (hby : i.bytes = 1)
    (v : Value) (n : Nat) (xs : List Value) (hs : a.eval sl = v) (hown : w.ownsRowF 0 e 1 v n xs) (s : ByteArray) (hx : a.eval x = .string s) (h63 : n + s.size ≤ maxLen) (hbytes : n + s.size ≤ 211106232532992)
    (h : ∀ v' w', w'.ownsRowF 0 e 1 v' (n + s.size) (xs ++ Lib.strCells s) → w.grownBy w' v.ownBlock → (∀ k, v'.ownBlock = some k → v.ownBlock = some k ∨ w.heap.size ≤ k) → wpList Tryz.prog ops Q rest (a.put o.dst v') w') : wpList Tryz.prog ops Q (o :: rest) a w := by
  refine wpList_plain hgd fun K hK => ?_
  obtain ⟨v', w', hr, h2, h3, h4⟩ := append_at t u o.type e i ht hu hi hz hsize hby v n xs hown s h63 hbytes
  unfold Oper.wp execOp
  simp only [ho, resolve, invoke, builtin, Sem.run_bind, Sem.run_pure, Result.andThen_ok, List.map_toArray, List.map_cons, List.map_nil, hs, hx, hr]
  exact hK _ _ (h v' w' h2 h3 h4)
/-! ### rows of bytes -/
/-- the row v holds the bytes l; of its head a stretch may be frozen -/
def RowB (w : World) (v : Value) (l : List UInt8) : Prop := w.ownsRowF 0 5 1 v l.length (Lib.byteCells l)
theorem RowB.nil (w : World) : RowB w (.slice none 0 0) [] := World.ownsRowF_nil _ _ _ _
theorem RowB.form {w : World} {v : Value} {l : List UInt8} (h : RowB w v l) : ∃ p cap, v = .slice p l.length cap := by
  rcases h.2 with ⟨hv, hn⟩ | ⟨g, cap, cur, fz, hv, _⟩
  · exact ⟨none, 0, by rw [hv, hn]⟩
  · exact ⟨_, cap, hv⟩
theorem RowB.lt {w : World} {v : Value} {l : List UInt8} (h : RowB w v l) {k : Nat} (hk : v.ownBlock = some k) : k < w.heap.size := (World.ownsRowF.lt h k hk).2
theorem RowB.step {w w' : World} {F F' : Nat → Prop} {v : Value} {l : List UInt8} (h : RowB w v l) (hs : Step w w' F F') (hn : ∀ b, v.ownBlock = some b → ¬ F b) : RowB w' v l := by
  refine ⟨h.1, ?_⟩
  rcases h.2 with hx | ⟨g, cap, cur, fz, rfl, hb, hgg, rest⟩
  · exact .inl hx
  · refine .inr ⟨g, cap, cur, fz, rfl, hb, ?_, rest⟩
    rw [hs.block g (Array.getElem?_eq_some_iff.1 hgg).1 (hn g rfl)]
    exact hgg
theorem RowB.far {w : World} {v : Value} {l : List UInt8} {g : Nat} {T : TypeId} {cs : Array Value} (h : RowB w v l) (hh : Has w g T cs) (hT : T ≠ 5) : v.ownBlock ≠ some g := Lib.ownBlock_neF h hh.at_ hT
theorem strCells_bytes (s : ByteArray) : Lib.strCells s = Lib.byteCells (toL s) := rfl
/-! ### the builder -/
/-- a builder may lie at place o of the n cells of a T -/
structure Spot (T : TypeId) (o n : Nat) : Prop where
  lies : liesAt Tryz.prog Tryz.prog.depth T (n / Tryz.prog.cellsOf T) o 78 1 = true
  ne : T ≠ 5
  room : o + 1 < n
def selfP (b o : Nat) : Value := .pointer (some ⟨b, o, none⟩)
structure Emb (w : World) (b o : Nat) (T : TypeId) (cs : Array Value) (p v : Value) (l : List UInt8) : Prop where
  has : Has w b T cs
  c0 : cs[o]? = some p
  c1 : cs[o + 1]? = some v
  me : p = .pointer none ∨ p = selfP b o
  row : RowB w v l
section
variable {w w' : World} {b o n : Nat} {T : TypeId} {cs : Array Value} {p v : Value} {l : List UInt8}
theorem Emb.own (h : Emb w b o T cs p v l) (hp : Spot T o n) : v.ownBlock ≠ some b := h.row.far h.has hp.ne
theorem Emb.step (h : Emb w b o T cs p v l) {F F' : Nat → Prop} (hs : Step w w' F F') (hb : ¬ F b) (hv : ∀ k, v.ownBlock = some k → ¬ F k) : Emb w' b o T cs p v l :=
  ⟨hs.has h.has hb, h.c0, h.c1, h.me, h.row.step hs hv⟩
/-- another cell is stored -/
theorem Emb.put (h : Emb w b o T cs p v l) (hp : Spot T o n) (i : Nat) (u : Value) (h0 : i ≠ o) (h1 : i ≠ o + 1) : Emb (w.setCell ⟨b, i, none⟩ u) b o T (cs.setIfInBounds i u) p v l :=
  ⟨h.has.set_ i u, by rw [Array.getElem?_setIfInBounds_ne h0]; exact h.c0, by rw [Array.getElem?_setIfInBounds_ne h1]; exact h.c1, h.me,
    h.row.step (Step.set_ (F := fun k => k = b) w rfl i u) (fun k hk e => h.own hp (by rw [hk, e]))⟩
end
/-- from here on it is its own -/
def Used (w w' : World) (b o : Nat) (T : TypeId) (cs : Array Value) (v : Value) (l : List UInt8) : Prop := Emb w' b o T cs (selfP b o) v l ∧ Step w w' (fun k => k = b) (fun k => k = b)
set_option maxHeartbeats 2000000 in
theorem emb_check {w : World} {b o n : Nat} {T : TypeId} {cs : Array Value} {p v : Value} {l : List UInt8} (hp : Spot T o n) (hn : cs.size = n) (h : Emb w b o T cs p v l) :
    Calls Tryz.prog 64 #[.pointer (some ⟨b, o, none⟩)] w fun e w' => e = .returned (.tuple #[]) ∧ Used w w' b o T (cs.setIfInBounds o (selfP b o)) v l := by
  have c0 := (h.has.cell o).trans h.c0
  have z0 := h.has.free o
  have hsh : w.shape? b = some (T, n) := by
    have := h.has.at_
    simp [World.shape?, this, hn]
  have hoff : o < n := by have := hp.room; omega
  obtain ⟨j, hj, hjs⟩ := Option.map_eq_some_iff.1 PBuildT.extra166.sizeBuilder
  obtain ⟨cs1, hcs1⟩ : ∃ cs1, cs1 = cs.setIfInBounds o (selfP b o) := ⟨_, rfl⟩
  rw [← hcs1]
  rcases h.me with hm | hm
  · subst hm
    have HU : Hid (Used w (w.setCell ⟨b, o, none⟩ (.pointer (some ⟨b, o, none⟩))) b o T cs1 v l) := Lib.hid (by
      rw [hcs1]
      exact ⟨⟨h.has.set_ o _, by rw [Array.getElem?_setIfInBounds_self_of_lt (by omega)], by rw [Array.getElem?_setIfInBounds_ne (by omega)]; exact h.c1, .inr rfl, h.row.step (Step.set_ (F := fun k => k = b) w rfl o _) (fun k hk e => h.own hp (by rw [hk, e]))⟩, Step.set_ (F := fun k => k = b) w rfl o _⟩)
    have lies := hp.lies
    clear h hn hp hcs1
    go_enter Tryz.func64, Tryz.ntmps64
    go_wp2_with fail
    rw [Lib.run_to_unsafe w ⟨b, o, none⟩ Tryz.underlying75 Tryz.underlying137 hj (by rw [hjs]; decide) hsh hoff]
    simp only [Result.andThen]
    rw [Oper.upon_value]
    go_wp2_with fail
    rw [run_callFunc_extern Tryz.func84 (by kernel_rfl) (by kernel_rfl) (by kernel_rfl) (e := Extern.AbiNoEscape.same) (by kernel_rfl)]
    rw [Lib.run_noEscape]
    simp only [Result.andThen]
    rw [Oper.upon_value]
    go_wp2_with fail
    rw [Lib.run_from_unsafe w ⟨b, o, none⟩ Tryz.underlying137 Tryz.underlying75 hj hsh lies]
    simp only [Result.andThen]
    rw [Oper.upon_value]
    go_wp2_with fail
    go_end0
    exact ⟨rfl, HU.out⟩
  · subst hm
    have HU : Hid (Used w w b o T cs1 v l) := Lib.hid (by
      rw [hcs1]
      exact ⟨⟨by
      have e : cs.setIfInBounds o (selfP b o) = cs := by
        apply Array.ext_getElem?
        intro i
        by_cases hi : o = i
        · subst hi
          rw [Array.getElem?_setIfInBounds_self_of_lt (by omega)]
          exact h.c0.symm
        · rw [Array.getElem?_setIfInBounds_ne hi]
      rw [e]
      exact h.has, by rw [Array.getElem?_setIfInBounds_self_of_lt (by omega)], by rw [Array.getElem?_setIfInBounds_ne (by omega)]; exact h.c1, .inr rfl, h.row⟩, Step.refl w _⟩)
    unfold selfP at c0
    clear h hn hp hcs1
    go_enter Tryz.func64, Tryz.ntmps64
    go_wp2_with fail
    rw [Lib.run_neq_ptr_same w _ Tryz.underlying75 hj]
    go_wp2_with fail
    go_end0
    exact ⟨rfl, HU.out⟩
/-- what a write leaves -/
def Wrote (w w' : World) (b o : Nat) (T : TypeId) (cs : Array Value) (v : Value) (l m : List UInt8) : Prop :=
  ∃ v', Emb w' b o T (cs.setIfInBounds (o + 1) v') (selfP b o) v' (l ++ m) ∧ Step w w' (fun k => k = b ∨ v.ownBlock = some k) (fun k => k = b ∨ v'.ownBlock = some k)
set_option maxHeartbeats 2000000 in
theorem emb_write {w : World} {b o n : Nat} {T : TypeId} {cs : Array Value} {p v : Value} {l : List UInt8} (hp : Spot T o n) (hn : cs.size = n) (h : Emb w b o T cs p v l) (s : ByteArray) (hl : l.length + s.size ≤ 211106232532992) :
    Calls Tryz.prog 38 #[.pointer (some ⟨b, o, none⟩), .string s] w fun e w' => e = .returned (.tuple #[.int .i64 s.size, .nilIface]) ∧ Wrote w w' b o T (cs.setIfInBounds o (selfP b o)) v l (toL s) := by
  have HC := Lib.hid (emb_check hp hn h)
  have hcn : (cs.setIfInBounds o (selfP b o)).size = n := by rw [Array.size_setIfInBounds]; exact hn
  generalize cs.setIfInBounds o (selfP b o) = cs1 at *
  obtain ⟨i0, hi, hz0, hz1, hz2⟩ := info_parts PBuildT.extra166.infoByte
  have hi' : Tryz.prog.info? 5 = some i0 := hi
  clear hi
  go_enter Tryz.func38, Tryz.ntmps38
  go_wp2_with fail
  refine HC.out.mono ?_
  rintro e w1 ⟨rfl, hE, hS⟩
  have d0 := (hE.has.cell o).trans hE.c0
  have d1 := (hE.has.cell (o + 1)).trans hE.c1
  have hrow := hE.row
  have hlt := hE.has.lt
  have hne := hE.own hp
  have hroom := hp.room
  have HE := Lib.hid hE
  have HS := Lib.hid hS
  clear HC hE hS h
  go_wp2_with (at_builtin; refine wpList_append_string_at rfl _ _ 76 9 rfl 5 i0 Tryz.underlying76 Tryz.underlying9 hi' hz0 hz1 hz2 _ _ _ rfl hrow s rfl (by unfold maxLen; omega) hl ?_)
  intro v' w2 hown' hgrow hat
  have hrow2 : RowB w2 v' (l ++ toL s) := by
    unfold RowB
    rw [List.length_append, toL_length, Lib.byteCells_append, ← strCells_bytes]
    exact hown'
  have hh2 : Has w2 b T cs1 := HE.out.has.grown hgrow (fun e => hne e.symm)
  obtain ⟨pp, cap, hv'⟩ := hrow2.form
  rw [List.length_append, toL_length] at hv'
  subst hv'
  have f1 := hh2.free (o + 1)
  have e1 := (hh2.cell (o + 1)).trans HE.out.c1
  have HW : Hid (Wrote w (w2.setCell ⟨b, o + 1, none⟩ (.slice pp (l.length + s.size) cap)) b o T cs1 v l (toL s)) := Lib.hid (by
    have hne2 := hrow2.far hh2 hp.ne
    have hs3 := Step.set_ (F := fun k => k = b ∨ v.ownBlock = some k) w2 (g := b) (.inl rfl) (o + 1) (.slice pp (l.length + s.size) cap)
    have hall := ((HS.out.up (G := fun k => k = b ∨ v.ownBlock = some k) (fun k hk => .inl hk)).trans (Step.of_grown hgrow (fun k hk => .inr hk))).trans hs3
    refine ⟨_, ⟨hh2.set_ (o + 1) _, by rw [Array.getElem?_setIfInBounds_ne (by omega)]; exact HE.out.c0, by rw [Array.getElem?_setIfInBounds_self_of_lt (by omega)], .inr rfl, hrow2.step (Step.set_ (F := fun k => k = b) w2 rfl (o + 1) _) (fun k hk e => hne2 (by rw [hk, e]))⟩, hall.regrow (fun k hk => ?_)⟩
    rcases hk with hk | hk
    · exact .inl (.inl hk)
    · rcases hat k hk with q | q
      · exact .inl (.inr q)
      · exact .inr ⟨Nat.le_trans HS.out.size q, by have := hrow2.lt hk; simpa [World.setCell] using this⟩)
  clear hrow hgrow hown' hat hrow2 hh2 HE HS
  go_wp2_with fail
  go_ret2
  exact ⟨rfl, HW.out⟩
/-- reading leaves it as it is; of its row the head is frozen -/
def Kept1 (w w' : World) (b o : Nat) (T : TypeId) (cs : Array Value) (p v : Value) (l : List UInt8) : Prop := Emb w' b o T cs p v l ∧ Step w w' (fun k => v.ownBlock = some k) (fun k => v.ownBlock = some k)
theorem rowB_freeze {w : World} {g n cap : Nat} {l : List UInt8} (h : RowB w (.slice (some ⟨g, 0, none⟩) n cap) l) (hn : n = l.length) : RowB (w.drew.freeze ⟨g, 0, none⟩ n) (.slice (some ⟨g, 0, none⟩) n cap) l := by
  subst hn
  refine ⟨h.1, ?_⟩
  rcases h.2 with ⟨hv, _⟩ | ⟨g2, cap2, cur, fz, hv, hbg, hg, hfz, rest⟩
  · cases hv
  · injection hv with e1 _ e3
    injection e1 with e1
    injection e1 with e1
    subst e1
    subst e3
    have hg' : w.drew.heap[g]? = some (.cells cur 5 fz) := hg
    unfold World.freeze
    split
    · exact .inr ⟨g, _, cur, fz, rfl, hbg, hg', hfz, rest⟩
    · obtain ⟨lo, hi⟩ := fz
      refine .inr ⟨g, _, cur, (if lo == hi then (0, 0 + l.length) else (min lo 0, max hi (0 + l.length))), rfl, hbg, ?_, ?_, rest⟩
      · simp [Array.getElem?_modify, hg']
      · simp only at hfz
        split <;> simp <;> omega
theorem text_row {w : World} {b o n g cap : Nat} {T : TypeId} {cs : Array Value} {p : Value} {l : List UInt8} (hp : Spot T o n) (h0 : l ≠ []) (h : Emb w b o T cs p (.slice (some ⟨g, 0, none⟩) l.length cap) l) :
    Calls Tryz.prog 39 #[.pointer (some ⟨b, o, none⟩)] w fun e w' => e = .returned (.string (ofL l)) ∧ Kept1 w w' b o T cs p (.slice (some ⟨g, 0, none⟩) l.length cap) l := by
  have hl0 : l.length ≠ 0 := by simpa using h0
  have hst := freeze_step w g l.length
  have hgb : g ≠ b := fun e => h.own hp (by rw [e]; rfl)
  have HK : Hid (Kept1 w (w.drew.freeze ⟨g, 0, none⟩ l.length) b o T cs p (.slice (some ⟨g, 0, none⟩) l.length cap) l) := Lib.hid
    ⟨⟨hst.has h.has (fun e => hgb e.symm), h.c0, h.c1, h.me, rowB_freeze h.row rfl⟩, by
      have e : (fun k => (Value.slice (some ⟨g, 0, none⟩) l.length cap).ownBlock = some k) = (fun k => k = g) := by
        funext k
        simp only [Value.ownBlock, Option.some.injEq, eq_iff_iff]
        exact ⟨fun q => q.symm, fun q => q.symm⟩
      rw [e]
      exact hst⟩
  have c1 : w.drew.cell? ⟨b, o + 1, none⟩ = some (.slice (some ⟨g, 0, none⟩) l.length cap) := (h.has.drew.cell (o + 1)).trans h.c1
  rcases h.row.2 with ⟨hv, _⟩ | ⟨g2, cap2, cur, fz, hv, hbg, hg, hfz, hlc, hcm, hcs, htk⟩
  · cases hv
  · injection hv with e1 e2 e3
    injection e1 with e1
    injection e1 with e1
    subst e1
    subst e3
    have hSD : (Builtin.unsafeSliceData_ #[76] 116 #[.slice (some ⟨g, 0, none⟩) l.length cap]).run Tryz.prog w.drew = .ok (.pointer (some ⟨g, 0, none⟩)) w.drew :=
      Lib.run_unsafeSliceData_row _ _ _ _ _ _ (by omega)
    have hUS : (Builtin.unsafeString_ #[116, 3] 9 #[.pointer (some ⟨g, 0, none⟩), .int .i64 l.length]).run Tryz.prog w.drew = .ok (.string ⟨l.toArray⟩) (w.drew.freeze ⟨g, 0, none⟩ l.length) := by
      refine Lib.run_unsafeString_row w.drew 116 3 9 5 Tryz.underlying116 (by kernel_rfl) g cur.size (by have hg' : w.drew.heap[g]? = some (.cells cur 5 fz) := hg; simp [World.shape?, hg']) l h0 (by omega) (by unfold maxLen at hcm; omega) ?_
      intro j x hx
      exact World.ownsRowF.cells h.row (g := g) rfl j (.int .u8 x.toNat) (by simp [Lib.byteCells, hx])
    clear hg hcs htk hlc hcm h hst hfz h0 hp
    go_enter Tryz.func39, Tryz.ntmps39
    go_wp2_with fail
    go_region
    all_goals
      go_wp2_with fail
      go_ret
      exact ⟨rfl, HK.out⟩
theorem text_nil {w : World} {b o n : Nat} {T : TypeId} {cs : Array Value} {p : Value} (_hp : Spot T o n) (h : Emb w b o T cs p (.slice none 0 0) []) :
    Calls Tryz.prog 39 #[.pointer (some ⟨b, o, none⟩)] w fun e w' => e = .returned (.string (ofL [])) ∧ Kept1 w w' b o T cs p (.slice none 0 0) [] := by
  have hUS : ∀ W q, (Builtin.unsafeString_ #[116, 3] 9 #[.pointer q, .int .i64 0]).run Tryz.prog W = .ok (.string .empty) W := fun W q => Lib.run_unsafeString_none W _ _ _ q
  have c1 : w.drew.cell? ⟨b, o + 1, none⟩ = some (.slice none 0 0) := (h.has.drew.cell (o + 1)).trans h.c1
  have hSD : (Builtin.unsafeSliceData_ #[76] 116 #[.slice none 0 0]).run Tryz.prog w.drew = .ok (.pointer none) w.drew := rfl
  have HK : Hid (Kept1 w w.drew b o T cs p (.slice none 0 0) []) := Lib.hid ⟨h.step (Step.drew w (fun _ => False)) id (fun _ _ => id), Step.drew w _⟩
  clear h
  go_enter Tryz.func39, Tryz.ntmps39
  go_wp2_with fail
  go_region
  all_goals
    go_wp2_with fail
    go_ret
    exact ⟨rfl, HK.out⟩
theorem text_room {w : World} {b o n g cap : Nat} {T : TypeId} {cs : Array Value} {p : Value} (_hp : Spot T o n) (hc : cap ≠ 0) (h : Emb w b o T cs p (.slice (some ⟨g, 0, none⟩) 0 cap) []) :
    Calls Tryz.prog 39 #[.pointer (some ⟨b, o, none⟩)] w fun e w' => e = .returned (.string (ofL [])) ∧ Kept1 w w' b o T cs p (.slice (some ⟨g, 0, none⟩) 0 cap) [] := by
  have hUS : ∀ W q, (Builtin.unsafeString_ #[116, 3] 9 #[.pointer q, .int .i64 0]).run Tryz.prog W = .ok (.string .empty) W := fun W q => Lib.run_unsafeString_none W _ _ _ q
  have c1 : w.drew.cell? ⟨b, o + 1, none⟩ = some (.slice (some ⟨g, 0, none⟩) 0 cap) := (h.has.drew.cell (o + 1)).trans h.c1
  have hSD : (Builtin.unsafeSliceData_ #[76] 116 #[.slice (some ⟨g, 0, none⟩) 0 cap]).run Tryz.prog w.drew = .ok (.pointer (some ⟨g, 0, none⟩)) w.drew :=
    Lib.run_unsafeSliceData_row _ _ _ _ _ _ hc
  have HK : Hid (Kept1 w w.drew b o T cs p (.slice (some ⟨g, 0, none⟩) 0 cap) []) := Lib.hid ⟨h.step (Step.drew w (fun _ => False)) id (fun _ _ => id), Step.drew w _⟩
  clear h hc
  go_enter Tryz.func39, Tryz.ntmps39
  go_wp2_with fail
  go_region
  all_goals
    go_wp2_with fail
    go_ret
    exact ⟨rfl, HK.out⟩
theorem text_noroom {w : World} {b o n g : Nat} {T : TypeId} {cs : Array Value} {p : Value} (_hp : Spot T o n) (h : Emb w b o T cs p (.slice (some ⟨g, 0, none⟩) 0 0) []) :
    Calls Tryz.prog 39 #[.pointer (some ⟨b, o, none⟩)] w fun e w' => e = .returned (.string (ofL [])) ∧ Kept1 w w' b o T cs p (.slice (some ⟨g, 0, none⟩) 0 0) [] := by
  have hUS : ∀ W q, (Builtin.unsafeString_ #[116, 3] 9 #[.pointer q, .int .i64 0]).run Tryz.prog W = .ok (.string .empty) W := fun W q => Lib.run_unsafeString_none W _ _ _ q
  have c0 : w.cell? ⟨b, o + 1, none⟩ = some (.slice (some ⟨g, 0, none⟩) 0 0) := (h.has.cell (o + 1)).trans h.c1
  have c1 : w.drew.cell? ⟨b, o + 1, none⟩ = some (.slice (some ⟨g, 0, none⟩) 0 0) := c0
  have c3 : (w.alloc (.view ⟨g, 0, none⟩ 5)).drew.cell? ⟨b, o + 1, none⟩ = some (.slice (some ⟨g, 0, none⟩) 0 0) := ((h.has.alloc _).drew.cell (o + 1)).trans h.c1
  have c2 : (w.drew.alloc (.view ⟨g, 0, none⟩ 5)).cell? ⟨b, o + 1, none⟩ = some (.slice (some ⟨g, 0, none⟩) 0 0) := c3
  obtain ⟨cur, fz, hg⟩ : ∃ cur fz, w.drew.heap[g]? = some (.cells cur 5 fz) := by
    rcases h.row.2 with ⟨hv, _⟩ | ⟨g2, cap2, cur, fz, hv, _, hg, _⟩
    · cases hv
    · injection hv with e1
      injection e1 with e1
      injection e1 with e1
      subst e1
      exact ⟨cur, fz, hg⟩
  have hSD : (Builtin.unsafeSliceData_ #[76] 116 #[.slice (some ⟨g, 0, none⟩) 0 0]).run Tryz.prog w.drew = .ok (.pointer (some ⟨w.drew.heap.size, 0, none⟩)) (w.drew.alloc (.view ⟨g, 0, none⟩ 5)) :=
    Lib.run_unsafeSliceData_zero w.drew _ _ 5 Tryz.underlying116 ⟨g, 0, none⟩ 0 (5, cur.size) (by simp [World.shape?, hg])
  have HK : Hid (Kept1 w (w.drew.alloc (.view ⟨g, 0, none⟩ 5)) b o T cs p (.slice (some ⟨g, 0, none⟩) 0 0) []) := Lib.hid
    ⟨h.step ((Step.drew w (fun _ => False)).trans (Step.alloc _ _ _)) id (fun _ _ => id), (Step.drew w _).trans (Step.alloc _ _ _)⟩
  clear h hg
  go_enter Tryz.func39, Tryz.ntmps39
  go_wp2_with fail
  go_region
  all_goals
    go_wp2_with fail
    go_ret
    exact ⟨rfl, HK.out⟩
theorem emb_text {w : World} {b o n : Nat} {T : TypeId} {cs : Array Value} {p v : Value} {l : List UInt8} (hp : Spot T o n) (h : Emb w b o T cs p v l) :
    Calls Tryz.prog 39 #[.pointer (some ⟨b, o, none⟩)] w fun e w' => e = .returned (.string (ofL l)) ∧ Kept1 w w' b o T cs p v l := by
  have h' := h
  rcases h.row.2 with ⟨rfl, h0⟩ | ⟨g, cap, cur, fz, rfl, _⟩
  · obtain rfl := List.length_eq_zero_iff.1 h0
    exact text_nil hp h'
  · by_cases h0 : l = []
    · subst h0
      by_cases hc : cap = 0
      · subst hc
        exact text_noroom hp h'
      · exact text_room hp hc h'
    · exact text_row hp h0 h'
end Go.Proofs.YtblpooddamkfdaaGreatDoor.InEmb

/- The grammar's small pieces over bytes: what each call of layer 4 answers. No program is named. -/
namespace Go.Proofs.YtblpooddamkfdaaGreatDoor.LexPure
open Bytes

/-- a byte of a token -/
def MarkP (c : Int) : Prop := (48 ≤ c ∧ c ≤ 57) ∨ (65 ≤ c ∧ c ≤ 90) ∨ (97 ≤ c ∧ c ≤ 122) ∨ c = 33 ∨ c = 35 ∨ c = 36 ∨ c = 37 ∨ c = 38 ∨ c = 39 ∨ c = 42 ∨ c = 43 ∨ c = 45 ∨ c = 46 ∨ c = 94 ∨ c = 95 ∨ c = 96 ∨ c = 124 ∨ c = 126
instance (c : Int) : Decidable (MarkP c) := by unfold MarkP; infer_instance
def markB (c : UInt8) : Bool := decide (MarkP (c.toNat : Int))
def blankB (c : UInt8) : Bool := c == 32 || c == 9
def plainB (c : UInt8) : Bool := decide (32 ≤ c.toNat) && c != 127 || c == 9
def small (c : UInt8) : UInt8 := if decide (65 ≤ c.toNat) && decide (c.toNat ≤ 90) then c + 32 else c
def token (s : List UInt8) : Bool := s.all markB && !s.isEmpty
def trim (s : List UInt8) : List UInt8 := ((s.dropWhile blankB).reverse.dropWhile blankB).reverse
def value (s : List UInt8) : Bool := s.all plainB && (s.isEmpty || (!blankB (s.headD 0) && !blankB (s.getLastD 0)))
def lower (s : List UInt8) : List UInt8 := s.map small
def alike (s t : List UInt8) : Bool := lower s == lower t
/-- the pieces between commas -/
def pieces : List UInt8 → List (List UInt8)
  | [] => [[]]
  | c :: s => if c == 44 then [] :: pieces s else match pieces s with
    | [] => [[c]]
    | p :: ps => (c :: p) :: ps
def elements (s : List UInt8) : List (List UInt8) := ((pieces s).map trim).filter (fun e => !e.isEmpty)
/-- a digit's worth (99: none) -/
def dig (c : UInt8) : Nat := if 48 ≤ c.toNat ∧ c.toNat ≤ 57 then c.toNat - 48 else if 65 ≤ c.toNat ∧ c.toNat ≤ 70 then c.toNat - 55 else if 97 ≤ c.toNat ∧ c.toNat ≤ 102 then c.toNat - 87 else 99
def numV (base : Nat) (s : List UInt8) : Nat := s.foldl (fun n c => base * n + dig c) 0
def numOk (base : Nat) (digits : Int) (s : List UInt8) : Bool := !s.isEmpty && decide ((s.length : Int) ≤ digits) && s.all (fun c => decide (dig c < base))
def numR (base : Nat) (digits : Int) (s : List UInt8) : Int := if numOk base digits s then (numV base s : Int) else 0

/-! ### bytes -/
theorem blank_eq (b : UInt8) : decide ((b.toNat : Int) = 32 ∨ (b.toNat : Int) = 9) = blankB b := by
  have := all_bytes (p := fun b => decide ((b.toNat : Int) = 32 ∨ (b.toNat : Int) = 9) == blankB b) (by decide +kernel) b
  simpa using this
theorem small_small (b : UInt8) : small (small b) = small b := by
  have := all_bytes (p := fun b => small (small b) == small b) (by decide +kernel) b
  simpa using this
theorem small_mark (b : UInt8) : markB (small b) = markB b := by
  have := all_bytes (p := fun b => markB (small b) == markB b) (by decide +kernel) b
  simpa using this
theorem small_plain (b : UInt8) : plainB (small b) = plainB b := by
  have := all_bytes (p := fun b => plainB (small b) == plainB b) (by decide +kernel) b
  simpa using this
theorem small_blank (b : UInt8) : blankB (small b) = blankB b := by
  have := all_bytes (p := fun b => blankB (small b) == blankB b) (by decide +kernel) b
  simpa using this
theorem small_comma (b : UInt8) : (small b == 44) = (b == 44) := by
  have := all_bytes (p := fun b => (small b == 44) == (b == 44)) (by decide +kernel) b
  simpa using this

/-! ### small letters -/
theorem lower_lower (s : List UInt8) : lower (lower s) = lower s := by
  simp [lower, Function.comp_def, small_small]
theorem lower_length (s : List UInt8) : (lower s).length = s.length := by simp [lower]
theorem alike_self (s : List UInt8) : alike s s = true := by simp [alike]
theorem alike_lower (s : List UInt8) : alike s (lower s) = true := by simp [alike, lower_lower]
theorem alike_lower' (s : List UInt8) : alike (lower s) s = true := by simp [alike, lower_lower]
theorem alike_comm (s t : List UInt8) : alike s t = alike t s := by
  unfold alike
  rw [Bool.eq_iff_iff, beq_iff_eq, beq_iff_eq]
  exact eq_comm
theorem alike_lower_left (s t : List UInt8) : alike (lower s) t = alike s t := by simp [alike, lower_lower]
theorem token_lower (s : List UInt8) : token (lower s) = token s := by
  unfold token lower
  simp [List.all_map, Function.comp_def, small_mark]
theorem headD_map (s : List UInt8) : blankB ((s.map small).headD 0) = blankB (s.headD 0) := by
  cases s with
  | nil => rfl
  | cons c s => exact small_blank c
theorem getLastD_map (s : List UInt8) : blankB ((s.map small).getLastD 0) = blankB (s.getLastD 0) := by
  rw [List.getLastD_eq_getLast?, List.getLastD_eq_getLast?, List.getLast?_map]
  cases s.getLast? with
  | none => rfl
  | some c => exact small_blank c
theorem value_lower (s : List UInt8) : value (lower s) = value s := by
  unfold value lower
  rw [headD_map, getLastD_map]
  simp [List.all_map, Function.comp_def, small_plain]

/-! ### blanks at both ends -/
theorem dropWhile_idem (s : List UInt8) : (s.dropWhile blankB).dropWhile blankB = s.dropWhile blankB := by
  induction s with
  | nil => rfl
  | cons c s ih =>
    by_cases h : blankB c = true
    · simp [h, ih]
    · simp [h]
/-- what stays has no blank at its beginning -/
theorem dropWhile_head {s : List UInt8} {c : UInt8} {r : List UInt8} (h : s.dropWhile blankB = c :: r) : blankB c = false := by
  induction s with
  | nil => cases h
  | cons d s ih =>
    by_cases hd : blankB d = true
    · rw [List.dropWhile_cons, if_pos hd] at h
      exact ih h
    · rw [List.dropWhile_cons, if_neg hd] at h
      injection h with h1 h2
      subst h1
      simpa using hd
theorem dropWhile_id {s : List UInt8} (h : ∀ c r, s = c :: r → blankB c = false) : s.dropWhile blankB = s := by
  cases s with
  | nil => rfl
  | cons c r => rw [List.dropWhile_cons, if_neg (by rw [h c r rfl]; decide)]
/-- cutting at the end leaves the beginning -/
theorem rev_head {s : List UInt8} (h : ∀ c r, s = c :: r → blankB c = false) : ∀ c r, (s.reverse.dropWhile blankB).reverse = c :: r → blankB c = false := by
  intro c r he
  have hp : (s.reverse.dropWhile blankB).reverse <+: s := by
    have := List.dropWhile_suffix (l := s.reverse) blankB
    rw [← List.reverse_reverse s]
    exact List.reverse_prefix.2 (by simpa using this)
  rw [he] at hp
  obtain ⟨t, ht⟩ := hp
  exact h c (r ++ t) (by rw [← ht]; rfl)
theorem trim_head {s : List UInt8} : ∀ c r, trim s = c :: r → blankB c = false := rev_head (fun _ _ => dropWhile_head)
theorem trim_last {s : List UInt8} : ∀ c r, (trim s).reverse = c :: r → blankB c = false := by
  intro c r h
  unfold trim at h
  rw [List.reverse_reverse] at h
  exact dropWhile_head h
theorem trim_id {s : List UInt8} (h1 : ∀ c r, s = c :: r → blankB c = false) (h2 : ∀ c r, s.reverse = c :: r → blankB c = false) : trim s = s := by
  unfold trim
  rw [dropWhile_id h1, dropWhile_id h2, List.reverse_reverse]
theorem trim_trim (s : List UInt8) : trim (trim s) = trim s := trim_id trim_head trim_last
theorem trim_length (s : List UInt8) : (trim s).length ≤ s.length := by
  unfold trim
  rw [List.length_reverse]
  have h1 := (List.dropWhile_suffix (l := (s.dropWhile blankB).reverse) blankB).length_le
  have h2 := (List.dropWhile_suffix (l := s) blankB).length_le
  rw [List.length_reverse] at h1
  omega
end Go.Proofs.YtblpooddamkfdaaGreatDoor.LexPure

/- Layer 7: fields, as lists of names and values. No program is named. -/
namespace Go.Proofs.YtblpooddamkfdaaGreatDoor.FieldsPure
open LexPure Bytes
/-- a field: its name and its value -/
abbrev HField := List UInt8 × List UInt8
def hit (n : List UInt8) (f : HField) : Bool := alike f.1 n
/-- the value of the first field of a name, and how many there are -/
def getV (l : List HField) (n : List UInt8) : List UInt8 := ((l.find? (hit n)).map (·.2)).getD []
def getN (l : List HField) (n : List UInt8) : Nat := l.countP (hit n)
def elems (l : List HField) (n : List UInt8) : List (List UInt8) := (l.filter (hit n)).flatMap (fun f => elements f.2)
def hasE (l : List HField) (n e : List UInt8) : Bool := (elems l n).any (fun x => alike x e)
def remove (l : List HField) (n : List UInt8) : List HField := l.filter (fun f => !hit n f)
def setF (l : List HField) (n v : List UInt8) : List HField := remove l n ++ [(n, v)]
def right (f : HField) : Bool := token f.1 && value f.2 && decide (f.1.length + f.2.length ≤ 512)
def check (l : List HField) : Int := if l.all right then (if l.length ≤ 32 then 0 else 71) else 70
def CONNECTION : List UInt8 := [99, 111, 110, 110, 101, 99, 116, 105, 111, 110]
/-- the seven names -/
def fixed : List (List UInt8) := [CONNECTION, [107, 101, 101, 112, 45, 97, 108, 105, 118, 101], [112, 114, 111, 120, 121, 45, 99, 111, 110, 110, 101, 99, 116, 105, 111, 110], [116, 101], [116, 114, 97, 105, 108, 101, 114], [116, 114, 97, 110, 115, 102, 101, 114, 45, 101, 110, 99, 111, 100, 105, 110, 103], [117, 112, 103, 114, 97, 100, 101]]
def one (l : List HField) (n : List UInt8) : Bool := fixed.any (fun x => alike x n) || hasE l CONNECTION n
def strip (l : List HField) : List HField := l.filter (fun f => !one l f.1)

/-! ### alike -/
theorem alike_iff (s t : List UInt8) : alike s t = true ↔ lower s = lower t := by unfold alike; exact beq_iff_eq
theorem alike_congr {s t : List UInt8} (h : alike s t = true) (u : List UInt8) : alike u s = alike u t := by
  rw [alike_iff] at h
  unfold alike
  rw [h]
theorem hit_congr {n m : List UInt8} (h : alike n m = true) (f : HField) : hit n f = hit m f := alike_congr h f.1
theorem hit_other {n m : List UInt8} (h : alike n m = false) {f : HField} (hf : hit n f = true) : hit m f = false := by
  unfold hit at *
  cases hm : alike f.1 m with
  | false => rfl
  | true =>
    rw [alike_iff] at hf hm
    have : alike n m = true := by rw [alike_iff, ← hf, hm]
    rw [this] at h
    cases h

/-! ### Get behind Remove and Set -/
theorem get_remove (l : List HField) (n : List UInt8) : getN (remove l n) n = 0 := by
  unfold getN remove
  rw [List.countP_eq_zero]
  intro f hf
  have := (List.mem_filter.1 hf).2
  simpa using this
theorem getN_append (a b : List HField) (n : List UInt8) : getN (a ++ b) n = getN a n + getN b n := by
  unfold getN
  exact List.countP_append
theorem getV_none {l : List HField} {n : List UInt8} (h : getN l n = 0) : getV l n = [] ∧ l.find? (hit n) = none := by
  unfold getN at h
  rw [List.countP_eq_zero] at h
  have hf : l.find? (hit n) = none := by
    rw [List.find?_eq_none]
    exact h
  exact ⟨by unfold getV; rw [hf]; rfl, hf⟩
theorem getV_append (a b : List HField) (n : List UInt8) (h : getN a n = 0) : getV (a ++ b) n = getV b n := by
  have := (getV_none h).2
  unfold getV
  rw [List.find?_append, this]
  rfl
theorem get_set (l : List HField) (n v : List UInt8) : getN (setF l n v) n = 1 ∧ getV (setF l n v) n = v := by
  have h0 := get_remove l n
  have hh : hit n (n, v) = true := alike_self n
  unfold setF
  constructor
  · rw [getN_append, h0]
    unfold getN
    simp [hh]
  · rw [getV_append _ _ _ h0]
    unfold getV
    simp [hh]
theorem get_other_remove (l : List HField) (n m : List UInt8) (h : alike n m = false) : getN (remove l n) m = getN l m ∧ getV (remove l n) m = getV l m := by
  unfold getN getV remove
  induction l with
  | nil => exact ⟨rfl, rfl⟩
  | cons f l ih =>
    by_cases hf : hit n f = true
    · have hm := hit_other h hf
      rw [List.filter_cons_of_neg (by rw [hf]; decide), List.countP_cons_of_neg (by rw [hm]; decide), List.find?_cons_of_neg (by rw [hm]; decide)]
      exact ih
    · have hf' : hit n f = false := by simpa using hf
      rw [List.filter_cons_of_pos (by rw [hf']; decide)]
      cases hm : hit m f
      · rw [List.countP_cons_of_neg (by rw [hm]; decide), List.countP_cons_of_neg (by rw [hm]; decide), List.find?_cons_of_neg (by rw [hm]; decide), List.find?_cons_of_neg (by rw [hm]; decide)]
        exact ih
      · rw [List.countP_cons_of_pos hm, List.countP_cons_of_pos hm, List.find?_cons_of_pos hm, List.find?_cons_of_pos hm]
        exact ⟨by rw [ih.1], rfl⟩
theorem get_other_set (l : List HField) (n v m : List UInt8) (h : alike n m = false) : getN (setF l n v) m = getN l m ∧ getV (setF l n v) m = getV l m := by
  obtain ⟨h1, h2⟩ := get_other_remove l n m h
  have hh : hit m (n, v) = false := h
  have hz : getN [(n, v)] m = 0 := by unfold getN; simp [hh]
  unfold setF
  constructor
  · rw [getN_append, hz, h1]; rfl
  · rw [← h2]
    unfold getV
    rw [List.find?_append, (getV_none hz).2]
    simp

/-! ### Strip -/
theorem one_congr {n m : List UInt8} (h : alike n m = true) (l : List HField) : one l n = one l m := by
  unfold one hasE
  congr 1
  · congr 1; funext x; exact alike_congr h x
  · congr 1; funext x; exact alike_congr h x
theorem strip_none (l : List HField) (n : List UInt8) (h : one l n = true) : getN (strip l) n = 0 := by
  unfold getN strip
  rw [List.countP_eq_zero]
  intro f hf
  have h2 := (List.mem_filter.1 hf).2
  intro h3
  unfold hit at h3
  rw [one_congr h3 l, h] at h2
  cases h2
theorem one_fixed (l : List HField) {n : List UInt8} (h : n ∈ fixed) : one l n = true := by
  unfold one
  rw [Bool.or_eq_true]
  left
  rw [List.any_eq_true]
  exact ⟨n, h, alike_self n⟩
theorem elems_congr {n m : List UInt8} (h : alike n m = true) (l : List HField) : elems l n = elems l m := by
  unfold elems
  congr 1
  congr 1
  funext f
  exact hit_congr h f
theorem one_named (l : List HField) {n : List UInt8} (h : n ∈ elems l CONNECTION) : one l n = true := by
  unfold one hasE
  rw [Bool.or_eq_true]
  right
  rw [List.any_eq_true]
  exact ⟨n, h, alike_self n⟩
/-- behind Strip no Connection field is left, so nothing is named -/
theorem elems_strip (l : List HField) : elems (strip l) CONNECTION = [] := by
  have h := strip_none l CONNECTION (one_fixed l (by decide))
  unfold getN at h
  rw [List.countP_eq_zero] at h
  unfold elems
  have : (strip l).filter (hit CONNECTION) = [] := by
    rw [List.filter_eq_nil_iff]
    exact h
  rw [this]
  rfl
theorem one_strip (l : List HField) (n : List UInt8) : one (strip l) n = fixed.any (fun x => alike x n) := by
  unfold one hasE
  rw [elems_strip]
  simp
theorem strip_strip (l : List HField) : strip (strip l) = strip l := by
  have key : ∀ f ∈ strip l, (!one (strip l) f.1) = true := fun f hf => by
    have h2 := (List.mem_filter.1 hf).2
    rw [one_strip]
    unfold one at h2
    rw [Bool.not_eq_true', Bool.or_eq_false_iff] at h2
    rw [h2.1]
    rfl
  show (strip l).filter _ = strip l
  exact List.filter_eq_self.2 key
/-- the order stays: a list that is held against the longer one, from left to right, is met whole -/
theorem strip_sub (l : List HField) : (strip l).Sublist l := List.filter_sublist
theorem greedy_step {s l : List HField} {k i : Nat} {f : HField} (hi : l[i]? = some f) (h : (s.drop k).Sublist (l.drop i)) :
    (s[k]? = some f → (s.drop (k + 1)).Sublist (l.drop (i + 1))) ∧ (s[k]? ≠ some f → (s.drop k).Sublist (l.drop (i + 1))) := by
  obtain ⟨hl, he⟩ := List.getElem?_eq_some_iff.1 hi
  rw [List.drop_eq_getElem_cons hl, he] at h
  by_cases hk : k < s.length
  · have hs : s[k]? = some s[k] := List.getElem?_eq_getElem hk
    rw [List.drop_eq_getElem_cons hk] at h ⊢
    rw [hs]
    generalize s[k] = x at *
    constructor
    · intro e
      cases h with
      | cons _ h => exact (List.sublist_cons_self _ _).trans h
      | cons_cons _ h => exact h
    · intro e
      cases h with
      | cons _ h => exact h
      | cons_cons _ h => exact absurd rfl e
  · have hs : s[k]? = none := List.getElem?_eq_none (by omega)
    rw [hs, List.drop_of_length_le (by omega : s.length ≤ k)]
    exact ⟨fun e => (by cases e), fun _ => List.nil_sublist _⟩
theorem greedy_end {s l : List HField} {k : Nat} (h : (s.drop k).Sublist (l.drop l.length)) : s.length ≤ k := by
  rw [List.drop_length] at h
  have := List.sublist_nil.1 h
  exact List.drop_eq_nil_iff.1 this
/-! ### the bounds -/
theorem token_n (k : Nat) (h : 1 ≤ k) : token (List.replicate k 110) = true := by
  unfold token
  rw [Bool.and_eq_true]
  constructor
  · rw [List.all_eq_true]
    intro c hc
    rw [List.eq_of_mem_replicate hc]
    decide
  · cases k with
    | zero => omega
    | succ k => rfl
theorem value_v (k : Nat) : value (List.replicate k 118) = true := by
  unfold value
  rw [Bool.and_eq_true]
  constructor
  · rw [List.all_eq_true]
    intro c hc
    rw [List.eq_of_mem_replicate hc]
    decide
  · cases k with
    | zero => rfl
    | succ k =>
      have h1 : (List.replicate (k + 1) (118 : UInt8)).headD 0 = 118 := rfl
      have h2 : (List.replicate (k + 1) (118 : UInt8)).getLastD 0 = 118 := by
        rw [List.getLastD_eq_getLast?, List.getLast?_replicate]
        rfl
      rw [h1, h2]
      rfl
theorem check_one (f : HField) : check [f] = if right f then 0 else 70 := by
  unfold check
  simp only [List.all_cons, List.all_nil, Bool.and_true]
  split
  · rfl
  · rfl
theorem right_a : right ([97], []) = true := by decide
theorem check_many (k : Nat) : check (List.replicate k ([97], [])) = if k ≤ 32 then 0 else 71 := by
  unfold check
  have : (List.replicate k (([97], []) : HField)).all right = true := by
    rw [List.all_eq_true]
    intro f hf
    rw [List.eq_of_mem_replicate hf]
    exact right_a
  rw [this, List.length_replicate]
  rfl
theorem check_past (l : List HField) {f : HField} (h : right f = false) : check (l ++ [f]) = 70 := by
  unfold check
  rw [List.all_append, List.all_cons, h]
  simp
end Go.Proofs.YtblpooddamkfdaaGreatDoor.FieldsPure

/- Layer 8: heads, as lists of bytes. No program is named. -/
namespace Go.Proofs.YtblpooddamkfdaaGreatDoor.HeadPure
open LexPure Bytes FieldsPure
structure H8 where
  method : List UInt8
  target : List UInt8
  status : Int
  reason : List UInt8
  minor : Int
  fields : List HField
def zero8 : H8 := ⟨[], [], 0, [], 0, []⟩
def digitB (c : UInt8) : Bool := decide (48 ≤ c.toNat) && decide (c.toNat ≤ 57)
/-- the minor digit and the error of a version -/
def version8 (s : List UInt8) : Int × Int :=
  match s with
  | [h, t, t2, p, sl, a, d, b] => if h = 72 ∧ t = 84 ∧ t2 = 84 ∧ p = 80 ∧ sl = 47 ∧ d = 46 ∧ digitB a = true ∧ digitB b = true then (if a = 49 then ((b.toNat : Int) - 48, 0) else (0, 81)) else (0, 80)
  | _ => (0, 80)
def upB (s : List UInt8) : List UInt8 := s.takeWhile (fun c => c != 32)
def seenB (c : UInt8) : Bool := decide (32 < c.toNat) && decide (c.toNat < 127)
/-- a start line -/
def start8 (l : List UInt8) : H8 × Int :=
  if (upB l).length < l.length ∧ (upB l).length ≤ 16 ∧ token (upB l) = true then
    (let r := l.drop ((upB l).length + 1)
     if (upB r).length < r.length ∧ 0 < (upB r).length ∧ (upB r).all seenB = true then
       (let v := version8 (r.drop ((upB r).length + 1))
        if v.2 = 0 then (⟨upB l, upB r, 0, [], v.1, []⟩, 0) else (zero8, v.2))
     else (zero8, 80))
  else (zero8, 80)
/-- a status line -/
def status8 (l : List UInt8) : H8 × Int :=
  if 12 ≤ l.length ∧ l[8]? = some 32 ∧ numOk 10 3 ((l.drop 9).take 3) = true ∧ 100 ≤ numR 10 3 ((l.drop 9).take 3) ∧ numR 10 3 ((l.drop 9).take 3) < 600 ∧ (l.length = 12 ∨ l[12]? = some 32) ∧ (l.drop 13).all plainB = true then
    (let v := version8 (l.take 8)
     if v.2 = 0 then (⟨[], [], numR 10 3 ((l.drop 9).take 3), l.drop 13, v.1, []⟩, 0) else (zero8, v.2))
  else (zero8, 80)
def nameB (s : List UInt8) : List UInt8 := s.takeWhile (fun c => c != 58)
/-- a field's line -/
def field8 (l : List UInt8) : HField × Int :=
  if (nameB l).length < l.length ∧ token (nameB l) = true ∧ value (trim (l.drop ((nameB l).length + 1))) = true then ((nameB l, trim (l.drop ((nameB l).length + 1))), 0) else (([], []), 70)
/-- what stands at the place -/
inductive Line where
  | whole (k : Nat)
  | bad (e : Int)
  | wait
def scan (most : Nat) (over : Int) : Nat → List UInt8 → Line
  | _, [] => .wait
  | i, c :: s => if c = 10 then .bad 80 else if c = 13 then (match s with
      | [] => .wait
      | d :: _ => if d = 10 then .whole i else .bad 80)
    else if most ≤ i then .bad over else scan most over (i + 1) s
/-- what a reading comes to -/
inductive Res where
  | wait
  | bad (e : Int)
  | done (h : H8) (n : Nat)
def skip8 : List UInt8 → Nat
  | c :: d :: s => if c = 13 ∧ d = 10 then skip8 s + 2 else 0
  | _ => 0
/-- the fields' lines from place a on, m more fields to come at most -/
def fields8 (h : H8) : Nat → List HField → Nat → List UInt8 → Res
  | m, acc, a, s => match scan 512 83 0 s with
    | .wait => .wait
    | .bad e => .bad e
    | .whole k => if k = 0 then .done { h with fields := acc } (a + 2) else
      match m with
      | 0 => .bad 83
      | m + 1 => if (field8 (s.take k)).2 = 0 then fields8 h m (acc ++ [(field8 (s.take k)).1]) (a + k + 2) (s.drop (k + 2)) else .bad 70
/-- from the start line or status line on, at place a -/
def from8 (response : Bool) (a : Nat) (s : List UInt8) : Res :=
  match scan 1100 82 0 s with
  | .wait => .wait
  | .bad e => .bad e
  | .whole k =>
    (let x := if response then status8 (s.take k) else start8 (s.take k)
     if x.2 = 0 then fields8 x.1 32 [] (a + k + 2) (s.drop (k + 2)) else .bad x.2)
def skipOf (response : Bool) (s : List UInt8) : Nat := if response then 0 else skip8 s
def read8 (response : Bool) (s : List UInt8) : Res := from8 response (skipOf response s) (s.drop (skipOf response s))
def resH : Res → H8
  | .done h _ => h
  | _ => zero8
def resN : Res → Nat
  | .done _ n => n
  | _ => 0
def resE : Res → Int
  | .bad e => e
  | _ => 0

/-! ### a line -/
theorem scan_cons (most : Nat) (over : Int) (i : Nat) (c : UInt8) (s : List UInt8) : scan most over i (c :: s) = if c = 10 then .bad 80 else if c = 13 then (match s with
      | [] => .wait
      | d :: _ => if d = 10 then .whole i else .bad 80)
    else if most ≤ i then .bad over else scan most over (i + 1) s := by cases s <;> rfl
theorem scan_append (most : Nat) (over : Int) (t : List UInt8) : ∀ (s : List UInt8) (i : Nat), scan most over i s ≠ .wait → scan most over i (s ++ t) = scan most over i s
  | [], i, h => absurd rfl h
  | c :: s, i, h => by
    rw [scan_cons] at h
    rw [List.cons_append, scan_cons, scan_cons]
    by_cases h1 : c = 10
    · rw [if_pos h1, if_pos h1]
    · rw [if_neg h1] at h
      rw [if_neg h1, if_neg h1]
      by_cases h2 : c = 13
      · rw [if_pos h2] at h
        rw [if_pos h2, if_pos h2]
        cases s with
        | nil => exact absurd rfl h
        | cons d s => rfl
      · rw [if_neg h2] at h
        rw [if_neg h2, if_neg h2]
        by_cases h3 : most ≤ i
        · rw [if_pos h3, if_pos h3]
        · rw [if_neg h3] at h
          rw [if_neg h3, if_neg h3]
          exact scan_append most over t s (i + 1) h
/-- a whole line: no 10 and no 13 in it, then 13 and 10 -/
theorem scan_whole (most : Nat) (over : Int) : ∀ (s : List UInt8) (i k : Nat), scan most over i s = .whole k → ∃ l q, s = l ++ 13 :: 10 :: q ∧ k = i + l.length ∧ (∀ c ∈ l, c ≠ 10 ∧ c ≠ 13) ∧ (l.length = 0 ∨ i + l.length ≤ most)
  | [], i, k, h => by simp [scan] at h
  | c :: s, i, k, h => by
    rw [scan_cons] at h
    by_cases h1 : c = 10
    · rw [if_pos h1] at h; cases h
    · rw [if_neg h1] at h
      by_cases h2 : c = 13
      · rw [if_pos h2] at h
        cases s with
        | nil => cases h
        | cons d s =>
          simp only at h
          by_cases h4 : d = 10
          · rw [if_pos h4] at h
            injection h with h
            exact ⟨[], s, (by rw [h2, h4]; rfl), h.symm, (fun c hc => by cases hc), Or.inl rfl⟩
          · rw [if_neg h4] at h; cases h
      · rw [if_neg h2] at h
        by_cases h3 : most ≤ i
        · rw [if_pos h3] at h; cases h
        · rw [if_neg h3] at h
          obtain ⟨l, q, e1, e2, e3, e4⟩ := scan_whole most over s (i + 1) k h
          refine ⟨c :: l, q, by rw [e1]; rfl, by rw [List.length_cons]; omega, fun x hx => ?_, .inr ?_⟩
          · rcases List.mem_cons.1 hx with rfl | hx
            · exact ⟨h1, h2⟩
            · exact e3 x hx
          · rw [List.length_cons]
            rcases e4 with e4 | e4 <;> omega
theorem scan_line (most : Nat) (over : Int) (q : List UInt8) : ∀ (l : List UInt8) (i : Nat), (∀ c ∈ l, c ≠ 10 ∧ c ≠ 13) → (l.length = 0 ∨ i + l.length ≤ most) → scan most over i (l ++ 13 :: 10 :: q) = .whole (i + l.length)
  | [], i, _, _ => by rw [List.nil_append, scan_cons]; simp
  | c :: l, i, h, hm => by
    have hc := h c List.mem_cons_self
    rw [List.length_cons] at hm
    rw [List.cons_append, scan_cons, if_neg hc.1, if_neg hc.2, if_neg (by omega), scan_line most over q l (i + 1) (fun x hx => h x (List.mem_cons_of_mem _ hx)) (by omega), List.length_cons]
    congr 1
    omega
theorem scan_bad (most : Nat) (over : Int) (ho : over ≠ 0) : ∀ (s : List UInt8) (i : Nat) (e : Int), scan most over i s = .bad e → e ≠ 0
  | [], i, e, h => by simp [scan] at h
  | c :: s, i, e, h => by
    rw [scan_cons] at h
    split at h
    · injection h with h; omega
    · split at h
      · split at h
        · cases h
        · split at h
          · cases h
          · injection h with h; omega
      · split at h
        · injection h with h; omega
        · exact scan_bad most over ho s (i + 1) e h
theorem whole_take {most : Nat} {over : Int} {s : List UInt8} {k : Nat} (h : scan most over 0 s = .whole k) : k + 2 ≤ s.length ∧ (∀ t, (s ++ t).take k = s.take k ∧ (s ++ t).drop (k + 2) = s.drop (k + 2) ++ t) := by
  obtain ⟨l, q, rfl, hk, _⟩ := scan_whole most over s 0 k h
  rw [Nat.zero_add] at hk
  have hl : k + 2 ≤ (l ++ 13 :: 10 :: q).length := by simp; omega
  refine ⟨hl, fun t => ⟨?_, ?_⟩⟩
  · rw [List.take_append_of_le_length (by omega)]
  · rw [List.drop_append_of_le_length hl]

/-! ### what has been told stays so -/
theorem fields_append (h : H8) (t : List UInt8) : ∀ (m : Nat) (acc : List HField) (a : Nat) (s : List UInt8), fields8 h m acc a s ≠ .wait → fields8 h m acc a (s ++ t) = fields8 h m acc a s := by
  intro m
  induction m with
  | zero =>
    intro acc a s hw
    unfold fields8 at hw ⊢
    cases hs : scan 512 83 0 s with
    | wait => rw [hs] at hw; exact absurd rfl hw
    | bad e => rw [scan_append 512 83 t s 0 (by rw [hs]; intro hh; cases hh), hs]
    | whole k => rw [scan_append 512 83 t s 0 (by rw [hs]; intro hh; cases hh), hs]
  | succ m ih =>
    intro acc a s hw
    unfold fields8 at hw ⊢
    cases hs : scan 512 83 0 s with
    | wait => rw [hs] at hw; exact absurd rfl hw
    | bad e => rw [scan_append 512 83 t s 0 (by rw [hs]; intro hh; cases hh), hs]
    | whole k =>
      rw [scan_append 512 83 t s 0 (by rw [hs]; intro hh; cases hh), hs]
      rw [hs] at hw
      obtain ⟨_, h2⟩ := whole_take hs
      obtain ⟨h3, h4⟩ := h2 t
      simp only [h3, h4] at hw ⊢
      by_cases hk : k = 0
      · rw [if_pos hk, if_pos hk]
      · rw [if_neg hk] at hw
        rw [if_neg hk, if_neg hk]
        by_cases hf : (field8 (s.take k)).2 = 0
        · rw [if_pos hf] at hw
          rw [if_pos hf, if_pos hf]
          exact ih _ _ _ hw
        · rw [if_neg hf, if_neg hf]
theorem from_append (r : Bool) (t : List UInt8) (a : Nat) (s : List UInt8) (hw : from8 r a s ≠ .wait) : from8 r a (s ++ t) = from8 r a s := by
  unfold from8 at hw ⊢
  cases hs : scan 1100 82 0 s with
  | wait => rw [hs] at hw; exact absurd rfl hw
  | bad e => rw [scan_append 1100 82 t s 0 (by rw [hs]; intro hh; cases hh), hs]
  | whole k =>
    rw [scan_append 1100 82 t s 0 (by rw [hs]; intro hh; cases hh), hs]
    rw [hs] at hw
    obtain ⟨_, h2⟩ := whole_take hs
    obtain ⟨h3, h4⟩ := h2 t
    simp only [h3, h4] at hw ⊢
    by_cases hx : (if r = true then status8 (s.take k) else start8 (s.take k)).2 = 0
    · rw [if_pos hx] at hw
      rw [if_pos hx, if_pos hx]
      exact fields_append _ t _ _ _ _ hw
    · rw [if_neg hx, if_neg hx]
theorem skip_append (t : List UInt8) : ∀ s : List UInt8, s.drop (skip8 s) ≠ [] → s.drop (skip8 s) ≠ [13] → skip8 (s ++ t) = skip8 s
  | [], h, _ => absurd rfl h
  | [c], _, h2 => by
    have hc : c ≠ 13 := fun e => h2 (by rw [e]; rfl)
    cases t with
    | nil => rfl
    | cons d t =>
      show skip8 (c :: d :: t) = 0
      rw [skip8, if_neg (fun h => hc h.1)]
  | c :: d :: s, h1, h2 => by
    rw [List.cons_append, List.cons_append, skip8, skip8]
    rw [skip8] at h1 h2
    by_cases hc : c = 13 ∧ d = 10
    · rw [if_pos hc] at h1 h2
      rw [if_pos hc, if_pos hc]
      rw [skip_append t s h1 h2]
    · rw [if_neg hc, if_neg hc]
theorem skip_le : ∀ s : List UInt8, skip8 s ≤ s.length
  | [] => Nat.le_refl _
  | [_] => Nat.zero_le _
  | c :: d :: s => by
    rw [skip8]
    split
    · have := skip_le s
      simp
      omega
    · exact Nat.zero_le _
theorem skipOf_le (r : Bool) (s : List UInt8) : skipOf r s ≤ s.length := by
  unfold skipOf
  split
  · exact Nat.zero_le _
  · exact skip_le s
theorem from_some (r : Bool) (a : Nat) (s : List UInt8) (h : from8 r a s ≠ .wait) : s ≠ [] ∧ s ≠ [13] := by
  constructor
  · rintro rfl
    exact h rfl
  · rintro rfl
    exact h rfl
/-- P8.1, P8.2: what has been told stays so -/
theorem read_append (r : Bool) (s t : List UInt8) (h : read8 r s ≠ .wait) : read8 r (s ++ t) = read8 r s := by
  unfold read8 at h ⊢
  obtain ⟨h1, h2⟩ := from_some _ _ _ h
  have hk : skipOf r (s ++ t) = skipOf r s := by
    unfold skipOf at h1 h2 ⊢
    cases r
    · exact skip_append t s h1 h2
    · rfl
  rw [hk, List.drop_append_of_le_length (skipOf_le r s)]
  exact from_append r t _ _ h

/-! ### the bytes that a head has -/
/-- no 10 without a 13 ahead of it, no 13 without a 10 behind it -/
def Clean (p : List UInt8) : Prop := ∀ (i : Nat) (c : UInt8), p[i]? = some c → (c = 10 → ∃ j, i = j + 1 ∧ p[j]? = some 13) ∧ (c = 13 → p[i + 1]? = some 10)
theorem clean_nil : Clean [] := fun i c h => by simp at h
theorem clean_append {p q : List UInt8} (hp : Clean p) (hq : Clean q) : Clean (p ++ q) := fun i c h => by
  by_cases hi : i < p.length
  · rw [List.getElem?_append_left hi] at h
    obtain ⟨h1, h2⟩ := hp i c h
    refine ⟨fun e => ?_, fun e => ?_⟩
    · obtain ⟨j, hj, h3⟩ := h1 e
      exact ⟨j, hj, by rw [List.getElem?_append_left (by omega)]; exact h3⟩
    · have h3 := h2 e
      have h4 := (List.getElem?_eq_some_iff.1 h3).1
      rw [List.getElem?_append_left h4]
      exact h3
  · rw [List.getElem?_append_right (by omega)] at h
    obtain ⟨h1, h2⟩ := hq _ c h
    refine ⟨fun e => ?_, fun e => ?_⟩
    · obtain ⟨j, hj, h3⟩ := h1 e
      exact ⟨p.length + j, by omega, by rw [List.getElem?_append_right (by omega), Nat.add_sub_cancel_left]; exact h3⟩
    · have h3 := h2 e
      rw [List.getElem?_append_right (by omega)]
      rw [show i + 1 - p.length = i - p.length + 1 by omega]
      exact h3
theorem clean_bare {l : List UInt8} (h : ∀ c ∈ l, c ≠ 10 ∧ c ≠ 13) : Clean l := fun i c hc => by
  have hm := List.mem_of_getElem? hc
  exact ⟨fun e => absurd e (h c hm).1, fun e => absurd e (h c hm).2⟩
theorem clean_end : Clean [13, 10] := fun i c h => by
  match i, h with
  | 0, h =>
    have e : (13 : UInt8) = c := by simpa using h
    subst e
    exact ⟨fun e => absurd e (by decide), fun _ => rfl⟩
  | 1, h =>
    have e : (10 : UInt8) = c := by simpa using h
    subst e
    exact ⟨fun _ => ⟨0, rfl, rfl⟩, fun e => absurd e (by decide)⟩
  | i + 2, h => simp at h
theorem clean_line {l : List UInt8} (h : ∀ c ∈ l, c ≠ 10 ∧ c ≠ 13) : Clean (l ++ [13, 10]) := clean_append (clean_bare h) clean_end
theorem fields_done (h : H8) : ∀ (m : Nat) (acc : List HField) (a : Nat) (s : List UInt8) (h' : H8) (n : Nat), fields8 h m acc a s = .done h' n →
    ∃ p q, s = p ++ q ∧ n = a + p.length ∧ 0 < p.length ∧ Clean p ∧ ∀ q', fields8 h m acc a (p ++ q') = .done h' n := by
  intro m
  induction m with
  | zero =>
    intro acc a s h' n hd
    unfold fields8 at hd
    cases hs : scan 512 83 0 s with
    | wait => rw [hs] at hd; cases hd
    | bad e => rw [hs] at hd; cases hd
    | whole k =>
      rw [hs] at hd
      simp only at hd
      obtain ⟨l, q, rfl, hk, hl, hm⟩ := scan_whole 512 83 s 0 k hs
      by_cases h0 : k = 0
      · rw [if_pos h0] at hd
        have hl0 : l = [] := List.eq_nil_of_length_eq_zero (by omega)
        subst hl0
        refine ⟨[13, 10], q, rfl, ?_, by decide, clean_end, fun q' => ?_⟩
        · injection hd with _ e
          rw [← e]
          rfl
        · unfold fields8
          rw [show [13, 10] ++ q' = ([] : List UInt8) ++ 13 :: 10 :: q' from rfl, scan_line 512 83 q' [] 0 (fun c hc => by cases hc) (.inl rfl)]
          exact hd
      · rw [if_neg h0] at hd
        cases hd
  | succ m ih =>
    intro acc a s h' n hd
    unfold fields8 at hd
    cases hs : scan 512 83 0 s with
    | wait => rw [hs] at hd; cases hd
    | bad e => rw [hs] at hd; cases hd
    | whole k =>
      rw [hs] at hd
      simp only at hd
      obtain ⟨l, q, rfl, hk, hl, hm⟩ := scan_whole 512 83 s 0 k hs
      rw [Nat.zero_add] at hk
      by_cases h0 : k = 0
      · rw [if_pos h0] at hd
        have hl0 : l = [] := List.eq_nil_of_length_eq_zero (by omega)
        subst hl0
        refine ⟨[13, 10], q, rfl, ?_, by decide, clean_end, fun q' => ?_⟩
        · injection hd with _ e
          rw [← e]
          rfl
        · unfold fields8
          rw [show [13, 10] ++ q' = ([] : List UInt8) ++ 13 :: 10 :: q' from rfl, scan_line 512 83 q' [] 0 (fun c hc => by cases hc) (.inl rfl)]
          exact hd
      · rw [if_neg h0] at hd
        have e1 : (l ++ 13 :: 10 :: q).take k = l := by rw [hk]; exact List.take_left
        have e2 : (l ++ 13 :: 10 :: q).drop (k + 2) = q := by
          rw [hk, ← List.drop_drop, List.drop_left]
          rfl
        rw [e1, e2] at hd
        by_cases hf : (field8 l).2 = 0
        · rw [if_pos hf] at hd
          obtain ⟨p, q2, rfl, hn, hp, hcl, hall⟩ := ih _ _ _ _ _ hd
          refine ⟨l ++ [13, 10] ++ p, q2, by simp, by simp; omega, by simp; omega, clean_append (clean_line hl) hcl, fun q' => ?_⟩
          unfold fields8
          rw [show l ++ [13, 10] ++ p ++ q' = l ++ 13 :: 10 :: (p ++ q') by simp, scan_line 512 83 (p ++ q') l 0 hl hm]
          simp only [Nat.zero_add]
          rw [← hk, if_neg h0]
          have e3 : (l ++ 13 :: 10 :: (p ++ q')).take k = l := by rw [hk]; exact List.take_left
          have e4 : (l ++ 13 :: 10 :: (p ++ q')).drop (k + 2) = p ++ q' := by
            rw [hk, ← List.drop_drop, List.drop_left]
            rfl
          rw [e3, e4, if_pos hf]
          exact hall q'
        · rw [if_neg hf] at hd
          cases hd
theorem start_nil : (start8 []).2 ≠ 0 := by decide
theorem status_nil : (status8 []).2 ≠ 0 := by decide
theorem from_done (r : Bool) (a : Nat) (s : List UInt8) (h' : H8) (n : Nat) (hd : from8 r a s = .done h' n) :
    ∃ p q, s = p ++ q ∧ n = a + p.length ∧ 2 < p.length ∧ Clean p ∧ ∀ q', from8 r a (p ++ q') = .done h' n := by
  unfold from8 at hd
  cases hs : scan 1100 82 0 s with
  | wait => rw [hs] at hd; cases hd
  | bad e => rw [hs] at hd; cases hd
  | whole k =>
    rw [hs] at hd
    simp only at hd
    obtain ⟨l, q, rfl, hk, hl, hm⟩ := scan_whole 1100 82 s 0 k hs
    rw [Nat.zero_add] at hk
    have e1 : (l ++ 13 :: 10 :: q).take k = l := by rw [hk]; exact List.take_left
    have e2 : (l ++ 13 :: 10 :: q).drop (k + 2) = q := by
      rw [hk, ← List.drop_drop, List.drop_left]
      rfl
    rw [e1, e2] at hd
    by_cases hx : (if r = true then status8 l else start8 l).2 = 0
    · rw [if_pos hx] at hd
      have hl0 : 0 < l.length := by
        cases l with
        | nil =>
          cases r
          · exact absurd hx start_nil
          · exact absurd hx status_nil
        | cons => simp
      obtain ⟨p, q2, rfl, hn, hp, hcl, hall⟩ := fields_done _ _ _ _ _ _ _ hd
      refine ⟨l ++ [13, 10] ++ p, q2, by simp, by simp; omega, by simp; omega, clean_append (clean_line hl) hcl, fun q' => ?_⟩
      unfold from8
      rw [show l ++ [13, 10] ++ p ++ q' = l ++ 13 :: 10 :: (p ++ q') by simp, scan_line 1100 82 (p ++ q') l 0 hl hm]
      simp only [Nat.zero_add]
      have e3 : (l ++ 13 :: 10 :: (p ++ q')).take l.length = l := List.take_left
      have e4 : (l ++ 13 :: 10 :: (p ++ q')).drop (l.length + 2) = p ++ q' := by
        rw [← List.drop_drop, List.drop_left]
        rfl
      rw [e3, e4, if_pos hx, ← hk]
      exact hall q'
    · rw [if_neg hx] at hd
      cases hd
theorem skip_split : ∀ s : List UInt8, ∃ u, s = u ++ s.drop (skip8 s) ∧ u.length = skip8 s ∧ Clean u ∧ skip8 (s.drop (skip8 s)) = 0 ∧ ∀ x, skip8 (u ++ x) = u.length + skip8 x
  | [] => ⟨[], rfl, rfl, clean_nil, rfl, fun x => by simp⟩
  | [c] => ⟨[], rfl, rfl, clean_nil, rfl, fun x => by simp⟩
  | c :: d :: s => by
    by_cases hc : c = 13 ∧ d = 10
    · obtain ⟨u, h1, h2, h3, h4, h5⟩ := skip_split s
      have hk : skip8 (c :: d :: s) = skip8 s + 2 := by rw [skip8, if_pos hc]
      obtain ⟨rfl, rfl⟩ := hc
      refine ⟨13 :: 10 :: u, ?_, ?_, clean_append (p := [13, 10]) clean_end h3, ?_, fun x => ?_⟩
      · rw [hk, List.drop_succ_cons, List.drop_succ_cons, List.cons_append, List.cons_append, ← h1]
      · rw [hk, List.length_cons, List.length_cons, h2]
      · rw [hk, List.drop_succ_cons, List.drop_succ_cons]
        exact h4
      · rw [List.cons_append, List.cons_append, skip8, if_pos ⟨rfl, rfl⟩, h5, List.length_cons, List.length_cons]
        omega
    · have hk : skip8 (c :: d :: s) = 0 := by rw [skip8, if_neg hc]
      exact ⟨[], by rw [hk]; rfl, by rw [hk]; rfl, clean_nil, by rw [hk]; exact hk, fun x => by simp⟩
theorem skip_two {p : List UInt8} (h2 : 2 ≤ p.length) (q q' : List UInt8) (h : skip8 (p ++ q) = 0) : skip8 (p ++ q') = 0 := by
  match p, h2 with
  | c :: d :: p, _ =>
    rw [List.cons_append, List.cons_append, skip8] at h ⊢
    by_cases hc : c = 13 ∧ d = 10
    · rw [if_pos hc] at h; omega
    · rw [if_neg hc]
/-- a head that is taken: its bytes alone make it, and they are clean -/
theorem read_done (r : Bool) (s : List UInt8) (h' : H8) (n : Nat) (hd : read8 r s = .done h' n) :
    ∃ p q, s = p ++ q ∧ n = p.length ∧ 0 < n ∧ Clean p ∧ ∀ q', read8 r (p ++ q') = .done h' n := by
  unfold read8 skipOf at hd
  cases r with
  | true =>
    simp only [if_true, List.drop_zero] at hd
    obtain ⟨p, q, rfl, hn, hp, hc, hall⟩ := from_done _ _ _ _ _ hd
    exact ⟨p, q, rfl, by omega, by omega, hc, fun q' => by unfold read8 skipOf; simpa using hall q'⟩
  | false =>
    simp only [Bool.false_eq_true, if_false] at hd
    obtain ⟨u, h1, h2, h3, h4, h5⟩ := skip_split s
    obtain ⟨p, q, e, hn, hp, hc, hall⟩ := from_done _ _ _ _ _ hd
    rw [e] at h1 h4
    refine ⟨u ++ p, q, by rw [List.append_assoc]; exact h1, by rw [List.length_append]; omega, by omega, clean_append h3 hc, fun q' => ?_⟩
    unfold read8 skipOf
    simp only [Bool.false_eq_true, if_false]
    have e1 : skip8 (u ++ p ++ q') = u.length := by rw [List.append_assoc, h5, skip_two (by omega) q q' h4, Nat.add_zero]
    rw [e1, List.append_assoc, List.drop_left, h2]
    exact hall q'
/-- cut short anywhere it isn't whole -/
theorem read_cut (r : Bool) (s : List UInt8) (h' : H8) (n cut : Nat) (hd : read8 r s = .done h' n) (hc : cut < n) : read8 r (s.take cut) = .wait := by
  cases hw : read8 r (s.take cut) with
  | wait => rfl
  | bad e =>
    have := read_append r (s.take cut) (s.drop cut) (by rw [hw]; intro h; cases h)
    rw [List.take_append_drop, hd, hw] at this
    cases this
  | done h2 n2 =>
    have := read_append r (s.take cut) (s.drop cut) (by rw [hw]; intro h; cases h)
    rw [List.take_append_drop, hd, hw] at this
    injection this with _ e
    obtain ⟨p, q, e1, e2, _⟩ := read_done r _ _ _ hw
    have e3 := congrArg List.length e1
    rw [List.length_take, List.length_append] at e3
    omega
theorem read_front (r : Bool) (s : List UInt8) (h' : H8) (n : Nat) (hd : read8 r s = .done h' n) : n ≤ s.length ∧ 0 < n ∧ read8 r (s.take n) = .done h' n ∧ Clean (s.take n) := by
  obtain ⟨p, q, rfl, hn, h0, hc, hall⟩ := read_done r s h' n hd
  have ht : (p ++ q).take n = p := by rw [hn]; exact List.take_left
  exact ⟨by rw [List.length_append]; omega, h0, by rw [ht]; have := hall []; rwa [List.append_nil] at this, by rw [ht]; exact hc⟩

/-! ### empty lines ahead -/
def shift (d : Nat) : Res → Res
  | .done h n => .done h (n + d)
  | x => x
theorem fields_shift (h : H8) (d : Nat) : ∀ (m : Nat) (acc : List HField) (a : Nat) (s : List UInt8), fields8 h m acc (a + d) s = shift d (fields8 h m acc a s) := by
  intro m
  induction m with
  | zero =>
    intro acc a s
    unfold fields8
    cases scan 512 83 0 s with
    | wait => rfl
    | bad e => rfl
    | whole k =>
      simp only
      split
      · unfold shift; simp only; congr 1; omega
      · rfl
  | succ m ih =>
    intro acc a s
    unfold fields8
    cases scan 512 83 0 s with
    | wait => rfl
    | bad e => rfl
    | whole k =>
      simp only
      split
      · unfold shift; simp only; congr 1; omega
      · split
        · rw [show a + d + k + 2 = a + k + 2 + d by omega]
          exact ih _ _ _
        · rfl
theorem from_shift (r : Bool) (d a : Nat) (s : List UInt8) : from8 r (a + d) s = shift d (from8 r a s) := by
  unfold from8
  cases scan 1100 82 0 s with
  | wait => rfl
  | bad e => rfl
  | whole k =>
    simp only
    by_cases hx : (if r = true then status8 (s.take k) else start8 (s.take k)).2 = 0
    · rw [if_pos hx, if_pos hx, show a + d + k + 2 = a + k + 2 + d by omega]
      exact fields_shift _ _ _ _ _ _
    · rw [if_neg hx, if_neg hx]
      rfl
def emptiesOf (k : Nat) : List UInt8 := (List.replicate k [13, 10]).flatten
theorem ahead_succ (k : Nat) : emptiesOf (k + 1) = 13 :: 10 :: emptiesOf k := by simp [emptiesOf, List.replicate_succ]
theorem ahead_snoc (k : Nat) : emptiesOf (k + 1) = emptiesOf k ++ [13, 10] := by simp [emptiesOf, List.replicate_succ', List.flatten_append]
theorem read_ahead (k : Nat) (s : List UInt8) : read8 false (emptiesOf k ++ s) = shift (2 * k) (read8 false s) := by
  have hk : ∀ k, skip8 (emptiesOf k ++ s) = 2 * k + skip8 s ∧ (emptiesOf k ++ s).drop (2 * k + skip8 s) = s.drop (skip8 s) := by
    intro k
    induction k with
    | zero => simp [emptiesOf]
    | succ k ih =>
      rw [ahead_succ, List.cons_append, List.cons_append, skip8, if_pos ⟨rfl, rfl⟩, ih.1]
      refine ⟨by omega, ?_⟩
      rw [show 2 * (k + 1) + skip8 s = 2 * k + skip8 s + 1 + 1 by omega, List.drop_succ_cons, List.drop_succ_cons]
      exact ih.2
  unfold read8 skipOf
  simp only [Bool.false_eq_true, if_false]
  rw [(hk k).1, (hk k).2, Nat.add_comm]
  exact from_shift _ _ _ _
end Go.Proofs.YtblpooddamkfdaaGreatDoor.HeadPure

/- Layer 8: a head that is written line by line is read back as it is. No program is named. -/
namespace Go.Proofs.YtblpooddamkfdaaGreatDoor.HeadWrit
open LexPure Bytes FieldsPure HeadPure
theorem drop_blanks {b v : List UInt8} (hb : b.all blankB = true) (hv : ∀ c r, v = c :: r → blankB c = false) : (b ++ v).dropWhile blankB = v := by
  induction b with
  | nil => exact dropWhile_id hv
  | cons c b ih =>
    rw [List.all_cons, Bool.and_eq_true] at hb
    rw [List.cons_append, List.dropWhile_cons_of_pos hb.1]
    exact ih hb.2
theorem value_ends {v : List UInt8} (h : value v = true) : (∀ c r, v = c :: r → blankB c = false) ∧ (∀ c r, v.reverse = c :: r → blankB c = false) := by
  unfold value at h
  rw [Bool.and_eq_true, Bool.or_eq_true, Bool.and_eq_true] at h
  constructor
  · intro c r e
    subst e
    rcases h.2 with h2 | h2
    · cases h2
    · simpa using h2.1
  · intro c r e
    have e2 : v = r.reverse ++ [c] := by
      have := congrArg List.reverse e
      rwa [List.reverse_reverse, List.reverse_cons] at this
    rcases h.2 with h2 | h2
    · rw [e2] at h2; simp at h2
    · have := h2.2
      rw [e2] at this
      simpa using this
theorem trim_wrap {b v : List UInt8} (hb : b.all blankB = true) (hv : value v = true) : trim (b ++ v ++ b) = v := by
  obtain ⟨h1, h2⟩ := value_ends hv
  have hb2 : b.reverse.all blankB = true := by rw [List.all_reverse]; exact hb
  unfold trim
  cases v with
  | nil =>
    have e : (b ++ [] ++ b).dropWhile blankB = [] := by
      rw [List.append_nil]
      have := drop_blanks (b := b ++ b) (v := []) (by rw [List.all_append, hb]; rfl) (fun c r e => by cases e)
      rwa [List.append_nil] at this
    rw [e]
    rfl
  | cons c v =>
    have e : (b ++ (c :: v) ++ b).dropWhile blankB = (c :: v) ++ b := by
      rw [List.append_assoc]
      exact drop_blanks hb (fun d r e => by
        rw [List.cons_append] at e
        injection e with e _
        rw [← e]
        exact h1 c v rfl)
    rw [e, List.reverse_append, drop_blanks hb2 h2, List.reverse_reverse]
/-- a field's line, with blanks about the value -/
def wline (b : List UInt8) (f : HField) : List UInt8 := f.1 ++ 58 :: (b ++ f.2 ++ b)
theorem mark_not (c : UInt8) : (markB c = true → c ≠ 58 ∧ c ≠ 10 ∧ c ≠ 13 ∧ c ≠ 32) ∧ (plainB c = true → c ≠ 10 ∧ c ≠ 13) ∧ (blankB c = true → c ≠ 10 ∧ c ≠ 13) ∧ (seenB c = true → c ≠ 10 ∧ c ≠ 13 ∧ c ≠ 32) := by
  have := all_bytes (p := fun c => decide ((markB c = true → c ≠ 58 ∧ c ≠ 10 ∧ c ≠ 13 ∧ c ≠ 32) ∧ (plainB c = true → c ≠ 10 ∧ c ≠ 13) ∧ (blankB c = true → c ≠ 10 ∧ c ≠ 13) ∧ (seenB c = true → c ≠ 10 ∧ c ≠ 13 ∧ c ≠ 32))) (by decide +kernel) c
  exact of_decide_eq_true this
theorem take_until {p : UInt8 → Bool} {l x : List UInt8} {d : UInt8} (hl : ∀ c ∈ l, p c = true) (hd : p d = false) : (l ++ d :: x).takeWhile p = l := by
  rw [List.takeWhile_append_of_pos hl, List.takeWhile_cons_of_neg (by rw [hd]; decide), List.append_nil]
theorem field_line {b : List UInt8} {f : HField} (hb : b.all blankB = true) (ht : token f.1 = true) (hv : value f.2 = true) : field8 (wline b f) = (f, 0) := by
  have hm : ∀ c ∈ f.1, markB c = true := by
    unfold token at ht
    rw [Bool.and_eq_true] at ht
    exact List.all_eq_true.1 ht.1
  have e1 : nameB (wline b f) = f.1 := take_until (fun c hc => by
    have := ((mark_not c).1 (hm c hc)).1
    simpa using this) (by decide)
  have e2 : (wline b f).drop (f.1.length + 1) = b ++ f.2 ++ b := by
    unfold wline
    rw [← List.drop_drop, List.drop_left]
    rfl
  unfold field8
  rw [e1, e2, trim_wrap hb hv, if_pos ⟨by unfold wline; simp, ht, hv⟩]
theorem line_bare {b : List UInt8} {f : HField} (hb : b.all blankB = true) (ht : token f.1 = true) (hv : value f.2 = true) : ∀ c ∈ wline b f, c ≠ 10 ∧ c ≠ 13 := by
  intro c hc
  have hm : ∀ c ∈ f.1, markB c = true := by
    unfold token at ht
    rw [Bool.and_eq_true] at ht
    exact List.all_eq_true.1 ht.1
  have hp : ∀ c ∈ f.2, plainB c = true := by
    unfold value at hv
    rw [Bool.and_eq_true] at hv
    exact List.all_eq_true.1 hv.1
  have hbb : ∀ c ∈ b, blankB c = true := List.all_eq_true.1 hb
  unfold wline at hc
  simp only [List.mem_append, List.mem_cons] at hc
  rcases hc with h | rfl | (h | h) | h
  · exact ⟨((mark_not c).1 (hm c h)).2.1, ((mark_not c).1 (hm c h)).2.2.1⟩
  · decide
  · exact (mark_not c).2.2.1 (hbb c h)
  · exact (mark_not c).2.1 (hp c h)
  · exact (mark_not c).2.2.1 (hbb c h)
def wlines (b : List UInt8) (l : List HField) : List UInt8 := l.flatMap (fun f => wline b f ++ [13, 10])
theorem wlines_snoc (b : List UInt8) (l : List HField) (f : HField) : wlines b (l ++ [f]) = wlines b l ++ (wline b f ++ [13, 10]) := by simp [wlines]
theorem fields_written (h : H8) {b : List UInt8} (hb : b.all blankB = true) (hbl : b.length ≤ 10) : ∀ (l : List HField) (m : Nat) (acc : List HField) (a : Nat), l.length ≤ m → (∀ f ∈ l, token f.1 = true ∧ value f.2 = true ∧ f.1.length + f.2.length ≤ 490) →
    fields8 h m acc a (wlines b l ++ [13, 10]) = .done { h with fields := acc ++ l } (a + (wlines b l).length + 2)
  | [], m, acc, a, _, _ => by
    unfold fields8
    rw [show wlines b [] ++ [13, 10] = [] ++ 13 :: 10 :: [] from rfl, scan_line 512 83 [] [] 0 (fun c hc => by cases hc) (.inl rfl)]
    simp [wlines]
  | f :: l, m, acc, a, hm, hf => by
    obtain ⟨ht, hv, hn⟩ := hf f List.mem_cons_self
    match m, hm with
    | m + 1, hm =>
      unfold fields8
      have e : wlines b (f :: l) ++ [13, 10] = wline b f ++ 13 :: 10 :: (wlines b l ++ [13, 10]) := by simp [wlines]
      have hlen : (wline b f).length ≤ 512 ∧ 0 < (wline b f).length := by unfold wline; simp; omega
      rw [e, scan_line 512 83 _ (wline b f) 0 (line_bare hb ht hv) (.inr (by omega))]
      simp only [Nat.zero_add]
      rw [if_neg (by omega)]
      have e3 : (wline b f ++ 13 :: 10 :: (wlines b l ++ [13, 10])).take (wline b f).length = wline b f := List.take_left
      have e4 : (wline b f ++ 13 :: 10 :: (wlines b l ++ [13, 10])).drop ((wline b f).length + 2) = wlines b l ++ [13, 10] := by
        rw [← List.drop_drop, List.drop_left]
        rfl
      rw [e3, e4, field_line hb ht hv, if_pos rfl, fields_written h hb hbl l m _ _ (by simpa using hm) (fun g hg => hf g (List.mem_cons_of_mem _ hg))]
      rw [List.append_assoc]
      congr 1
      have : (wlines b (f :: l)).length = (wline b f).length + 2 + (wlines b l).length := by simp [wlines]; omega
      omega
def HTTP11 : List UInt8 := [32, 72, 84, 84, 80, 47, 49, 46, 49]
/-- a head, as it is written -/
def wrote (m t b : List UInt8) (l : List HField) : List UInt8 := m ++ 32 :: t ++ HTTP11 ++ [13, 10] ++ wlines b l
theorem token_marks {m : List UInt8} (h : token m = true) : (∀ c ∈ m, markB c = true) ∧ 0 < m.length := by
  unfold token at h
  rw [Bool.and_eq_true] at h
  refine ⟨List.all_eq_true.1 h.1, ?_⟩
  cases m with
  | nil => simp at h
  | cons => simp
theorem read_written {m t b : List UInt8} {l : List HField} (hm : token m = true) (hml : m.length ≤ 16) (ht : t.all seenB = true) (ht0 : 0 < t.length) (htl : t.length ≤ 1024) (hb : b.all blankB = true) (hbl : b.length ≤ 10)
    (hl : l.length ≤ 32) (hf : ∀ f ∈ l, token f.1 = true ∧ value f.2 = true ∧ f.1.length + f.2.length ≤ 490) :
    read8 false (wrote m t b l ++ [13, 10]) = .done ⟨m, t, 0, [], 1, l⟩ ((wrote m t b l).length + 2) := by
  obtain ⟨hmm, hm0⟩ := token_marks hm
  have hts : ∀ c ∈ t, seenB c = true := List.all_eq_true.1 ht
  have e0 : wrote m t b l ++ [13, 10] = (m ++ 32 :: (t ++ HTTP11)) ++ 13 :: 10 :: (wlines b l ++ [13, 10]) := by unfold wrote; simp
  have hsk : skip8 (wrote m t b l ++ [13, 10]) = 0 := by
    rw [e0]
    cases m with
    | nil => simp at hm0
    | cons c m =>
      have hc := ((mark_not c).1 (hmm c List.mem_cons_self)).2.2.1
      cases hx : m ++ 32 :: (t ++ HTTP11) ++ 13 :: 10 :: (wlines b l ++ [13, 10]) with
      | nil => simp at hx
      | cons d x =>
        rw [List.cons_append, List.cons_append, hx, skip8, if_neg (fun h => hc h.1)]
  have hbare : ∀ c ∈ m ++ 32 :: (t ++ HTTP11), c ≠ 10 ∧ c ≠ 13 := by
    intro c hc
    simp only [List.mem_append, List.mem_cons] at hc
    rcases hc with h | rfl | h | h
    · exact ⟨((mark_not c).1 (hmm c h)).2.1, ((mark_not c).1 (hmm c h)).2.2.1⟩
    · decide
    · exact ⟨((mark_not c).2.2.2 (hts c h)).1, ((mark_not c).2.2.2 (hts c h)).2.1⟩
    · unfold HTTP11 at h
      simp only [List.mem_cons, List.not_mem_nil, or_false] at h
      rcases h with rfl | rfl | rfl | rfl | rfl | rfl | rfl | rfl | rfl <;> decide
  have hlen : (m ++ 32 :: (t ++ HTTP11)).length = m.length + t.length + 10 := by simp [HTTP11]; omega
  have hst : start8 (m ++ 32 :: (t ++ HTTP11)) = (⟨m, t, 0, [], 1, []⟩, 0) := by
    have u1 : upB (m ++ 32 :: (t ++ HTTP11)) = m := take_until (fun c hc => by
      have := ((mark_not c).1 (hmm c hc)).2.2.2
      simpa using this) (by decide)
    have d1 : (m ++ 32 :: (t ++ HTTP11)).drop (m.length + 1) = t ++ HTTP11 := by
      rw [← List.drop_drop, List.drop_left]
      rfl
    have u2 : upB (t ++ HTTP11) = t := take_until (x := [72, 84, 84, 80, 47, 49, 46, 49]) (fun c hc => by
      have := ((mark_not c).2.2.2 (hts c hc)).2.2
      simpa using this) (by decide)
    have d2 : (t ++ HTTP11).drop (t.length + 1) = [72, 84, 84, 80, 47, 49, 46, 49] := by
      rw [← List.drop_drop, List.drop_left]
      rfl
    unfold start8
    rw [u1, d1, if_pos ⟨by simp, hml, hm⟩]
    simp only [u2, d2]
    rw [if_pos ⟨by simp [HTTP11], ht0, ht⟩]
    rfl
  unfold read8 skipOf
  simp only [Bool.false_eq_true, if_false]
  rw [hsk, List.drop_zero, e0]
  unfold from8
  rw [scan_line 1100 82 _ _ 0 hbare (.inr (by omega))]
  simp only [Nat.zero_add, Bool.false_eq_true, if_false]
  have e3 : ((m ++ 32 :: (t ++ HTTP11)) ++ 13 :: 10 :: (wlines b l ++ [13, 10])).take (m ++ 32 :: (t ++ HTTP11)).length = m ++ 32 :: (t ++ HTTP11) := List.take_left
  have e4 : ((m ++ 32 :: (t ++ HTTP11)) ++ 13 :: 10 :: (wlines b l ++ [13, 10])).drop ((m ++ 32 :: (t ++ HTTP11)).length + 2) = wlines b l ++ [13, 10] := by
    rw [← List.drop_drop, List.drop_left]
    rfl
  rw [e3, e4, hst, if_pos rfl, fields_written _ hb hbl l 32 [] _ hl hf]
  have hw : (wrote m t b l).length = (m ++ 32 :: (t ++ HTTP11)).length + 2 + (wlines b l).length := by unfold wrote; simp; omega
  rw [List.nil_append]
  congr 1
  omega
end Go.Proofs.YtblpooddamkfdaaGreatDoor.HeadWrit

/- Layer 8: a head read line by line: what each line brings. No program is named. -/
namespace Go.Proofs.YtblpooddamkfdaaGreatDoor.HeadLines
open LexPure Bytes FieldsPure HeadPure HeadWrit
set_option maxRecDepth 20000
def bare (l : List UInt8) : Prop := ∀ c ∈ l, c ≠ 10 ∧ c ≠ 13
/-- a start line of version 1.1 -/
def startL (m t : List UInt8) : List UInt8 := m ++ 32 :: (t ++ HTTP11)
theorem start_bare {m t : List UInt8} (hm : token m = true) (ht : t.all seenB = true) : bare (startL m t) := by
  obtain ⟨hmm, _⟩ := token_marks hm
  have hts : ∀ c ∈ t, seenB c = true := List.all_eq_true.1 ht
  intro c hc
  unfold startL at hc
  simp only [List.mem_append, List.mem_cons] at hc
  rcases hc with h | rfl | h | h
  · exact ⟨((mark_not c).1 (hmm c h)).2.1, ((mark_not c).1 (hmm c h)).2.2.1⟩
  · decide
  · exact ⟨((mark_not c).2.2.2 (hts c h)).1, ((mark_not c).2.2.2 (hts c h)).2.1⟩
  · unfold HTTP11 at h
    simp only [List.mem_cons, List.not_mem_nil, or_false] at h
    rcases h with rfl | rfl | rfl | rfl | rfl | rfl | rfl | rfl | rfl <;> decide
theorem start_say {m t : List UInt8} (hm : token m = true) (hml : m.length ≤ 16) (ht : t.all seenB = true) (ht0 : 0 < t.length) : start8 (startL m t) = (⟨m, t, 0, [], 1, []⟩, 0) := by
  obtain ⟨hmm, _⟩ := token_marks hm
  have hts : ∀ c ∈ t, seenB c = true := List.all_eq_true.1 ht
  unfold startL
  have u1 : upB (m ++ 32 :: (t ++ HTTP11)) = m := take_until (fun c hc => by
    have := ((mark_not c).1 (hmm c hc)).2.2.2
    simpa using this) (by decide)
  have d1 : (m ++ 32 :: (t ++ HTTP11)).drop (m.length + 1) = t ++ HTTP11 := by
    rw [← List.drop_drop, List.drop_left]
    rfl
  have u2 : upB (t ++ HTTP11) = t := take_until (x := [72, 84, 84, 80, 47, 49, 46, 49]) (fun c hc => by
    have := ((mark_not c).2.2.2 (hts c hc)).2.2
    simpa using this) (by decide)
  have d2 : (t ++ HTTP11).drop (t.length + 1) = [72, 84, 84, 80, 47, 49, 46, 49] := by
    rw [← List.drop_drop, List.drop_left]
    rfl
  unfold start8
  rw [u1, d1, if_pos ⟨by simp, hml, hm⟩]
  simp only [u2, d2]
  rw [if_pos ⟨by simp [HTTP11], ht0, ht⟩]
  rfl
/-- the start line -/
theorem read_start {m t : List UInt8} (hm : token m = true) (hml : m.length ≤ 16) (ht : t.all seenB = true) (ht0 : 0 < t.length) (htl : t.length ≤ 1024) (s : List UInt8) :
    read8 false (startL m t ++ 13 :: 10 :: s) = fields8 ⟨m, t, 0, [], 1, []⟩ 32 [] ((startL m t).length + 2) s := by
  obtain ⟨hmm, hm0⟩ := token_marks hm
  have hsk : skip8 (startL m t ++ 13 :: 10 :: s) = 0 := by
    unfold startL
    cases m with
    | nil => simp at hm0
    | cons c m =>
      have hc := ((mark_not c).1 (hmm c List.mem_cons_self)).2.2.1
      cases hx : m ++ 32 :: (t ++ HTTP11) ++ 13 :: 10 :: s with
      | nil => simp at hx
      | cons d x =>
        rw [List.cons_append, List.cons_append, hx, skip8, if_neg (fun h => hc h.1)]
  have hlen : (startL m t).length = m.length + t.length + 10 := by simp [startL, HTTP11]; omega
  unfold read8 skipOf
  simp only [Bool.false_eq_true, if_false]
  rw [hsk, List.drop_zero]
  unfold from8
  rw [scan_line 1100 82 _ _ 0 (start_bare hm ht) (.inr (by omega))]
  simp only [Nat.zero_add, Bool.false_eq_true, if_false]
  have e3 : (startL m t ++ 13 :: 10 :: s).take (startL m t).length = startL m t := List.take_left
  have e4 : (startL m t ++ 13 :: 10 :: s).drop ((startL m t).length + 2) = s := by
    rw [← List.drop_drop, List.drop_left]
    rfl
  rw [e3, e4, start_say hm hml ht ht0, if_pos rfl]
/-- a field's line -/
theorem fields_line (h : H8) (m : Nat) (acc : List HField) (a : Nat) {L : List UInt8} (hb : bare L) (h0 : 0 < L.length) (hl : L.length ≤ 512) (s : List UInt8) :
    fields8 h (m + 1) acc a (L ++ 13 :: 10 :: s) = if (field8 L).2 = 0 then fields8 h m (acc ++ [(field8 L).1]) (a + L.length + 2) s else .bad 70 := by
  conv => lhs; unfold fields8
  rw [scan_line 512 83 _ L 0 hb (.inr (by omega))]
  simp only [Nat.zero_add]
  rw [if_neg (by omega)]
  have e3 : (L ++ 13 :: 10 :: s).take L.length = L := List.take_left
  have e4 : (L ++ 13 :: 10 :: s).drop (L.length + 2) = s := by
    rw [← List.drop_drop, List.drop_left]
    rfl
  rw [e3, e4]
/-- the empty line -/
theorem fields_end (h : H8) (m : Nat) (acc : List HField) (a : Nat) (s : List UInt8) : fields8 h m acc a (13 :: 10 :: s) = .done { h with fields := acc } (a + 2) := by
  unfold fields8
  rw [show (13 : UInt8) :: 10 :: s = [] ++ 13 :: 10 :: s from rfl, scan_line 512 83 _ [] 0 (fun c hc => by cases hc) (.inl rfl)]
  simp
theorem scan_ten (most : Nat) (over : Int) (q : List UInt8) : ∀ (l : List UInt8) (i : Nat), bare l → i + l.length ≤ most → scan most over i (l ++ 10 :: q) = .bad 80
  | [], i, _, _ => by
    show scan most over i (10 :: q) = .bad 80
    rw [scan_cons, if_pos rfl]
  | c :: l, i, hb, hl => by
    obtain ⟨h1, h2⟩ := hb c List.mem_cons_self
    rw [List.length_cons] at hl
    rw [List.cons_append, scan_cons, if_neg h1, if_neg h2, if_neg (by omega)]
    exact scan_ten most over q l (i + 1) (fun x hx => hb x (List.mem_cons_of_mem _ hx)) (by omega)
/-- a line that ends with a 10 alone -/
theorem fields_ten (h : H8) (m : Nat) (acc : List HField) (a : Nat) {L : List UInt8} (hb : bare L) (hl : L.length ≤ 512) (s : List UInt8) : fields8 h m acc a (L ++ 10 :: s) = .bad 80 := by
  unfold fields8
  rw [scan_ten 512 83 s L 0 hb (by omega)]
/-- a field with blanks ahead of its value -/
theorem field_ahead {b n v : List UInt8} (hb : b.all blankB = true) (ht : token n = true) (hv : value v = true) : field8 (n ++ 58 :: (b ++ v)) = ((n, v), 0) := by
  have hm : ∀ c ∈ n, markB c = true := by
    unfold token at ht
    rw [Bool.and_eq_true] at ht
    exact List.all_eq_true.1 ht.1
  have e1 : nameB (n ++ 58 :: (b ++ v)) = n := take_until (fun c hc => by
    have := ((mark_not c).1 (hm c hc)).1
    simpa using this) (by decide)
  have e2 : (n ++ 58 :: (b ++ v)).drop (n.length + 1) = b ++ v := by
    rw [← List.drop_drop, List.drop_left]
    rfl
  have e3 : trim (b ++ v) = v := by
    obtain ⟨h1, h2⟩ := value_ends hv
    unfold trim
    rw [drop_blanks hb h1]
    cases hr : v.reverse with
    | nil =>
      have : v = [] := by simpa using hr
      rw [this]
      rfl
    | cons c r =>
      rw [List.dropWhile_cons_of_neg (by rw [h2 c r hr]; decide), ← hr, List.reverse_reverse]
  unfold field8
  rw [e1, e2, e3, if_pos ⟨by simp, ht, hv⟩]
theorem field_ahead_bare {b n v : List UInt8} (hb : b.all blankB = true) (ht : token n = true) (hv : value v = true) : bare (n ++ 58 :: (b ++ v)) := by
  have := line_bare (b := b) (f := (n, v)) hb ht hv
  intro c hc
  refine this c ?_
  unfold wline
  simp only [List.mem_append, List.mem_cons] at hc ⊢
  rcases hc with h | h | h | h
  · exact .inl h
  · exact .inr (.inl h)
  · exact .inr (.inr (.inl (.inl h)))
  · exact .inr (.inr (.inl (.inr h)))
end Go.Proofs.YtblpooddamkfdaaGreatDoor.HeadLines

/- Numbers read from digits. No program is named. -/
namespace Go.Proofs.YtblpooddamkfdaaGreatDoor.LexNum
open LexPure Bytes
theorem numV_snoc (base : Nat) (l : List UInt8) (c : UInt8) : numV base (l ++ [c]) = base * numV base l + dig c := by
  simp [numV, List.foldl_append]
theorem numV_lt (base : Nat) (l : List UInt8) (h : l.all (fun c => decide (dig c < base)) = true) : numV base l < base ^ l.length := by
  have key : ∀ r : List UInt8, r.reverse.all (fun c => decide (dig c < base)) = true → numV base r.reverse < base ^ r.length := by
    intro r
    induction r with
    | nil => intro _; simp [numV]
    | cons c r ih =>
      intro h
      rw [List.reverse_cons, List.all_append, Bool.and_eq_true] at h
      have h1 := ih h.1
      have h2 : dig c < base := by simpa using h.2
      rw [List.reverse_cons, numV_snoc, List.length_cons, Nat.pow_succ]
      have h3 : base * (numV base r.reverse + 1) ≤ base * base ^ r.length := Nat.mul_le_mul_left _ h1
      rw [Nat.mul_add, Nat.mul_one, Nat.mul_comm base (base ^ r.length)] at h3
      omega
  have := key l.reverse (by rw [List.reverse_reverse]; exact h)
  rwa [List.reverse_reverse, List.length_reverse] at this
/-- the base and how many digits may be read in it -/
def Fit (base : Nat) (digits : Int) : Prop := (base = 10 ∧ digits ≤ 18) ∨ (base = 16 ∧ digits ≤ 15)
theorem Fit.bound {base : Nat} {digits : Int} (h : Fit base digits) {l : List UInt8} (hl : (l.length : Int) < digits) (ha : l.all (fun c => decide (dig c < base)) = true) : base * numV base l ≤ 1152921504606846976 ∧ base ≤ 16 := by
  have hv := numV_lt base l ha
  rcases h with ⟨rfl, hd⟩ | ⟨rfl, hd⟩
  · have : 10 ^ l.length ≤ 10 ^ 17 := Nat.pow_le_pow_right (by decide) (by omega)
    omega
  · have : 16 ^ l.length ≤ 16 ^ 14 := Nat.pow_le_pow_right (by decide) (by omega)
    omega
/-- where a byte lies among the digits -/
theorem dig_at (b : UInt8) : ((b.toNat : Int) < 48 ∧ dig b = 99) ∨ (48 ≤ (b.toNat : Int) ∧ (b.toNat : Int) ≤ 57 ∧ (dig b : Int) = (b.toNat : Int) - 48) ∨ (57 < (b.toNat : Int) ∧ (b.toNat : Int) < 65 ∧ dig b = 99) ∨
    (65 ≤ (b.toNat : Int) ∧ (b.toNat : Int) ≤ 70 ∧ (dig b : Int) = (b.toNat : Int) - 55) ∨ (70 < (b.toNat : Int) ∧ (b.toNat : Int) < 97 ∧ dig b = 99) ∨ (97 ≤ (b.toNat : Int) ∧ (b.toNat : Int) ≤ 102 ∧ (dig b : Int) = (b.toNat : Int) - 87) ∨ (102 < (b.toNat : Int) ∧ dig b = 99) := by
  have := all_bytes (p := fun b => decide (((b.toNat : Int) < 48 ∧ dig b = 99) ∨ (48 ≤ (b.toNat : Int) ∧ (b.toNat : Int) ≤ 57 ∧ (dig b : Int) = (b.toNat : Int) - 48) ∨ (57 < (b.toNat : Int) ∧ (b.toNat : Int) < 65 ∧ dig b = 99) ∨
    (65 ≤ (b.toNat : Int) ∧ (b.toNat : Int) ≤ 70 ∧ (dig b : Int) = (b.toNat : Int) - 55) ∨ (70 < (b.toNat : Int) ∧ (b.toNat : Int) < 97 ∧ dig b = 99) ∨ (97 ≤ (b.toNat : Int) ∧ (b.toNat : Int) ≤ 102 ∧ (dig b : Int) = (b.toNat : Int) - 87) ∨ (102 < (b.toNat : Int) ∧ dig b = 99))) (by decide +kernel) b
  exact of_decide_eq_true this
theorem dig_le (b : UInt8) : dig b ≤ 99 := by
  have := dig_at b
  omega
end Go.Proofs.YtblpooddamkfdaaGreatDoor.LexNum

/- Layer 9: how a body is framed, over lists of fields. No program is named. -/
namespace Go.Proofs.YtblpooddamkfdaaGreatDoor.FramePure
open Bytes LexPure LexNum FieldsPure
set_option maxRecDepth 20000
def CLEN : List UInt8 := [99, 111, 110, 116, 101, 110, 116, 45, 108, 101, 110, 103, 116, 104]
def TENC : List UInt8 := [116, 114, 97, 110, 115, 102, 101, 114, 45, 101, 110, 99, 111, 100, 105, 110, 103]
def CHUNKED : List UInt8 := [99, 104, 117, 110, 107, 101, 100]
def CLOSE : List UInt8 := [99, 108, 111, 115, 101]
def KEEPA : List UInt8 := [107, 101, 101, 112, 45, 97, 108, 105, 118, 101]
/-- the lengths: the pieces between commas of the values of the length's fields, empty ones too -/
def lens (G : List HField) : List (List UInt8) := (G.filter (hit CLEN)).flatMap (fun f => (pieces f.2).map trim)
/-- one more length: what is told so far (-1: none yet), and the new one; none: they aren't right -/
def lenStep (n : Int) (p : List UInt8) : Option Int := if numOk 10 15 p = true ∧ (n < 0 ∨ numR 10 15 p = n) then some (numR 10 15 p) else none
def lenFrom : Int → List (List UInt8) → Int
  | n, [] => n
  | n, p :: l => match lenStep n p with
    | none => -1
    | some m => lenFrom m l
def lenN (G : List HField) : Int := lenFrom (-1) (lens G)
theorem numR_pos (base : Nat) (d : Int) (p : List UInt8) : 0 ≤ numR base d p := by
  unfold numR
  split
  · omega
  · exact Int.le_refl 0
/-- where a number is told, each length is right and is that number -/
theorem len_all : ∀ (l : List (List UInt8)) (n : Int), 0 ≤ lenFrom n l → (∀ p ∈ l, numOk 10 15 p = true ∧ numR 10 15 p = lenFrom n l) ∧ (0 ≤ n → lenFrom n l = n)
  | [], n, _ => ⟨fun p hp => (by cases hp), fun _ => rfl⟩
  | p :: l, n, h => by
    unfold lenFrom at h ⊢
    unfold lenStep at h ⊢
    by_cases hc : numOk 10 15 p = true ∧ (n < 0 ∨ numR 10 15 p = n)
    · rw [if_pos hc] at h ⊢
      simp only at h ⊢
      obtain ⟨h1, h2⟩ := len_all l _ h
      have h3 := h2 (numR_pos 10 15 p)
      refine ⟨fun q hq => ?_, fun hn => ?_⟩
      · rcases List.mem_cons.1 hq with rfl | hq
        · exact ⟨hc.1, h3.symm⟩
        · exact h1 q hq
      · rw [h3]
        rcases hc.2 with h | h
        · omega
        · exact h
    · rw [if_neg hc] at h
      simp at h
theorem len_least : ∀ (l : List (List UInt8)) (n : Int), -1 ≤ n → -1 ≤ lenFrom n l
  | [], n, h => h
  | p :: l, n, h => by
    unfold lenFrom lenStep
    by_cases hc : numOk 10 15 p = true ∧ (n < 0 ∨ numR 10 15 p = n)
    · rw [if_pos hc]
      exact len_least l _ (by have := numR_pos 10 15 p; omega)
    · rw [if_neg hc]
      exact Int.le_refl _
/-- 1: just chunked; 2: others, then chunked once; 3: anything else -/
def codeN (l : List (List UInt8)) : Nat :=
  match l.reverse with
  | [] => 3
  | x :: r => if lower x = CHUNKED ∧ r.all (fun y => !(lower y == CHUNKED)) = true then (if r = [] then 1 else 2) else 3
def request9 (minor : Int) (G : List HField) (most : Int) : Int × Int × Int :=
  if 0 < getN G TENC then
    (if minor = 0 ∨ 0 < getN G CLEN ∨ codeN (elems G TENC) = 3 then (0, 0, 90)
     else if codeN (elems G TENC) = 2 then (0, 0, 91) else (3, 0, 0))
  else if getN G CLEN = 0 then (1, 0, 0)
  else if lenN G < 0 then (0, 0, 90)
  else if most < lenN G then (0, 0, 101) else (2, lenN G, 0)
def response9 (method : List UInt8) (status minor : Int) (G : List HField) : Int × Int × Int :=
  if status = 101 then (5, 0, 0)
  else if (100 ≤ status ∧ status < 200) ∨ status = 204 ∨ status = 304 then (1, 0, 0)
  else if method = [67, 79, 78, 78, 69, 67, 84] ∧ 200 ≤ status ∧ status < 300 then (5, 0, 0)
  else if method = [72, 69, 65, 68] then (1, 0, 0)
  else if 0 < getN G TENC then
    (if minor = 0 ∨ 0 < getN G CLEN then (0, 0, 90) else if codeN (elems G TENC) = 1 then (3, 0, 0) else (0, 0, 91))
  else if getN G CLEN = 0 then (4, 0, 0)
  else if lenN G < 0 then (0, 0, 90) else (2, lenN G, 0)
def keep9 (minor : Int) (G : List HField) : Bool := !hasE G CONNECTION CLOSE && (minor != 0 || hasE G CONNECTION KEEPA)
theorem code_one (l : List (List UInt8)) : codeN l = 1 ↔ ∃ x, l = [x] ∧ lower x = CHUNKED := by
  unfold codeN
  constructor
  · intro h
    cases hr : l.reverse with
    | nil => rw [hr] at h; simp at h
    | cons x r =>
      rw [hr] at h
      simp only at h
      split at h
      · rename_i hc
        split at h
        · rename_i h0
          subst h0
          exact ⟨x, by rw [← List.reverse_reverse l, hr]; rfl, hc.1⟩
        · cases h
      · cases h
  · rintro ⟨x, rfl, hx⟩
    simp [hx]
theorem code_three (l : List (List UInt8)) : codeN l = 1 ∨ codeN l = 2 ∨ codeN l = 3 := by
  unfold codeN
  split
  · exact .inr (.inr rfl)
  · split
    · split
      · exact .inl rfl
      · exact .inr (.inl rfl)
    · exact .inr (.inr rfl)
theorem elements_sub {v p : List UInt8} (h : p ∈ elements v) : p ∈ (pieces v).map trim := by
  unfold elements at h
  exact (List.mem_filter.1 h).1
theorem lens_cons (f : HField) (G : List HField) : lens (f :: G) = if hit CLEN f then (pieces f.2).map trim ++ lens G else lens G := by
  unfold lens
  rw [List.filter_cons]
  split
  · rw [List.flatMap_cons]
  · rfl
theorem lens_mem {G : List HField} {f : HField} {p : List UInt8} (hf : f ∈ G) (hh : hit CLEN f = true) (hp : p ∈ (pieces f.2).map trim) : p ∈ lens G :=
  List.mem_flatMap.2 ⟨f, List.mem_filter.2 ⟨hf, hh⟩, hp⟩
/-! ### small letters -/
def lowF (f : HField) : HField := (lower f.1, lower f.2)
theorem hit_low (n : List UInt8) (f : HField) : hit n (lowF f) = hit n f := by unfold hit lowF; exact alike_lower_left _ _
theorem getN_low (G : List HField) (n : List UInt8) : getN (G.map lowF) n = getN G n := by
  unfold getN
  rw [List.countP_map]
  congr 1
  funext f
  exact hit_low n f
theorem filter_low (G : List HField) (n : List UInt8) : (G.map lowF).filter (hit n) = (G.filter (hit n)).map lowF := by
  rw [List.filter_map]
  congr 2
  funext f
  exact hit_low n f
theorem pieces_low : ∀ s : List UInt8, pieces (lower s) = (pieces s).map lower
  | [] => rfl
  | c :: s => by
    unfold lower
    rw [List.map_cons]
    have ih := pieces_low s
    unfold lower at ih
    unfold pieces
    rw [small_comma, ih]
    by_cases h : (c == 44) = true
    · rw [if_pos h, if_pos h]
      rfl
    · rw [if_neg h, if_neg h]
      cases pieces s with
      | nil => rfl
      | cons p ps => rfl
theorem drop_low (s : List UInt8) : (s.map small).dropWhile blankB = (s.dropWhile blankB).map small := by
  induction s with
  | nil => rfl
  | cons c s ih =>
    rw [List.map_cons, List.dropWhile_cons, List.dropWhile_cons, small_blank]
    split
    · exact ih
    · rfl
theorem trim_low (s : List UInt8) : trim (lower s) = lower (trim s) := by
  unfold trim lower
  rw [drop_low, ← List.map_reverse, drop_low, ← List.map_reverse]
theorem elements_low (s : List UInt8) : elements (lower s) = (elements s).map lower := by
  unfold elements
  rw [pieces_low, List.map_map, List.filter_map, List.filter_map, List.map_map]
  have e : trim ∘ lower = lower ∘ trim := by funext x; exact trim_low x
  have e2 : ((fun e : List UInt8 => !e.isEmpty) ∘ trim ∘ lower) = ((fun e : List UInt8 => !e.isEmpty) ∘ trim) := by
    rw [e]
    funext x
    show (!(lower (trim x)).isEmpty) = !(trim x).isEmpty
    unfold lower
    rw [List.isEmpty_map]
  rw [e2, e]
theorem elems_low (G : List HField) (n : List UInt8) : elems (G.map lowF) n = (elems G n).map lower := by
  unfold elems
  rw [filter_low, List.flatMap_map, List.map_flatMap]
  congr 1
  funext f
  exact elements_low f.2
theorem dig_small (c : UInt8) : decide (dig (small c) < 10) = decide (dig c < 10) ∧ (dig c < 10 → dig (small c) = dig c) := by
  have := all_bytes (p := fun c => decide (decide (dig (small c) < 10) = decide (dig c < 10) ∧ (dig c < 10 → dig (small c) = dig c))) (by decide +kernel) c
  exact of_decide_eq_true this
theorem ok_low (d : Int) (p : List UInt8) : numOk 10 d (lower p) = numOk 10 d p := by
  unfold numOk lower
  rw [List.all_map, List.length_map]
  congr 1
  · cases p <;> rfl
  · congr 1
    funext c
    exact (dig_small c).1
theorem fold_low : ∀ (p : List UInt8) (n : Nat), p.all (fun c => decide (dig c < 10)) = true → (p.map small).foldl (fun n c => 10 * n + dig c) n = p.foldl (fun n c => 10 * n + dig c) n
  | [], n, _ => rfl
  | c :: p, n, h => by
    rw [List.all_cons, Bool.and_eq_true] at h
    rw [List.map_cons, List.foldl_cons, List.foldl_cons, (dig_small c).2 (of_decide_eq_true h.1)]
    exact fold_low p _ h.2
theorem num_low (d : Int) (p : List UInt8) : numR 10 d (lower p) = numR 10 d p := by
  unfold numR
  rw [ok_low]
  by_cases h : numOk 10 d p = true
  · rw [if_pos h, if_pos h]
    unfold numOk at h
    simp only [Bool.and_eq_true] at h
    unfold numV lower
    rw [fold_low p 0 h.2]
  · rw [if_neg h, if_neg h]
theorem lenFrom_low : ∀ (l : List (List UInt8)) (n : Int), lenFrom n (l.map lower) = lenFrom n l
  | [], n => rfl
  | p :: l, n => by
    rw [List.map_cons]
    unfold lenFrom lenStep
    rw [ok_low, num_low]
    by_cases hc : numOk 10 15 p = true ∧ (n < 0 ∨ numR 10 15 p = n)
    · rw [if_pos hc]
      exact lenFrom_low l _
    · rw [if_neg hc]
theorem lens_low (G : List HField) : lens (G.map lowF) = (lens G).map lower := by
  unfold lens
  rw [filter_low, List.flatMap_map, List.map_flatMap]
  congr 1
  funext f
  show (pieces (lower f.2)).map trim = ((pieces f.2).map trim).map lower
  rw [pieces_low, List.map_map, List.map_map]
  congr 1
  funext x
  exact trim_low x
theorem len_low (G : List HField) : lenN (G.map lowF) = lenN G := by
  unfold lenN
  rw [lens_low, lenFrom_low]
theorem code_low (l : List (List UInt8)) : codeN (l.map lower) = codeN l := by
  unfold codeN
  rw [← List.map_reverse]
  cases l.reverse with
  | nil => rfl
  | cons x r =>
    simp only [List.map_cons, lower_lower, List.all_map, Function.comp_def]
    cases r <;> rfl
theorem has_low (G : List HField) (n e : List UInt8) : hasE (G.map lowF) n e = hasE G n e := by
  unfold hasE
  rw [elems_low, List.any_map]
  congr 1
  funext x
  exact alike_lower_left _ _
theorem request_low (minor : Int) (G : List HField) (most : Int) : request9 minor (G.map lowF) most = request9 minor G most := by
  unfold request9
  rw [getN_low, getN_low, elems_low, code_low, len_low]
theorem response_low (m : List UInt8) (status minor : Int) (G : List HField) : response9 m status minor (G.map lowF) = response9 m status minor G := by
  unfold response9
  rw [getN_low, getN_low, elems_low, code_low, len_low]
theorem keep_low (minor : Int) (G : List HField) : keep9 minor (G.map lowF) = keep9 minor G := by
  unfold keep9
  rw [has_low, has_low]
end Go.Proofs.YtblpooddamkfdaaGreatDoor.FramePure

/- A text's elements. No program is named. -/
namespace Go.Proofs.YtblpooddamkfdaaGreatDoor.LexList
open LexPure Bytes
def noComma (p : List UInt8) : Bool := p.all (fun c => c != 44)
theorem pieces_ne (s : List UInt8) : pieces s ≠ [] := by
  cases s with
  | nil => simp [pieces]
  | cons c s =>
    unfold pieces
    split
    · simp
    · split <;> simp
theorem pieces_plain : ∀ {p : List UInt8}, noComma p = true → pieces p = [p]
  | [], _ => rfl
  | c :: p, h => by
    unfold noComma at h
    rw [List.all_cons, Bool.and_eq_true] at h
    unfold pieces
    rw [if_neg (by simpa using h.1), pieces_plain (p := p) h.2]
theorem pieces_cut : ∀ {p : List UInt8} {r : List UInt8}, noComma p = true → pieces (p ++ 44 :: r) = p :: pieces r
  | [], r, _ => by
    show pieces (44 :: r) = _
    unfold pieces
    rw [if_pos (by decide)]
    cases r <;> rfl
  | c :: p, r, h => by
    unfold noComma at h
    rw [List.all_cons, Bool.and_eq_true] at h
    show pieces (c :: (p ++ 44 :: r)) = _
    rw [pieces, if_neg (by simpa using h.1), pieces_cut (p := p) (r := r) h.2]
/-- one piece's element -/
def one (p : List UInt8) : List (List UInt8) := if (trim p).isEmpty then [] else [trim p]
theorem elements_plain {p : List UInt8} (h : noComma p = true) : elements p = one p := by
  unfold elements one
  rw [pieces_plain h]
  cases ht : (trim p).isEmpty <;> simp [ht]
theorem elements_cut {p r : List UInt8} (h : noComma p = true) : elements (p ++ 44 :: r) = one p ++ elements r := by
  unfold elements one
  rw [pieces_cut h]
  cases ht : (trim p).isEmpty <;> simp [ht]
theorem one_length (p : List UInt8) : (one p).length ≤ 1 := by
  unfold one
  split <;> simp
theorem noComma_snoc {p : List UInt8} {c : UInt8} (h : noComma p = true) (hc : (c == 44) = false) : noComma (p ++ [c]) = true := by
  unfold noComma at *
  rw [List.all_append, h]
  simp only [List.all_cons, List.all_nil, Bool.and_true, Bool.true_and]
  simpa [bne] using hc
/-- elements are trimmed and not empty -/
theorem elements_mem {s e : List UInt8} (h : e ∈ elements s) : e.isEmpty = false ∧ trim e = e := by
  unfold elements at h
  rw [List.mem_filter, List.mem_map] at h
  obtain ⟨⟨p, _, rfl⟩, h2⟩ := h
  exact ⟨by simpa using h2, trim_trim p⟩
theorem trim_noComma {p : List UInt8} (h : noComma p = true) : noComma (trim p) = true := by
  unfold noComma at *
  rw [List.all_eq_true] at *
  intro c hc
  refine h c ?_
  unfold trim at hc
  rw [List.mem_reverse] at hc
  have h1 := (List.dropWhile_suffix (l := (p.dropWhile blankB).reverse) blankB).subset hc
  rw [List.mem_reverse] at h1
  exact (List.dropWhile_suffix (l := p) blankB).subset h1
theorem pieces_noComma : ∀ {s p : List UInt8}, p ∈ pieces s → noComma p = true
  | [], p, h => by
    simp only [pieces, List.mem_singleton] at h
    subst h
    rfl
  | c :: s, p, h => by
    rw [pieces] at h
    by_cases hc : (c == 44) = true
    · rw [if_pos hc, List.mem_cons] at h
      rcases h with rfl | h
      · rfl
      · exact pieces_noComma h
    · rw [if_neg hc] at h
      have hc' : (c == 44) = false := by simpa using hc
      split at h
      · rename_i hp
        exact absurd hp (pieces_ne s)
      · rename_i q qs hp
        rw [List.mem_cons] at h
        rcases h with rfl | h
        · have := pieces_noComma (s := s) (p := q) (by rw [hp]; simp)
          unfold noComma at *
          rw [List.all_cons, this]
          simp [bne, hc']
        · exact pieces_noComma (s := s) (p := p) (by rw [hp]; simp [h])
theorem elements_noComma {s e : List UInt8} (h : e ∈ elements s) : noComma e = true := by
  unfold elements at h
  rw [List.mem_filter, List.mem_map] at h
  obtain ⟨⟨p, hp, rfl⟩, _⟩ := h
  exact trim_noComma (pieces_noComma hp)
end Go.Proofs.YtblpooddamkfdaaGreatDoor.LexList

/- A number's digits. No program is named. -/
namespace Go.Proofs.YtblpooddamkfdaaGreatDoor.DecN
open Bytes LexPure LexList LexNum FieldsPure HeadPure FramePure
set_option maxRecDepth 20000
def decB (n : Nat) : UInt8 := UInt8.ofNat (48 + n)
def decN (n : Nat) : List UInt8 := if _h : n < 10 then [decB n] else decN (n / 10) ++ [decB (n % 10)]
termination_by n
decreasing_by omega
theorem decN_small {n : Nat} (h : n < 10) : decN n = [decB n] := by
  conv => lhs; unfold decN
  rw [dif_pos h]
theorem decN_more {n : Nat} (h : ¬ n < 10) : decN n = decN (n / 10) ++ [decB (n % 10)] := by
  conv => lhs; unfold decN
  rw [dif_neg h]
theorem decB_say : ∀ n, n < 10 → dig (decB n) = n ∧ (48 ≤ (decB n).toNat ∧ (decB n).toNat ≤ 57) := by
  have : ∀ n : Fin 10, dig (decB n.1) = n.1 ∧ (48 ≤ (decB n.1).toNat ∧ (decB n.1).toNat ≤ 57) := by decide +kernel
  intro n hn
  exact this ⟨n, hn⟩
theorem decN_ne (n : Nat) : decN n ≠ [] := by
  by_cases h : n < 10
  · rw [decN_small h]; simp
  · rw [decN_more h]; simp
theorem decN_val (n : Nat) : numV 10 (decN n) = n := by
  induction n using Nat.strongRecOn with
  | ind n ih =>
    by_cases h : n < 10
    · rw [decN_small h]
      have := (decB_say n h).1
      simp [numV, this]
    · rw [decN_more h, numV_snoc, ih (n / 10) (by omega), (decB_say (n % 10) (by omega)).1]
      omega
theorem decN_all (n : Nat) : ∀ c ∈ decN n, dig c < 10 ∧ 48 ≤ c.toNat ∧ c.toNat ≤ 57 := by
  induction n using Nat.strongRecOn with
  | ind n ih =>
    intro c hc
    by_cases h : n < 10
    · rw [decN_small h, List.mem_singleton] at hc
      subst hc
      obtain ⟨h1, h2⟩ := decB_say n h
      exact ⟨by omega, h2⟩
    · rw [decN_more h, List.mem_append, List.mem_singleton] at hc
      rcases hc with hc | rfl
      · exact ih (n / 10) (by omega) c hc
      · obtain ⟨h1, h2⟩ := decB_say (n % 10) (by omega)
        exact ⟨by omega, h2⟩
theorem decN_len (k : Nat) : ∀ n, n < 10 ^ (k + 1) → (decN n).length ≤ k + 1 := by
  induction k with
  | zero =>
    intro n h
    rw [decN_small (by omega)]
    exact Nat.le_refl _
  | succ k ih =>
    intro n h
    by_cases h2 : n < 10
    · rw [decN_small h2]
      simp
    · rw [decN_more h2, List.length_append, List.length_singleton]
      have := ih (n / 10) (by rw [Nat.pow_succ] at h; omega)
      omega
theorem dec_byte (c : UInt8) (h : 48 ≤ c.toNat ∧ c.toNat ≤ 57) : plainB c = true ∧ blankB c = false ∧ (c != 44) = true := by
  have := all_bytes (p := fun c => !(decide (48 ≤ c.toNat) && decide (c.toNat ≤ 57)) || (plainB c && !blankB c && (c != 44))) (by decide +kernel) c
  simp only [h.1, h.2, decide_true, Bool.and_true, Bool.not_true, Bool.false_or, Bool.and_eq_true, Bool.not_eq_true'] at this
  obtain ⟨⟨h1, h2⟩, h3⟩ := this
  exact ⟨h1, h2, h3⟩
theorem dec_trim (n : Nat) : trim (decN n) = decN n := trim_id
  (fun c r e => (dec_byte c (decN_all n c (by rw [e]; exact List.mem_cons_self)).2).2.1)
  (fun c r e => (dec_byte c (decN_all n c (by rw [← List.mem_reverse, e]; exact List.mem_cons_self)).2).2.1)
theorem dec_value (n : Nat) : value (decN n) = true := by
  unfold value
  have hp : (decN n).all plainB = true := List.all_eq_true.2 (fun c hc => (dec_byte c (decN_all n c hc).2).1)
  rw [hp, Bool.true_and]
  cases h : decN n with
  | nil => exact absurd h (decN_ne n)
  | cons c r =>
    have h1 := (dec_byte c (decN_all n c (by rw [h]; exact List.mem_cons_self)).2).2.1
    have hl : (c :: r).getLastD 0 ∈ c :: r := by
      rw [List.getLastD_eq_getLast?, List.getLast?_eq_some_getLast (List.cons_ne_nil c r)]
      exact List.getLast_mem _
    have h2 := (dec_byte _ (decN_all n ((c :: r).getLastD 0) (by rw [h]; exact hl)).2).2.1
    rw [List.headD_cons, h1, h2]
    rfl
theorem dec_pieces (n : Nat) : pieces (decN n) = [decN n] := pieces_plain (List.all_eq_true.2 (fun c hc => (dec_byte c (decN_all n c hc).2).2.2))
theorem dec_num {n : Nat} (h : n < 1000000000000000) : numOk 10 15 (decN n) = true ∧ numR 10 15 (decN n) = n := by
  have hok : numOk 10 15 (decN n) = true := by
    unfold numOk
    have h1 : (decN n).isEmpty = false := by
      cases q : decN n with
      | nil => exact absurd q (decN_ne n)
      | cons => rfl
    have h2 := decN_len 14 n h
    have h3 : (decN n).all (fun c => decide (dig c < 10)) = true := List.all_eq_true.2 (fun c hc => decide_eq_true (decN_all n c hc).1)
    rw [h1, h3, decide_eq_true (by omega)]
    rfl
  refine ⟨hok, ?_⟩
  unfold numR
  rw [if_pos hok, decN_val]
theorem decN_three {n : Nat} (h1 : 100 ≤ n) (h2 : n < 1000) : decN n = [decB (n / 100), decB (n / 10 % 10), decB (n % 10)] := by
  rw [decN_more (by omega), decN_more (by omega), decN_small (by omega), Nat.div_div_eq_div_mul]
  rfl
end Go.Proofs.YtblpooddamkfdaaGreatDoor.DecN

/- Layer 13: what is written of a request and of a head, and that a head written so is read again, line by line. No program is named. -/
namespace Go.Proofs.YtblpooddamkfdaaGreatDoor.EmitPure
open Bytes LexPure FieldsPure HeadPure HeadWrit HeadLines DecN
set_option maxRecDepth 20000
/-! ### what is written -/
/-- a whole number's digits -/
def decZ (n : Int) : List UInt8 := if n < 0 then 45 :: decN n.natAbs else decN n.natAbs
/-- the phrases -/
def phrases : List (Int × List UInt8) := [(101, [83, 119, 105, 116, 99, 104, 105, 110, 103, 32, 80, 114, 111, 116, 111, 99, 111, 108, 115]),
  (200, [79, 75]),
  (204, [78, 111, 32, 67, 111, 110, 116, 101, 110, 116]),
  (301, [77, 111, 118, 101, 100, 32, 80, 101, 114, 109, 97, 110, 101, 110, 116, 108, 121]),
  (302, [70, 111, 117, 110, 100]),
  (307, [84, 101, 109, 112, 111, 114, 97, 114, 121, 32, 82, 101, 100, 105, 114, 101, 99, 116]),
  (308, [80, 101, 114, 109, 97, 110, 101, 110, 116, 32, 82, 101, 100, 105, 114, 101, 99, 116]),
  (400, [66, 97, 100, 32, 82, 101, 113, 117, 101, 115, 116]),
  (401, [85, 110, 97, 117, 116, 104, 111, 114, 105, 122, 101, 100]),
  (403, [70, 111, 114, 98, 105, 100, 100, 101, 110]),
  (404, [78, 111, 116, 32, 70, 111, 117, 110, 100]),
  (408, [82, 101, 113, 117, 101, 115, 116, 32, 84, 105, 109, 101, 111, 117, 116]),
  (413, [67, 111, 110, 116, 101, 110, 116, 32, 84, 111, 111, 32, 76, 97, 114, 103, 101]),
  (414, [85, 82, 73, 32, 84, 111, 111, 32, 76, 111, 110, 103]),
  (417, [69, 120, 112, 101, 99, 116, 97, 116, 105, 111, 110, 32, 70, 97, 105, 108, 101, 100]),
  (429, [84, 111, 111, 32, 77, 97, 110, 121, 32, 82, 101, 113, 117, 101, 115, 116, 115]),
  (431, [82, 101, 113, 117, 101, 115, 116, 32, 72, 101, 97, 100, 101, 114, 32, 70, 105, 101, 108, 100, 115, 32, 84, 111, 111, 32, 76, 97, 114, 103, 101]),
  (500, [73, 110, 116, 101, 114, 110, 97, 108, 32, 83, 101, 114, 118, 101, 114, 32, 69, 114, 114, 111, 114]),
  (501, [78, 111, 116, 32, 73, 109, 112, 108, 101, 109, 101, 110, 116, 101, 100]),
  (502, [66, 97, 100, 32, 71, 97, 116, 101, 119, 97, 121]),
  (503, [83, 101, 114, 118, 105, 99, 101, 32, 85, 110, 97, 118, 97, 105, 108, 97, 98, 108, 101]),
  (504, [71, 97, 116, 101, 119, 97, 121, 32, 84, 105, 109, 101, 111, 117, 116]),
  (505, [72, 84, 84, 80, 32, 86, 101, 114, 115, 105, 111, 110, 32, 78, 111, 116, 32, 83, 117, 112, 112, 111, 114, 116, 101, 100])]
def reasonL (s : Int) : List UInt8 := ((phrases.find? (fun p => p.1 == s)).map (·.2)).getD [83, 116, 97, 116, 117, 115]
def HOSTN : List UInt8 := [72, 111, 115, 116]
def EXPN : List UInt8 := [101, 120, 112, 101, 99, 116]
def XFFN : List UInt8 := [88, 45, 70, 111, 114, 119, 97, 114, 100, 101, 100, 45, 70, 111, 114]
def VIAN : List UInt8 := [86, 105, 97]
def CLN : List UInt8 := [67, 111, 110, 116, 101, 110, 116, 45, 76, 101, 110, 103, 116, 104]
def TEN : List UInt8 := [84, 114, 97, 110, 115, 102, 101, 114, 45, 69, 110, 99, 111, 100, 105, 110, 103]
def CONN : List UInt8 := [67, 111, 110, 110, 101, 99, 116, 105, 111, 110]
def UPN : List UInt8 := [85, 112, 103, 114, 97, 100, 101]
def BARB : List UInt8 := [49, 46, 49, 32, 98, 97, 114, 98, 105, 99, 97, 110]
def UPV : List UInt8 := [117, 112, 103, 114, 97, 100, 101]
def CLOSEV : List UInt8 := [99, 108, 111, 115, 101]
def CHV : List UInt8 := [99, 104, 117, 110, 107, 101, 100]
/-- a field's line with its end -/
def lineE (f : HField) : List UInt8 := f.1 ++ 58 :: 32 :: (f.2 ++ [13, 10])
/-- is a name left out -/
def skipE (req : Bool) (n : List UInt8) : Bool := alike n CLN || alike n VIAN || (req && (alike n HOSTN || alike n EXPN || alike n XFFN))
/-- what is told on -/
def onE (req : Bool) (l : List HField) : List HField := (strip l).filter (fun f => !skipE req f.1)
/-- joined with s -/
def joinV (l : List HField) (n s : List UInt8) : List UInt8 := (l.filter (hit n)).flatMap (fun f => f.2 ++ [44, 32]) ++ s
structure AskP where
  method : List UInt8
  target : List UInt8
  host : List UInt8
  port : Int
  fields : List HField
  body : List UInt8
  sized : Bool
  from_ : List UInt8
  up : List UInt8
structure ReplyP where
  status : Int
  reason : List UInt8
  fields : List HField
  framing : Int
  length : Int
  keep : Bool
  up : List UInt8
def hostE (a : AskP) : List UInt8 := a.host ++ (if 0 < a.port then 58 :: decZ a.port else [])
def askF (a : AskP) : List HField :=
  (HOSTN, hostE a) :: (onE true a.fields ++ ((XFFN, joinV a.fields XFFN a.from_) :: (VIAN, joinV a.fields VIAN BARB) ::
    ((if a.sized then [(CLN, decZ a.body.length)] else []) ++ (if a.up = [] then [] else [(CONN, UPV), (UPN, a.up)]))))
def requestE (a : AskP) : List UInt8 := startL a.method a.target ++ 13 :: 10 :: ((askF a).flatMap lineE ++ 13 :: 10 :: a.body)
def replyF (r : ReplyP) : List HField :=
  onE false r.fields ++ ((VIAN, joinV r.fields VIAN BARB) ::
    ((if r.framing = 2 then [(CLN, decZ r.length)] else []) ++ ((if r.framing = 3 then [(TEN, CHV)] else []) ++
      (if r.up = [] then (if r.keep then [] else [(CONN, CLOSEV)]) else [(CONN, UPV), (UPN, r.up)]))))
def statusL (n : Int) (x : List UInt8) : List UInt8 := [72, 84, 84, 80, 47, 49, 46, 49, 32] ++ (decZ n ++ 32 :: x)
def headE (r : ReplyP) : List UInt8 := statusL r.status (if r.reason = [] then reasonL r.status else r.reason) ++ 13 :: 10 :: ((replyF r).flatMap lineE ++ [13, 10])
def localE (status : Int) (l : List HField) (body : List UInt8) (keep bodiless : Bool) : List UInt8 :=
  headE ⟨status, [], l, 2, body.length, keep, []⟩ ++ (if bodiless then [] else body)
/-! ### what is read of it -/
theorem trim_blank (x : List UInt8) : trim (32 :: x) = trim x := by
  unfold trim
  rw [List.dropWhile_cons_of_pos (by decide)]
theorem field_back {n x : List UInt8} (ht : token n = true) (hv : value (trim x) = true) : field8 (n ++ 58 :: 32 :: x) = ((n, trim x), 0) := by
  have hm : ∀ c ∈ n, markB c = true := by
    unfold token at ht
    rw [Bool.and_eq_true] at ht
    exact List.all_eq_true.1 ht.1
  have e1 : nameB (n ++ 58 :: 32 :: x) = n := take_until (fun c hc => by
    have := ((mark_not c).1 (hm c hc)).1
    simpa using this) (by decide)
  have e2 : (n ++ 58 :: 32 :: x).drop (n.length + 1) = 32 :: x := by
    rw [← List.drop_drop, List.drop_left]
    rfl
  unfold field8
  rw [e1, e2, trim_blank, if_pos ⟨by simp, ht, hv⟩]
/-- a field that can be written and read -/
structure Fair (f : HField) : Prop where
  name : token f.1 = true
  value : LexPure.value (trim f.2) = true
  bare : bare f.2
  len : f.1.length + f.2.length ≤ 510
theorem Fair.line {f : HField} (h : Fair f) : HeadLines.bare (f.1 ++ 58 :: 32 :: f.2) := by
  intro c hc
  obtain ⟨hmm, _⟩ := token_marks h.name
  simp only [List.mem_append, List.mem_cons] at hc
  rcases hc with q | rfl | rfl | q
  · exact ⟨((mark_not c).1 (hmm c q)).2.1, ((mark_not c).1 (hmm c q)).2.2.1⟩
  · decide
  · decide
  · exact h.bare c q
/-- as it is read -/
def told (f : HField) : HField := (f.1, trim f.2)
theorem lines_back (h : H8) (s : List UInt8) : ∀ (G : List HField) (m : Nat) (acc : List HField) (a : Nat), G.length ≤ m → (∀ f ∈ G, Fair f) →
    fields8 h m acc a (G.flatMap lineE ++ 13 :: 10 :: s) = .done { h with fields := acc ++ G.map told } (a + (G.flatMap lineE).length + 2)
  | [], m, acc, a, _, _ => by
    rw [List.flatMap_nil, List.nil_append, fields_end]
    simp
  | f :: G, m, acc, a, hm, hG => by
    rw [List.length_cons] at hm
    obtain ⟨k, rfl⟩ : ∃ k, m = k + 1 := ⟨m - 1, by omega⟩
    have hf := hG f List.mem_cons_self
    have e : (f :: G).flatMap lineE ++ 13 :: 10 :: s = (f.1 ++ 58 :: 32 :: f.2) ++ 13 :: 10 :: (G.flatMap lineE ++ 13 :: 10 :: s) := by
      rw [List.flatMap_cons, lineE]
      simp
    have el : ((f :: G).flatMap lineE).length = (f.1 ++ 58 :: 32 :: f.2).length + 2 + (G.flatMap lineE).length := by
      rw [List.flatMap_cons, lineE]
      simp only [List.length_append, List.length_cons, List.length_nil]
      omega
    have hl := hf.len
    rw [e, fields_line h k acc a hf.line (by simp; omega) (by simp; omega), field_back hf.name hf.value, if_pos rfl,
      lines_back h s G k _ _ (by omega) (fun g hg => hG g (List.mem_cons_of_mem _ hg)), el]
    congr 1
    · simp [told]
    · omega
/-- a request's head that is written is read -/
theorem request_back {m t : List UInt8} (hm : token m = true) (hml : m.length ≤ 16) (ht : t.all seenB = true) (ht0 : 0 < t.length) (htl : t.length ≤ 1024) {G : List HField} (hG : G.length ≤ 32) (hf : ∀ f ∈ G, Fair f) (s : List UInt8) :
    read8 false (startL m t ++ 13 :: 10 :: (G.flatMap lineE ++ 13 :: 10 :: s)) = .done ⟨m, t, 0, [], 1, G.map told⟩ ((startL m t).length + 2 + (G.flatMap lineE).length + 2) := by
  rw [read_start hm hml ht ht0 htl, lines_back _ s G 32 [] _ hG hf, List.nil_append]
/-- a status line -/
theorem status_back {n : Nat} (h1 : 100 ≤ n) (h2 : n < 600) {x : List UInt8} (hx : x.all plainB = true) : status8 (statusL n x) = (⟨[], [], n, x, 1, []⟩, 0) := by
  have hd : decZ n = [decB (n / 100), decB (n / 10 % 10), decB (n % 10)] := by
    unfold decZ
    rw [if_neg (by omega), Int.natAbs_natCast, decN_three h1 (by omega)]
  have e : statusL n x = [72, 84, 84, 80, 47, 49, 46, 49, 32, decB (n / 100), decB (n / 10 % 10), decB (n % 10), 32] ++ x := by
    unfold statusL
    rw [hd]
    rfl
  have hnum := dec_num (n := n) (by omega)
  have hr : numOk 10 3 [decB (n / 100), decB (n / 10 % 10), decB (n % 10)] = true ∧ numR 10 3 [decB (n / 100), decB (n / 10 % 10), decB (n % 10)] = n := by
    rw [← decN_three h1 (by omega)]
    have hv := decN_val n
    have hl : (decN n).length = 3 := by rw [decN_three h1 (by omega)]; rfl
    have hok : numOk 10 3 (decN n) = true := by
      have := hnum.1
      unfold numOk at this ⊢
      rw [Bool.and_eq_true] at this ⊢
      refine ⟨?_, this.2⟩
      simp [hl, decN_ne]
    refine ⟨hok, ?_⟩
    unfold numR
    rw [if_pos hok, hv]
  rw [e]
  unfold status8
  simp only [List.cons_append, List.nil_append, List.length_cons, List.drop_succ_cons, List.drop_zero, List.take_succ_cons, List.take_zero, List.getElem?_cons_succ, List.getElem?_cons_zero]
  rw [hr.1, hr.2]
  rw [if_pos ⟨by omega, by simp, by simp, by omega, by omega, by simp, hx⟩]
  rfl
end Go.Proofs.YtblpooddamkfdaaGreatDoor.EmitPure

/- Results that are equal. No program is named. -/
namespace Go.Proofs.YtblpooddamkfdaaGreatDoor.Ret
theorem ret_bool {a b : Bool} (h : a = b) : Ending.returned (.bool a) = .returned (.bool b) := by rw [h]
theorem ret_string {a b : ByteArray} (h : a = b) : Ending.returned (.string a) = .returned (.string b) := by rw [h]
theorem ret_num {a b : Int} {p q : Bool} (h : a = b) (k : p = q) : Ending.returned (.tuple #[.int .i64 a, .bool p]) = .returned (.tuple #[.int .i64 b, .bool q]) := by rw [h, k]
end Go.Proofs.YtblpooddamkfdaaGreatDoor.Ret

/- Lists of texts: how they lie in memory. -/
namespace Go.Proofs.YtblpooddamkfdaaGreatDoor.Texts
open Go.ChangeShapes Go.WideShapes Go.ChangeAt Go.RowKit LexPure Bytes Ret Rows1
theorem infoS : (Tryz.prog.info? 9).map (fun i => (i.zero, i.size, i.bytes)) = some (some (.string ByteArray.empty), 1, 16) := by kernel_rfl
def strs (G : List (List UInt8)) : List Value := G.map (fun e => .string (ofL e))
theorem strs_append (G H : List (List UInt8)) : strs (G ++ H) = strs G ++ strs H := by simp [strs]
/-- a list of texts: how it looks and its cells -/
def Texts (w : World) (v : Value) (G : List (List UInt8)) : Prop := ∃ p cap, v = .slice p G.length cap ∧ G.length ≤ 9223372036854775807 ∧ (0 < G.length → ∃ g o, p = some ⟨g, o, none⟩ ∧ g < w.heap.size ∧ ∀ j (hj : j < G.length), w.cell? ⟨g, o + j, none⟩ = some (.string (ofL G[j])))
theorem texts_of {w : World} {base : Nat} {v : Value} {G : List (List UInt8)} (h : w.ownsRow base 9 1 v G.length (Texts.strs G)) : Texts w v G := by
  obtain ⟨p, cap, hv, hle, hc⟩ := row_cells h
  have hcap : cap ≤ maxLen := by
    rcases h.2 with ⟨h1, _⟩ | ⟨_, c2, _, h1, _, _, _, h2, _⟩
    · rw [hv] at h1; injection h1 with _ _ h1; rw [h1]; exact Nat.zero_le _
    · rw [hv] at h1; injection h1 with _ _ h1; rw [h1]; exact h2
  unfold maxLen at hcap
  refine ⟨p, cap, hv, by omega, fun h0 => ?_⟩
  obtain ⟨g, hp, _, hlt, _, hcell⟩ := hc h0
  exact ⟨g, 0, hp, hlt, fun j hj => by rw [Nat.zero_add, hcell j hj]; simp [Texts.strs, List.getElem?_eq_getElem hj]⟩
theorem Texts.below {w w' : World} {v : Value} {G : List (List UInt8)} (h : Texts w v G) (hb : Below w.heap.size w w') : Texts w' v G := by
  obtain ⟨p, cap, hv, hn, hc⟩ := h
  refine ⟨p, cap, hv, hn, fun h0 => ?_⟩
  obtain ⟨g, o, hp, hlt, hcell⟩ := hc h0
  exact ⟨g, o, hp, Nat.lt_of_lt_of_le hlt hb.size, fun j hj => (hb.cell (p := ⟨g, o + j, none⟩) hlt).trans (hcell j hj)⟩
theorem Texts.drewN {w : World} {v : Value} {G : List (List UInt8)} (h : Texts w v G) (m : Nat) : Texts (w.drewN m) v G := h
theorem take_ext {G H : List (List UInt8)} {k : Nat} (hk : k < G.length) (hk2 : k < H.length) (h : G.take k = H.take k) (he : G[k] = H[k]) : G.take (k + 1) = H.take (k + 1) := by
  rw [List.take_add_one, List.take_add_one, h, List.getElem?_eq_getElem hk, List.getElem?_eq_getElem hk2, he]
end Go.Proofs.YtblpooddamkfdaaGreatDoor.Texts

/- Layer 13 of the program: the text that is written: line, field, offer. -/
namespace Go.Proofs.YtblpooddamkfdaaGreatDoor.PEmTx
open Go.ChangeShapes Go.WideShapes Go.ChangeAt Go.RowKit Bytes LexPure FieldsPure EmitPure Texts Mem Step InEmb
set_option maxRecDepth 100000
set_option linter.unusedVariables false
set_option linter.unusedSimpArgs false
abbrev TT : TypeId := 80
theorem spotT : Spot TT 0 2 := ⟨by kernel_rfl, by decide, by decide⟩
/-- the text in block b, its row v, holds l -/
def Tx (w : World) (b : Nat) (v : Value) (l : List UInt8) : Prop := ∃ p, Emb w b 0 TT #[p, v] p v l
def own (b : Nat) (v : Value) : Nat → Prop := fun k => k = b ∨ v.ownBlock = some k
theorem Tx.start (w : World) : Tx (w.alloc (.cells #[.pointer none, .slice none 0 0] TT)) w.heap.size (.slice none 0 0) [] :=
  ⟨.pointer none, Has.new w _ _, rfl, rfl, .inl rfl, RowB.nil _⟩
section
variable {w w' : World} {b : Nat} {v : Value} {l : List UInt8}
theorem Tx.lt (h : Tx w b v l) {k : Nat} (hk : own b v k) : k < w.heap.size := by
  obtain ⟨p, hE⟩ := h
  rcases hk with rfl | hk
  · exact hE.has.lt
  · exact hE.row.lt hk
theorem Tx.below (h : Tx w b v l) (hb : Below w.heap.size w w') : Tx w' b v l := by
  have h' := h
  obtain ⟨p, hE⟩ := h
  exact ⟨p, hE.step (Step.of_below hb (fun _ => False)) id (fun _ _ => id)⟩
/-- a block of another type is not the text's -/
theorem Tx.apart (h : Tx w b v l) {B : Nat} {T : TypeId} {cs : Array Value} (hH : Has w B T cs) (h1 : T ≠ TT) (h2 : T ≠ 5) : ¬ own b v B := by
  obtain ⟨p, hE⟩ := h
  rintro (rfl | hk)
  · exact hE.has.ne_ hH (fun e => h1 e.symm) rfl
  · exact hE.row.far hH h2 hk
theorem tx_write (h : Tx w b v l) (s : ByteArray) (hl : l.length + s.size ≤ 211106232532992) :
    Calls Tryz.prog 38 #[.pointer (some ⟨b, 0, none⟩), .string s] w fun e w' => e = .returned (.tuple #[.int .i64 s.size, .nilIface]) ∧ ∃ v', Tx w' b v' (l ++ toL s) ∧ Step w w' (own b v) (own b v') := by
  obtain ⟨p, hE⟩ := h
  refine (emb_write spotT rfl hE s hl).mono (fun e w' ⟨h1, v', h2, h3⟩ => ⟨h1, v', ⟨_, h2⟩, h3⟩)
theorem tx_text (h : Tx w b v l) :
    Calls Tryz.prog 39 #[.pointer (some ⟨b, 0, none⟩)] w fun e w' => e = .returned (.string (ofL l)) ∧ Step w w' (own b v) (own b v) := by
  obtain ⟨p, hE⟩ := h
  exact (emb_text spotT hE).mono (fun e w' ⟨h1, h2, h3⟩ => ⟨h1, h3.up (fun k hk => .inr hk)⟩)
/-- the parts of a line -/
def Parts (w : World) (v : Value) (L : List (List UInt8)) : Prop := (v = .slice none 0 0 ∧ L = []) ∨ ∃ B cap, v = .slice (some ⟨B, 0, none⟩) L.length cap ∧ Has w B 9 (Texts.strs L).toArray
theorem Parts.form {vs : Value} {L : List (List UInt8)} (h : Parts w vs L) : ∃ p cap, vs = .slice p L.length cap ∧ (0 < L.length → ∃ B, p = some ⟨B, 0, none⟩ ∧ Has w B 9 (Texts.strs L).toArray) := by
  rcases h with ⟨rfl, rfl⟩ | ⟨B, cap, rfl, hH⟩
  · exact ⟨none, 0, rfl, fun h => absurd h (by decide)⟩
  · exact ⟨_, cap, rfl, fun _ => ⟨B, rfl, hH⟩⟩
theorem Parts.nil (w : World) : Parts w (.slice none 0 0) [] := .inl ⟨rfl, rfl⟩
theorem Parts.new (w : World) (L : List (List UInt8)) (cs : List Value) (n cap : Nat) (hc : cs = Texts.strs L) (hn : n = L.length) : Parts (w.alloc (.cells cs.toArray 9)) (.slice (some ⟨w.heap.size, 0, none⟩) n cap) L := by
  subst hn
  subst hc
  exact .inr ⟨_, cap, rfl, Has.new w _ _⟩
end
theorem str_app (A l : List UInt8) : ofL A ++ ofL l = ofL (A ++ l) := by
  apply toL_inj
  rw [toL_append, toL_ofL, toL_ofL, toL_ofL]
/-- in the loop over the parts -/
def LI (w : World) (b : Nat) (v : Value) (l : List UInt8) (k : Nat) (L : List (List UInt8)) (wr : World) : Prop := ∃ v', Tx wr b v' (l ++ (L.take k).flatten) ∧ Step w wr (own b v) (own b v')
theorem take_flat {L : List (List UInt8)} {k : Nat} (hk : k < L.length) : (L.take (k + 1)).flatten = (L.take k).flatten ++ L[k] := by
  rw [List.take_add_one, List.getElem?_eq_getElem hk, List.flatten_append]
  simp
theorem take_flat_le (L : List (List UInt8)) (k : Nat) : (L.take k).flatten.length ≤ L.flatten.length := by
  conv => rhs; rw [← List.take_append_drop k L, List.flatten_append, List.length_append]
  omega
theorem LI.more {w wr w' : World} {b : Nat} {v : Value} {l : List UInt8} {k : Nat} {L : List (List UInt8)} (hk : k < L.length) {v' : Value} (hT : Tx w' b v' (l ++ (L.take k).flatten ++ L[k])) {v1 : Value} (hs : Step w wr (own b v) (own b v1)) (ht : Step wr w' (own b v1) (own b v')) : LI w b v l (k + 1) L w' := by
  rw [List.append_assoc, ← take_flat hk] at hT
  exact ⟨v', hT, hs.trans ht⟩
set_option maxHeartbeats 1600000 in
theorem line_any {w : World} {b : Nat} {v : Value} {l : List UInt8} {vs : Value} {L : List (List UInt8)} (h : Tx w b v l) (hp : Parts w vs L) (hs : l.length + L.flatten.length + 2 ≤ 211106232532992) (hL : L.length ≤ 4611686018427387904) :
    Calls Tryz.prog 31 #[.pointer (some ⟨b, 0, none⟩), vs] w fun e w' => e = .returned (.tuple #[]) ∧ ∃ v', Tx w' b v' (l ++ (L.flatten ++ [13, 10])) ∧ Step w w' (own b v) (own b v') := by
  obtain ⟨p, cap, rfl, hc⟩ := hp.form
  have HI : Hid (LI w b v l 0 L w) := Lib.hid ⟨v, by simpa using h, Step.refl w _⟩
  have HT := Lib.hid h
  have HC := Lib.hid hc
  have HS := Lib.hid hs
  have hLi : (L.length : Int) ≤ 4611686018427387904 := by omega
  clear h hp hc hs
  go_enter Tryz.func31, Tryz.ntmps31
  go_wp2_with fail
  go_loopw [8] (fun i wr => ∃ (k : Nat), k ≤ L.length ∧ i = .int .i64 k ∧ Hid (LI w b v l k L wr)) (fun i _ => L.length - (intOf i).toNat)
  case atStart => exact ⟨0, Nat.zero_le _, rfl, HI⟩
  case round =>
    obtain ⟨k, hk, rfl, HJ⟩ := hrel
    clear HI
    obtain ⟨v1, hT1, hS1⟩ := HJ.out
    by_cases hlt : k < L.length
    · obtain ⟨B, rfl, hH⟩ := HC.out (by omega)
      have hB := hS1.has hH (HT.out.apart hH (by decide) (by decide))
      have c1 : wr.cell? ⟨B, k, none⟩ = some (.string (ofL L[k])) := by
        rw [hB.cell k]
        simp [Texts.strs, List.getElem?_eq_getElem hlt]
      have hki : (k : Int) < (L.length : Int) := by omega
      have HW : Hid (Calls Tryz.prog 38 #[.pointer (some ⟨b, 0, none⟩), .string (ofL L[k])] wr fun e w' => e = Ending.returned (.tuple #[.int .i64 (ofL L[k]).size, .nilIface]) ∧ Hid (LI w b v l (k + 1) L w')) := Lib.hid ((tx_write hT1 (ofL L[k]) (by
        have := take_flat_le L (k + 1)
        rw [take_flat hlt, List.length_append] at this
        have := HS.out
        rw [ofL_size, List.length_append]
        omega)).mono (fun e w' ⟨x1, v', x2, x3⟩ => ⟨x1, Lib.hid (LI.more hlt (by rw [toL_ofL] at x2; exact x2) hS1 x3)⟩))
      clear hH hB hT1 hS1 HJ
      go_wp2_with fail
      refine HW.out.mono ?_
      rintro e w1 ⟨rfl, HJ⟩
      clear HW c1
      go_wp2_with fail
      exact ⟨⟨k + 1, by omega, by simp, HJ⟩, by simp [intOf]; omega⟩
    · have hall : L.take k = L := List.take_of_length_le (by omega)
      rw [hall] at hT1
      have hki : ¬ (k : Int) < (L.length : Int) := by omega
      have HW : Hid (Calls Tryz.prog 38 #[.pointer (some ⟨b, 0, none⟩), .string ⟨#[13, 10]⟩] wr fun e w' => e = Ending.returned (.tuple #[.int .i64 (⟨#[13, 10]⟩ : ByteArray).size, .nilIface]) ∧ Hid (∃ v', Tx w' b v' (l ++ (L.flatten ++ [13, 10])) ∧ Step w w' (own b v) (own b v'))) := Lib.hid ((tx_write hT1 ⟨#[13, 10]⟩ (by
        have := HS.out
        rw [List.length_append]
        show _ + 2 ≤ _
        omega)).mono (fun e w' ⟨x1, v', x2, x3⟩ => ⟨x1, Lib.hid ⟨v', by rw [List.append_assoc] at x2; exact x2, hS1.trans x3⟩⟩))
      clear hT1 hS1 HJ hlt hall
      go_wp2_with fail
      refine HW.out.mono ?_
      rintro e w1 ⟨rfl, HJ⟩
      clear HW
      go_wp2_with fail
      go_end0
      exact ⟨rfl, HJ.out⟩
set_option maxHeartbeats 1600000 in
theorem field_any {w : World} {b : Nat} {v : Value} {l : List UInt8} (h : Tx w b v l) (n x : List UInt8) (hs : l.length + (n.length + x.length) + 4 ≤ 211106232532992) :
    Calls Tryz.prog 32 #[.pointer (some ⟨b, 0, none⟩), .string (ofL n), .string (ofL x)] w fun e w' => e = .returned (.tuple #[]) ∧ ∃ v', Tx w' b v' (l ++ lineE (n, x)) ∧ Step w w' (own b v) (own b v') := by
  have hp := Parts.new w [n, [58, 32], x] [.string (ofL n), .string ⟨#[58, 32]⟩, .string (ofL x)] 3 3 rfl rfl
  have ht := h.below ((Below.refl _ w).alloc (Nat.le_refl _) (.cells #[.string (ofL n), .string ⟨#[58, 32]⟩, .string (ofL x)] 9))
  have HL : Hid (Calls Tryz.prog 31 #[.pointer (some ⟨b, 0, none⟩), .slice (some ⟨w.heap.size, 0, none⟩) 3 3] (w.alloc (.cells #[.string (ofL n), .string ⟨#[58, 32]⟩, .string (ofL x)] 9)) fun e w' => e = Ending.returned (.tuple #[]) ∧ Hid (∃ v', Tx w' b v' (l ++ lineE (n, x)) ∧ Step w w' (own b v) (own b v'))) := Lib.hid ((line_any ht hp (by simp; omega) (by simp)).mono (fun e w' ⟨x1, v', x2, x3⟩ => ⟨x1, Lib.hid ⟨v', by
      have e1 : [n, [58, 32], x].flatten ++ [13, 10] = lineE (n, x) := by simp [lineE]
      rw [e1] at x2
      exact x2, (Step.alloc w _ (own b v)).trans x3⟩⟩))
  clear hp ht h hs
  go_enter Tryz.func32, Tryz.ntmps32
  go_wp2_with fail
  refine HL.out.mono ?_
  rintro e w1 ⟨rfl, HJ⟩
  clear HL
  go_wp2_with fail
  go_end0
  exact ⟨rfl, HJ.out⟩
theorem offer_any {w : World} {b : Nat} {v : Value} {l : List UInt8} (h : Tx w b v l) (x : List UInt8) (hs : l.length + x.length + 40 ≤ 211106232532992) :
    Calls Tryz.prog 37 #[.pointer (some ⟨b, 0, none⟩), .string (ofL x)] w fun e w' => e = .returned (.tuple #[]) ∧ ∃ v', Tx w' b v' (l ++ (lineE (CONN, UPV) ++ lineE (UPN, x))) ∧ Step w w' (own b v) (own b v') := by
  have HL : Hid (Calls Tryz.prog 32 #[.pointer (some ⟨b, 0, none⟩), .string ⟨#[67, 111, 110, 110, 101, 99, 116, 105, 111, 110]⟩, .string ⟨#[117, 112, 103, 114, 97, 100, 101]⟩] w fun e w' => e = Ending.returned (.tuple #[]) ∧ Hid (∃ v', Tx w' b v' (l ++ lineE (CONN, UPV)) ∧ Step w w' (own b v) (own b v'))) := Lib.hid ((field_any h CONN UPV (by
    rw [show CONN.length = 10 from rfl, show UPV.length = 7 from rfl]; omega)).mono (fun e w' ⟨x1, x2⟩ => ⟨x1, Lib.hid x2⟩))
  have HS := Lib.hid hs
  clear h hs
  go_enter Tryz.func37, Tryz.ntmps37
  go_wp2_with fail
  refine HL.out.mono ?_
  rintro e w1 ⟨rfl, HJ⟩
  clear HL
  obtain ⟨v1, hT1, hS1⟩ := HJ.out
  have HL2 : Hid (Calls Tryz.prog 32 #[.pointer (some ⟨b, 0, none⟩), .string ⟨#[85, 112, 103, 114, 97, 100, 101]⟩, .string (ofL x)] w1 fun e w' => e = Ending.returned (.tuple #[]) ∧ Hid (∃ v', Tx w' b v' (l ++ (lineE (CONN, UPV) ++ lineE (UPN, x))) ∧ Step w w' (own b v) (own b v'))) := Lib.hid ((field_any hT1 UPN x (by
    have := HS.out
    rw [List.length_append, show (lineE (CONN, UPV)).length = 21 from rfl, show UPN.length = 7 from rfl]; omega)).mono (fun e w' ⟨x1, v', x2, x3⟩ => ⟨x1, Lib.hid ⟨v', by rw [← List.append_assoc]; exact x2, hS1.trans x3⟩⟩))
  clear hT1 hS1 HJ
  go_wp2_with fail
  refine HL2.out.mono ?_
  rintro e w2 ⟨rfl, HJ⟩
  clear HL2
  go_wp2_with fail
  go_end0
  exact ⟨rfl, HJ.out⟩
end Go.Proofs.YtblpooddamkfdaaGreatDoor.PEmTx

/- Layer 7: lists of fields, how they lie in memory. -/
namespace Go.Proofs.YtblpooddamkfdaaGreatDoor.Flds
open Go.ChangeShapes Go.WideShapes Go.ChangeAt Go.RowKit LexPure Bytes Ret Rows1 FieldsPure Mem
set_option maxRecDepth 20000
def encF (f : HField) : List Value := [.string (ofL f.1), .string (ofL f.2)]
def encFs (l : List HField) : List Value := l.flatMap encF
theorem encFs_append (a b : List HField) : encFs (a ++ b) = encFs a ++ encFs b := by simp [encFs]
theorem encFs_at : ∀ (l : List HField) (j : Nat) (f : HField), l[j]? = some f → (encFs l)[j * 2]? = some (.string (ofL f.1)) ∧ (encFs l)[j * 2 + 1]? = some (.string (ofL f.2))
  | [], j, f, h => by simp at h
  | x :: l, 0, f, h => by
    have e : x = f := by simpa using h
    subst e
    simp [encFs, encF]
  | x :: l, j + 1, f, h => by
    have ih := encFs_at l j f (by simpa using h)
    have e1 : (j + 1) * 2 = j * 2 + 2 := by omega
    rw [e1]
    simpa [encFs, encF] using ih
/-- every name and value has so many bytes at most -/
def Few (G : List HField) : Prop := ∀ (j : Nat) (h : j < G.length), G[j].1.length ≤ 1048576 ∧ G[j].2.length ≤ 1048576
/-- every name and value lies within reach -/
def Far (G : List HField) : Prop := ∀ (j : Nat) (h : j < G.length), G[j].1.length ≤ 140737488351232 ∧ G[j].2.length ≤ 140737488351232
theorem Few.far {G : List HField} (h : Few G) : Far G := fun j hj => by have := h j hj; omega
theorem infoF : (Tryz.prog.info? 36).map (fun i => (i.zero, i.size, i.bytes)) = some (some (.agg #[.string ByteArray.empty, .string ByteArray.empty]), 2, 32) := by kernel_rfl
/-- a list of fields: how it looks and its cells -/
def FL (w : World) (v : Value) (G : List HField) : Prop := ∃ p cap, v = .slice p G.length cap ∧ G.length ≤ 4398046511104 ∧ (0 < G.length → ∃ g o, p = some ⟨g, o, none⟩ ∧ g < w.heap.size ∧ ∀ j (hj : j < G.length), w.cell? ⟨g, o + j * 2, none⟩ = some (.string (ofL G[j].1)) ∧ w.cell? ⟨g, o + j * 2 + 1, none⟩ = some (.string (ofL G[j].2)))
theorem FL.below {w w' : World} {v : Value} {G : List HField} (h : FL w v G) (hb : Below w.heap.size w w') : FL w' v G := by
  obtain ⟨p, cap, hv, hn, hc⟩ := h
  refine ⟨p, cap, hv, hn, fun h0 => ?_⟩
  obtain ⟨g, o, hp, hlt, hcell⟩ := hc h0
  exact ⟨g, o, hp, Nat.lt_of_lt_of_le hlt hb.size, fun j hj => ⟨(hb.cell (p := ⟨g, o + j * 2, none⟩) hlt).trans (hcell j hj).1, (hb.cell (p := ⟨g, o + j * 2 + 1, none⟩) hlt).trans (hcell j hj).2⟩⟩
theorem FL.drewN {w : World} {v : Value} {G : List HField} (h : FL w v G) (m : Nat) : FL (w.drewN m) v G := h
/-- a row of a call's own is a list of fields -/
theorem fl_of {w : World} {base : Nat} {v : Value} {G : List HField} (h : w.ownsRow base 36 2 v G.length (encFs G)) (hle : G.length ≤ 4398046511104) : FL w v G := by
  rcases h.2 with ⟨hv, hn⟩ | ⟨g, cap, cur, hv, hb, hg, hcap, rest⟩
  · exact ⟨none, 0, by rw [hv, hn], hle, fun h0 => by omega⟩
  · refine ⟨_, cap, hv, hle, fun _ => ⟨g, 0, rfl, (Array.getElem?_eq_some_iff.1 hg).1, fun j hj => ?_⟩⟩
    have hc := h.cells (g := g) (by rw [hv]; rfl)
    obtain ⟨h1, h2⟩ := encFs_at G j G[j] (List.getElem?_eq_getElem hj)
    have a1 := hc _ _ h1
    have a2 := hc _ _ h2
    have e : ∀ i : Nat, (⟨g, 0, none⟩ : Addr).add i = ⟨g, i, none⟩ := fun i => by unfold Addr.add; split <;> simp_all
    rw [e] at a1 a2
    rw [Nat.zero_add]
    exact ⟨a1, a2⟩
end Go.Proofs.YtblpooddamkfdaaGreatDoor.Flds

/- Layer 4, the document's own Lower. -/
namespace Go.Proofs.YtblpooddamkfdaaGreatDoor.RLower
open Go.ChangeShapes Go.WideShapes Go.ChangeAt Go.RowKit LexPure Bytes Ret Rows1
set_option maxRecDepth 20000
theorem infoB : (Tryz.prog.info? 5).map (fun i => (i.zero, i.size, i.bytes)) = some (some (.int .u8 0), 1, 1) := by kernel_rfl
/-- what is gathered so far -/
def LInv (w : World) (s : ByteArray) (k : Nat) (v : Value) (wr : World) : Prop :=
  wr.ownsRow w.heap.size 5 1 v k (bvs (lower ((toL s).take k))) ∧ Below w.heap.size w wr
theorem small_at {b : UInt8} : (65 ≤ (b.toNat : Int) ∧ (b.toNat : Int) ≤ 90 ∧ (small b).toNat = (b.toNat : Int) - 65 + 97) ∨ (((b.toNat : Int) < 65 ∨ (65 ≤ (b.toNat : Int) ∧ 90 < (b.toNat : Int))) ∧ small b = b) := by
  have := all_bytes (p := fun b => decide ((65 ≤ (b.toNat : Int) ∧ (b.toNat : Int) ≤ 90 ∧ ((small b).toNat : Int) = (b.toNat : Int) - 65 + 97) ∨ (((b.toNat : Int) < 65 ∨ (65 ≤ (b.toNat : Int) ∧ 90 < (b.toNat : Int))) ∧ small b = b))) (by decide +kernel) b
  simpa only [decide_eq_true_eq] using this
theorem rlower_any (s : ByteArray) (hs : s.size ≤ 140737488351232) (w : World) :
    Calls Tryz.prog 52 #[.string s] w fun e w' => e = .returned (.string (ofL (lower (toL s)))) ∧ Below w.heap.size w w' := by
  obtain ⟨i0, hi, hz0, hz1, hz2⟩ := info_parts infoB
  go_enter Tryz.func52, Tryz.ntmps52
  go_wp2_with fail
  go_loopw [3, 4] (fun v i wr => ∃ k : Nat, k ≤ s.size ∧ i = .int .i64 k ∧ Hid (LInv w s k v wr)) (fun _ i _ => s.size - (intOf i).toNat)
  case atStart => exact ⟨0, Nat.zero_le _, rfl, Lib.hid ⟨World.ownsRow_nil _ _ _ _, Below.refl _ _⟩⟩
  case round =>
    obtain ⟨k, hk, rfl, HI⟩ := hrel
    obtain ⟨hrow, hbw⟩ := HI.out
    by_cases hlt : k < s.size
    · have hki : (k : Int) < (s.size : Int) := by omega
      have HT : Hid (lower ((toL s).take (k + 1)) = lower ((toL s).take k) ++ [small s[k]]) := Lib.hid (by
        rw [toL_take_succ s k hlt]
        unfold lower
        rw [List.map_append]
        rfl)
      rcases small_at (b := s[k]) with ⟨h1, h2, h3⟩ | ⟨h1, h2⟩
      · have HV : Hid (bv (small s[k]) = .int .u8 ((s[k].toNat : Int) - 65 + 97)) := Lib.hid (by unfold bv; rw [h3])
        go_wp2_with (at_builtin; refine wpList_append_own _ rfl _ _ 76 rfl w.heap.size 5 i0 (.int .u8 0) 1 1 Tryz.underlying76 hi hz0 hz1 hz2 rfl (by decide) _ _ _ rfl (hrow.alloc _) ⟨wr.heap.size, 0, none⟩ 1 1 [.int .u8 ((s[k].toNat : Int) - 65 + 97)] rfl rfl (cell_one_new _ _ _) (fun x hx => by simp at hx; subst hx; rfl) (by unfold maxLen; omega) (by omega) (by have := hbw.size; simp; omega) ?_; intro v' w3 hown' hgrow3 hnil3)
        have HI3 : Hid (LInv w s (k + 1) v' w3) := Lib.hid ⟨by rw [HT.out, bvs_append]; have h := hown'; rw [← HV.out] at h; exact h, Below.grown (hbw.alloc hbw.size _) hgrow3 (by have := hbw.size; simp; omega) (fun j hj => (hrow.lt _ hj).1)⟩
        clear hown' hgrow3 hnil3
        go_wp2_with fail
        go_roundw
        case rel => exact ⟨k + 1, by omega, by go_num, HI3⟩
        case measure => simp [intOf]; omega
      · rcases h1 with h1 | ⟨h1, h3⟩
        all_goals
          have HV : Hid (bv (small s[k]) = .int .u8 (s[k].toNat : Int)) := Lib.hid (by rw [h2]; rfl)
          go_wp2_with (at_builtin; refine wpList_append_own _ rfl _ _ 76 rfl w.heap.size 5 i0 (.int .u8 0) 1 1 Tryz.underlying76 hi hz0 hz1 hz2 rfl (by decide) _ _ _ rfl (hrow.alloc _) ⟨wr.heap.size, 0, none⟩ 1 1 [.int .u8 (s[k].toNat : Int)] rfl rfl (cell_one_new _ _ _) (fun x hx => by simp at hx; subst hx; rfl) (by unfold maxLen; omega) (by omega) (by have := hbw.size; simp; omega) ?_; intro v' w3 hown' hgrow3 hnil3)
          have HI3 : Hid (LInv w s (k + 1) v' w3) := Lib.hid ⟨by rw [HT.out, bvs_append]; have h := hown'; rw [← HV.out] at h; exact h, Below.grown (hbw.alloc hbw.size _) hgrow3 (by have := hbw.size; simp; omega) (fun j hj => (hrow.lt _ hj).1)⟩
          clear hown' hgrow3 hnil3
          go_wp2_with fail
          go_roundw
          case rel => exact ⟨k + 1, by omega, by go_num, HI3⟩
          case measure => simp [intOf]; omega
    · have HC := own_string (P := Tryz.prog) hrow 76 9 Tryz.underlying76 Tryz.underlying5 Tryz.underlying9
      rw [toL_take_all s (by omega)] at HC
      clear hrow HI
      go_wp2_with fail
      go_ret
      exact ⟨rfl, hbw⟩
end Go.Proofs.YtblpooddamkfdaaGreatDoor.RLower

/- Layer 7, the document's own alike. -/
namespace Go.Proofs.YtblpooddamkfdaaGreatDoor.RAlike7
open Go.ChangeShapes Go.WideShapes Go.ChangeAt Go.RowKit LexPure Bytes Ret RLower Mem
set_option maxRecDepth 20000
theorem ralike7_any (a b : ByteArray) (ha : a.size ≤ 140737488351232) (hb : b.size ≤ 140737488351232) (w : World) :
    Calls Tryz.prog 30 #[.string a, .string b] w fun e w' => e = .returned (.bool (alike (toL a) (toL b))) ∧ Below w.heap.size w w' := by
  have U0 := Lib.hid (fun w => rlower_any a ha w)
  have U1 := Lib.hid (fun w => rlower_any b hb w)
  have HV := Lib.hid (show ((ofL (lower (toL a))).toList == (ofL (lower (toL b))).toList) = alike (toL a) (toL b) by rw [same_ofL]; rfl)
  generalize ofL (lower (toL a)) = A at *
  generalize ofL (lower (toL b)) = B at *
  clear ha hb
  go_enter Tryz.func30, Tryz.ntmps30
  go_wp2_with fail
  refine (U0.out _).mono ?_
  rintro e w1 ⟨rfl, hb1⟩
  go_wp2_with fail
  refine (U1.out _).mono ?_
  rintro e w2 ⟨rfl, hb2⟩
  have HB := Lib.hid (below_chain hb1 hb2)
  clear hb1 hb2
  go_wp2_with fail
  go_ret
  exact ⟨ret_bool HV.out, HB.out⟩
end Go.Proofs.YtblpooddamkfdaaGreatDoor.RAlike7

/- Layer 7, the document's own Get. -/
namespace Go.Proofs.YtblpooddamkfdaaGreatDoor.R7Get
open Go.ChangeShapes Go.WideShapes Go.ChangeAt Go.RowKit LexPure Bytes Ret FieldsPure Flds RAlike7 Mem
set_option maxRecDepth 20000
theorem getV_cons (f : HField) (l : List HField) (n : List UInt8) : getV (f :: l) n = if hit n f then f.2 else getV l n := by
  unfold getV
  rw [List.find?_cons]
  cases hit n f <;> rfl
theorem getN_cons (f : HField) (l : List HField) (n : List UInt8) : getN (f :: l) n = if hit n f then getN l n + 1 else getN l n := by
  unfold getN
  rw [List.countP_cons]
  cases hit n f <;> simp
set_option maxHeartbeats 1600000 in
theorem rget_any (v : Value) (G : List HField) (n : ByteArray) (hn : n.size ≤ 1048576) (hG : Few G) (w : World) (hF : FL w v G) :
    Calls Tryz.prog 9 #[v, .string n] w fun e w' => e = .returned (.tuple #[.string (ofL (getV G (toL n))), .int .i64 (getN G (toL n))]) ∧ Below w.heap.size w w' := by
  obtain ⟨p, cap, rfl, hle, hc⟩ := hF
  replace hc := Lib.hid hc
  replace hG := Lib.hid hG
  go_enter Tryz.func9, Tryz.ntmps9
  go_wp2_with fail
  have HB0 := Lib.hid (Below.refl w.heap.size w)
  have HS : Hid (G.drop G.length = []) := Lib.hid List.drop_length
  go_loopw [6, 7, 8] (fun x c i wr => ∃ k : Nat, k ≤ G.length ∧ i = .int .i64 ((k : Int) - 1) ∧ x = .string (ofL (getV (G.drop k) (toL n))) ∧ c = .int .i64 (getN (G.drop k) (toL n) : Nat) ∧ Hid (Below w.heap.size w wr)) (fun _ _ i _ => (intOf i + 1).toNat)
  case atStart => exact ⟨G.length, Nat.le_refl _, rfl, by rw [HS.out]; rfl, by rw [HS.out]; rfl, HB0⟩
  case round =>
    obtain ⟨k, hk, rfl, rfl, rfl, HB⟩ := hrel
    clear HB0 HS
    cases k with
    | zero =>
      rw [List.drop_zero]
      go_wp2_with fail
      go_ret2
      exact ⟨rfl, HB.out⟩
    | succ j =>
      have hj : j < G.length := by omega
      obtain ⟨g, o, rfl, hlt, hcell⟩ := hc.out (by omega)
      obtain ⟨c1, c2⟩ := hcell j hj
      replace c1 := (HB.out.cell (p := ⟨g, o + j * 2, none⟩) hlt).trans c1
      replace c2 := (HB.out.cell (p := ⟨g, o + j * 2 + 1, none⟩) hlt).trans c2
      have hji : (j : Int) < (G.length : Int) := by omega
      obtain ⟨s1, s2⟩ := hG.out j hj
      have HA := Lib.hid (fun w => ralike7_any (ofL G[j].1) n (by rw [ofL_size]; omega) (by omega) w)
      rw [toL_ofL] at HA
      have HV := Lib.hid (getV_cons G[j] (G.drop (j + 1)) (toL n))
      have HN := Lib.hid (getN_cons G[j] (G.drop (j + 1)) (toL n))
      rw [← List.drop_eq_getElem_cons hj] at HV HN
      have hcn : (getN (G.drop (j + 1)) (toL n) : Int) ≤ 4398046511104 := by
        have := List.countP_le_length (p := hit (toL n)) (l := G.drop (j + 1))
        rw [List.length_drop] at this
        unfold getN
        omega
      rw [show (((j + 1 : Nat) : Int) - 1) = (j : Int) by omega]
      have hpos : (0 : Int) ≤ (j : Int) := by omega
      clear hcell
      cases hh : hit (toL n) G[j]
      · rw [hh] at HV HN
        rw [show alike G[j].1 (toL n) = false from hh] at HA
        clear hh
        go_wp2_with fail
        refine (HA.out _).mono ?_
        rintro e w2 ⟨rfl, hb2⟩
        have HB2 := Lib.hid (below_chain HB.out hb2)
        clear hb2 c1 c2
        go_wp2_with fail
        go_roundw
        case rel => exact ⟨j, by omega, rfl, by rw [HV.out]; rfl, by rw [HN.out]; rfl, HB2⟩
        case measure => simp [intOf]
      · rw [hh] at HV HN
        rw [show alike G[j].1 (toL n) = true from hh] at HA
        clear hh
        have hlt2 := Nat.lt_of_lt_of_le hlt HB.out.size
        go_wp2_with fail
        refine (HA.out _).mono ?_
        rintro e w2 ⟨rfl, hb2⟩
        have HB2 := Lib.hid (below_chain HB.out hb2)
        replace c2 := (hb2.cell (p := ⟨g, o + j * 2 + 1, none⟩) hlt2).trans c2
        clear hb2 c1
        go_wp2_with fail
        go_roundw
        case rel => exact ⟨j, by omega, rfl, by rw [HV.out]; rfl, by rw [HN.out]; push_cast; rfl, HB2⟩
        case measure => simp [intOf]
end Go.Proofs.YtblpooddamkfdaaGreatDoor.R7Get

/- Layer 7 of the program: alone. -/
namespace Go.Proofs.YtblpooddamkfdaaGreatDoor.PAlone
open Go.ChangeShapes Go.WideShapes Go.ChangeAt Go.RowKit LexPure Bytes Ret FieldsPure Mem
set_option maxRecDepth 20000
theorem toList_dec (s : ByteArray) (t : List UInt8) : (s.toList == t) = decide (toL s = t) := by
  rw [ByteArray.toList_eq]
  by_cases h : toL s = t
  · rw [decide_eq_true h]
    exact beq_iff_eq.2 h
  · rw [decide_eq_false h]
    exact beq_eq_false_iff_ne.2 h
set_option maxHeartbeats 1600000 in
theorem palone_any (s : ByteArray) (w : World) :
    Calls Tryz.prog 80 #[.string s] w fun e w' => e = .returned (.bool (fixed.contains (toL s))) ∧ w' = w := by
  have hv : fixed.contains (toL s) = (decide (toL s = [99, 111, 110, 110, 101, 99, 116, 105, 111, 110]) || decide (toL s = [107, 101, 101, 112, 45, 97, 108, 105, 118, 101]) || decide (toL s = [112, 114, 111, 120, 121, 45, 99, 111, 110, 110, 101, 99, 116, 105, 111, 110]) || decide (toL s = [116, 101]) || decide (toL s = [116, 114, 97, 105, 108, 101, 114]) || decide (toL s = [116, 114, 97, 110, 115, 102, 101, 114, 45, 101, 110, 99, 111, 100, 105, 110, 103]) || decide (toL s = [117, 112, 103, 114, 97, 100, 101])) := by
    unfold fixed CONNECTION
    rw [Bool.eq_iff_iff]
    simp [or_assoc]
  rw [hv]
  clear hv
  have h1 := toList_dec s [99, 111, 110, 110, 101, 99, 116, 105, 111, 110]
  have h2 := toList_dec s [107, 101, 101, 112, 45, 97, 108, 105, 118, 101]
  have h3 := toList_dec s [112, 114, 111, 120, 121, 45, 99, 111, 110, 110, 101, 99, 116, 105, 111, 110]
  have h4 := toList_dec s [116, 101]
  have h5 := toList_dec s [116, 114, 97, 105, 108, 101, 114]
  have h6 := toList_dec s [116, 114, 97, 110, 115, 102, 101, 114, 45, 101, 110, 99, 111, 100, 105, 110, 103]
  have h7 := toList_dec s [117, 112, 103, 114, 97, 100, 101]
  generalize decide (toL s = [99, 111, 110, 110, 101, 99, 116, 105, 111, 110]) = a1 at *
  generalize decide (toL s = [107, 101, 101, 112, 45, 97, 108, 105, 118, 101]) = a2 at *
  generalize decide (toL s = [112, 114, 111, 120, 121, 45, 99, 111, 110, 110, 101, 99, 116, 105, 111, 110]) = a3 at *
  generalize decide (toL s = [116, 101]) = a4 at *
  generalize decide (toL s = [116, 114, 97, 105, 108, 101, 114]) = a5 at *
  generalize decide (toL s = [116, 114, 97, 110, 115, 102, 101, 114, 45, 101, 110, 99, 111, 100, 105, 110, 103]) = a6 at *
  generalize decide (toL s = [117, 112, 103, 114, 97, 100, 101]) = a7 at *
  go_enter Tryz.func80, Tryz.ntmps80
  cases a1
  rotate_left
  · go_wp2_with fail
    go_ret
    exact ⟨rfl, rfl⟩
  cases a2
  rotate_left
  · go_wp2_with fail
    go_ret
    exact ⟨rfl, rfl⟩
  cases a3
  rotate_left
  · go_wp2_with fail
    go_ret
    exact ⟨rfl, rfl⟩
  cases a4
  rotate_left
  · go_wp2_with fail
    go_ret
    exact ⟨rfl, rfl⟩
  cases a5
  rotate_left
  · go_wp2_with fail
    go_ret
    exact ⟨rfl, rfl⟩
  cases a6
  rotate_left
  · go_wp2_with fail
    go_ret
    exact ⟨rfl, rfl⟩
  cases a7
  · go_wp2_with fail
    go_ret
    exact ⟨rfl, rfl⟩
  · go_wp2_with fail
    go_ret
    exact ⟨rfl, rfl⟩
end Go.Proofs.YtblpooddamkfdaaGreatDoor.PAlone

/- Layer 4 of the program: small. -/
namespace Go.Proofs.YtblpooddamkfdaaGreatDoor.PLsmall
open Go.ChangeShapes Go.WideShapes Go.ChangeAt Go.RowKit LexPure Bytes Ret
set_option maxRecDepth 20000
theorem small_cases (b : UInt8) : (65 ≤ (b.toNat : Int) ∧ (b.toNat : Int) ≤ 90 ∧ ((small b).toNat : Int) = (b.toNat : Int) - 65 + 97) ∨ (((b.toNat : Int) < 65 ∨ (65 ≤ (b.toNat : Int) ∧ 90 < (b.toNat : Int))) ∧ small b = b) := by
  have := all_bytes (p := fun b => decide ((65 ≤ (b.toNat : Int) ∧ (b.toNat : Int) ≤ 90 ∧ ((small b).toNat : Int) = (b.toNat : Int) - 65 + 97) ∨ (((b.toNat : Int) < 65 ∨ (65 ≤ (b.toNat : Int) ∧ 90 < (b.toNat : Int))) ∧ small b = b))) (by decide +kernel) b
  simpa only [decide_eq_true_eq] using this
theorem psmall_any (b : UInt8) (w : World) :
    Calls Tryz.prog 81 #[.int .u8 (b.toNat : Int)] w fun e w' => e = .returned (.int .u8 ((small b).toNat : Int)) ∧ w = w' := by
  have hub : (b.toNat : Int) ≤ 255 := by have := b.toNat_lt; omega
  rcases small_cases b with ⟨h1, h2, h3⟩ | ⟨h1 | ⟨h1, h2⟩, h3⟩
  · have H3 := Lib.hid h3
    clear h3
    generalize (b.toNat : Int) = c at *
    go_enter Tryz.func81, Tryz.ntmps81
    go_wp2_with fail
    go_ret
    exact ⟨by rw [H3.out]; rfl, rfl⟩
  · rw [h3]
    generalize (b.toNat : Int) = c at *
    go_enter Tryz.func81, Tryz.ntmps81
    go_wp2_with fail
    go_ret
    exact ⟨rfl, rfl⟩
  · rw [h3]
    generalize (b.toNat : Int) = c at *
    go_enter Tryz.func81, Tryz.ntmps81
    go_wp2_with fail
    go_ret
    exact ⟨rfl, rfl⟩
theorem psmall_same (b : UInt8) (w : World) :
    Calls Tryz.prog 81 #[.int .u8 (b.toNat : Int)] w fun e w' => e = .returned (.int .u8 ((small b).toNat : Int)) ∧ w' = w :=
  (psmall_any b w).mono fun _ _ ⟨h, k⟩ => ⟨h, k.symm⟩
end Go.Proofs.YtblpooddamkfdaaGreatDoor.PLsmall

/- A row of bytes behind '[]byte(s)': its cells, a store into it, the text out of it. No program is named. -/
namespace Go.Proofs.YtblpooddamkfdaaGreatDoor.BRow
open Bytes Rows1 Go.RowKit
variable {P : Program}
structure BRow (w : World) (g : Nat) (l : List UInt8) : Prop where
  cell : ∀ j (hj : j < l.length), w.cell? ⟨g, j, none⟩ = some (.int .u8 (l[j].toNat : Int))
  free : ∀ j, j < l.length → w.frozen? ⟨g, j, none⟩ = false
theorem BRow.set {w : World} {g : Nat} {l : List UInt8} (h : BRow w g l) (k : Nat) (hk : k < l.length) (c : UInt8) : BRow (w.setCell ⟨g, k, none⟩ (.int .u8 (c.toNat : Int))) g (l.set k c) := by
  refine ⟨fun j hj => ?_, fun j hj => ?_⟩
  · rw [List.length_set] at hj
    rw [List.getElem_set]
    by_cases e : k = j
    · subst e
      rw [if_pos rfl]
      exact World.cell?_setCell_same _ _ _ (h.cell k hk)
    · rw [if_neg e, World.cell?_setCell_other _ _ _ _ (by intro h2; injection h2 with _ h3; exact e h3)]
      exact h.cell j hj
  · rw [List.length_set] at hj
    rw [World.frozen?_setCell]
    exact h.free j hj
theorem BRow.below {w w' : World} {g : Nat} {l : List UInt8} (h : BRow w g l) (hg : g < w.heap.size) (hb : Below w.heap.size w w') : BRow w' g l :=
  ⟨fun j hj => (hb.cell (p := ⟨g, j, none⟩) hg).trans (h.cell j hj), fun j hj => (hb.frozen (p := ⟨g, j, none⟩) hg).trans (h.free j hj)⟩
/-- '[]byte(s)' -/
theorem bytes_of (w : World) (src dst e : TypeId) (s : ByteArray) (hs : P.underlying src = some .string) (hd : P.underlying dst = some (.slice e)) (he : P.underlying e = some (.int .u8)) :
    ∃ cap w1, (Go.convert src dst (.string s)).run P w = .ok (.slice (some ⟨w.heap.size, 0, none⟩) s.size cap) w1 ∧ BRow w1 w.heap.size (toL s) ∧ Below w.heap.size w w1 ∧ w.heap.size < w1.heap.size := by
  refine ⟨_, _, run_bytes_of_string w src dst e s hs hd he, ⟨fun j hj => ?_, fun j hj => ?_⟩, ((Below.refl _ w).drew).alloc (Nat.le_refl _) _, by simp⟩
  · have hj' : j < s.size := by rwa [toL_length] at hj
    have hC : (bytesRow s (grownCap w s.size 0 e))[j]? = some (.int .u8 ((toL s)[j].toNat : Int)) := by
      unfold bytesRow
      rw [Array.getElem?_append_left (by rw [Array.size_map]; exact hj'), Array.getElem?_map]
      have : s.data[j]? = some (toL s)[j] := by
        rw [← Array.getElem?_toList]
        exact List.getElem?_eq_getElem hj
      rw [this]
      rfl
    generalize bytesRow s (grownCap w s.size 0 e) = C at *
    have h : (w.drew.alloc (.cells C e (C.size, C.size + 1))).heap[w.heap.size]? = some (.cells C e (C.size, C.size + 1)) := by
      show (w.heap.push _)[w.heap.size]? = _
      simp
    simp only [World.cell?, h]
    exact hC
  · have hj' : j < s.size := by rwa [toL_length] at hj
    have hsz : j < (bytesRow s (grownCap w s.size 0 e)).size := by
      unfold bytesRow
      rw [Array.size_append, Array.size_map]
      have : s.data.size = s.size := rfl
      omega
    generalize bytesRow s (grownCap w s.size 0 e) = C at *
    have h : (w.drew.alloc (.cells C e (C.size, C.size + 1))).heap[w.heap.size]? = some (.cells C e (C.size, C.size + 1)) := by
      show (w.heap.push _)[w.heap.size]? = _
      simp
    unfold World.frozen?
    rw [h]
    simp
    omega
/-- 'string(b)' -/
theorem BRow.text {w : World} {g cap : Nat} {l : List UInt8} (h : BRow w g l) (src dst e : TypeId) (hs : P.underlying src = some (.slice e)) (he : P.underlying e = some (.int .u8)) (hd : P.underlying dst = some .string) :
    (Go.convert src dst (.slice (some ⟨g, 0, none⟩) l.length cap)).run P w = .ok (.string (ofL l)) w :=
  run_convert_bytes_back w src dst e ⟨g, 0, none⟩ cap l hs he hd (fun j hj => by
    have e : (⟨g, 0, none⟩ : Addr).add j = ⟨g, j, none⟩ := by unfold Addr.add; split <;> simp_all
    rw [e]
    exact h.cell j hj)
end Go.Proofs.YtblpooddamkfdaaGreatDoor.BRow

/- Layer 4 of the program: Lower, Alike. -/
namespace Go.Proofs.YtblpooddamkfdaaGreatDoor.PLower
open Go.ChangeShapes Go.WideShapes Go.ChangeAt Go.RowKit LexPure Bytes Ret PLsmall Rows1 BRow Mem
set_option maxRecDepth 20000
/-- ahead of a round: the first k bytes are small -/
structure LInv (w : World) (s : ByteArray) (k : Nat) (wr : World) : Prop where
  row : BRow wr w.heap.size (lower ((toL s).take k) ++ (toL s).drop k)
  below : Below w.heap.size w wr
  lt : w.heap.size < wr.heap.size
theorem plower_any (s : ByteArray) (hs : s.size ≤ maxLen) (w : World) :
    Calls Tryz.prog 77 #[.string s] w fun e w' => e = .returned (.string (ofL (lower (toL s)))) ∧ Below w.heap.size w w' := by
  go_enter Tryz.func77, Tryz.ntmps77
  unfold maxLen at hs
  obtain ⟨cap, w1, HC, hR, hb, hg⟩ := bytes_of (P := Tryz.prog) w 9 76 5 s Tryz.underlying9 Tryz.underlying76 Tryz.underlying5
  have HR0 : Hid (LInv w s 0 w1) := Lib.hid ⟨by rw [List.take_zero, List.drop_zero]; exact hR, hb, hg⟩
  clear hR hb hg
  go_wp2_with fail
  generalize hgq : w.heap.size = g at *
  go_loopw [10] (fun i wr => ∃ k : Nat, k ≤ s.size ∧ i = .int .i64 k ∧ Hid (LInv w s k wr)) (fun i _ => s.size - (intOf i).toNat)
  case atStart => exact ⟨0, Nat.zero_le _, rfl, HR0⟩
  case round =>
    obtain ⟨k, hk, rfl, HI⟩ := hrel
    clear HR0
    by_cases hlt : k < s.size
    · have hki : (k : Int) < (s.size : Int) := by omega
      have hlen : (lower ((toL s).take k) ++ (toL s).drop k).length = s.size := by
        rw [List.length_append, lower_length, List.length_take, List.length_drop, toL_length]; omega
      have hkl : k < (lower ((toL s).take k) ++ (toL s).drop k).length := by omega
      have hc := HI.out.row.cell k hkl
      have hget : (lower ((toL s).take k) ++ (toL s).drop k)[k] = s[k] := by
        have h1 : (lower ((toL s).take k) ++ (toL s).drop k)[k]? = some s[k] := by
          rw [List.getElem?_append_right (by rw [lower_length, List.length_take, toL_length]; omega), lower_length, List.length_take, toL_length, List.getElem?_drop, ← toL_get s k hlt]
          congr 1
          omega
        rw [List.getElem?_eq_getElem hkl] at h1
        exact Option.some.inj h1
      rw [hget, hgq] at hc
      have hf := HI.out.row.free k hkl
      rw [hgq] at hf
      have HC := Lib.hid (fun w => psmall_same s[k] w)
      have HN : Hid (LInv w s (k + 1) (wr.setCell ⟨g, k, none⟩ (.int .u8 ((small s[k]).toNat : Int)))) := Lib.hid ⟨by
          have h := HI.out.row.set k hkl (small s[k])
          rw [hgq] at h ⊢
          have e : (lower ((toL s).take k) ++ (toL s).drop k).set k (small s[k]) = lower ((toL s).take (k + 1)) ++ (toL s).drop (k + 1) := by
            rw [toL_take_succ s k hlt, toL_drop s k hlt]
            unfold lower
            rw [List.map_append, List.set_append_right _ _ (by rw [List.length_map, List.length_take, toL_length]; omega), List.length_map, List.length_take, toL_length, show k - min k s.size = 0 by omega]
            simp
          rwa [e] at h,
        HI.out.below.setCell (by rw [hgq]; exact Nat.le_refl _) _, by
          have := HI.out.lt
          rw [World.size_setCell]; exact this⟩
      clear hlen hkl hget HI
      go_wp2_with fail
      refine (HC.out _).mono ?_
      rintro e w' ⟨rfl, rfl⟩
      go_wp2_with fail
      go_roundw
      case rel => exact ⟨k + 1, by omega, by go_num, HN⟩
      case measure => simp [intOf]; omega
    · have hall : (toL s).take k = toL s := toL_take_all s (by omega)
      have HF : Hid (BRow wr g (lower (toL s))) := Lib.hid (by
        have h := HI.out.row
        rw [hall, hgq] at h
        rwa [List.drop_of_length_le (by rw [toL_length]; omega), List.append_nil] at h)
      have HT := HF.out.text (P := Tryz.prog) (cap := cap) 76 9 5 Tryz.underlying76 Tryz.underlying5 Tryz.underlying9
      rw [lower_length, toL_length] at HT
      have HB := Lib.hid HI.out.below
      clear hall HF HI
      go_wp2_with fail
      go_ret
      exact ⟨rfl, HB.out⟩
end Go.Proofs.YtblpooddamkfdaaGreatDoor.PLower

/- Layer 7 of the program: the test by which Strip leaves fields out. -/
namespace Go.Proofs.YtblpooddamkfdaaGreatDoor.PStrip1
open Go.ChangeShapes Go.WideShapes Go.ChangeAt Go.RowKit LexPure Bytes Ret FieldsPure PAlone PLower Mem Go.Maps Go.WideMaps
set_option maxRecDepth 20000
theorem lawS : Keyed Tryz.prog 9 := string_keyed Tryz.underlying9
theorem zeroU (w : World) : (zeroValue 130).run Tryz.prog w = .ok (.agg #[]) w := by kernel_rfl
set_option maxHeartbeats 1600000 in
theorem pstrip1_any (a b : ByteArray) (ha : a.size ≤ 1048576) (bx mb n : Nat) (D : DataW Unit) (w : World) (hx : w.cell? ⟨bx, 0, none⟩ = some (.map (some mb))) (hown : w.ownsMap Tryz.prog 9 unitElem mb n D) :
    Calls Tryz.prog 79 #[.agg #[.string a, .string b], .pointer (some ⟨bx, 0, none⟩)] w fun e w' => e = .returned (.bool (Maps.has D (.string (lower (toL a))) || fixed.contains (lower (toL a)))) ∧ Below w.heap.size w w' := by
  have hbx := World.block_lt_of_cell? _ _ hx
  have HA := Lib.hid (fun w => plower_any a (by unfold maxLen; omega) w)
  have hkey : keyOf Tryz.prog 9 (.string (ofL (lower (toL a)))) = some (.string (lower (toL a))) := by
    have h := keyOf_string_mk (P := Tryz.prog) (k := 9) Tryz.underlying9 (s := ofL (lower (toL a))) (by rw [ofL_size, lower_length, toL_length]; unfold maxLen; omega)
    rw [h]
    rfl
  have HL := Lib.hid (fun w => palone_any (ofL (lower (toL a))) w)
  rw [toL_ofL] at HL
  generalize lower (toL a) = L at *
  generalize hE : ofL L = E at *
  clear hE
  go_enter Tryz.func79, Tryz.ntmps79
  go_wp2_with fail
  refine (HA.out _).mono ?_
  rintro e w2 ⟨rfl, hb2⟩
  have hb3 := below_chain ((Below.refl w.heap.size w).alloc (Nat.le_refl _) (.cells #[.string a, .string b] 36)) hb2
  have hx2 := (hb3.cell (p := ⟨bx, 0, none⟩) hbx).trans hx
  have hbx2 : bx < w2.heap.size := Nat.lt_of_lt_of_le hbx hb3.size
  have hown2 := hown.kept (show w.grownBy w2 none from ⟨hb3.os, hb3.tape, hb3.output, hb3.size, fun k hk _ => hb3.block k hk⟩) (by simp)
  have HB := Lib.hid (hb3.alloc hb3.size (.cells #[] 130))
  clear hb2 hb3 hx hown hbx HA
  cases hD : Maps.has D (.string L)
  · go_wp2_with (at_lookup; refine wpList_lookup_own_unit _ rfl _ _ 129 rfl 9 130 lawS Tryz.underlying129 (zeroU _) mb n _ rfl hown2 _ _ rfl hkey ?_; rw [hD])
    refine (HL.out _).mono ?_
    rintro e w4 ⟨rfl, rfl⟩
    go_wp2_with fail
    go_ret
    exact ⟨by simp [hD], HB.out⟩
  · go_wp2_with (at_lookup; refine wpList_lookup_own_unit _ rfl _ _ 129 rfl 9 130 lawS Tryz.underlying129 (zeroU _) mb n _ rfl hown2 _ _ rfl hkey ?_; rw [hD])
    go_ret
    exact ⟨by simp [hD], HB.out⟩
end Go.Proofs.YtblpooddamkfdaaGreatDoor.PStrip1

/- Layer 7: a row of fields that a call gathers. -/
namespace Go.Proofs.YtblpooddamkfdaaGreatDoor.KeptRow
open Go.ChangeShapes Go.WideShapes Go.ChangeAt Go.RowKit LexPure Bytes Ret Rows1 FieldsPure Flds Mem
set_option maxRecDepth 20000
/-- what is kept of the first k -/
structure Kept (w : World) (X : List HField) (v : Value) (wr : World) : Prop where
  row : wr.ownsRow w.heap.size 36 2 v X.length (encFs X)
  below : Below w.heap.size w wr
theorem Kept.start (w : World) : Kept w [] (.slice none 0 0) w := ⟨World.ownsRow_nil _ _ _ _, Below.refl _ _⟩
theorem row_below {w w' : World} {base n size : Nat} {e : TypeId} {v : Value} {xs : List Value} (h : w.ownsRow base e size v n xs) (hb : Below w.heap.size w w') : w'.ownsRow base e size v n xs := by
  refine ⟨h.1, ?_⟩
  rcases h.2 with h0 | ⟨g, cap, cur, hv, h1, hg, rest⟩
  · exact .inl h0
  · exact .inr ⟨g, cap, cur, hv, h1, (hb.block g (Array.getElem?_eq_some_iff.1 hg).1).trans hg, rest⟩
theorem row_mono {w : World} {base base' n size : Nat} {e : TypeId} {v : Value} {xs : List Value} (h : w.ownsRow base e size v n xs) (hb : base' ≤ base) : w.ownsRow base' e size v n xs := by
  refine ⟨h.1, ?_⟩
  rcases h.2 with h0 | ⟨g, cap, cur, h1, h2, h3⟩
  · exact .inl h0
  · exact .inr ⟨g, cap, cur, h1, Nat.le_trans hb h2, h3⟩
theorem Kept.call {w w1 w2 : World} {X : List HField} {v : Value} (h : Kept w X v w1) (hb : Below w1.heap.size w1 w2) : Kept w X v w2 :=
  ⟨row_below h.row hb, below_chain h.below hb⟩
theorem Kept.alloc {w w1 : World} {X : List HField} {v : Value} (h : Kept w X v w1) (o : Obj) : Kept w X v (w1.alloc o) := h.call ((Below.refl _ _).alloc (Nat.le_refl _) o)
theorem Kept.lt {w w1 : World} {X : List HField} {v : Value} (h : Kept w X v w1) : ∀ j, v.ownBlock = some j → w.heap.size ≤ j := fun j hj => (h.row.lt j hj).1
theorem fl_none (w : World) : FL w (.slice none 0 0) [] := ⟨none, 0, rfl, Nat.zero_le _, fun h => absurd h (by decide)⟩
/-- a row of a call's own, of 32 fields at most -/
def RowF (W : World) (base : Nat) (v : Value) (l : List HField) : Prop := W.ownsRow base 36 2 v l.length (encFs l) ∧ l.length ≤ 32
theorem row_none (W : World) (base : Nat) : RowF W base (.slice none 0 0) [] := ⟨World.ownsRow_nil _ _ _ _, by decide⟩
end Go.Proofs.YtblpooddamkfdaaGreatDoor.KeptRow

/- Layer 7 of the program: without, over whatever its function answers. -/
namespace Go.Proofs.YtblpooddamkfdaaGreatDoor.PWithout
open Go.ChangeShapes Go.WideShapes Go.ChangeAt Go.RowKit LexPure Bytes Ret Rows1 FieldsPure Flds R7Get KeptRow Mem
set_option maxRecDepth 20000
def keepBy (q : HField → Bool) (l : List HField) : List HField := l.filter (fun f => !q f)
theorem keepBy_snoc (q : HField → Bool) (l : List HField) (f : HField) : keepBy q (l ++ [f]) = if q f then keepBy q l else keepBy q l ++ [f] := by
  unfold keepBy
  rw [List.filter_append]
  cases h : q f <;> simp [h]
set_option maxHeartbeats 1600000 in
theorem pwithout_any (fid bx : Nat) (hent : ∀ args w, (callFunc fid args).run Tryz.prog w = .ok (.enter fid args) w) (q : HField → Bool) (v : Value) (G : List HField) (hle2 : G.length ≤ 4398046511104) (w : World) (hF : FL w v G)
    (hcall : ∀ (j : Nat) (hj : j < G.length) (W : World), Below w.heap.size w W → Calls Tryz.prog fid #[.agg #[.string (ofL G[j].1), .string (ofL G[j].2)], .pointer (some ⟨bx, 0, none⟩)] W fun e w' => e = .returned (.bool (q G[j])) ∧ Below W.heap.size W w') :
    Calls Tryz.prog 78 #[v, .func (.func fid) #[] #[.pointer (some ⟨bx, 0, none⟩)]] w fun e w' => ∃ v', e = .returned v' ∧ w'.ownsRow w.heap.size 36 2 v' (keepBy q G).length (encFs (keepBy q G)) ∧ Below w.heap.size w w' := by
  obtain ⟨i0, hi, hz0, hz1, hz2⟩ := info_parts infoF
  obtain ⟨p, cap, rfl, hle, hc⟩ := hF
  replace hc := Lib.hid hc
  replace hcall := Lib.hid hcall
  have HK := Lib.hid (Kept.start w)
  go_enter Tryz.func78, Tryz.ntmps78
  go_wp2_with fail
  go_loopw [5, 10] (fun x i wr => ∃ k : Nat, k ≤ G.length ∧ i = .int .i64 k ∧ Hid (Kept w (keepBy q (G.take k)) x wr)) (fun _ i _ => G.length - (intOf i).toNat)
  case atStart => exact ⟨0, Nat.zero_le _, rfl, HK⟩
  case round =>
    obtain ⟨k, hk, rfl, HI⟩ := hrel
    clear HK
    by_cases hlt : k < G.length
    · obtain ⟨g, o, rfl, hgl, hcell⟩ := hc.out (by omega)
      obtain ⟨c1, c2⟩ := hcell k hlt
      have hki : (k : Int) < (G.length : Int) := by omega
      have HT : Hid (keepBy q (G.take (k + 1)) = if q G[k] then keepBy q (G.take k) else keepBy q (G.take k) ++ [G[k]]) := Lib.hid (by rw [← keepBy_snoc, List.take_add_one, List.getElem?_eq_getElem hlt]; rfl)
      replace c1 := (HI.out.below.cell (p := ⟨g, o + k * 2, none⟩) hgl).trans c1
      replace c2 := (HI.out.below.cell (p := ⟨g, o + k * 2 + 1, none⟩) hgl).trans c2
      have HI1 := Lib.hid (HI.out.alloc (.cells #[.string (ofL G[k].1), .string (ofL G[k].2)] 36))
      have HA := Lib.hid (hcall.out k hlt _ HI1.out.below)
      have d := (Has.new wr 36 #[.string (ofL G[k].1), .string (ofL G[k].2)]).cell
      have d0 := d 0
      have d1 := d 1
      have hsz : wr.heap.size < (wr.alloc (.cells #[.string (ofL G[k].1), .string (ofL G[k].2)] 36)).heap.size := by simp
      clear hcell d
      cases hh : q G[k]
      · rw [hh] at HT HA
        clear hh
        go_wp2_with fail
        refine HA.out.mono ?_
        rintro e w2 ⟨rfl, hb2⟩
        have e0 := (hb2.cell (p := ⟨wr.heap.size, 0, none⟩) hsz).trans d0
        have e1 := (hb2.cell (p := ⟨wr.heap.size, 1, none⟩) hsz).trans d1
        have HK2 := (HI1.out.call hb2).alloc (.cells #[.string (ofL G[k].1), .string (ofL G[k].2)] 36)
        have hlen : (keepBy q (G.take k)).length ≤ k := Nat.le_trans (List.length_filter_le _ _) (List.length_take_le _ _)
        have HN := Lib.hid (World.news_of_block (heap_alloc_new w2 (.cells #[.string (ofL G[k].1), .string (ofL G[k].2)] 36)))
        have HKH := Lib.hid HK2
        have hrow := HK2.row
        clear hb2 HK2 d0 d1 hsz c1 c2
        go_wp2_with (at_builtin; refine wpList_append_own_at _ rfl (.tmp 18) (.tmp 20) 23 rfl w.heap.size 36 i0 _ 2 32 Tryz.underlying23 hi hz0 hz1 hz2 rfl (by omega) _ _ _ rfl hrow ⟨w2.heap.size, 0, none⟩ 1 1 (encF G[k]) rfl rfl HN.out (by simp [encF, Value.oneCell']) (by simp only [maxLen]; omega) (by omega) (by have := HKH.out.below.size; exact this) ?_; intro v4 w4 hown4 hg4 _ hat4)
        have HK3 : Hid (Kept w (keepBy q (G.take (k + 1))) v4 w4) := Lib.hid (by
          rw [HT.out]
          refine ⟨?_, Below.grown HKH.out.below hg4 HKH.out.below.size HKH.out.lt⟩
          rw [if_neg (by decide), encFs_append, List.length_append]
          exact hown4)
        clear hown4 hg4 hat4 hrow
        go_wp2_with fail
        go_roundw
        case rel => exact ⟨k + 1, by omega, by go_num, HK3⟩
        case measure => simp [intOf]; omega
      · rw [hh] at HT HA
        clear hh
        go_wp2_with fail
        refine HA.out.mono ?_
        rintro e w2 ⟨rfl, hb2⟩
        have HK3 : Hid (Kept w (keepBy q (G.take (k + 1))) u5 w2) := Lib.hid (by
          rw [HT.out]
          exact HI1.out.call hb2)
        clear hb2 d0 d1 hsz
        go_wp2_with fail
        go_roundw
        case rel => exact ⟨k + 1, by omega, by go_num, HK3⟩
        case measure => simp [intOf]; omega
    · have hall : G.take k = G := List.take_of_length_le (by omega)
      have HE := HI.out
      rw [hall] at HE
      have HEH := Lib.hid HE
      clear HE HI hall
      go_wp2_with fail
      go_ret
      exact ⟨_, rfl, HEH.out.row, HEH.out.below⟩
end Go.Proofs.YtblpooddamkfdaaGreatDoor.PWithout

/- Layer 4 of the program: Alike. -/
namespace Go.Proofs.YtblpooddamkfdaaGreatDoor.PAlike
open Go.ChangeShapes Go.WideShapes Go.ChangeAt Go.RowKit LexPure Bytes Ret PLsmall Mem
set_option maxRecDepth 20000
set_option maxHeartbeats 1600000 in
theorem palike_any (s t : ByteArray) (hs : s.size ≤ maxLen) (w : World) :
    Calls Tryz.prog 61 #[.string s, .string t] w fun e w' => e = .returned (.bool (alike (toL s) (toL t))) ∧ Below w.heap.size w w' := by
  unfold maxLen at hs
  by_cases hl : s.size = t.size
  · go_enter Tryz.func61, Tryz.ntmps61
    go_wp2_with fail
    have HB : Hid (∃ m, w = w.drewN m) := Lib.hid ⟨0, rfl⟩
    go_loopw [13] (fun i wr => ∃ k : Nat, k ≤ s.size ∧ i = .int .i64 k ∧ Hid (lower ((toL s).take k) = lower ((toL t).take k)) ∧ Hid (∃ m, wr = w.drewN m)) (fun i _ => s.size - (intOf i).toNat)
    case atStart => exact ⟨0, Nat.zero_le _, rfl, Lib.hid rfl, HB⟩
    case round =>
      obtain ⟨k, hk, rfl, ha, HM⟩ := hrel
      clear HB
      by_cases hlt : k < s.size
      · have hlt2 : k < t.size := by omega
        have hki : (k : Int) < (s.size : Int) := by omega
        have hki2 : (k : Int) < (t.size : Int) := by omega
        have HS := Lib.hid (toL_take_succ s k hlt)
        have HT := Lib.hid (toL_take_succ t k hlt2)
        have GS := Lib.hid (toL_get s k hlt)
        have GT := Lib.hid (toL_get t k hlt2)
        by_cases hm : small s[k] = small t[k]
        · have HA : Hid (lower ((toL s).take (k + 1)) = lower ((toL t).take (k + 1))) := Lib.hid (by
            rw [HS.out, HT.out]
            unfold lower
            rw [List.map_append, List.map_append]
            have h := ha.out
            unfold lower at h
            rw [h]
            simp [hm])
          have hx : ((small s[k]).toNat : Int) = ((small t[k]).toNat : Int) := by rw [hm]
          clear hm HS HT GS GT ha
          go_wp2_with fail
          go_quiet ((go_at_call 81; exact Calls.quiet_of_same (psmall_same _ _)))
          go_wp2_with fail
          go_roundw
          case rel => exact ⟨k + 1, by omega, by go_num, HA, Lib.hid (by obtain ⟨m, hm⟩ := HM.out; exact ⟨_, by rw [hm, World.drewN_drewN]⟩)⟩
          case measure => simp [intOf]; omega
        · have HV : Hid (alike (toL s) (toL t) = false) := Lib.hid (by
            unfold alike
            rw [beq_eq_false_iff_ne]
            intro h
            have h2 := congrArg (·[k]?) h
            unfold lower at h2
            simp only [List.getElem?_map, GS.out, GT.out, Option.map_some, Option.some.injEq] at h2
            exact hm h2)
          have hx : ¬ (((small s[k]).toNat : Int) = ((small t[k]).toNat : Int)) := fun h => hm (UInt8.toNat_inj.1 (by exact_mod_cast h))
          clear hm HS HT GS GT ha
          go_wp2_with fail
          go_quiet ((go_at_call 81; exact Calls.quiet_of_same (psmall_same _ _)))
          go_wp2_with fail
          go_ret
          obtain ⟨m, rfl⟩ := HM.out
          exact ⟨by rw [HV.out]; rfl, ⟨rfl, rfl, rfl, Nat.le_refl _, fun _ _ => rfl⟩⟩
      · have hall : (toL s).take k = toL s := toL_take_all s (by omega)
        have hall2 : (toL t).take k = toL t := toL_take_all t (by omega)
        have HV : Hid (alike (toL s) (toL t) = true) := Lib.hid (by
          have h := ha.out
          rw [hall, hall2] at h
          unfold alike
          rw [h]
          exact beq_self_eq_true _)
        clear ha hall hall2
        go_wp2_with fail
        go_ret
        obtain ⟨m, rfl⟩ := HM.out
        exact ⟨by rw [HV.out]; rfl, ⟨rfl, rfl, rfl, Nat.le_refl _, fun _ _ => rfl⟩⟩
  · have HV : Hid (alike (toL s) (toL t) = false) := Lib.hid (by
      unfold alike
      rw [beq_eq_false_iff_ne]
      intro h
      have := congrArg List.length h
      rw [lower_length, lower_length, toL_length, toL_length] at this
      exact hl this)
    have hx : ¬ ((s.size : Int) = (t.size : Int)) := by omega
    clear hl
    go_enter Tryz.func61, Tryz.ntmps61
    go_wp2_with fail
    go_ret
    exact ⟨by rw [HV.out]; rfl, ⟨rfl, rfl, rfl, Nat.le_refl _, fun _ _ => rfl⟩⟩
end Go.Proofs.YtblpooddamkfdaaGreatDoor.PAlike
