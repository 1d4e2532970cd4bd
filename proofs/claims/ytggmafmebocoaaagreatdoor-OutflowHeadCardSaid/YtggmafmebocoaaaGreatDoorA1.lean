/- Texts of this seat, one behind another: InEmb, FramePure, OutPure, Flds, HBox, KeptRow, OutBox, OutObj, POutText, RLower, RAlike7, R7Get, PLsmall, PAlike, PVals, PGet, PLib, PElements, RBlank, RTrim, RElements, AppendRow, R7Elements, AppendIn, PElems7, FrNames, PFrCh, LexFlat, R7Has, PFrRef, PFrHas. -/
import Derived.Lib.FrozenHead
import Derived.Deep.DeepAppendWide
import Derived.Lib.Hide
import Derived.Below
import Derived.Deep.Draws
import Derived.Laws.ResultCell
import Derived.OwnWalk
import Derived.Maps.AppendAt
import Derived.Deep.AppendLies
import Derived.Outline
import Derived.Handy
import Derived.Deep.RegionWith
import Derived.Deep.RegionHeld3
import Derived.Laws.EntriesVeiled
import Derived.LoopTactic
import Derived.Deep.QuietTactic
import Derived.BigQuiet
import Derived.RangeFuncNested
import Derived.RangeFuncBound
import Derived.RangeFuncCalls
import Derived.RangeFuncLeaves
import Derived.Shelf.Abstract
import Derived.Shelf.RegionOpen
import Derived.WalkKit
import Derived.OwnWalkIn
import Derived.TacticsInMore
import Derived.LoopNIn
import Derived.LoopIn
import Derived.RangeFuncBox
import Derived.Shelf.Vars
import Derived.Laws.DeepStrings4
import Derived.Laws.AppendOwnNone
import Derived.OrdersIn
import Derived.Test.YtggmafmebocoaaaGreatDoorC1
import Derived.Test.YtggmafmebocoaaaGreatDoorC2
/- A strings.Builder that is a part of a struct in memory: its writes, its text, its reset. -/
namespace Go.Proofs.YtggmafmebocoaaaGreatDoor.InEmb
open Go.ChangeShapes Go.WideShapes Go.ChangeAt Go.RowKit Bytes Mem Step PChStr
set_option maxRecDepth 100000
/-! ### an append to a row of bytes whose head may be frozen, and where the row then lies -/
theorem append_near {w : World} (t u ty e : TypeId) (i : TypeInfo) (ht : Tryz.prog.underlying t = some (.slice e)) (hu : Tryz.prog.underlying u = some .string) (hi : Tryz.prog.info? e = some i) (hz : i.zero = some (.int .u8 0)) (hsize : i.size = 1) (hby : i.bytes = 1)
    (v : Value) (n : Nat) (xs : List Value) (hown : w.ownsRowF 0 e 1 v n xs) (s : ByteArray) (h63 : n + s.size ≤ maxLen) (hbytes : n + s.size ≤ 140737488355328) :
    ∃ v' w', (Builtin.append_ #[t, u] ty #[v, .string s]).run Tryz.prog w = .ok v' w' ∧ w'.ownsRowF 0 e 1 v' (n + s.size) (xs ++ Lib.strCells s) ∧ w.grownBy w' v.ownBlock ∧ ∀ k, v'.ownBlock = some k → v.ownBlock = some k ∨ w.heap.size ≤ k := by
  obtain ⟨v', w', h1, h2, h3, _⟩ := Lib.run_append_own_stringF (P := Tryz.prog) w 0 t u ty e i ht hu hi hz hsize hby v n xs hown s h63 hbytes (Nat.zero_le _)
  refine ⟨v', w', h1, h2, h3, ?_⟩
  rcases hown.2 with ⟨rfl, rfl⟩ | ⟨g, cap, cur, fz, rfl, _, hg, hfz, hnc, hcm, hcs, htake⟩
  · obtain ⟨v2, w2, k1, k2, _⟩ := Lib.run_append_own_string (P := Tryz.prog) w w.heap.size t u ty e i ht hu hi hz hsize hby (.slice none 0 0) 0 xs ⟨hown.1, .inl ⟨rfl, rfl⟩⟩ s h63 hbytes (Nat.le_refl _)
    rw [h1] at k1
    injection k1 with e1 e2
    subst e1
    subst e2
    exact fun k hk => .inr (k2.lt k hk).1
  · by_cases hroom : n + s.size ≤ cap
    · have hr := Lib.run_append_room_stringF (P := Tryz.prog) w t u ty e i ht hu hi hsize g n cap cur fz hg (by simpa using hfz) s hroom (by rw [Nat.mul_one] at hcs; omega)
      rw [h1] at hr
      injection hr with e1 e2
      subst e1
      exact fun k hk => .inl hk
    · have hxl : xs.length = n := by simpa using hown.1
      have hr := Lib.run_append_grow_string (P := Tryz.prog) w t u ty e i (.int .u8 0) ht hu hi hz ⟨g, 0, none⟩ n cap xs (by rw [hsize]; simpa using hxl) (hown.cells (g := g) rfl) s (by omega) (by simp only [maxLen] at h63; omega) (by rw [hby]; exact growslice_fits (by omega) (by omega))
      rw [h1] at hr
      injection hr with e1 e2
      subst e1
      intro k hk
      simp [Value.ownBlock] at hk
      exact .inr (by omega)
/-- a row of bytes in a new block, spare cells behind it -/
theorem fresh_row (w : World) (e : TypeId) (ys : List Value) (cs : Array Value) (m cap : Nat) (hm : ys.length = m) (h1 : m ≤ cap) (h2 : cap ≤ maxLen) (hcs : cs = ys.toArray ++ Builtin.zeroCells (Value.int .u8 0).cells (cap - m)) :
    (w.alloc (.cells cs e)).ownsRowF 0 e 1 (.slice (some ⟨w.heap.size, 0, none⟩) m cap) m ys := by
  subst hcs
  refine ⟨by omega, .inr ⟨w.heap.size, cap, _, (0, 0), rfl, Nat.zero_le _, heap_alloc_new w _, Nat.zero_le _, h1, h2, ?_, ?_⟩⟩
  · rw [Array.size_append, size_zeroCells, List.size_toArray, hm, show (Value.int IntKind.u8 0).cells.size = 1 from rfl]
    omega
  · rw [Nat.mul_one, Array.toList_append]
    exact List.take_left' hm
theorem fresh_grown (w : World) (o : Obj) (row : Option Nat) : w.grownBy (w.drew.alloc o) row := ⟨rfl, rfl, rfl, by simp, fun k hk _ => heap_alloc_old w.drew o hk⟩
theorem bytes_cells (s : ByteArray) : (s.data.map fun b => Value.int .u8 b.toNat) = (Lib.strCells s).toArray := by
  apply Array.ext'
  simp [Lib.strCells]
theorem append_at {w : World} (t u ty e : TypeId) (i : TypeInfo) (ht : Tryz.prog.underlying t = some (.slice e)) (hu : Tryz.prog.underlying u = some .string) (hi : Tryz.prog.info? e = some i) (hz : i.zero = some (.int .u8 0)) (hsize : i.size = 1) (hby : i.bytes = 1)
    (v : Value) (n : Nat) (xs : List Value) (hown : w.ownsRowF 0 e 1 v n xs) (s : ByteArray) (h63 : n + s.size ≤ maxLen) (hbytes : n + s.size ≤ 211106232532992) :
    ∃ v' w', (Builtin.append_ #[t, u] ty #[v, .string s]).run Tryz.prog w = .ok v' w' ∧ w'.ownsRowF 0 e 1 v' (n + s.size) (xs ++ Lib.strCells s) ∧ w.grownBy w' v.ownBlock ∧ ∀ k, v'.ownBlock = some k → v.ownBlock = some k ∨ w.heap.size ≤ k := by
  by_cases hsm : n + s.size ≤ 140737488355328
  · exact append_near t u ty e i ht hu hi hz hsize hby v n xs hown s h63 hsm
  have hxl : xs.length = n := by simpa using hown.1
  have hall : (xs ++ Lib.strCells s).length = n + s.size := by rw [List.length_append, hxl, Lib.strCells_length]
  have h63i : ((n + s.size : Nat) : Int) ≤ 9223372036854775807 := by omega
  rcases hown.2 with ⟨rfl, rfl⟩ | ⟨g, cap, cur, fz, rfl, _, hg, hfz, hnc, hcm, hcs, htake⟩
  · have hx : xs = [] := List.eq_nil_of_length_eq_zero hxl
    subst hx
    have hr := run_append_nil_string (P := Tryz.prog) w t u ty e i (.int .u8 0) ht hu hi hz s (by omega) (by omega) (by rw [hby]; omega)
    rw [Nat.zero_add] at h63 ⊢
    rw [List.nil_append] at hall ⊢
    refine ⟨_, _, hr, fresh_row w.drew e (Lib.strCells s) _ _ _ (Lib.strCells_length s) (grownCap_ge _ _ _ _) (grownCap_le_maxLen _ _ _ _ h63) (congrArg (· ++ _) (bytes_cells s)), fresh_grown w _ _, fun k hk => ?_⟩
    simp [Value.ownBlock] at hk
    exact .inr (by omega)
  · by_cases hroom : n + s.size ≤ cap
    · rw [Nat.mul_one] at hcs hfz htake
      have hr := Lib.run_append_room_stringF (P := Tryz.prog) w t u ty e i ht hu hi hsize g n cap cur fz hg hfz s hroom (by omega)
      rw [htake] at hr
      refine ⟨_, _, hr, ⟨by rw [Nat.mul_one]; exact hall, .inr ⟨g, cap, _, fz, rfl, Nat.zero_le _, setRow_heap w g cur _ e _ hg, by omega, hroom, hcm, ?_, ?_⟩⟩, ⟨rfl, rfl, rfl, by simp, fun k _ hk => setRow_other w g k _ (fun e => hk (by simp [Value.ownBlock, e]))⟩, fun k hk => .inl hk⟩
      · rw [Nat.mul_one, List.size_toArray, List.length_append, hall, List.length_drop, Array.length_toList, hcs]
        omega
      · rw [Nat.mul_one]
        exact List.take_left' hall
    · have hr := Lib.run_append_grow_string (P := Tryz.prog) w t u ty e i (.int .u8 0) ht hu hi hz ⟨g, 0, none⟩ n cap xs (by rw [hsize]; simpa using hxl) (hown.cells (g := g) rfl) s (by omega) h63i (by rw [hby]; exact growslice_fits_wide (by omega) (by omega))
      refine ⟨_, _, hr, fresh_row w.drew e (xs ++ Lib.strCells s) _ _ _ hall (grownCap_ge _ _ _ _) (grownCap_le_maxLen _ _ _ _ h63) (by simp), fresh_grown w _ _, fun k hk => ?_⟩
      simp [Value.ownBlock] at hk
      exact .inr (by omega)
theorem wpList_append_string_at {ops : Array Oper} {rest : List Oper} {o : Oper} {a : Act} {w : World} {Q : Exit → Act → World → Prop} (hgd : o.guard = none) (sl x : Operand) (t u : TypeId)
    (ho : o.op = .call { callee := .builtin .append, args := #[sl, x], argTypes := #[t, u] }) (e : TypeId) (i : TypeInfo) (ht : Tryz.prog.underlying t = some (.slice e)) (hu : Tryz.prog.underlying u = some .string) (hi : Tryz.prog.info? e = some i) (hz : i.zero = some (.int .u8 0)) (hsize : i.size = 1) (hby : i.bytes = 1)
    (v : Value) (n : Nat) (xs : List Value) (hs : a.eval sl = v) (hown : w.ownsRowF 0 e 1 v n xs) (s : ByteArray) (hx : a.eval x = .string s) (h63 : n + s.size ≤ maxLen) (hbytes : n + s.size ≤ 211106232532992)
    (h : ∀ v' w', w'.ownsRowF 0 e 1 v' (n + s.size) (xs ++ Lib.strCells s) → w.grownBy w' v.ownBlock → (∀ k, v'.ownBlock = some k → v.ownBlock = some k ∨ w.heap.size ≤ k) → wpList Tryz.prog ops Q rest (a.put o.dst v') w') : wpList Tryz.prog ops Q (o :: rest) a w := by
  refine wpList_plain hgd fun K hK => ?_
  obtain ⟨v', w', hr, h2, h3, h4⟩ := append_at t u o.type e i ht hu hi hz hsize hby v n xs hown s h63 hbytes
  unfold Oper.wp execOp
  simp only [ho, resolve, invoke, builtin, Sem.run_bind, Sem.run_pure, Result.andThen_ok, List.map_toArray, List.map_cons, List.map_nil, hs, hx, hr]
  exact hK _ _ (h v' w' h2 h3 h4)
/-! ### rows of bytes -/
/-- the row v holds the bytes l; of its head a stretch may be frozen -/
def RowB (w : World) (v : Value) (l : List UInt8) : Prop := w.ownsRowF 0 5 1 v l.length (Lib.byteCells l)
theorem RowB.nil (w : World) : RowB w (.slice none 0 0) [] := World.ownsRowF_nil _ _ _ _
theorem RowB.form {w : World} {v : Value} {l : List UInt8} (h : RowB w v l) : ∃ p cap, v = .slice p l.length cap := by
  rcases h.2 with ⟨hv, hn⟩ | ⟨g, cap, cur, fz, hv, _⟩
  · exact ⟨none, 0, by rw [hv, hn]⟩
  · exact ⟨_, cap, hv⟩
theorem RowB.lt {w : World} {v : Value} {l : List UInt8} (h : RowB w v l) {k : Nat} (hk : v.ownBlock = some k) : k < w.heap.size := (World.ownsRowF.lt h k hk).2
theorem RowB.step {w w' : World} {F F' : Nat → Prop} {v : Value} {l : List UInt8} (h : RowB w v l) (hs : Step w w' F F') (hn : ∀ b, v.ownBlock = some b → ¬ F b) : RowB w' v l := by
  refine ⟨h.1, ?_⟩
  rcases h.2 with hx | ⟨g, cap, cur, fz, rfl, hb, hgg, rest⟩
  · exact .inl hx
  · refine .inr ⟨g, cap, cur, fz, rfl, hb, ?_, rest⟩
    rw [hs.block g (Array.getElem?_eq_some_iff.1 hgg).1 (hn g rfl)]
    exact hgg
theorem RowB.far {w : World} {v : Value} {l : List UInt8} {g : Nat} {T : TypeId} {cs : Array Value} (h : RowB w v l) (hh : Has w g T cs) (hT : T ≠ 5) : v.ownBlock ≠ some g := Lib.ownBlock_neF h hh.at_ hT
theorem strCells_bytes (s : ByteArray) : Lib.strCells s = Lib.byteCells (toL s) := rfl
/-! ### the builder -/
/-- a builder may lie at place o of the n cells of a T -/
structure Spot (T : TypeId) (o n : Nat) : Prop where
  lies : liesAt Tryz.prog Tryz.prog.depth T (n / Tryz.prog.cellsOf T) o 52 1 = true
  ne : T ≠ 5
  room : o + 1 < n
def selfP (b o : Nat) : Value := .pointer (some ⟨b, o, none⟩)
structure Emb (w : World) (b o : Nat) (T : TypeId) (cs : Array Value) (p v : Value) (l : List UInt8) : Prop where
  has : Has w b T cs
  c0 : cs[o]? = some p
  c1 : cs[o + 1]? = some v
  me : p = .pointer none ∨ p = selfP b o
  row : RowB w v l
section
variable {w w' : World} {b o n : Nat} {T : TypeId} {cs : Array Value} {p v : Value} {l : List UInt8}
theorem Emb.own (h : Emb w b o T cs p v l) (hp : Spot T o n) : v.ownBlock ≠ some b := h.row.far h.has hp.ne
theorem Emb.step (h : Emb w b o T cs p v l) {F F' : Nat → Prop} (hs : Step w w' F F') (hb : ¬ F b) (hv : ∀ k, v.ownBlock = some k → ¬ F k) : Emb w' b o T cs p v l :=
  ⟨hs.has h.has hb, h.c0, h.c1, h.me, h.row.step hs hv⟩
/-- another cell is stored -/
theorem Emb.put (h : Emb w b o T cs p v l) (hp : Spot T o n) (i : Nat) (u : Value) (h0 : i ≠ o) (h1 : i ≠ o + 1) : Emb (w.setCell ⟨b, i, none⟩ u) b o T (cs.setIfInBounds i u) p v l :=
  ⟨h.has.set_ i u, by rw [Array.getElem?_setIfInBounds_ne h0]; exact h.c0, by rw [Array.getElem?_setIfInBounds_ne h1]; exact h.c1, h.me,
    h.row.step (Step.set_ (F := fun k => k = b) w rfl i u) (fun k hk e => h.own hp (by rw [hk, e]))⟩
end
/-- from here on it is its own -/
def Used (w w' : World) (b o : Nat) (T : TypeId) (cs : Array Value) (v : Value) (l : List UInt8) : Prop := Emb w' b o T cs (selfP b o) v l ∧ Step w w' (fun k => k = b) (fun k => k = b)
set_option maxHeartbeats 2000000 in
theorem emb_check {w : World} {b o n : Nat} {T : TypeId} {cs : Array Value} {p v : Value} {l : List UInt8} (hp : Spot T o n) (hn : cs.size = n) (h : Emb w b o T cs p v l) :
    Calls Tryz.prog 30 #[.pointer (some ⟨b, o, none⟩)] w fun e w' => e = .returned (.tuple #[]) ∧ Used w w' b o T (cs.setIfInBounds o (selfP b o)) v l := by
  have c0 := (h.has.cell o).trans h.c0
  have z0 := h.has.free o
  have hsh : w.shape? b = some (T, n) := by
    have := h.has.at_
    simp [World.shape?, this, hn]
  have hoff : o < n := by have := hp.room; omega
  obtain ⟨j, hj, hjs⟩ := Option.map_eq_some_iff.1 PBuildT.extra166.sizeBuilder
  obtain ⟨cs1, hcs1⟩ : ∃ cs1, cs1 = cs.setIfInBounds o (selfP b o) := ⟨_, rfl⟩
  rw [← hcs1]
  rcases h.me with hm | hm
  · subst hm
    have HU : Hid (Used w (w.setCell ⟨b, o, none⟩ (.pointer (some ⟨b, o, none⟩))) b o T cs1 v l) := Lib.hid (by
      rw [hcs1]
      exact ⟨⟨h.has.set_ o _, by rw [Array.getElem?_setIfInBounds_self_of_lt (by omega)], by rw [Array.getElem?_setIfInBounds_ne (by omega)]; exact h.c1, .inr rfl, h.row.step (Step.set_ (F := fun k => k = b) w rfl o _) (fun k hk e => h.own hp (by rw [hk, e]))⟩, Step.set_ (F := fun k => k = b) w rfl o _⟩)
    have lies := hp.lies
    clear h hn hp hcs1
    go_enter Tryz.func30, Tryz.ntmps30
    go_wp2_with fail
    rw [Lib.run_to_unsafe w ⟨b, o, none⟩ Tryz.underlying50 Tryz.underlying76 hj (by rw [hjs]; decide) hsh hoff]
    simp only [Result.andThen]
    rw [Oper.upon_value]
    go_wp2_with fail
    rw [run_callFunc_extern Tryz.func44 (by kernel_rfl) (by kernel_rfl) (by kernel_rfl) (e := Extern.AbiNoEscape.same) (by kernel_rfl)]
    rw [Lib.run_noEscape]
    simp only [Result.andThen]
    rw [Oper.upon_value]
    go_wp2_with fail
    rw [Lib.run_from_unsafe w ⟨b, o, none⟩ Tryz.underlying76 Tryz.underlying50 hj hsh lies]
    simp only [Result.andThen]
    rw [Oper.upon_value]
    go_wp2_with fail
    go_end0
    exact ⟨rfl, HU.out⟩
  · subst hm
    have HU : Hid (Used w w b o T cs1 v l) := Lib.hid (by
      rw [hcs1]
      exact ⟨⟨by
      have e : cs.setIfInBounds o (selfP b o) = cs := by
        apply Array.ext_getElem?
        intro i
        by_cases hi : o = i
        · subst hi
          rw [Array.getElem?_setIfInBounds_self_of_lt (by omega)]
          exact h.c0.symm
        · rw [Array.getElem?_setIfInBounds_ne hi]
      rw [e]
      exact h.has, by rw [Array.getElem?_setIfInBounds_self_of_lt (by omega)], by rw [Array.getElem?_setIfInBounds_ne (by omega)]; exact h.c1, .inr rfl, h.row⟩, Step.refl w _⟩)
    unfold selfP at c0
    clear h hn hp hcs1
    go_enter Tryz.func30, Tryz.ntmps30
    go_wp2_with fail
    rw [Lib.run_neq_ptr_same w _ Tryz.underlying50 hj]
    go_wp2_with fail
    go_end0
    exact ⟨rfl, HU.out⟩
/-- what a write leaves -/
def Wrote (w w' : World) (b o : Nat) (T : TypeId) (cs : Array Value) (v : Value) (l m : List UInt8) : Prop :=
  ∃ v', Emb w' b o T (cs.setIfInBounds (o + 1) v') (selfP b o) v' (l ++ m) ∧ Step w w' (fun k => k = b ∨ v.ownBlock = some k) (fun k => k = b ∨ v'.ownBlock = some k)
set_option maxHeartbeats 2000000 in
theorem emb_write {w : World} {b o n : Nat} {T : TypeId} {cs : Array Value} {p v : Value} {l : List UInt8} (hp : Spot T o n) (hn : cs.size = n) (h : Emb w b o T cs p v l) (s : ByteArray) (hl : l.length + s.size ≤ 211106232532992) :
    Calls Tryz.prog 22 #[.pointer (some ⟨b, o, none⟩), .string s] w fun e w' => e = .returned (.tuple #[.int .i64 s.size, .nilIface]) ∧ Wrote w w' b o T (cs.setIfInBounds o (selfP b o)) v l (toL s) := by
  have HC := Lib.hid (emb_check hp hn h)
  have hcn : (cs.setIfInBounds o (selfP b o)).size = n := by rw [Array.size_setIfInBounds]; exact hn
  generalize cs.setIfInBounds o (selfP b o) = cs1 at *
  obtain ⟨i0, hi, hz0, hz1, hz2⟩ := info_parts PBuildT.extra166.infoByte
  have hi' : Tryz.prog.info? 5 = some i0 := hi
  clear hi
  go_enter Tryz.func22, Tryz.ntmps22
  go_wp2_with fail
  refine HC.out.mono ?_
  rintro e w1 ⟨rfl, hE, hS⟩
  have d0 := (hE.has.cell o).trans hE.c0
  have d1 := (hE.has.cell (o + 1)).trans hE.c1
  have hrow := hE.row
  have hlt := hE.has.lt
  have hne := hE.own hp
  have hroom := hp.room
  have HE := Lib.hid hE
  have HS := Lib.hid hS
  clear HC hE hS h
  go_wp2_with (at_builtin; refine wpList_append_string_at rfl _ _ 28 9 rfl 5 i0 Tryz.underlying28 Tryz.underlying9 hi' hz0 hz1 hz2 _ _ _ rfl hrow s rfl (by unfold maxLen; omega) hl ?_)
  intro v' w2 hown' hgrow hat
  have hrow2 : RowB w2 v' (l ++ toL s) := by
    unfold RowB
    rw [List.length_append, toL_length, Lib.byteCells_append, ← strCells_bytes]
    exact hown'
  have hh2 : Has w2 b T cs1 := HE.out.has.grown hgrow (fun e => hne e.symm)
  obtain ⟨pp, cap, hv'⟩ := hrow2.form
  rw [List.length_append, toL_length] at hv'
  subst hv'
  have f1 := hh2.free (o + 1)
  have e1 := (hh2.cell (o + 1)).trans HE.out.c1
  have HW : Hid (Wrote w (w2.setCell ⟨b, o + 1, none⟩ (.slice pp (l.length + s.size) cap)) b o T cs1 v l (toL s)) := Lib.hid (by
    have hne2 := hrow2.far hh2 hp.ne
    have hs3 := Step.set_ (F := fun k => k = b ∨ v.ownBlock = some k) w2 (g := b) (.inl rfl) (o + 1) (.slice pp (l.length + s.size) cap)
    have hall := ((HS.out.up (G := fun k => k = b ∨ v.ownBlock = some k) (fun k hk => .inl hk)).trans (Step.of_grown hgrow (fun k hk => .inr hk))).trans hs3
    refine ⟨_, ⟨hh2.set_ (o + 1) _, by rw [Array.getElem?_setIfInBounds_ne (by omega)]; exact HE.out.c0, by rw [Array.getElem?_setIfInBounds_self_of_lt (by omega)], .inr rfl, hrow2.step (Step.set_ (F := fun k => k = b) w2 rfl (o + 1) _) (fun k hk e => hne2 (by rw [hk, e]))⟩, hall.regrow (fun k hk => ?_)⟩
    rcases hk with hk | hk
    · exact .inl (.inl hk)
    · rcases hat k hk with q | q
      · exact .inl (.inr q)
      · exact .inr ⟨Nat.le_trans HS.out.size q, by have := hrow2.lt hk; simpa [World.setCell] using this⟩)
  clear hrow hgrow hown' hat hrow2 hh2 HE HS
  go_wp2_with fail
  go_ret2
  exact ⟨rfl, HW.out⟩
/-- reading leaves it as it is; of its row the head is frozen -/
def Kept1 (w w' : World) (b o : Nat) (T : TypeId) (cs : Array Value) (p v : Value) (l : List UInt8) : Prop := Emb w' b o T cs p v l ∧ Step w w' (fun k => v.ownBlock = some k) (fun k => v.ownBlock = some k)
theorem rowB_freeze {w : World} {g n cap : Nat} {l : List UInt8} (h : RowB w (.slice (some ⟨g, 0, none⟩) n cap) l) (hn : n = l.length) : RowB (w.drew.freeze ⟨g, 0, none⟩ n) (.slice (some ⟨g, 0, none⟩) n cap) l := by
  subst hn
  refine ⟨h.1, ?_⟩
  rcases h.2 with ⟨hv, _⟩ | ⟨g2, cap2, cur, fz, hv, hbg, hg, hfz, rest⟩
  · cases hv
  · injection hv with e1 _ e3
    injection e1 with e1
    injection e1 with e1
    subst e1
    subst e3
    have hg' : w.drew.heap[g]? = some (.cells cur 5 fz) := hg
    unfold World.freeze
    split
    · exact .inr ⟨g, _, cur, fz, rfl, hbg, hg', hfz, rest⟩
    · obtain ⟨lo, hi⟩ := fz
      refine .inr ⟨g, _, cur, (if lo == hi then (0, 0 + l.length) else (min lo 0, max hi (0 + l.length))), rfl, hbg, ?_, ?_, rest⟩
      · simp [Array.getElem?_modify, hg']
      · simp only at hfz
        split <;> simp <;> omega
theorem text_row {w : World} {b o n g cap : Nat} {T : TypeId} {cs : Array Value} {p : Value} {l : List UInt8} (hp : Spot T o n) (h0 : l ≠ []) (h : Emb w b o T cs p (.slice (some ⟨g, 0, none⟩) l.length cap) l) :
    Calls Tryz.prog 31 #[.pointer (some ⟨b, o, none⟩)] w fun e w' => e = .returned (.string (ofL l)) ∧ Kept1 w w' b o T cs p (.slice (some ⟨g, 0, none⟩) l.length cap) l := by
  have hl0 : l.length ≠ 0 := by simpa using h0
  have hst := freeze_step w g l.length
  have hgb : g ≠ b := fun e => h.own hp (by rw [e]; rfl)
  have HK : Hid (Kept1 w (w.drew.freeze ⟨g, 0, none⟩ l.length) b o T cs p (.slice (some ⟨g, 0, none⟩) l.length cap) l) := Lib.hid
    ⟨⟨hst.has h.has (fun e => hgb e.symm), h.c0, h.c1, h.me, rowB_freeze h.row rfl⟩, by
      have e : (fun k => (Value.slice (some ⟨g, 0, none⟩) l.length cap).ownBlock = some k) = (fun k => k = g) := by
        funext k
        simp only [Value.ownBlock, Option.some.injEq, eq_iff_iff]
        exact ⟨fun q => q.symm, fun q => q.symm⟩
      rw [e]
      exact hst⟩
  have c1 : w.drew.cell? ⟨b, o + 1, none⟩ = some (.slice (some ⟨g, 0, none⟩) l.length cap) := (h.has.drew.cell (o + 1)).trans h.c1
  rcases h.row.2 with ⟨hv, _⟩ | ⟨g2, cap2, cur, fz, hv, hbg, hg, hfz, hlc, hcm, hcs, htk⟩
  · cases hv
  · injection hv with e1 e2 e3
    injection e1 with e1
    injection e1 with e1
    subst e1
    subst e3
    have hSD : (Builtin.unsafeSliceData_ #[28] 78 #[.slice (some ⟨g, 0, none⟩) l.length cap]).run Tryz.prog w.drew = .ok (.pointer (some ⟨g, 0, none⟩)) w.drew :=
      Lib.run_unsafeSliceData_row _ _ _ _ _ _ (by omega)
    have hUS : (Builtin.unsafeString_ #[78, 3] 9 #[.pointer (some ⟨g, 0, none⟩), .int .i64 l.length]).run Tryz.prog w.drew = .ok (.string ⟨l.toArray⟩) (w.drew.freeze ⟨g, 0, none⟩ l.length) := by
      refine Lib.run_unsafeString_row w.drew 78 3 9 5 Tryz.underlying78 (by kernel_rfl) g cur.size (by have hg' : w.drew.heap[g]? = some (.cells cur 5 fz) := hg; simp [World.shape?, hg']) l h0 (by omega) (by unfold maxLen at hcm; omega) ?_
      intro j x hx
      exact World.ownsRowF.cells h.row (g := g) rfl j (.int .u8 x.toNat) (by simp [Lib.byteCells, hx])
    clear hg hcs htk hlc hcm h hst hfz h0 hp
    go_enter Tryz.func31, Tryz.ntmps31
    go_wp2_with fail
    go_region
    all_goals
      go_wp2_with fail
      go_ret
      exact ⟨rfl, HK.out⟩
theorem text_nil {w : World} {b o n : Nat} {T : TypeId} {cs : Array Value} {p : Value} (_hp : Spot T o n) (h : Emb w b o T cs p (.slice none 0 0) []) :
    Calls Tryz.prog 31 #[.pointer (some ⟨b, o, none⟩)] w fun e w' => e = .returned (.string (ofL [])) ∧ Kept1 w w' b o T cs p (.slice none 0 0) [] := by
  have hUS : ∀ W q, (Builtin.unsafeString_ #[78, 3] 9 #[.pointer q, .int .i64 0]).run Tryz.prog W = .ok (.string .empty) W := fun W q => Lib.run_unsafeString_none W _ _ _ q
  have c1 : w.drew.cell? ⟨b, o + 1, none⟩ = some (.slice none 0 0) := (h.has.drew.cell (o + 1)).trans h.c1
  have hSD : (Builtin.unsafeSliceData_ #[28] 78 #[.slice none 0 0]).run Tryz.prog w.drew = .ok (.pointer none) w.drew := rfl
  have HK : Hid (Kept1 w w.drew b o T cs p (.slice none 0 0) []) := Lib.hid ⟨h.step (Step.drew w (fun _ => False)) id (fun _ _ => id), Step.drew w _⟩
  clear h
  go_enter Tryz.func31, Tryz.ntmps31
  go_wp2_with fail
  go_region
  all_goals
    go_wp2_with fail
    go_ret
    exact ⟨rfl, HK.out⟩
theorem text_room {w : World} {b o n g cap : Nat} {T : TypeId} {cs : Array Value} {p : Value} (_hp : Spot T o n) (hc : cap ≠ 0) (h : Emb w b o T cs p (.slice (some ⟨g, 0, none⟩) 0 cap) []) :
    Calls Tryz.prog 31 #[.pointer (some ⟨b, o, none⟩)] w fun e w' => e = .returned (.string (ofL [])) ∧ Kept1 w w' b o T cs p (.slice (some ⟨g, 0, none⟩) 0 cap) [] := by
  have hUS : ∀ W q, (Builtin.unsafeString_ #[78, 3] 9 #[.pointer q, .int .i64 0]).run Tryz.prog W = .ok (.string .empty) W := fun W q => Lib.run_unsafeString_none W _ _ _ q
  have c1 : w.drew.cell? ⟨b, o + 1, none⟩ = some (.slice (some ⟨g, 0, none⟩) 0 cap) := (h.has.drew.cell (o + 1)).trans h.c1
  have hSD : (Builtin.unsafeSliceData_ #[28] 78 #[.slice (some ⟨g, 0, none⟩) 0 cap]).run Tryz.prog w.drew = .ok (.pointer (some ⟨g, 0, none⟩)) w.drew :=
    Lib.run_unsafeSliceData_row _ _ _ _ _ _ hc
  have HK : Hid (Kept1 w w.drew b o T cs p (.slice (some ⟨g, 0, none⟩) 0 cap) []) := Lib.hid ⟨h.step (Step.drew w (fun _ => False)) id (fun _ _ => id), Step.drew w _⟩
  clear h hc
  go_enter Tryz.func31, Tryz.ntmps31
  go_wp2_with fail
  go_region
  all_goals
    go_wp2_with fail
    go_ret
    exact ⟨rfl, HK.out⟩
theorem text_noroom {w : World} {b o n g : Nat} {T : TypeId} {cs : Array Value} {p : Value} (_hp : Spot T o n) (h : Emb w b o T cs p (.slice (some ⟨g, 0, none⟩) 0 0) []) :
    Calls Tryz.prog 31 #[.pointer (some ⟨b, o, none⟩)] w fun e w' => e = .returned (.string (ofL [])) ∧ Kept1 w w' b o T cs p (.slice (some ⟨g, 0, none⟩) 0 0) [] := by
  have hUS : ∀ W q, (Builtin.unsafeString_ #[78, 3] 9 #[.pointer q, .int .i64 0]).run Tryz.prog W = .ok (.string .empty) W := fun W q => Lib.run_unsafeString_none W _ _ _ q
  have c0 : w.cell? ⟨b, o + 1, none⟩ = some (.slice (some ⟨g, 0, none⟩) 0 0) := (h.has.cell (o + 1)).trans h.c1
  have c1 : w.drew.cell? ⟨b, o + 1, none⟩ = some (.slice (some ⟨g, 0, none⟩) 0 0) := c0
  have c3 : (w.alloc (.view ⟨g, 0, none⟩ 5)).drew.cell? ⟨b, o + 1, none⟩ = some (.slice (some ⟨g, 0, none⟩) 0 0) := ((h.has.alloc _).drew.cell (o + 1)).trans h.c1
  have c2 : (w.drew.alloc (.view ⟨g, 0, none⟩ 5)).cell? ⟨b, o + 1, none⟩ = some (.slice (some ⟨g, 0, none⟩) 0 0) := c3
  obtain ⟨cur, fz, hg⟩ : ∃ cur fz, w.drew.heap[g]? = some (.cells cur 5 fz) := by
    rcases h.row.2 with ⟨hv, _⟩ | ⟨g2, cap2, cur, fz, hv, _, hg, _⟩
    · cases hv
    · injection hv with e1
      injection e1 with e1
      injection e1 with e1
      subst e1
      exact ⟨cur, fz, hg⟩
  have hSD : (Builtin.unsafeSliceData_ #[28] 78 #[.slice (some ⟨g, 0, none⟩) 0 0]).run Tryz.prog w.drew = .ok (.pointer (some ⟨w.drew.heap.size, 0, none⟩)) (w.drew.alloc (.view ⟨g, 0, none⟩ 5)) :=
    Lib.run_unsafeSliceData_zero w.drew _ _ 5 Tryz.underlying78 ⟨g, 0, none⟩ 0 (5, cur.size) (by simp [World.shape?, hg])
  have HK : Hid (Kept1 w (w.drew.alloc (.view ⟨g, 0, none⟩ 5)) b o T cs p (.slice (some ⟨g, 0, none⟩) 0 0) []) := Lib.hid
    ⟨h.step ((Step.drew w (fun _ => False)).trans (Step.alloc _ _ _)) id (fun _ _ => id), (Step.drew w _).trans (Step.alloc _ _ _)⟩
  clear h hg
  go_enter Tryz.func31, Tryz.ntmps31
  go_wp2_with fail
  go_region
  all_goals
    go_wp2_with fail
    go_ret
    exact ⟨rfl, HK.out⟩
theorem emb_text {w : World} {b o n : Nat} {T : TypeId} {cs : Array Value} {p v : Value} {l : List UInt8} (hp : Spot T o n) (h : Emb w b o T cs p v l) :
    Calls Tryz.prog 31 #[.pointer (some ⟨b, o, none⟩)] w fun e w' => e = .returned (.string (ofL l)) ∧ Kept1 w w' b o T cs p v l := by
  have h' := h
  rcases h.row.2 with ⟨rfl, h0⟩ | ⟨g, cap, cur, fz, rfl, _⟩
  · obtain rfl := List.length_eq_zero_iff.1 h0
    exact text_nil hp h'
  · by_cases h0 : l = []
    · subst h0
      by_cases hc : cap = 0
      · subst hc
        exact text_noroom hp h'
      · exact text_room hp hc h'
    · exact text_row hp h0 h'
set_option maxHeartbeats 2000000 in
theorem emb_reset {w : World} {b o n : Nat} {T : TypeId} {cs : Array Value} {p v : Value} {l : List UInt8} (hp : Spot T o n) (hn : cs.size = n) (h : Emb w b o T cs p v l) :
    Calls Tryz.prog 32 #[.pointer (some ⟨b, o, none⟩)] w fun e w' => e = .returned (.tuple #[]) ∧ Emb w' b o T ((cs.setIfInBounds o (.pointer none)).setIfInBounds (o + 1) (.slice none 0 0)) (.pointer none) (.slice none 0 0) [] ∧ Step w w' (fun k => k = b) (fun k => k = b) := by
  have c0 := (h.has.cell o).trans h.c0
  have c1 := (h.has.cell (o + 1)).trans h.c1
  have z0 := h.has.free o
  have z1 := h.has.free (o + 1)
  have hr := hp.room
  obtain ⟨pp, cap, rfl⟩ := h.row.form
  have HQ : Hid (Emb ((w.setCell ⟨b, o, none⟩ (.pointer none)).setCell ⟨b, o + 1, none⟩ (.slice none 0 0)) b o T ((cs.setIfInBounds o (.pointer none)).setIfInBounds (o + 1) (.slice none 0 0)) (.pointer none) (.slice none 0 0) [] ∧ Step w ((w.setCell ⟨b, o, none⟩ (.pointer none)).setCell ⟨b, o + 1, none⟩ (.slice none 0 0)) (fun k => k = b) (fun k => k = b)) := Lib.hid
    ⟨⟨(h.has.set_ o _).set_ (o + 1) _, by rw [Array.getElem?_setIfInBounds_ne (by omega), Array.getElem?_setIfInBounds_self_of_lt (by omega)], by rw [Array.getElem?_setIfInBounds_self_of_lt (by rw [Array.size_setIfInBounds]; omega)], .inl rfl, RowB.nil _⟩, (Step.set_ (F := fun k => k = b) w rfl o _).trans (Step.set_ (F := fun k => k = b) _ rfl (o + 1) _)⟩
  have me := h.me
  clear h hp hn
  rcases me with rfl | rfl
  · go_enter Tryz.func32, Tryz.ntmps32
    go_wp2_with fail
    go_end0
    exact ⟨rfl, HQ.out⟩
  · unfold selfP at c0
    go_enter Tryz.func32, Tryz.ntmps32
    go_wp2_with fail
    go_end0
    exact ⟨rfl, HQ.out⟩
end Go.Proofs.YtggmafmebocoaaaGreatDoor.InEmb

/- Layer 9: how a body is framed, over lists of fields. No program is named. -/
namespace Go.Proofs.YtggmafmebocoaaaGreatDoor.FramePure
open Bytes LexPure LexNum FieldsPure
set_option maxRecDepth 20000
def CLEN : List UInt8 := [99, 111, 110, 116, 101, 110, 116, 45, 108, 101, 110, 103, 116, 104]
def TENC : List UInt8 := [116, 114, 97, 110, 115, 102, 101, 114, 45, 101, 110, 99, 111, 100, 105, 110, 103]
def CHUNKED : List UInt8 := [99, 104, 117, 110, 107, 101, 100]
def CLOSE : List UInt8 := [99, 108, 111, 115, 101]
def KEEPA : List UInt8 := [107, 101, 101, 112, 45, 97, 108, 105, 118, 101]
/-- the lengths: the pieces between commas of the values of the length's fields, empty ones too -/
def lens (G : List HField) : List (List UInt8) := (G.filter (hit CLEN)).flatMap (fun f => (pieces f.2).map trim)
/-- one more length: what is told so far (-1: none yet), and the new one; none: they aren't right -/
def lenStep (n : Int) (p : List UInt8) : Option Int := if numOk 10 15 p = true ∧ (n < 0 ∨ numR 10 15 p = n) then some (numR 10 15 p) else none
def lenFrom : Int → List (List UInt8) → Int
  | n, [] => n
  | n, p :: l => match lenStep n p with
    | none => -1
    | some m => lenFrom m l
def lenN (G : List HField) : Int := lenFrom (-1) (lens G)
theorem numR_pos (base : Nat) (d : Int) (p : List UInt8) : 0 ≤ numR base d p := by
  unfold numR
  split
  · omega
  · exact Int.le_refl 0
/-- where a number is told, each length is right and is that number -/
theorem len_all : ∀ (l : List (List UInt8)) (n : Int), 0 ≤ lenFrom n l → (∀ p ∈ l, numOk 10 15 p = true ∧ numR 10 15 p = lenFrom n l) ∧ (0 ≤ n → lenFrom n l = n)
  | [], n, _ => ⟨fun p hp => (by cases hp), fun _ => rfl⟩
  | p :: l, n, h => by
    unfold lenFrom at h ⊢
    unfold lenStep at h ⊢
    by_cases hc : numOk 10 15 p = true ∧ (n < 0 ∨ numR 10 15 p = n)
    · rw [if_pos hc] at h ⊢
      simp only at h ⊢
      obtain ⟨h1, h2⟩ := len_all l _ h
      have h3 := h2 (numR_pos 10 15 p)
      refine ⟨fun q hq => ?_, fun hn => ?_⟩
      · rcases List.mem_cons.1 hq with rfl | hq
        · exact ⟨hc.1, h3.symm⟩
        · exact h1 q hq
      · rw [h3]
        rcases hc.2 with h | h
        · omega
        · exact h
    · rw [if_neg hc] at h
      simp at h
theorem len_least : ∀ (l : List (List UInt8)) (n : Int), -1 ≤ n → -1 ≤ lenFrom n l
  | [], n, h => h
  | p :: l, n, h => by
    unfold lenFrom lenStep
    by_cases hc : numOk 10 15 p = true ∧ (n < 0 ∨ numR 10 15 p = n)
    · rw [if_pos hc]
      exact len_least l _ (by have := numR_pos 10 15 p; omega)
    · rw [if_neg hc]
      exact Int.le_refl _
/-- 1: just chunked; 2: others, then chunked once; 3: anything else -/
def codeN (l : List (List UInt8)) : Nat :=
  match l.reverse with
  | [] => 3
  | x :: r => if lower x = CHUNKED ∧ r.all (fun y => !(lower y == CHUNKED)) = true then (if r = [] then 1 else 2) else 3
def request9 (minor : Int) (G : List HField) (most : Int) : Int × Int × Int :=
  if 0 < getN G TENC then
    (if minor = 0 ∨ 0 < getN G CLEN ∨ codeN (elems G TENC) = 3 then (0, 0, 90)
     else if codeN (elems G TENC) = 2 then (0, 0, 91) else (3, 0, 0))
  else if getN G CLEN = 0 then (1, 0, 0)
  else if lenN G < 0 then (0, 0, 90)
  else if most < lenN G then (0, 0, 101) else (2, lenN G, 0)
def response9 (method : List UInt8) (status minor : Int) (G : List HField) : Int × Int × Int :=
  if status = 101 then (5, 0, 0)
  else if (100 ≤ status ∧ status < 200) ∨ status = 204 ∨ status = 304 then (1, 0, 0)
  else if method = [67, 79, 78, 78, 69, 67, 84] ∧ 200 ≤ status ∧ status < 300 then (5, 0, 0)
  else if method = [72, 69, 65, 68] then (1, 0, 0)
  else if 0 < getN G TENC then
    (if minor = 0 ∨ 0 < getN G CLEN then (0, 0, 90) else if codeN (elems G TENC) = 1 then (3, 0, 0) else (0, 0, 91))
  else if getN G CLEN = 0 then (4, 0, 0)
  else if lenN G < 0 then (0, 0, 90) else (2, lenN G, 0)
def keep9 (minor : Int) (G : List HField) : Bool := !hasE G CONNECTION CLOSE && (minor != 0 || hasE G CONNECTION KEEPA)
theorem code_one (l : List (List UInt8)) : codeN l = 1 ↔ ∃ x, l = [x] ∧ lower x = CHUNKED := by
  unfold codeN
  constructor
  · intro h
    cases hr : l.reverse with
    | nil => rw [hr] at h; simp at h
    | cons x r =>
      rw [hr] at h
      simp only at h
      split at h
      · rename_i hc
        split at h
        · rename_i h0
          subst h0
          exact ⟨x, by rw [← List.reverse_reverse l, hr]; rfl, hc.1⟩
        · cases h
      · cases h
  · rintro ⟨x, rfl, hx⟩
    simp [hx]
theorem code_three (l : List (List UInt8)) : codeN l = 1 ∨ codeN l = 2 ∨ codeN l = 3 := by
  unfold codeN
  split
  · exact .inr (.inr rfl)
  · split
    · split
      · exact .inl rfl
      · exact .inr (.inl rfl)
    · exact .inr (.inr rfl)
theorem elements_sub {v p : List UInt8} (h : p ∈ elements v) : p ∈ (pieces v).map trim := by
  unfold elements at h
  exact (List.mem_filter.1 h).1
theorem lens_cons (f : HField) (G : List HField) : lens (f :: G) = if hit CLEN f then (pieces f.2).map trim ++ lens G else lens G := by
  unfold lens
  rw [List.filter_cons]
  split
  · rw [List.flatMap_cons]
  · rfl
theorem lens_mem {G : List HField} {f : HField} {p : List UInt8} (hf : f ∈ G) (hh : hit CLEN f = true) (hp : p ∈ (pieces f.2).map trim) : p ∈ lens G :=
  List.mem_flatMap.2 ⟨f, List.mem_filter.2 ⟨hf, hh⟩, hp⟩
/-! ### small letters -/
def lowF (f : HField) : HField := (lower f.1, lower f.2)
theorem hit_low (n : List UInt8) (f : HField) : hit n (lowF f) = hit n f := by unfold hit lowF; exact alike_lower_left _ _
theorem getN_low (G : List HField) (n : List UInt8) : getN (G.map lowF) n = getN G n := by
  unfold getN
  rw [List.countP_map]
  congr 1
  funext f
  exact hit_low n f
theorem filter_low (G : List HField) (n : List UInt8) : (G.map lowF).filter (hit n) = (G.filter (hit n)).map lowF := by
  rw [List.filter_map]
  congr 2
  funext f
  exact hit_low n f
theorem pieces_low : ∀ s : List UInt8, pieces (lower s) = (pieces s).map lower
  | [] => rfl
  | c :: s => by
    unfold lower
    rw [List.map_cons]
    have ih := pieces_low s
    unfold lower at ih
    unfold pieces
    rw [small_comma, ih]
    by_cases h : (c == 44) = true
    · rw [if_pos h, if_pos h]
      rfl
    · rw [if_neg h, if_neg h]
      cases pieces s with
      | nil => rfl
      | cons p ps => rfl
theorem drop_low (s : List UInt8) : (s.map small).dropWhile blankB = (s.dropWhile blankB).map small := by
  induction s with
  | nil => rfl
  | cons c s ih =>
    rw [List.map_cons, List.dropWhile_cons, List.dropWhile_cons, small_blank]
    split
    · exact ih
    · rfl
theorem trim_low (s : List UInt8) : trim (lower s) = lower (trim s) := by
  unfold trim lower
  rw [drop_low, ← List.map_reverse, drop_low, ← List.map_reverse]
theorem elements_low (s : List UInt8) : elements (lower s) = (elements s).map lower := by
  unfold elements
  rw [pieces_low, List.map_map, List.filter_map, List.filter_map, List.map_map]
  have e : trim ∘ lower = lower ∘ trim := by funext x; exact trim_low x
  have e2 : ((fun e : List UInt8 => !e.isEmpty) ∘ trim ∘ lower) = ((fun e : List UInt8 => !e.isEmpty) ∘ trim) := by
    rw [e]
    funext x
    show (!(lower (trim x)).isEmpty) = !(trim x).isEmpty
    unfold lower
    rw [List.isEmpty_map]
  rw [e2, e]
theorem elems_low (G : List HField) (n : List UInt8) : elems (G.map lowF) n = (elems G n).map lower := by
  unfold elems
  rw [filter_low, List.flatMap_map, List.map_flatMap]
  congr 1
  funext f
  exact elements_low f.2
theorem dig_small (c : UInt8) : decide (dig (small c) < 10) = decide (dig c < 10) ∧ (dig c < 10 → dig (small c) = dig c) := by
  have := all_bytes (p := fun c => decide (decide (dig (small c) < 10) = decide (dig c < 10) ∧ (dig c < 10 → dig (small c) = dig c))) (by decide +kernel) c
  exact of_decide_eq_true this
theorem ok_low (d : Int) (p : List UInt8) : numOk 10 d (lower p) = numOk 10 d p := by
  unfold numOk lower
  rw [List.all_map, List.length_map]
  congr 1
  · cases p <;> rfl
  · congr 1
    funext c
    exact (dig_small c).1
theorem fold_low : ∀ (p : List UInt8) (n : Nat), p.all (fun c => decide (dig c < 10)) = true → (p.map small).foldl (fun n c => 10 * n + dig c) n = p.foldl (fun n c => 10 * n + dig c) n
  | [], n, _ => rfl
  | c :: p, n, h => by
    rw [List.all_cons, Bool.and_eq_true] at h
    rw [List.map_cons, List.foldl_cons, List.foldl_cons, (dig_small c).2 (of_decide_eq_true h.1)]
    exact fold_low p _ h.2
theorem num_low (d : Int) (p : List UInt8) : numR 10 d (lower p) = numR 10 d p := by
  unfold numR
  rw [ok_low]
  by_cases h : numOk 10 d p = true
  · rw [if_pos h, if_pos h]
    unfold numOk at h
    simp only [Bool.and_eq_true] at h
    unfold numV lower
    rw [fold_low p 0 h.2]
  · rw [if_neg h, if_neg h]
theorem lenFrom_low : ∀ (l : List (List UInt8)) (n : Int), lenFrom n (l.map lower) = lenFrom n l
  | [], n => rfl
  | p :: l, n => by
    rw [List.map_cons]
    unfold lenFrom lenStep
    rw [ok_low, num_low]
    by_cases hc : numOk 10 15 p = true ∧ (n < 0 ∨ numR 10 15 p = n)
    · rw [if_pos hc]
      exact lenFrom_low l _
    · rw [if_neg hc]
theorem lens_low (G : List HField) : lens (G.map lowF) = (lens G).map lower := by
  unfold lens
  rw [filter_low, List.flatMap_map, List.map_flatMap]
  congr 1
  funext f
  show (pieces (lower f.2)).map trim = ((pieces f.2).map trim).map lower
  rw [pieces_low, List.map_map, List.map_map]
  congr 1
  funext x
  exact trim_low x
theorem len_low (G : List HField) : lenN (G.map lowF) = lenN G := by
  unfold lenN
  rw [lens_low, lenFrom_low]
theorem code_low (l : List (List UInt8)) : codeN (l.map lower) = codeN l := by
  unfold codeN
  rw [← List.map_reverse]
  cases l.reverse with
  | nil => rfl
  | cons x r =>
    simp only [List.map_cons, lower_lower, List.all_map, Function.comp_def]
    cases r <;> rfl
theorem has_low (G : List HField) (n e : List UInt8) : hasE (G.map lowF) n e = hasE G n e := by
  unfold hasE
  rw [elems_low, List.any_map]
  congr 1
  funext x
  exact alike_lower_left _ _
theorem request_low (minor : Int) (G : List HField) (most : Int) : request9 minor (G.map lowF) most = request9 minor G most := by
  unfold request9
  rw [getN_low, getN_low, elems_low, code_low, len_low]
theorem response_low (m : List UInt8) (status minor : Int) (G : List HField) : response9 m status minor (G.map lowF) = response9 m status minor G := by
  unfold response9
  rw [getN_low, getN_low, elems_low, code_low, len_low]
theorem keep_low (minor : Int) (G : List HField) : keep9 minor (G.map lowF) = keep9 minor G := by
  unfold keep9
  rw [has_low, has_low]
end Go.Proofs.YtggmafmebocoaaaGreatDoor.FramePure

/- Layer 12: a response read piece by piece, over lists of bytes. No program is named. -/
namespace Go.Proofs.YtggmafmebocoaaaGreatDoor.OutPure
open Bytes LexPure LexNum FieldsPure HeadPure FramePure ChunkPure
set_option maxRecDepth 20000
/-! ### the heads -/
def interim (st : Int) : Bool := decide (100 ≤ st) && decide (st < 200) && decide (st ≠ 101)
def heads : Nat → List UInt8 → Res × List UInt8
  | 0, D => (read8 true D, D)
  | k + 1, D => match read8 true D with
    | .done h n => if interim h.status = true then heads k (D.drop n) else (.done h n, D)
    | .wait => (.wait, D)
    | .bad e => (.bad e, D)
def headsOf (D : List UInt8) : Res × List UInt8 := heads D.length D
theorem read_nil : read8 true [] = .wait := rfl
theorem heads_enough : ∀ (n k : Nat) (D : List UInt8), D.length ≤ n → D.length ≤ k → heads k D = heads D.length D := by
  intro n
  induction n with
  | zero =>
    intro k D hn _
    have : D = [] := List.length_eq_zero_iff.1 (by omega)
    subst this
    cases k with
    | zero => rfl
    | succ k =>
      show (match read8 true [] with | .done h n => if interim h.status = true then heads k (([] : List UInt8).drop n) else (.done h n, []) | .wait => (.wait, []) | .bad e => (.bad e, [])) = (read8 true [], [])
      rw [read_nil]
  | succ n ih =>
    intro k D hn hk
    cases D with
    | nil => exact ih k [] (Nat.zero_le _) (Nat.zero_le _)
    | cons c D =>
      cases k with
      | zero => rw [List.length_cons] at hk; omega
      | succ k =>
        rw [List.length_cons]
        unfold heads
        cases hr : read8 true (c :: D) with
        | wait => rfl
        | bad e => rfl
        | done h m =>
          dsimp only
          obtain ⟨h1, h2, _⟩ := read_front true (c :: D) h m hr
          rw [List.length_cons] at hn hk h1
          split
          · have hl : ((c :: D).drop m).length ≤ D.length := by rw [List.length_drop, List.length_cons]; omega
            rw [ih k _ (by omega) (by omega), ih D.length _ (by omega) hl]
          · rfl
theorem heads_step {D : List UInt8} {h : H8} {n : Nat} (hr : read8 true D = .done h n) (hi : interim h.status = true) : headsOf D = headsOf (D.drop n) := by
  obtain ⟨h1, h2, _⟩ := read_front true D h n hr
  unfold headsOf
  cases hD : D.length with
  | zero => omega
  | succ k =>
    conv => lhs; unfold heads
    rw [hr]
    dsimp only
    rw [if_pos hi]
    exact heads_enough D.length k _ (by rw [List.length_drop]; omega) (by rw [List.length_drop]; omega)
theorem heads_wait {D : List UInt8} (hr : read8 true D = .wait) : headsOf D = (.wait, D) := by
  unfold headsOf
  cases D.length with
  | zero => show (read8 true D, D) = _; rw [hr]
  | succ k => unfold heads; rw [hr]
theorem heads_bad {D : List UInt8} {e : Int} (hr : read8 true D = .bad e) : headsOf D = (.bad e, D) := by
  unfold headsOf
  cases D.length with
  | zero => show (read8 true D, D) = _; rw [hr]
  | succ k => unfold heads; rw [hr]
theorem heads_done {D : List UInt8} {h : H8} {n : Nat} (hr : read8 true D = .done h n) (hi : interim h.status = false) : headsOf D = (.done h n, D) := by
  unfold headsOf
  cases D.length with
  | zero => show (read8 true D, D) = _; rw [hr]
  | succ k => unfold heads; rw [hr]; dsimp only; rw [if_neg (by rw [hi]; decide)]
/-- what the heads come to: the last one's reading, and the bytes behind the interim ones -/
theorem heads_is : ∀ (n : Nat) (D : List UInt8), D.length ≤ n → read8 true (headsOf D).2 = (headsOf D).1 ∧ (headsOf D).2.length ≤ D.length ∧ headsOf (headsOf D).2 = headsOf D ∧ ∀ h k, (headsOf D).1 = .done h k → interim h.status = false := by
  intro n
  induction n with
  | zero =>
    intro D hn
    have : D = [] := List.length_eq_zero_iff.1 (by omega)
    subst this
    rw [heads_wait read_nil]
    exact ⟨read_nil, Nat.le_refl _, heads_wait read_nil, fun h k x => by cases x⟩
  | succ n ih =>
    intro D hn
    cases hr : read8 true D with
    | wait => rw [heads_wait hr]; exact ⟨hr, Nat.le_refl _, heads_wait hr, fun h k x => by cases x⟩
    | bad e => rw [heads_bad hr]; exact ⟨hr, Nat.le_refl _, heads_bad hr, fun h k x => by cases x⟩
    | done h m =>
      cases hi : interim h.status with
      | false =>
        rw [heads_done hr hi]
        exact ⟨hr, Nat.le_refl _, heads_done hr hi, fun h' k x => by injection x with x1 _; rw [← x1]; exact hi⟩
      | true =>
        obtain ⟨h1, h2, _⟩ := read_front true D h m hr
        rw [heads_step hr hi]
        have := ih (D.drop m) (by rw [List.length_drop]; omega)
        exact ⟨this.1, Nat.le_trans this.2.1 (by rw [List.length_drop]; omega), this.2.2⟩
theorem heads_append (x : List UInt8) : ∀ (n : Nat) (D : List UInt8), D.length ≤ n → ((headsOf D).1 ≠ .wait → headsOf (D ++ x) = ((headsOf D).1, (headsOf D).2 ++ x)) ∧ ((headsOf D).1 = .wait → headsOf (D ++ x) = headsOf ((headsOf D).2 ++ x)) := by
  intro n
  induction n with
  | zero =>
    intro D hn
    have : D = [] := List.length_eq_zero_iff.1 (by omega)
    subst this
    rw [heads_wait read_nil]
    exact ⟨fun h => absurd rfl h, fun _ => rfl⟩
  | succ n ih =>
    intro D hn
    cases hr : read8 true D with
    | wait => rw [heads_wait hr]; exact ⟨fun h => absurd rfl h, fun _ => rfl⟩
    | bad e =>
      have := read_append true D x (by rw [hr]; exact fun h => by cases h)
      rw [hr] at this
      rw [heads_bad hr, heads_bad this]
      exact ⟨fun _ => rfl, fun h => by cases h⟩
    | done h m =>
      have hx := read_append true D x (by rw [hr]; exact fun h => by cases h)
      rw [hr] at hx
      obtain ⟨h1, h2, _⟩ := read_front true D h m hr
      cases hi : interim h.status with
      | false =>
        rw [heads_done hr hi, heads_done hx hi]
        exact ⟨fun _ => rfl, fun h => by cases h⟩
      | true =>
        rw [heads_step hr hi, heads_step hx hi, List.drop_append_of_le_length h1]
        exact ih (D.drop m) (by rw [List.length_drop]; omega)
/-- an error has a number -/
theorem fields_err (h : H8) : ∀ (m : Nat) (acc : List HField) (a : Nat) (s : List UInt8) (e : Int), fields8 h m acc a s = .bad e → e ≠ 0 := by
  intro m
  induction m with
  | zero =>
    intro acc a s e hb
    unfold fields8 at hb
    cases hs : scan 512 83 0 s with
    | wait => rw [hs] at hb; cases hb
    | bad e' =>
      rw [hs] at hb
      injection hb with hb
      rw [← hb]
      exact scan_bad 512 83 (by decide) s 0 e' hs
    | whole k =>
      rw [hs] at hb
      dsimp only at hb
      split at hb
      · cases hb
      · injection hb with hb
        omega
  | succ m ih =>
    intro acc a s e hb
    unfold fields8 at hb
    cases hs : scan 512 83 0 s with
    | wait => rw [hs] at hb; cases hb
    | bad e' =>
      rw [hs] at hb
      injection hb with hb
      rw [← hb]
      exact scan_bad 512 83 (by decide) s 0 e' hs
    | whole k =>
      rw [hs] at hb
      dsimp only at hb
      split at hb
      · cases hb
      · split at hb
        · exact ih _ _ _ _ hb
        · injection hb with hb
          omega
theorem read_err (r : Bool) (s : List UInt8) (e : Int) (hb : read8 r s = .bad e) : e ≠ 0 := by
  unfold read8 from8 at hb
  split at hb
  · cases hb
  · rename_i e' hs
    injection hb with hb
    rw [← hb]
    exact scan_bad 1100 82 (by decide) _ 0 e' hs
  · rename_i k hs
    dsimp only at hb
    generalize (if r = true then status8 _ else start8 _) = x at hb
    split at hb
    · exact fields_err _ _ _ _ _ _ hb
    · rename_i hx
      injection hb with hb
      rw [← hb]
      exact hx
/-! ### a reader -/
inductive Md where
  | head
  | len (left : Nat)
  | chunks (m : M)
  | all
  | fin
  | nothing
  | bad (e : Int)
structure St where
  md : Md
  data : List UInt8
  gone : Bool
  kind : Int
  kept : Bool
inductive Pc where
  | none
  | head (h : H8)
  | data (d : List UInt8)
  | fin
def st0 : St := ⟨.head, [], false, 0, false⟩
def tell (d : List UInt8) : Pc := if d = [] then .none else .data d
def isN : Pc → Bool
  | .none => true
  | _ => false
def doneM : Md → Bool
  | .nothing => true
  | _ => false
def MT : Int := 1099511627776
def openM (f : Int × Int × Int) : Md := if f.1 = 2 then .len f.2.1.toNat else if f.1 = 3 then .chunks (begin_ MT) else if f.1 = 4 then .all else .fin
def stepO (meth : List UInt8) (s : St) : Pc × Nat × Int × St :=
  match s.md with
  | .head => match headsOf s.data with
    | (.wait, r) => (.none, 0, 0, { s with data := r })
    | (.bad e, r) => (.none, 0, e, { s with data := r })
    | (.done h n, r) => if (response9 meth h.status h.minor h.fields).2.2 = 0 then
        (.head h, n, 0, ⟨openM (response9 meth h.status h.minor h.fields), r, s.gone, (response9 meth h.status h.minor h.fields).1, keep9 h.minor h.fields⟩)
      else (.none, 0, (response9 meth h.status h.minor h.fields).2.2, { s with data := r })
  | .len left => if left = 0 then (.fin, 0, 0, { s with md := .nothing }) else (tell (s.data.take left), (s.data.take left).length, 0, { s with md := .len (left - (s.data.take left).length) })
  | .chunks m => if (ans m s.data).2.2.2 ≠ 0 then (.none, 0, (ans m s.data).2.2.2, { s with md := .chunks (next m s.data) })
      else if (ans m s.data).1 = [] ∧ (ans m s.data).2.2.1 = true then (.fin, (ans m s.data).2.1, 0, { s with md := .nothing })
      else (tell (ans m s.data).1, (ans m s.data).2.1, 0, { s with md := .chunks (next m s.data) })
  | .all => if s.data = [] ∧ s.gone = true then (.fin, 0, 0, { s with md := .nothing }) else (tell s.data, s.data.length, 0, s)
  | .fin => (.fin, 0, 0, { s with md := .nothing })
  | .nothing => (.none, 0, 0, s)
  | .bad e => (.none, 0, e, s)
/-- the error behind a step -/
def errO (r : Pc × Nat × Int × St) : Int := if r.2.2.1 = 0 ∧ isN r.1 = true ∧ r.2.2.2.gone = true ∧ doneM r.2.2.2.md = false then 121 else r.2.2.1
def nextO (meth : List UInt8) (s : St) : Pc × Int × St :=
  if errO (stepO meth s) ≠ 0 then (.none, errO (stepO meth s), { (stepO meth s).2.2.2 with md := .bad (errO (stepO meth s)) })
  else ((stepO meth s).1, 0, { (stepO meth s).2.2.2 with data := (stepO meth s).2.2.2.data.drop (stepO meth s).2.1 })
def feedO (s : St) (x : List UInt8) : St := if s.gone = true then s else { s with data := s.data ++ x }
def endO (s : St) : St := { s with gone := true }
/-- how many pieces it can tell at most before it has none -/
def rank (s : St) : Nat :=
  match s.md with
  | .head => 3
  | .len left => if s.data ≠ [] ∧ left ≠ 0 then 2 else 1
  | .chunks m => if s.data ≠ [] ∧ stop m = false then 2 else 1
  | .all => if s.data ≠ [] then 2 else 1
  | .fin => 1
  | .nothing => 0
  | .bad _ => 0
theorem tell_none {d : List UInt8} : isN (tell d) = true ↔ d = [] := by
  unfold tell
  split <;> simp_all [isN]
/-- where it tells anything there is no error -/
theorem next_some {meth : List UInt8} {s : St} (h : isN (nextO meth s).1 = false) : errO (stepO meth s) = 0 ∧ (stepO meth s).2.2.1 = 0 ∧ isN (stepO meth s).1 = false ∧ nextO meth s = ((stepO meth s).1, 0, { (stepO meth s).2.2.2 with data := (stepO meth s).2.2.2.data.drop (stepO meth s).2.1 }) := by
  unfold nextO at h ⊢
  by_cases he : errO (stepO meth s) ≠ 0
  · rw [if_pos he] at h
    cases h
  · rw [if_neg he] at h ⊢
    have he' : errO (stepO meth s) = 0 := by omega
    refine ⟨he', ?_, h, rfl⟩
    unfold errO at he'
    split at he'
    · omega
    · exact he'
theorem rank_two (s : St) (h : s.md ≠ .head) : rank s < 3 := by
  unfold rank
  split
  · rename_i hm; exact absurd hm h
  all_goals (repeat' split) <;> omega
theorem open_head (f : Int × Int × Int) : openM f ≠ .head := by
  unfold openM
  (repeat' split) <;> exact fun h => by cases h
theorem rank_open (f : Int × Int × Int) (s : St) (h : s.md = openM f) : rank s < 3 := rank_two s (by rw [h]; exact open_head f)
theorem rank_le (s : St) : rank s ≤ 3 := by
  unfold rank
  split
  · omega
  · split <;> omega
  · split <;> omega
  · split <;> omega
  · omega
  · omega
  · omega
theorem rank_next {meth : List UInt8} {s : St} (h : isN (nextO meth s).1 = false) : rank (nextO meth s).2.2 < rank s := by
  obtain ⟨_, he, hp, hn⟩ := next_some h
  rw [hn]
  clear hn h
  dsimp only
  obtain ⟨md, data, gone, kind, kept⟩ := s
  cases md with
  | head =>
    unfold stepO at he hp ⊢
    dsimp only at he hp ⊢
    split at hp
    · cases hp
    · cases hp
    · rename_i h n r hh
      split at hp
      · rename_i hf
        simp only [if_pos hf]
        exact rank_open (response9 meth h.status h.minor h.fields) _ rfl
      · cases hp
  | len left =>
    unfold stepO at he hp ⊢
    dsimp only at he hp ⊢
    by_cases h0 : left = 0
    · rw [if_pos h0]
      dsimp only [rank]
      rw [if_neg (fun x => x.2 h0)]
      omega
    · rw [if_neg h0] at hp ⊢
      dsimp only at hp ⊢
      have hd : data ≠ [] := fun e => by
        rw [e, List.take_nil] at hp
        cases hp
      have hq : data ≠ [] ∧ left ≠ 0 := ⟨hd, h0⟩
      dsimp only [rank]
      rw [if_pos hq, if_neg]
      · omega
      · rw [List.length_take]
        rintro ⟨h1, h2⟩
        rcases Nat.le_total left data.length with hl | hl
        · rw [Nat.min_eq_left hl] at h2
          omega
        · rw [Nat.min_eq_right hl] at h1
          exact h1 (List.drop_length)
  | chunks m =>
    unfold stepO at he hp ⊢
    dsimp only at he hp ⊢
    by_cases h0 : (ans m data).2.2.2 ≠ 0
    · rw [if_pos h0] at hp
      cases hp
    · rw [if_neg h0] at hp ⊢
      by_cases h1 : (ans m data).1 = [] ∧ (ans m data).2.2.1 = true
      · rw [if_pos h1]
        dsimp only [rank]
        split <;> omega
      · rw [if_neg h1] at hp ⊢
        dsimp only at hp ⊢
        have ha : (ans m data).1 ≠ [] := fun e => by
          rw [tell_none.2 e] at hp
          cases hp
        have hd : data ≠ [] ∧ stop m = false := by
          refine ⟨fun e => ?_, ?_⟩
          · have := (ans_used m data)
            rw [e] at this
            have h3 : (ans m []).1.length = 0 := by simp only [List.length_nil] at this; omega
            rw [e] at ha
            exact ha (List.length_eq_zero_iff.1 h3)
          · cases hs : stop m with
            | false => rfl
            | true =>
              exfalso
              apply ha
              unfold ans
              rw [run_stop hs]
              split <;> rfl
        dsimp only [rank]
        rw [if_pos hd, if_neg]
        · omega
        · rintro ⟨h2, h3⟩
          apply h2
          have hu := (run_used m data).2.2 h3
          have : (ans m data).2.1 = (run m data).2.2 := by
            unfold ans
            unfold next at h3
            cases hp2 : (run m data).1.ph <;> simp_all [stop]
          rw [this, hu]
          exact List.drop_length
  | all =>
    unfold stepO at he hp ⊢
    dsimp only at he hp ⊢
    by_cases h0 : data = [] ∧ gone = true
    · rw [if_pos h0]
      dsimp only [rank]
      split <;> omega
    · rw [if_neg h0] at hp ⊢
      dsimp only at hp ⊢
      have hd : data ≠ [] := fun e => by
        rw [tell_none.2 e] at hp
        cases hp
      dsimp only [rank]
      rw [if_pos hd, if_neg]
      · omega
      · rw [List.drop_length]
        exact fun x => x rfl
  | fin =>
    unfold stepO
    dsimp only [rank]
    omega
  | nothing => unfold stepO at hp; cases hp
  | bad e => unfold stepO at hp; cases hp
/-! ### till it has no more -/
/-- the state, the status, the body and the error behind it -/
abbrev Sum := St × Int × List UInt8 × Int
def drainO (meth : List UInt8) : Nat → St → Int → List UInt8 → Sum
  | 0, s, c, b => (s, c, b, 0)
  | k + 1, s, c, b => match nextO meth s with
    | (.none, e, s') => (s', c, b, e)
    | (.head h, _, s') => drainO meth k s' h.status b
    | (.data d, _, s') => drainO meth k s' c (b ++ d)
    | (.fin, _, s') => drainO meth k s' c b
def drain (meth : List UInt8) (s : St) (c : Int) (b : List UInt8) : Sum := drainO meth 4 s c b
def turn (meth : List UInt8) (q : Sum) (x : List UInt8) : Sum := drain meth (feedO q.1 x) q.2.1 q.2.2.1
def sum0 : Sum := (st0, 0, [], 0)
def fed (meth : List UInt8) (P : List (List UInt8)) : Sum := P.foldl (turn meth) sum0
def told (meth : List UInt8) (P : List (List UInt8)) (fin : Bool) : Sum := drain meth (if fin = true then endO (fed meth P).1 else (fed meth P).1) (fed meth P).2.1 (fed meth P).2.2.1
/-- bytes that are not used, and the bytes of a piece -/
def bulkP : Pc → Nat
  | .data d => d.length
  | _ => 0
theorem heads_len (D : List UInt8) : (headsOf D).2.length ≤ D.length := (heads_is D.length D (Nat.le_refl _)).2.1
theorem step_bulk (meth : List UInt8) (s : St) : (stepO meth s).2.2.2.data.length ≤ s.data.length ∧ bulkP (stepO meth s).1 ≤ (stepO meth s).2.1 ∧ (stepO meth s).2.1 ≤ (stepO meth s).2.2.2.data.length := by
  obtain ⟨md, data, gone, kind, kept⟩ := s
  have hh := heads_len data
  cases md with
  | head =>
    unfold stepO
    dsimp only
    split
    · rename_i r hr; rw [hr] at hh; exact ⟨hh, Nat.le_refl _, Nat.zero_le _⟩
    · rename_i r hr; rw [hr] at hh; exact ⟨hh, Nat.le_refl _, Nat.zero_le _⟩
    · rename_i h n r hr
      have h1 := (heads_is data.length data (Nat.le_refl _)).1
      rw [hr] at hh h1
      have h2 := (read_front true _ _ _ h1).1
      split
      · exact ⟨hh, Nat.zero_le _, h2⟩
      · exact ⟨hh, Nat.zero_le _, Nat.zero_le _⟩
  | len left =>
    unfold stepO
    dsimp only
    split
    · exact ⟨Nat.le_refl _, Nat.zero_le _, Nat.zero_le _⟩
    · refine ⟨Nat.le_refl _, ?_, by rw [List.length_take]; exact Nat.min_le_right _ _⟩
      unfold tell
      split
      · exact Nat.zero_le _
      · exact Nat.le_refl _
  | chunks m =>
    unfold stepO
    dsimp only
    have hu := ans_used m data
    split
    · exact ⟨Nat.le_refl _, Nat.zero_le _, Nat.zero_le _⟩
    · split
      · exact ⟨Nat.le_refl _, Nat.zero_le _, hu.1⟩
      · refine ⟨Nat.le_refl _, ?_, hu.1⟩
        unfold tell
        split
        · exact Nat.zero_le _
        · exact hu.2.1
  | all =>
    unfold stepO
    dsimp only
    split
    · exact ⟨Nat.le_refl _, Nat.zero_le _, Nat.zero_le _⟩
    · refine ⟨Nat.le_refl _, ?_, Nat.le_refl _⟩
      unfold tell
      split
      · exact Nat.zero_le _
      · exact Nat.le_refl _
  | fin => exact ⟨Nat.le_refl _, Nat.zero_le _, Nat.zero_le _⟩
  | nothing => exact ⟨Nat.le_refl _, Nat.zero_le _, Nat.zero_le _⟩
  | bad e => exact ⟨Nat.le_refl _, Nat.zero_le _, Nat.zero_le _⟩
theorem next_bulk (meth : List UInt8) (s : St) : bulkP (nextO meth s).1 + (nextO meth s).2.2.data.length ≤ s.data.length := by
  obtain ⟨h1, h2, h3⟩ := step_bulk meth s
  unfold nextO
  split
  · show 0 + (stepO meth s).2.2.2.data.length ≤ _
    omega
  · show bulkP (stepO meth s).1 + ((stepO meth s).2.2.2.data.drop (stepO meth s).2.1).length ≤ _
    rw [List.length_drop]
    omega
theorem drain_bulk (meth : List UInt8) : ∀ (k : Nat) (s : St) (c : Int) (b : List UInt8), (drainO meth k s c b).2.2.1.length + (drainO meth k s c b).1.data.length ≤ b.length + s.data.length := by
  intro k
  induction k with
  | zero => intro s c b; exact Nat.le_refl _
  | succ k ih =>
    intro s c b
    have h := next_bulk meth s
    unfold drainO
    split
    · rename_i e s' hn
      rw [hn] at h
      dsimp only [bulkP] at h ⊢
      omega
    · rename_i hd e s' hn
      rw [hn] at h
      have := ih s' hd.status b
      dsimp only [bulkP] at h
      omega
    · rename_i d e s' hn
      rw [hn] at h
      have := ih s' c (b ++ d)
      rw [List.length_append] at this
      dsimp only [bulkP] at h
      omega
    · rename_i e s' hn
      rw [hn] at h
      have := ih s' c b
      dsimp only [bulkP] at h
      omega
theorem tell_some {d x : List UInt8} (h : tell d = .data x) : x ≠ [] := by
  unfold tell at h
  split at h
  · cases h
  · rename_i hd; injection h with h; rw [← h]; exact hd
theorem step_data {meth : List UInt8} {s : St} {d : List UInt8} (h : (stepO meth s).1 = .data d) : d ≠ [] := by
  unfold stepO at h
  split at h
  · split at h
    · cases h
    · cases h
    · split at h <;> cases h
  · split at h
    · cases h
    · exact tell_some h
  · split at h
    · cases h
    · split at h
      · cases h
      · exact tell_some h
  · split at h
    · cases h
    · exact tell_some h
  · cases h
  · cases h
  · cases h
theorem data_some {meth : List UInt8} {s : St} (_h : isN (nextO meth s).1 = false) : ∀ d, (nextO meth s).1 = .data d → d ≠ [] := fun d hd => by
  unfold nextO at hd
  split at hd
  · cases hd
  · exact step_data hd
end Go.Proofs.YtggmafmebocoaaaGreatDoor.OutPure

/- Layer 7: lists of fields, how they lie in memory. -/
namespace Go.Proofs.YtggmafmebocoaaaGreatDoor.Flds
open Go.ChangeShapes Go.WideShapes Go.ChangeAt Go.RowKit LexPure Bytes Ret Rows1 FieldsPure Mem
set_option maxRecDepth 20000
def encF (f : HField) : List Value := [.string (ofL f.1), .string (ofL f.2)]
def encFs (l : List HField) : List Value := l.flatMap encF
theorem encFs_append (a b : List HField) : encFs (a ++ b) = encFs a ++ encFs b := by simp [encFs]
theorem encFs_at : ∀ (l : List HField) (j : Nat) (f : HField), l[j]? = some f → (encFs l)[j * 2]? = some (.string (ofL f.1)) ∧ (encFs l)[j * 2 + 1]? = some (.string (ofL f.2))
  | [], j, f, h => by simp at h
  | x :: l, 0, f, h => by
    have e : x = f := by simpa using h
    subst e
    simp [encFs, encF]
  | x :: l, j + 1, f, h => by
    have ih := encFs_at l j f (by simpa using h)
    have e1 : (j + 1) * 2 = j * 2 + 2 := by omega
    rw [e1]
    simpa [encFs, encF] using ih
/-- every name and value has so many bytes at most -/
def Few (G : List HField) : Prop := ∀ (j : Nat) (h : j < G.length), G[j].1.length ≤ 1048576 ∧ G[j].2.length ≤ 1048576
/-- every name and value lies within reach -/
def Far (G : List HField) : Prop := ∀ (j : Nat) (h : j < G.length), G[j].1.length ≤ 140737488351232 ∧ G[j].2.length ≤ 140737488351232
theorem Few.far {G : List HField} (h : Few G) : Far G := fun j hj => by have := h j hj; omega
theorem infoF : (Tryz.prog.info? 103).map (fun i => (i.zero, i.size, i.bytes)) = some (some (.agg #[.string ByteArray.empty, .string ByteArray.empty]), 2, 32) := by kernel_rfl
/-- a list of fields: how it looks and its cells -/
def FL (w : World) (v : Value) (G : List HField) : Prop := ∃ p cap, v = .slice p G.length cap ∧ G.length ≤ 4398046511104 ∧ (0 < G.length → ∃ g o, p = some ⟨g, o, none⟩ ∧ g < w.heap.size ∧ ∀ j (hj : j < G.length), w.cell? ⟨g, o + j * 2, none⟩ = some (.string (ofL G[j].1)) ∧ w.cell? ⟨g, o + j * 2 + 1, none⟩ = some (.string (ofL G[j].2)))
theorem FL.below {w w' : World} {v : Value} {G : List HField} (h : FL w v G) (hb : Below w.heap.size w w') : FL w' v G := by
  obtain ⟨p, cap, hv, hn, hc⟩ := h
  refine ⟨p, cap, hv, hn, fun h0 => ?_⟩
  obtain ⟨g, o, hp, hlt, hcell⟩ := hc h0
  exact ⟨g, o, hp, Nat.lt_of_lt_of_le hlt hb.size, fun j hj => ⟨(hb.cell (p := ⟨g, o + j * 2, none⟩) hlt).trans (hcell j hj).1, (hb.cell (p := ⟨g, o + j * 2 + 1, none⟩) hlt).trans (hcell j hj).2⟩⟩
theorem FL.drewN {w : World} {v : Value} {G : List HField} (h : FL w v G) (m : Nat) : FL (w.drewN m) v G := h
/-- a row of a call's own is a list of fields -/
theorem fl_of {w : World} {base : Nat} {v : Value} {G : List HField} (h : w.ownsRow base 103 2 v G.length (encFs G)) (hle : G.length ≤ 4398046511104) : FL w v G := by
  rcases h.2 with ⟨hv, hn⟩ | ⟨g, cap, cur, hv, hb, hg, hcap, rest⟩
  · exact ⟨none, 0, by rw [hv, hn], hle, fun h0 => by omega⟩
  · refine ⟨_, cap, hv, hle, fun _ => ⟨g, 0, rfl, (Array.getElem?_eq_some_iff.1 hg).1, fun j hj => ?_⟩⟩
    have hc := h.cells (g := g) (by rw [hv]; rfl)
    obtain ⟨h1, h2⟩ := encFs_at G j G[j] (List.getElem?_eq_getElem hj)
    have a1 := hc _ _ h1
    have a2 := hc _ _ h2
    have e : ∀ i : Nat, (⟨g, 0, none⟩ : Addr).add i = ⟨g, i, none⟩ := fun i => by unfold Addr.add; split <;> simp_all
    rw [e] at a1 a2
    rw [Nat.zero_add]
    exact ⟨a1, a2⟩
end Go.Proofs.YtggmafmebocoaaaGreatDoor.Flds

/- Layer 8: fields and heads in memory. -/
namespace Go.Proofs.YtggmafmebocoaaaGreatDoor.HBox
open Go.ChangeShapes Go.WideShapes Go.ChangeAt Go.RowKit LexPure Bytes FieldsPure HeadPure Flds Mem
set_option maxRecDepth 20000
/-! ### a head: its fields' list is a value of its own -/
def hc (h : H8) (l : Value) : Array Value := #[.string (ofL h.method), .string (ofL h.target), .int .i64 h.status, .string (ofL h.reason), .int .i64 h.minor, l]
def hv (h : H8) (l : Value) : Value := .agg #[.string (ofL h.method), .string (ofL h.target), .int .i64 h.status, .string (ofL h.reason), .int .i64 h.minor, l]
structure HBox (w : World) (g : Nat) (h : H8) (l : Value) : Prop where
  has : Has w g 37 (hc h l)
def hput (W : World) (g : Nat) (h : H8) (l : Value) : World :=
  (((((W.setCell ⟨g, 0, none⟩ (.string (ofL h.method))).setCell ⟨g, 1, none⟩ (.string (ofL h.target))).setCell ⟨g, 2, none⟩ (.int .i64 h.status)).setCell ⟨g, 3, none⟩ (.string (ofL h.reason))).setCell ⟨g, 4, none⟩ (.int .i64 h.minor)).setCell ⟨g, 5, none⟩ l
theorem HBox.put {W : World} {g : Nat} {u : H8} {m : Value} (b : HBox W g u m) (h : H8) (l : Value) : HBox (hput W g h l) g h l :=
  ⟨by have := (((((b.has.set_ 0 (.string (ofL h.method))).set_ 1 (.string (ofL h.target))).set_ 2 (.int .i64 h.status)).set_ 3 (.string (ofL h.reason))).set_ 4 (.int .i64 h.minor)).set_ 5 l; unfold hput; simpa [hc] using this⟩
theorem HBox.setF {W : World} {g : Nat} {u : H8} {m : Value} (b : HBox W g u m) (l : Value) : HBox (W.setCell ⟨g, 5, none⟩ l) g u l :=
  ⟨by have := b.has.set_ 5 l; simpa [hc] using this⟩
theorem hload {w : World} {g : Nat} {h : H8} {l : Value} (b : HBox w g h l) : (loadVar 37 ⟨g, 0, none⟩).run Tryz.prog w = .ok (hv h l) w :=
  run_loadVar_row w g 37 37 _ _ _ b.has.at_ Tryz.underlying37 rfl (by kernel_rfl)
theorem HBox.cells {w : World} {g : Nat} {h : H8} {l : Value} (b : HBox w g h l) : w.cell? ⟨g, 0, none⟩ = some (.string (ofL h.method)) ∧ w.cell? ⟨g, 1, none⟩ = some (.string (ofL h.target)) ∧ w.cell? ⟨g, 2, none⟩ = some (.int .i64 h.status) ∧ w.cell? ⟨g, 3, none⟩ = some (.string (ofL h.reason)) ∧ w.cell? ⟨g, 4, none⟩ = some (.int .i64 h.minor) ∧ w.cell? ⟨g, 5, none⟩ = some l :=
  ⟨(b.has.cell 0).trans rfl, (b.has.cell 1).trans rfl, (b.has.cell 2).trans rfl, (b.has.cell 3).trans rfl, (b.has.cell 4).trans rfl, (b.has.cell 5).trans rfl⟩
theorem HBox.frees {w : World} {g : Nat} {h : H8} {l : Value} (b : HBox w g h l) : w.frozen? ⟨g, 0, none⟩ = false ∧ w.frozen? ⟨g, 1, none⟩ = false ∧ w.frozen? ⟨g, 2, none⟩ = false ∧ w.frozen? ⟨g, 3, none⟩ = false ∧ w.frozen? ⟨g, 4, none⟩ = false ∧ w.frozen? ⟨g, 5, none⟩ = false :=
  ⟨b.has.free 0, b.has.free 1, b.has.free 2, b.has.free 3, b.has.free 4, b.has.free 5⟩
theorem HBox.below {w w' : World} {g B : Nat} {h : H8} {l : Value} (b : HBox w g h l) (hb : Below B w w') (hg : g < B) : HBox w' g h l := ⟨b.has.below hb hg⟩
theorem HBox.far {w : World} {g : Nat} {h : H8} {l : Value} (b : HBox w g h l) {p : Addr} (hp : g ≠ p.block) (u : Value) : HBox (w.setCell p u) g h l := ⟨b.has.far hp u⟩
theorem HBox.drew {w : World} {g : Nat} {h : H8} {l : Value} (b : HBox w g h l) : HBox w.drew g h l := ⟨b.has.drew⟩
/-- the box of a call that answers a head -/
structure HOne (w W : World) (g : Nat) (h : H8) (l : Value) : Prop where
  at_ : g = w.heap.size
  below : Below w.heap.size w W
  box : HBox W g h l
  size : g + 1 ≤ W.heap.size
theorem HOne.start (w : World) : HOne w (w.alloc (.cells #[.string ⟨#[]⟩, .string ⟨#[]⟩, .int .i64 0, .string ⟨#[]⟩, .int .i64 0, .slice none 0 0] 37)) w.heap.size zero8 (.slice none 0 0) :=
  ⟨rfl, (Below.refl w.heap.size w).alloc (Nat.le_refl _) _, ⟨Has.new w _ _⟩, by simp⟩
theorem HOne.call {w W W' : World} {g : Nat} {h : H8} {l : Value} (b : HOne w W g h l) (hb : Below W.heap.size W W') : HOne w W' g h l :=
  ⟨b.at_, below_chain b.below hb, b.box.below hb (by have := b.size; omega), Nat.le_trans b.size hb.size⟩
theorem below_hput {B : Nat} {a W : World} {g : Nat} (b : Below B a W) (hg : B ≤ g) (h : H8) (l : Value) : Below B a (hput W g h l) :=
  (((((b.setCell (p := ⟨g, 0, none⟩) hg _).setCell (p := ⟨g, 1, none⟩) hg _).setCell (p := ⟨g, 2, none⟩) hg _).setCell (p := ⟨g, 3, none⟩) hg _).setCell (p := ⟨g, 4, none⟩) hg _).setCell (p := ⟨g, 5, none⟩) hg _
theorem HOne.put {w W : World} {g : Nat} {u : H8} {m : Value} (b : HOne w W g u m) (h : H8) (l : Value) : Below w.heap.size w (hput W g h l) := below_hput b.below (by rw [b.at_]; exact Nat.le_refl _) h l
def hrv (h : H8) (l : Value) (e : Int) : Value := .tuple #[hv h l, .int .i64 e]
theorem end_hbox {W : World} {g : Nat} {h : H8} {l : Value} {v : Int} {tmps : Array Value} {p u : Tmp} (hp : tmps.getD p undef = .pointer (some ⟨g, 0, none⟩)) (hu : tmps.getD u undef = .int .i64 v) (b : HBox W g h l) :
    (((asAddr (tmps.getD p undef)).run Tryz.prog W).andThen fun a w₁ => ((loadVar 37 a).run Tryz.prog w₁).andThen fun v w₂ => .ok (.tuple #[v, tmps.getD u undef]) w₂) = .ok (hrv h l v) W := by
  rw [hp, hu]
  have := hload b
  simp [asAddr, Result.andThen, this, hrv]
def hrv3 (h : H8) (l : Value) (n e : Int) : Value := .tuple #[hv h l, .int .i64 n, .int .i64 e]
theorem end_hbox3 {W : World} {g : Nat} {h : H8} {l : Value} {n v : Int} {tmps : Array Value} {p t u : Tmp} (hp : tmps.getD p undef = .pointer (some ⟨g, 0, none⟩)) (ht : tmps.getD t undef = .int .i64 n) (hu : tmps.getD u undef = .int .i64 v) (b : HBox W g h l) :
    (((asAddr (tmps.getD p undef)).run Tryz.prog W).andThen fun a w₁ => ((loadVar 37 a).run Tryz.prog w₁).andThen fun v w₂ => .ok (.tuple #[v, tmps.getD t undef, tmps.getD u undef]) w₂) = .ok (hrv3 h l n v) W := by
  rw [hp, ht, hu]
  have := hload b
  simp [asAddr, Result.andThen, this, hrv3]
theorem results_cell_tmp2 {fn : Func} {p t u : Tmp} {ty : TypeId} (h : fn.results = #[.cell p ty, .tmp t, .tmp u]) (tmps : Array Value) (P : Program) (w : World) :
    (results fn tmps).run P w =
      ((asAddr (tmps.getD p undef)).run P w).andThen fun a w₁ => ((loadVar ty a).run P w₁).andThen fun v w₂ => .ok (.tuple #[v, tmps.getD t undef, tmps.getD u undef]) w₂ := by
  simp only [results, h]
  simp [Sem.run_bind, Result.andThen]
theorem row_hput {W : World} {base n size : Nat} {e : TypeId} {v : Value} {xs : List Value} {g : Nat} (h : W.ownsRow base e size v n xs) (hg : g < base) (H : H8) (l : Value) : (hput W g H l).ownsRow base e size v n xs :=
  ownsRow_setCell_below (ownsRow_setCell_below (ownsRow_setCell_below (ownsRow_setCell_below (ownsRow_setCell_below (ownsRow_setCell_below h hg _) hg _) hg _) hg _) hg _) hg _
theorem box_hput {W : World} {g k : Nat} {H u : H8} {l m : Value} (b : HBox W g u m) (hg : g ≠ k) : HBox (hput W k H l) g u m :=
  (((((b.far (p := ⟨k, 0, none⟩) hg _).far (p := ⟨k, 1, none⟩) hg _).far (p := ⟨k, 2, none⟩) hg _).far (p := ⟨k, 3, none⟩) hg _).far (p := ⟨k, 4, none⟩) hg _).far (p := ⟨k, 5, none⟩) hg _
theorem size_hput (W : World) (g : Nat) (H : H8) (l : Value) : (hput W g H l).heap.size = W.heap.size := by simp [hput]
end Go.Proofs.YtggmafmebocoaaaGreatDoor.HBox

/- Layer 7: a row of fields that a call gathers. -/
namespace Go.Proofs.YtggmafmebocoaaaGreatDoor.KeptRow
open Go.ChangeShapes Go.WideShapes Go.ChangeAt Go.RowKit LexPure Bytes Ret Rows1 FieldsPure Flds Mem
set_option maxRecDepth 20000
/-- what is kept of the first k -/
structure Kept (w : World) (X : List HField) (v : Value) (wr : World) : Prop where
  row : wr.ownsRow w.heap.size 103 2 v X.length (encFs X)
  below : Below w.heap.size w wr
theorem Kept.start (w : World) : Kept w [] (.slice none 0 0) w := ⟨World.ownsRow_nil _ _ _ _, Below.refl _ _⟩
theorem row_below {w w' : World} {base n size : Nat} {e : TypeId} {v : Value} {xs : List Value} (h : w.ownsRow base e size v n xs) (hb : Below w.heap.size w w') : w'.ownsRow base e size v n xs := by
  refine ⟨h.1, ?_⟩
  rcases h.2 with h0 | ⟨g, cap, cur, hv, h1, hg, rest⟩
  · exact .inl h0
  · exact .inr ⟨g, cap, cur, hv, h1, (hb.block g (Array.getElem?_eq_some_iff.1 hg).1).trans hg, rest⟩
theorem row_mono {w : World} {base base' n size : Nat} {e : TypeId} {v : Value} {xs : List Value} (h : w.ownsRow base e size v n xs) (hb : base' ≤ base) : w.ownsRow base' e size v n xs := by
  refine ⟨h.1, ?_⟩
  rcases h.2 with h0 | ⟨g, cap, cur, h1, h2, h3⟩
  · exact .inl h0
  · exact .inr ⟨g, cap, cur, h1, Nat.le_trans hb h2, h3⟩
theorem Kept.call {w w1 w2 : World} {X : List HField} {v : Value} (h : Kept w X v w1) (hb : Below w1.heap.size w1 w2) : Kept w X v w2 :=
  ⟨row_below h.row hb, below_chain h.below hb⟩
theorem Kept.alloc {w w1 : World} {X : List HField} {v : Value} (h : Kept w X v w1) (o : Obj) : Kept w X v (w1.alloc o) := h.call ((Below.refl _ _).alloc (Nat.le_refl _) o)
theorem Kept.lt {w w1 : World} {X : List HField} {v : Value} (h : Kept w X v w1) : ∀ j, v.ownBlock = some j → w.heap.size ≤ j := fun j hj => (h.row.lt j hj).1
theorem fl_none (w : World) : FL w (.slice none 0 0) [] := ⟨none, 0, rfl, Nat.zero_le _, fun h => absurd h (by decide)⟩
/-- a row of a call's own, of 32 fields at most -/
def RowF (W : World) (base : Nat) (v : Value) (l : List HField) : Prop := W.ownsRow base 103 2 v l.length (encFs l) ∧ l.length ≤ 32
theorem row_none (W : World) (base : Nat) : RowF W base (.slice none 0 0) [] := ⟨World.ownsRow_nil _ _ _ _, by decide⟩
end Go.Proofs.YtggmafmebocoaaaGreatDoor.KeptRow

/- Layer 12: a piece of a response in memory. -/
namespace Go.Proofs.YtggmafmebocoaaaGreatDoor.OutBox
open Go.ChangeShapes Go.WideShapes Go.ChangeAt Go.RowKit LexPure Bytes FieldsPure HeadPure Flds HBox OutPure KeptRow Mem Step
set_option maxRecDepth 20000
abbrev PT : TypeId := 39
def kindP : Pc → Int
  | .none => 0
  | .head _ => 1
  | .data _ => 2
  | .fin => 3
def headP : Pc → H8
  | .head h => h
  | _ => zero8
def dataP : Pc → List UInt8
  | .data d => d
  | _ => []
/-- cells: its kind, its head, its bytes -/
def pca (k : Int) (h : H8) (l : Value) (d : List UInt8) : Array Value := #[.int .i64 k, .string (ofL h.method), .string (ofL h.target), .int .i64 h.status, .string (ofL h.reason), .int .i64 h.minor, l, .string (ofL d)]
def pcl (p : Pc) (l : Value) : Array Value := pca (kindP p) (headP p) l (dataP p)
structure PBox (w : World) (g : Nat) (k : Int) (h : H8) (l : Value) (d : List UInt8) : Prop where
  has : Has w g PT (pca k h l d)
def pput (W : World) (g : Nat) (k : Int) (h : H8) (l : Value) (d : List UInt8) : World :=
  (((((((W.setCell ⟨g, 0, none⟩ (.int .i64 k)).setCell ⟨g, 1, none⟩ (.string (ofL h.method))).setCell ⟨g, 2, none⟩ (.string (ofL h.target))).setCell ⟨g, 3, none⟩ (.int .i64 h.status)).setCell ⟨g, 4, none⟩ (.string (ofL h.reason))).setCell ⟨g, 5, none⟩ (.int .i64 h.minor)).setCell ⟨g, 6, none⟩ l).setCell ⟨g, 7, none⟩ (.string (ofL d))
section
variable {w w' W : World} {g : Nat} {k k' : Int} {h h' : H8} {l l' : Value} {d d' : List UInt8}
theorem PBox.put (b : PBox W g k h l d) (k' : Int) (h' : H8) (l' : Value) (d' : List UInt8) : PBox (pput W g k' h' l' d') g k' h' l' d' :=
  ⟨by
    have := (((((((b.has.set_ 0 (.int .i64 k')).set_ 1 (.string (ofL h'.method))).set_ 2 (.string (ofL h'.target))).set_ 3 (.int .i64 h'.status)).set_ 4 (.string (ofL h'.reason))).set_ 5 (.int .i64 h'.minor)).set_ 6 l').set_ 7 (.string (ofL d'))
    unfold pput
    simpa [pca] using this⟩
theorem pload (b : PBox w g k h l d) : (loadVar PT ⟨g, 0, none⟩).run Tryz.prog w = .ok (.agg (pca k h l d)) w :=
  run_loadVar_row w g PT PT _ _ _ b.has.at_ Tryz.underlying39 rfl (by kernel_rfl)
theorem PBox.cells (b : PBox w g k h l d) : w.cell? ⟨g, 0, none⟩ = some (.int .i64 k) ∧ w.cell? ⟨g, 1, none⟩ = some (.string (ofL h.method)) ∧ w.cell? ⟨g, 2, none⟩ = some (.string (ofL h.target)) ∧ w.cell? ⟨g, 3, none⟩ = some (.int .i64 h.status) ∧ w.cell? ⟨g, 4, none⟩ = some (.string (ofL h.reason)) ∧ w.cell? ⟨g, 5, none⟩ = some (.int .i64 h.minor) ∧ w.cell? ⟨g, 6, none⟩ = some l ∧ w.cell? ⟨g, 7, none⟩ = some (.string (ofL d)) :=
  ⟨(b.has.cell 0).trans rfl, (b.has.cell 1).trans rfl, (b.has.cell 2).trans rfl, (b.has.cell 3).trans rfl, (b.has.cell 4).trans rfl, (b.has.cell 5).trans rfl, (b.has.cell 6).trans rfl, (b.has.cell 7).trans rfl⟩
theorem PBox.frees (b : PBox w g k h l d) : w.frozen? ⟨g, 0, none⟩ = false ∧ w.frozen? ⟨g, 1, none⟩ = false ∧ w.frozen? ⟨g, 2, none⟩ = false ∧ w.frozen? ⟨g, 3, none⟩ = false ∧ w.frozen? ⟨g, 4, none⟩ = false ∧ w.frozen? ⟨g, 5, none⟩ = false ∧ w.frozen? ⟨g, 6, none⟩ = false ∧ w.frozen? ⟨g, 7, none⟩ = false :=
  ⟨b.has.free 0, b.has.free 1, b.has.free 2, b.has.free 3, b.has.free 4, b.has.free 5, b.has.free 6, b.has.free 7⟩
theorem PBox.step (b : PBox w g k h l d) {G G' : Nat → Prop} (hs : Step w w' G G') (hn : ¬ G g) : PBox w' g k h l d := ⟨hs.has b.has hn⟩
theorem pput_step (W : World) (g : Nat) (k : Int) (h : H8) (l : Value) (d : List UInt8) : Step W (pput W g k h l d) (fun j => j = g) (fun j => j = g) := by
  have s := fun (W : World) i u => Step.set_ (F := fun j => j = g) W rfl i u
  exact (((((((s W 0 _).trans (s _ 1 _)).trans (s _ 2 _)).trans (s _ 3 _)).trans (s _ 4 _)).trans (s _ 5 _)).trans (s _ 6 _)).trans (s _ 7 _)
theorem end_pbox3 {x y : Value} {tmps : Array Value} {p t u : Tmp} (hp : tmps.getD p undef = .pointer (some ⟨g, 0, none⟩)) (ht : tmps.getD t undef = x) (hu : tmps.getD u undef = y) (b : PBox W g k h l d) :
    (((asAddr (tmps.getD p undef)).run Tryz.prog W).andThen fun a w₁ => ((loadVar PT a).run Tryz.prog w₁).andThen fun v w₂ => Result.ok (Value.tuple #[v, tmps.getD t undef, tmps.getD u undef]) w₂) = .ok (Value.tuple #[.agg (pca k h l d), x, y]) W := by
  rw [hp, ht, hu]
  have := pload b
  simp [asAddr, Result.andThen, this]
end
/-- the first box of a call that answers a piece -/
theorem PBox.start (w : World) : PBox (w.alloc (.cells #[.int .i64 0, .string ⟨#[]⟩, .string ⟨#[]⟩, .int .i64 0, .string ⟨#[]⟩, .int .i64 0, .slice none 0 0, .string ⟨#[]⟩] PT)) w.heap.size 0 zero8 (.slice none 0 0) [] := ⟨Has.new w _ _⟩
end Go.Proofs.YtggmafmebocoaaaGreatDoor.OutBox

/- Layer 12 of the program: its reader in memory. -/
namespace Go.Proofs.YtggmafmebocoaaaGreatDoor.OutObj
open Go.ChangeShapes Go.WideShapes Go.ChangeAt Go.RowKit Bytes FieldsPure HeadPure FramePure ChunkPure ChunkObj OutPure OutBox KeptRow Mem Step InEmb
set_option maxRecDepth 20000
abbrev RT : TypeId := 55
def fnV (k : Nat) : Value := .func (.func k) #[] #[]
structure Raw where
  meth : ByteArray
  A : List UInt8
  gone : Bool
  fn : Nat
  kind : Int
  kept : Bool
  left : Int
  dp : Value
  done : Bool
  ref : Int
def rcl (r : Raw) (p v : Value) : Array Value := #[.string r.meth, .string (ofL r.A), p, v, .bool r.gone, fnV r.fn, .int .i64 r.kind, .bool r.kept, .int .i64 r.left, r.dp, .bool r.done, .int .i64 r.ref]
theorem spotR : Spot RT 2 12 := ⟨by kernel_rfl, by decide, by decide⟩
theorem rcl_size (r : Raw) (p v : Value) : (rcl r p v).size = 12 := rfl
/-- block g holds a reader, l its bytes that are fed; R: its blocks and those of its bytes -/
structure Dat (w : World) (R : Nat → Prop) (g : Nat) (r : Raw) (l : List UInt8) : Prop where
  is : ∃ p v, Emb w g 2 RT (rcl r p v) p v l ∧ ∀ k, v.ownBlock = some k → R k
  mine : R g
  lt : ∀ k, R k → k < w.heap.size
section
variable {w w' : World} {R R' : Nat → Prop} {g : Nat} {r r' : Raw} {l : List UInt8}
theorem Dat.step (h : Dat w R g r l) {G G' : Nat → Prop} (hs : Step w w' G G') (hf : ∀ k, R k → ¬ G k) : Dat w' R g r l := by
  obtain ⟨p, v, h1, h2⟩ := h.is
  exact ⟨⟨p, v, h1.step hs (hf g h.mine) (fun k hk => hf k (h2 k hk)), h2⟩, h.mine, fun k hk => Nat.lt_of_lt_of_le (h.lt k hk) hs.size⟩
theorem Dat.below (h : Dat w R g r l) (hb : Below w.heap.size w w') : Dat w' R g r l := h.step (Step.of_below hb (fun _ => False)) (fun _ _ h => h)
theorem Dat.cells (h : Dat w R g r l) : w.cell? ⟨g, 0, none⟩ = some (.string r.meth) ∧ w.cell? ⟨g, 1, none⟩ = some (.string (ofL r.A)) ∧ w.cell? ⟨g, 4, none⟩ = some (.bool r.gone) ∧ w.cell? ⟨g, 5, none⟩ = some (.func (.func r.fn) #[] #[]) ∧ w.cell? ⟨g, 6, none⟩ = some (.int .i64 r.kind) ∧ w.cell? ⟨g, 7, none⟩ = some (.bool r.kept) ∧
    w.cell? ⟨g, 8, none⟩ = some (.int .i64 r.left) ∧ w.cell? ⟨g, 9, none⟩ = some r.dp ∧ w.cell? ⟨g, 10, none⟩ = some (.bool r.done) ∧ w.cell? ⟨g, 11, none⟩ = some (.int .i64 r.ref) := by
  obtain ⟨p, v, h1, _⟩ := h.is
  exact ⟨(h1.has.cell 0).trans rfl, (h1.has.cell 1).trans rfl, (h1.has.cell 4).trans rfl, (h1.has.cell 5).trans rfl, (h1.has.cell 6).trans rfl, (h1.has.cell 7).trans rfl, (h1.has.cell 8).trans rfl, (h1.has.cell 9).trans rfl, (h1.has.cell 10).trans rfl, (h1.has.cell 11).trans rfl⟩
theorem Dat.free (h : Dat w R g r l) (i : Nat) : w.frozen? ⟨g, i, none⟩ = false := by
  obtain ⟨p, v, h1, _⟩ := h.is
  exact h1.has.free i
theorem set_size (w : World) (a : Addr) (u : Value) : (w.setCell a u).heap.size = w.heap.size := by simp [World.setCell]
theorem Dat.put (h : Dat w R g r l) (i : Nat) (u : Value) (r' : Raw) (h0 : i ≠ 2) (h1 : i ≠ 3) (hc : ∀ p v, (rcl r p v).setIfInBounds i u = rcl r' p v) : Dat (w.setCell ⟨g, i, none⟩ u) R g r' l := by
  obtain ⟨p, v, k1, k2⟩ := h.is
  have := k1.put spotR i u h0 h1
  rw [hc] at this
  exact ⟨⟨p, v, this, k2⟩, h.mine, fun k hk => by rw [set_size]; exact h.lt k hk⟩
theorem Dat.put1 (h : Dat w R g r l) (A : List UInt8) : Dat (w.setCell ⟨g, 1, none⟩ (.string (ofL A))) R g { r with A := A } l := h.put 1 _ _ (by decide) (by decide) (fun _ _ => rfl)
theorem Dat.put4 (h : Dat w R g r l) (b : Bool) : Dat (w.setCell ⟨g, 4, none⟩ (.bool b)) R g { r with gone := b } l := h.put 4 _ _ (by decide) (by decide) (fun _ _ => rfl)
theorem Dat.put5 (h : Dat w R g r l) (k : Nat) : Dat (w.setCell ⟨g, 5, none⟩ (.func (.func k) #[] #[])) R g { r with fn := k } l := h.put 5 _ _ (by decide) (by decide) (fun _ _ => rfl)
theorem Dat.put6 (h : Dat w R g r l) (k : Int) : Dat (w.setCell ⟨g, 6, none⟩ (.int .i64 k)) R g { r with kind := k } l := h.put 6 _ _ (by decide) (by decide) (fun _ _ => rfl)
theorem Dat.put7 (h : Dat w R g r l) (b : Bool) : Dat (w.setCell ⟨g, 7, none⟩ (.bool b)) R g { r with kept := b } l := h.put 7 _ _ (by decide) (by decide) (fun _ _ => rfl)
theorem Dat.put8 (h : Dat w R g r l) (k : Int) : Dat (w.setCell ⟨g, 8, none⟩ (.int .i64 k)) R g { r with left := k } l := h.put 8 _ _ (by decide) (by decide) (fun _ _ => rfl)
theorem Dat.put9 (h : Dat w R g r l) (v : Value) : Dat (w.setCell ⟨g, 9, none⟩ v) R g { r with dp := v } l := h.put 9 _ _ (by decide) (by decide) (fun _ _ => rfl)
theorem Dat.put10 (h : Dat w R g r l) (b : Bool) : Dat (w.setCell ⟨g, 10, none⟩ (.bool b)) R g { r with done := b } l := h.put 10 _ _ (by decide) (by decide) (fun _ _ => rfl)
theorem Dat.put11 (h : Dat w R g r l) (k : Int) : Dat (w.setCell ⟨g, 11, none⟩ (.int .i64 k)) R g { r with ref := k } l := h.put 11 _ _ (by decide) (by decide) (fun _ _ => rfl)
theorem Dat.step_put (h : Dat w R g r l) (i : Nat) (u : Value) : Step w (w.setCell ⟨g, i, none⟩ u) R R := Step.set_ w h.mine i u
/-- other blocks -/
theorem Dat.widen (h : Dat w R g r l) (hR : ∀ k, R k → R' k) (hl : ∀ k, R' k → k < w.heap.size) : Dat w R' g r l := by
  obtain ⟨p, v, h1, h2⟩ := h.is
  exact ⟨⟨p, v, h1, fun k hk => hR k (h2 k hk)⟩, hR g h.mine, hl⟩
end
def fnOf : Md → Nat
  | .head => 21
  | .len _ => 39
  | .chunks _ => 41
  | .all => 42
  | .fin => 43
  | .nothing => 70
  | .bad _ => 23
/-- what the cells say of where the reading stands; F: all blocks, R: those of the reader's own cells and bytes -/
structure Rel (w : World) (F R : Nat → Prop) (md : Md) (r : Raw) : Prop where
  fn : r.fn = fnOf md
  done : r.done = doneM md
  bad : ∀ e, md = .bad e → r.ref = e
  len : ∀ n, md = .len n → r.left = (n : Int) ∧ n ≤ 999999999999999
  dec : ∀ m, md = .chunks m → ∃ gd G, r.dp = .pointer (some ⟨gd, 0, none⟩) ∧ Dec w G gd m ∧ Ok m ∧ m.most = MT ∧ ∀ j, G j → F j ∧ ¬ R j
/-- block g, and those of F, hold a reader of a response to meth that stands at s; the first u bytes aren't among those that were fed since -/
structure RdrU (w : World) (F : Nat → Prop) (g : Nat) (meth : ByteArray) (s : St) (u : Nat) : Prop where
  is : ∃ R r l, Dat w R g r l ∧ r.meth = meth ∧ r.A ++ l = s.data ∧ u ≤ r.A.length ∧ r.gone = s.gone ∧ r.kind = s.kind ∧ r.kept = s.kept ∧ Rel w F R s.md r ∧ ∀ k, R k → F k
  mine : F g
  lt : ∀ k, F k → k < w.heap.size
abbrev Rdr (w : World) (F : Nat → Prop) (g : Nat) (meth : ByteArray) (s : St) : Prop := RdrU w F g meth s 0
section
variable {w w' : World} {F G G' R : Nat → Prop} {g u : Nat} {meth : ByteArray} {s : St} {md : Md} {r : Raw}
theorem Rel.step (h : Rel w F R md r) (hs : Step w w' G G') (hf : ∀ k, F k → ¬ R k → ¬ G k) : Rel w' F R md r :=
  ⟨h.fn, h.done, h.bad, h.len, fun m hm => by
    obtain ⟨gd, H, h1, h2, h3, h4, h5⟩ := h.dec m hm
    exact ⟨gd, H, h1, h2.step hs (fun j hj => hf j (h5 j hj).1 (h5 j hj).2), h3, h4, h5⟩⟩
theorem RdrU.step (h : RdrU w F g meth s u) (hs : Step w w' G G') (hf : ∀ k, F k → ¬ G k) : RdrU w' F g meth s u := by
  obtain ⟨R, r, l, h1, h2, h3, h4, h5, h6, h7, h8, h9⟩ := h.is
  exact ⟨⟨R, r, l, h1.step hs (fun k hk => hf k (h9 k hk)), h2, h3, h4, h5, h6, h7, h8.step hs (fun k hk _ => hf k hk), h9⟩, h.mine, fun k hk => Nat.lt_of_lt_of_le (h.lt k hk) hs.size⟩
theorem RdrU.below (h : RdrU w F g meth s u) (hb : Below w.heap.size w w') : RdrU w' F g meth s u := h.step (Step.of_below hb (fun _ => False)) (fun _ _ h => h)
end
/-- what a step of the reader leaves -/
def StepR (w w' : World) (e : Ending) (F : Nat → Prop) (g : Nat) (meth : ByteArray) (s : St) : Prop :=
  ∃ l F', e = .returned (.tuple #[.agg (pcl (stepO (toL meth) s).1 l), .int .i64 ((stepO (toL meth) s).2.1 : Int), .int .i64 (stepO (toL meth) s).2.2.1]) ∧ RowF w' 0 l (headP (stepO (toL meth) s).1).fields ∧ (∀ b, l.ownBlock = some b → w.heap.size ≤ b ∧ ¬ F' b) ∧
    RdrU w' F' g meth (stepO (toL meth) s).2.2.2 (stepO (toL meth) s).2.1 ∧ Step w w' F F'
/-- what a call of Next leaves -/
def NextR (w w' : World) (e : Ending) (F : Nat → Prop) (g : Nat) (meth : ByteArray) (s : St) : Prop :=
  ∃ l F', e = .returned (.tuple #[.agg (pcl (nextO (toL meth) s).1 l), .bool (!isN (nextO (toL meth) s).1), .int .i64 (nextO (toL meth) s).2.1]) ∧ RowF w' 0 l (headP (nextO (toL meth) s).1).fields ∧ (∀ b, l.ownBlock = some b → w.heap.size ≤ b ∧ ¬ F' b) ∧
    Rdr w' F' g meth (nextO (toL meth) s).2.2 ∧ Step w w' F F'
end Go.Proofs.YtggmafmebocoaaaGreatDoor.OutObj

/- Layer 12 of the program: text. -/
namespace Go.Proofs.YtggmafmebocoaaaGreatDoor.POutText
open Go.ChangeShapes Go.WideShapes Go.ChangeAt Go.RowKit LexPure Bytes Ret FieldsPure HeadPure OutPure OutBox Mem Step InEmb OutObj
set_option maxRecDepth 100000
set_option linter.unusedVariables false
set_option linter.unusedSimpArgs false
theorem str_app (A l : List UInt8) : ofL A ++ ofL l = ofL (A ++ l) := by
  apply toL_inj
  rw [toL_append, toL_ofL, toL_ofL, toL_ofL]
set_option maxHeartbeats 2000000 in
theorem ptext12 {w : World} {R : Nat → Prop} {g : Nat} {r : Raw} {l : List UInt8} (h : Dat w R g r l) (hs : r.A.length + l.length ≤ 4611686018427387904) :
    Calls Tryz.prog 25 #[.pointer (some ⟨g, 0, none⟩)] w fun e w' => e = .returned (.string (ofL (r.A ++ l))) ∧ Dat w' R g { r with A := r.A ++ l } [] ∧ Step w w' R R := by
  have hd : Dat w.drew R g r l := h.step (Step.drew w (fun _ => False)) (fun _ _ h => h)
  obtain ⟨p, v, hE, hv⟩ := hd.is
  have HT := Lib.hid ((emb_text spotR hE).mono (fun e w1 ⟨x1, x2⟩ => (⟨x1, by
    obtain ⟨e1, s1⟩ := x2
    have d1 : Dat w1 R g r l := ⟨⟨p, v, e1, hv⟩, hd.mine, fun k hk => Nat.lt_of_lt_of_le (hd.lt k hk) s1.size⟩
    have d2 := d1.put1 (r.A ++ l)
    have t2 : Step w (w1.setCell ⟨g, 1, none⟩ (.string (ofL (r.A ++ l)))) R R := ((Step.drew w R).trans (s1.up hv)).trans (d1.step_put 1 _)
    exact ⟨d1.cells.2.1, d1.free 1, Lib.hid ⟨d2, t2⟩⟩⟩ :
      e = Ending.returned (Value.string (ofL l)) ∧ w1.cell? ⟨g, 1, none⟩ = some (Value.string (ofL r.A)) ∧ w1.frozen? ⟨g, 1, none⟩ = false ∧ Hid (Dat (w1.setCell ⟨g, 1, none⟩ (Value.string (ofL (r.A ++ l)))) R g { r with A := r.A ++ l } l ∧ Step w (w1.setCell ⟨g, 1, none⟩ (Value.string (ofL (r.A ++ l)))) R R))))
  have HR : Hid (∀ w2, Dat w2 R g { r with A := r.A ++ l } l ∧ Step w w2 R R → Calls Tryz.prog 32 #[.pointer (some ⟨g, 2, none⟩)] w2 fun e w3 => e = .returned (.tuple #[]) ∧ w3.cell? ⟨g, 1, none⟩ = some (.string (ofL (r.A ++ l))) ∧ Hid (Dat w3 R g { r with A := r.A ++ l } [] ∧ Step w w3 R R)) := Lib.hid (fun w2 ⟨d2, t2⟩ => by
    obtain ⟨p2, v2, hE2, hv2⟩ := d2.is
    refine (emb_reset spotR (rcl_size _ _ _) hE2).mono (fun e w3 ⟨x1, x2, x3⟩ => ?_)
    have d3 : Dat w3 R g { r with A := r.A ++ l } [] := ⟨⟨_, _, x2, fun k hk => by cases hk⟩, d2.mine, fun k hk => Nat.lt_of_lt_of_le (d2.lt k hk) x3.size⟩
    exact ⟨x1, d3.cells.2.1, Lib.hid ⟨d3, t2.trans (x3.up (fun k hk => by rw [hk]; exact d2.mine))⟩⟩)
  have c1 := hd.cells.2.1
  have z1 := hd.free 1
  have hsz : (ofL r.A).size + (ofL l).size ≤ 9223372036854775807 := by rw [ofL_size, ofL_size]; omega
  have hap := Lib.hid (str_app r.A l)
  clear hE hv hd h hs
  generalize ofL (r.A ++ l) = S at *
  generalize ofL r.A = A at *
  generalize ofL l = L at *
  go_enter Tryz.func25, Tryz.ntmps25
  go_wp2_with fail
  go_region_with (go_at_call 31; refine HT.out.mono ?_; rintro e w1 ⟨rfl, k1, y1, hD⟩; clear HT)
  all_goals
    rw [hap.out]
    have HR2 := Lib.hid (HR.out _ hD.out)
    clear HR hD
    go_wp2_with fail
    refine HR2.out.mono ?_
    rintro e w3 ⟨rfl, k3, hD3⟩
    clear HR2
    go_wp2_with fail
    go_ret
    exact ⟨rfl, hD3.out⟩
end Go.Proofs.YtggmafmebocoaaaGreatDoor.POutText

/- Layer 4, the document's own Lower. -/
namespace Go.Proofs.YtggmafmebocoaaaGreatDoor.RLower
open Go.ChangeShapes Go.WideShapes Go.ChangeAt Go.RowKit LexPure Bytes Ret Rows1
set_option maxRecDepth 20000
theorem infoB : (Tryz.prog.info? 5).map (fun i => (i.zero, i.size, i.bytes)) = some (some (.int .u8 0), 1, 1) := by kernel_rfl
/-- what is gathered so far -/
def LInv (w : World) (s : ByteArray) (k : Nat) (v : Value) (wr : World) : Prop :=
  wr.ownsRow w.heap.size 5 1 v k (bvs (lower ((toL s).take k))) ∧ Below w.heap.size w wr
theorem small_at {b : UInt8} : (65 ≤ (b.toNat : Int) ∧ (b.toNat : Int) ≤ 90 ∧ (small b).toNat = (b.toNat : Int) - 65 + 97) ∨ (((b.toNat : Int) < 65 ∨ (65 ≤ (b.toNat : Int) ∧ 90 < (b.toNat : Int))) ∧ small b = b) := by
  have := all_bytes (p := fun b => decide ((65 ≤ (b.toNat : Int) ∧ (b.toNat : Int) ≤ 90 ∧ ((small b).toNat : Int) = (b.toNat : Int) - 65 + 97) ∨ (((b.toNat : Int) < 65 ∨ (65 ≤ (b.toNat : Int) ∧ 90 < (b.toNat : Int))) ∧ small b = b))) (by decide +kernel) b
  simpa only [decide_eq_true_eq] using this
end Go.Proofs.YtggmafmebocoaaaGreatDoor.RLower

/- Layer 7, the document's own alike. -/
namespace Go.Proofs.YtggmafmebocoaaaGreatDoor.RAlike7
open Go.ChangeShapes Go.WideShapes Go.ChangeAt Go.RowKit LexPure Bytes Ret RLower Mem
set_option maxRecDepth 20000
end Go.Proofs.YtggmafmebocoaaaGreatDoor.RAlike7

/- Layer 7, the document's own Get. -/
namespace Go.Proofs.YtggmafmebocoaaaGreatDoor.R7Get
open Go.ChangeShapes Go.WideShapes Go.ChangeAt Go.RowKit LexPure Bytes Ret FieldsPure Flds RAlike7 Mem
set_option maxRecDepth 20000
theorem getV_cons (f : HField) (l : List HField) (n : List UInt8) : getV (f :: l) n = if hit n f then f.2 else getV l n := by
  unfold getV
  rw [List.find?_cons]
  cases hit n f <;> rfl
theorem getN_cons (f : HField) (l : List HField) (n : List UInt8) : getN (f :: l) n = if hit n f then getN l n + 1 else getN l n := by
  unfold getN
  rw [List.countP_cons]
  cases hit n f <;> simp
end Go.Proofs.YtggmafmebocoaaaGreatDoor.R7Get

/- Layer 4 of the program: small. -/
namespace Go.Proofs.YtggmafmebocoaaaGreatDoor.PLsmall
open Go.ChangeShapes Go.WideShapes Go.ChangeAt Go.RowKit LexPure Bytes Ret
set_option maxRecDepth 20000
theorem small_cases (b : UInt8) : (65 ≤ (b.toNat : Int) ∧ (b.toNat : Int) ≤ 90 ∧ ((small b).toNat : Int) = (b.toNat : Int) - 65 + 97) ∨ (((b.toNat : Int) < 65 ∨ (65 ≤ (b.toNat : Int) ∧ 90 < (b.toNat : Int))) ∧ small b = b) := by
  have := all_bytes (p := fun b => decide ((65 ≤ (b.toNat : Int) ∧ (b.toNat : Int) ≤ 90 ∧ ((small b).toNat : Int) = (b.toNat : Int) - 65 + 97) ∨ (((b.toNat : Int) < 65 ∨ (65 ≤ (b.toNat : Int) ∧ 90 < (b.toNat : Int))) ∧ small b = b))) (by decide +kernel) b
  simpa only [decide_eq_true_eq] using this
theorem psmall_any (b : UInt8) (w : World) :
    Calls Tryz.prog 81 #[.int .u8 (b.toNat : Int)] w fun e w' => e = .returned (.int .u8 ((small b).toNat : Int)) ∧ w = w' := by
  have hub : (b.toNat : Int) ≤ 255 := by have := b.toNat_lt; omega
  rcases small_cases b with ⟨h1, h2, h3⟩ | ⟨h1 | ⟨h1, h2⟩, h3⟩
  · have H3 := Lib.hid h3
    clear h3
    generalize (b.toNat : Int) = c at *
    go_enter Tryz.func81, Tryz.ntmps81
    go_wp2_with fail
    go_ret
    exact ⟨by rw [H3.out]; rfl, rfl⟩
  · rw [h3]
    generalize (b.toNat : Int) = c at *
    go_enter Tryz.func81, Tryz.ntmps81
    go_wp2_with fail
    go_ret
    exact ⟨rfl, rfl⟩
  · rw [h3]
    generalize (b.toNat : Int) = c at *
    go_enter Tryz.func81, Tryz.ntmps81
    go_wp2_with fail
    go_ret
    exact ⟨rfl, rfl⟩
theorem psmall_same (b : UInt8) (w : World) :
    Calls Tryz.prog 81 #[.int .u8 (b.toNat : Int)] w fun e w' => e = .returned (.int .u8 ((small b).toNat : Int)) ∧ w' = w :=
  (psmall_any b w).mono fun _ _ ⟨h, k⟩ => ⟨h, k.symm⟩
end Go.Proofs.YtggmafmebocoaaaGreatDoor.PLsmall

/- Layer 4 of the program: Alike. -/
namespace Go.Proofs.YtggmafmebocoaaaGreatDoor.PAlike
open Go.ChangeShapes Go.WideShapes Go.ChangeAt Go.RowKit LexPure Bytes Ret PLsmall Mem
set_option maxRecDepth 20000
set_option maxHeartbeats 1600000 in
theorem palike_any (s t : ByteArray) (hs : s.size ≤ maxLen) (w : World) :
    Calls Tryz.prog 67 #[.string s, .string t] w fun e w' => e = .returned (.bool (alike (toL s) (toL t))) ∧ Below w.heap.size w w' := by
  unfold maxLen at hs
  by_cases hl : s.size = t.size
  · go_enter Tryz.func67, Tryz.ntmps67
    go_wp2_with fail
    have HB : Hid (∃ m, w = w.drewN m) := Lib.hid ⟨0, rfl⟩
    go_loopw [13] (fun i wr => ∃ k : Nat, k ≤ s.size ∧ i = .int .i64 k ∧ Hid (lower ((toL s).take k) = lower ((toL t).take k)) ∧ Hid (∃ m, wr = w.drewN m)) (fun i _ => s.size - (intOf i).toNat)
    case atStart => exact ⟨0, Nat.zero_le _, rfl, Lib.hid rfl, HB⟩
    case round =>
      obtain ⟨k, hk, rfl, ha, HM⟩ := hrel
      clear HB
      by_cases hlt : k < s.size
      · have hlt2 : k < t.size := by omega
        have hki : (k : Int) < (s.size : Int) := by omega
        have hki2 : (k : Int) < (t.size : Int) := by omega
        have HS := Lib.hid (toL_take_succ s k hlt)
        have HT := Lib.hid (toL_take_succ t k hlt2)
        have GS := Lib.hid (toL_get s k hlt)
        have GT := Lib.hid (toL_get t k hlt2)
        by_cases hm : small s[k] = small t[k]
        · have HA : Hid (lower ((toL s).take (k + 1)) = lower ((toL t).take (k + 1))) := Lib.hid (by
            rw [HS.out, HT.out]
            unfold lower
            rw [List.map_append, List.map_append]
            have h := ha.out
            unfold lower at h
            rw [h]
            simp [hm])
          have hx : ((small s[k]).toNat : Int) = ((small t[k]).toNat : Int) := by rw [hm]
          clear hm HS HT GS GT ha
          go_wp2_with fail
          go_quiet ((go_at_call 81; exact Calls.quiet_of_same (psmall_same _ _)))
          go_wp2_with fail
          go_roundw
          case rel => exact ⟨k + 1, by omega, by go_num, HA, Lib.hid (by obtain ⟨m, hm⟩ := HM.out; exact ⟨_, by rw [hm, World.drewN_drewN]⟩)⟩
          case measure => simp [intOf]; omega
        · have HV : Hid (alike (toL s) (toL t) = false) := Lib.hid (by
            unfold alike
            rw [beq_eq_false_iff_ne]
            intro h
            have h2 := congrArg (·[k]?) h
            unfold lower at h2
            simp only [List.getElem?_map, GS.out, GT.out, Option.map_some, Option.some.injEq] at h2
            exact hm h2)
          have hx : ¬ (((small s[k]).toNat : Int) = ((small t[k]).toNat : Int)) := fun h => hm (UInt8.toNat_inj.1 (by exact_mod_cast h))
          clear hm HS HT GS GT ha
          go_wp2_with fail
          go_quiet ((go_at_call 81; exact Calls.quiet_of_same (psmall_same _ _)))
          go_wp2_with fail
          go_ret
          obtain ⟨m, rfl⟩ := HM.out
          exact ⟨by rw [HV.out]; rfl, ⟨rfl, rfl, rfl, Nat.le_refl _, fun _ _ => rfl⟩⟩
      · have hall : (toL s).take k = toL s := toL_take_all s (by omega)
        have hall2 : (toL t).take k = toL t := toL_take_all t (by omega)
        have HV : Hid (alike (toL s) (toL t) = true) := Lib.hid (by
          have h := ha.out
          rw [hall, hall2] at h
          unfold alike
          rw [h]
          exact beq_self_eq_true _)
        clear ha hall hall2
        go_wp2_with fail
        go_ret
        obtain ⟨m, rfl⟩ := HM.out
        exact ⟨by rw [HV.out]; rfl, ⟨rfl, rfl, rfl, Nat.le_refl _, fun _ _ => rfl⟩⟩
  · have HV : Hid (alike (toL s) (toL t) = false) := Lib.hid (by
      unfold alike
      rw [beq_eq_false_iff_ne]
      intro h
      have := congrArg List.length h
      rw [lower_length, lower_length, toL_length, toL_length] at this
      exact hl this)
    have hx : ¬ ((s.size : Int) = (t.size : Int)) := by omega
    clear hl
    go_enter Tryz.func67, Tryz.ntmps67
    go_wp2_with fail
    go_ret
    exact ⟨by rw [HV.out]; rfl, ⟨rfl, rfl, rfl, Nat.le_refl _, fun _ _ => rfl⟩⟩
end Go.Proofs.YtggmafmebocoaaaGreatDoor.PAlike

/- Layer 7 of the program: values, the values of a name's fields, one after the other. -/
namespace Go.Proofs.YtggmafmebocoaaaGreatDoor.PVals
open Go.ChangeShapes Go.WideShapes Go.ChangeAt Go.RowKit LexPure Bytes Ret FieldsPure Flds R7Get PAlike Mem Go.Shelf
set_option maxRecDepth 20000
attribute [local go_sem] Oper.semAt_some
/-- a value, as long as a value may be -/
def V : Type := { x : List UInt8 // x.length ≤ 1048576 }
def clamp (x : List UInt8) : V := ⟨x.take 1048576, by rw [List.length_take]; omega⟩
theorem clamp_val {x : List UInt8} (h : x.length ≤ 1048576) : (clamp x).1 = x := List.take_of_length_le h
def encV (x : V) : Array Value := #[.string (ofL x.1)]
/-- the values of a name -/
def vs (G : List HField) (n : List UInt8) : List V := (G.filter (hit n)).map (fun f => clamp f.2)
theorem vs_append (a b : List HField) (n : List UInt8) : vs (a ++ b) n = vs a n ++ vs b n := by simp [vs]
theorem vs_one (f : HField) (n : List UInt8) : vs [f] n = if hit n f then [clamp f.2] else [] := by
  unfold vs
  cases h : hit n f <;> simp [h]
theorem vs_len (G : List HField) (n : List UInt8) : (vs G n).length ≤ G.length := by
  unfold vs
  rw [List.length_map]
  exact List.length_filter_le _ _
/-- what a round keeps: what lay below n₀, and the name's box -/
def Kp (n₀ Bn : Nat) (nm : ByteArray) (A B : World) : Prop := Below n₀ A B ∧ (A.cell? ⟨Bn, 0, none⟩ = some (.string nm) → B.cell? ⟨Bn, 0, none⟩ = some (.string nm))
theorem kp_t {n₀ Bn : Nat} {nm : ByteArray} {A B C : World} (h : Kp n₀ Bn nm A B) (k : Kp n₀ Bn nm B C) : Kp n₀ Bn nm A C := ⟨h.1.trans k.1, fun x => k.2 (h.2 x)⟩
theorem kp_b {n₀ Bn : Nat} {nm : ByteArray} {w : World} (hn : n₀ ≤ w.heap.size) (hb : Bn < w.heap.size) (W : World) (l : Nat) (o o' : Obj) (hl : w.heap.size ≤ l) (h : W.heap[l]? = some o) (h1 : o.isCells = false) (h2 : o.isWalk = false) : Kp n₀ Bn nm W (W.putObj l o') :=
  ⟨belowK_b hn W l o o' hl h h1 h2, fun x => by
    have hne : l ≠ Bn := by omega
    have hb := World.block_lt_of_cell? _ _ x
    have := (Below.refl (Bn + 1) W).grown (grownBy_putObj' W l o') (by exact hb) (fun k e => by cases e; omega)
    exact (this.cell (p := ⟨Bn, 0, none⟩) (Nat.lt_succ_self _)).trans x⟩
/-- the list lies in a block below n₀ -/
def Under (n₀ : Nat) (w : World) (v : Value) (G : List HField) : Prop := ∃ p cap, v = .slice p G.length cap ∧ G.length ≤ 4398046511104 ∧ (0 < G.length → ∃ g o, p = some ⟨g, o, none⟩ ∧ g < n₀ ∧ ∀ j (hj : j < G.length), w.cell? ⟨g, o + j * 2, none⟩ = some (.string (ofL G[j].1)) ∧ w.cell? ⟨g, o + j * 2 + 1, none⟩ = some (.string (ofL G[j].2)))
theorem FL.under {w : World} {v : Value} {G : List HField} (h : FL w v G) : Under w.heap.size w v G := h
theorem Under.below {n₀ : Nat} {w w' : World} {v : Value} {G : List HField} (h : Under n₀ w v G) (hb : Below n₀ w w') : Under n₀ w' v G := by
  obtain ⟨p, cap, hv, hn, hc⟩ := h
  refine ⟨p, cap, hv, hn, fun h0 => ?_⟩
  obtain ⟨g, o, hp, hlt, hcell⟩ := hc h0
  exact ⟨g, o, hp, hlt, fun j hj => ⟨(hb.cell (p := ⟨g, o + j * 2, none⟩) hlt).trans (hcell j hj).1, (hb.cell (p := ⟨g, o + j * 2 + 1, none⟩) hlt).trans (hcell j hj).2⟩⟩
theorem grown_of_below {w w' : World} (h : Below w.heap.size w w') : w.grownBy w' none := ⟨h.os, h.tape, h.output, h.size, fun k hk _ => h.block k hk⟩
set_option maxHeartbeats 1600000 in
theorem pvalues_any (p : Option Addr) (len cap : Nat) (nm : ByteArray) (w : World) :
    Calls Tryz.prog 65 #[.slice p len cap, .string nm] w fun e w' => e = .returned (.func (.func 79) #[] #[.pointer (some ⟨w.heap.size, 0, none⟩), .pointer (some ⟨w.heap.size + 1, 0, none⟩)]) ∧ w' = (w.alloc (.cells #[.slice p len cap] 35)).alloc (.cells #[.string nm] 9) := by
  go_enter Tryz.func65, Tryz.ntmps65
  go_wp2_with fail
  go_ret
  exact ⟨rfl, rfl⟩
set_option maxHeartbeats 3200000 in
theorem vals_in (n l Bs Bn n₀ : Nat) (G : List HField) (hG : Few G) (nm : ByteArray) (v : Value) (J Jx : List V → World → Prop) (W : World)
    (hJ : AbidesFrom W.heap.size J) (hn0 : n₀ ≤ W.heap.size)
    (hY : ∀ pre x W1, J pre W1 → pre.length < G.length → YieldAt Fence.wide (n - 1) Tryz.prog l (encV x) W1 fun e W' =>
      (e = .returned (.bool true) ∧ J (pre ++ [x]) W' ∧ Kp n₀ Bn nm W1 W') ∨ (e = .returned (.bool false) ∧ Jx (pre ++ [x]) W'))
    (hBs : W.cell? ⟨Bs, 0, none⟩ = some v) (hBn : W.cell? ⟨Bn, 0, none⟩ = some (.string nm)) (hL : Under n₀ W v G) (h0 : J [] W) :
    CallsIn Fence.wide n Tryz.prog 79 #[.func (.yield l) #[] #[], .pointer (some ⟨Bs, 0, none⟩), .pointer (some ⟨Bn, 0, none⟩)] W fun e W' => (∃ v, e = .returned v) ∧
      ((∃ ys, ys = vs G (toL nm) ∧ J ys W') ∨ (∃ pre, pre <+: vs G (toL nm) ∧ Jx pre W')) := by
  obtain ⟨p, cap, rfl, hle, hc⟩ := hL
  refine callsIn_of_wp Tryz.func79 rfl trivial ?_ rfl
  simp only [Tryz.ntmps79, List.size_toArray, List.length_cons, List.length_nil, Nat.reduceAdd, Nat.reduceSub, Array.replicate_succ, Array.replicate_zero, List.push_toArray, List.append_toArray, List.nil_append, List.cons_append]
  replace hc := Lib.hid hc
  replace hG := Lib.hid hG
  replace hJ := Lib.hid hJ
  replace hY := Lib.hid hY
  have H0 := Lib.hid h0
  clear h0
  gi_wp2
  clear hBs
  have HB0 : Hid (Below n₀ W W) := Lib.hid (Below.refl _ _)
  have HN0 := Lib.hid hBn
  clear hBn
  gi_loopw [8] (fun i wr => ∃ k : Nat, k ≤ G.length ∧ i = .int .i64 k ∧ Hid (J (vs (G.take k) (toL nm)) wr) ∧ Hid (Below n₀ W wr) ∧ Hid (wr.cell? ⟨Bn, 0, none⟩ = some (.string nm)))
    (fun i _ => G.length - (intOf i).toNat)
  case atStart => exact ⟨0, Nat.zero_le _, rfl, H0, HB0, HN0⟩
  case round =>
    obtain ⟨k, hk, rfl, HJ, HB, HN⟩ := hrel
    clear H0 HB0 HN0
    by_cases hlt : k < G.length
    · obtain ⟨g, o, rfl, hgl, hcell⟩ := hc.out (by omega)
      obtain ⟨c1, c2⟩ := hcell k hlt
      have hki : (k : Int) < (G.length : Int) := by omega
      obtain ⟨s1, s2⟩ := hG.out k hlt
      replace c1 := (HB.out.cell (p := ⟨g, o + k * 2, none⟩) hgl).trans c1
      replace c2 := (HB.out.cell (p := ⟨g, o + k * 2 + 1, none⟩) hgl).trans c2
      have hgw : n₀ ≤ wr.heap.size := Nat.le_trans hn0 HB.out.size
      have HA := Lib.hid (fun w => palike_any (ofL G[k].1) nm (by rw [ofL_size]; unfold maxLen; omega) w)
      rw [toL_ofL] at HA
      have HT : Hid (vs (G.take (k + 1)) (toL nm) = vs (G.take k) (toL nm) ++ if hit (toL nm) G[k] then [clamp G[k].2] else []) := Lib.hid (by rw [← vs_one, ← vs_append, List.take_add_one, List.getElem?_eq_getElem hlt]; rfl)
      have hn := HN.out
      have hbn := World.block_lt_of_cell? _ _ hn
      clear hcell
      cases hh : hit (toL nm) G[k]
      · rw [hh] at HT
        rw [show alike G[k].1 (toL nm) = false from hh] at HA
        clear hh
        gi_wp2_with fail
        refine ⟨trivial, fun h => (by cases h), ?_⟩
        refine (callsIn_wide.2 (HA.out _)).mono ?_
        rintro e w2 ⟨rfl, hb2⟩
        have hb3 := below_chain ((Below.refl wr.heap.size wr).alloc (Nat.le_refl _) (.cells #[.string (ofL G[k].1), .string (ofL G[k].2)] 103)) hb2
        have HJ2 : Hid (J (vs (G.take (k + 1)) (toL nm)) w2) := Lib.hid (by
          rw [HT.out, if_neg (by decide), List.append_nil]
          exact hJ.out _ _ _ none HJ.out (grown_of_below hb3) (fun _ e => by cases e))
        have HB2 : Hid (Below n₀ W w2) := Lib.hid (HB.out.trans (hb3.mono hgw))
        have HN2 : Hid (w2.cell? ⟨Bn, 0, none⟩ = some (.string nm)) := Lib.hid ((hb3.cell (p := ⟨Bn, 0, none⟩) hbn).trans hn)
        clear hb3 hb2 c1 c2 hn hbn HJ HB HN HT HA hY hJ
        gi_wp2_with fail
        refine ⟨fun _ h => (by cases h), ?_⟩
        gi_wp2
        go_roundw
        case rel => exact ⟨k + 1, by omega, by go_num, HJ2, HB2, HN2⟩
        case measure => simp [intOf]; omega
      · rw [hh] at HT
        rw [show alike G[k].1 (toL nm) = true from hh] at HA
        clear hh
        gi_wp2_with fail
        refine ⟨trivial, fun h => (by cases h), ?_⟩
        refine (callsIn_wide.2 (HA.out _)).mono ?_
        rintro e w2 ⟨rfl, hb2⟩
        have hbx := (Has.new wr 103 #[.string (ofL G[k].1), .string (ofL G[k].2)]).cell 1
        have hb3 := below_chain ((Below.refl wr.heap.size wr).alloc (Nat.le_refl _) (.cells #[.string (ofL G[k].1), .string (ofL G[k].2)] 103)) hb2
        have cv : w2.cell? ⟨wr.heap.size, 1, none⟩ = some (.string (ofL G[k].2)) := (hb2.cell (p := ⟨wr.heap.size, 1, none⟩) (by simp)).trans hbx
        have HJ2 : Hid (J (vs (G.take k) (toL nm)) w2) := Lib.hid (hJ.out _ _ _ none HJ.out (grown_of_below hb3) (fun _ e => by cases e))
        have HB2 : Hid (Below n₀ W w2) := Lib.hid (HB.out.trans (hb3.mono hgw))
        have HN2 : Hid (w2.cell? ⟨Bn, 0, none⟩ = some (.string nm)) := Lib.hid ((hb3.cell (p := ⟨Bn, 0, none⟩) hbn).trans hn)
        have hlen : (vs (G.take k) (toL nm)).length < G.length := by
          have h1 := vs_len (G.take k) (toL nm)
          have h2 := List.length_take_le k G
          omega
        obtain ⟨fn, tmps, assign, body, hy, hR⟩ := hY.out (vs (G.take k) (toL nm)) (clamp G[k].2) w2 HJ2.out hlen
        rw [show encV (clamp G[k].2) = #[.string (ofL G[k].2)] by unfold encV; rw [clamp_val s2]] at hy
        have HR := Lib.hid hR
        rw [if_pos trivial] at HT
        clear hR hb3 hb2 hbx c1 c2 hn hbn HJ HB HN HA hJ hlen HJ2
        gi_wp2_with fail
        refine ⟨fun h => (by cases h), ?_⟩
        refine HR.out.mono ?_
        rintro e W3 (⟨rfl, hJ3, hk3⟩ | ⟨rfl, hJx3⟩)
        · have HJ3 : Hid (J (vs (G.take (k + 1)) (toL nm)) W3) := Lib.hid (by rw [HT.out]; exact hJ3)
          have HB3 : Hid (Below n₀ W W3) := Lib.hid (HB2.out.trans hk3.1)
          have HN3 := Lib.hid (hk3.2 HN2.out)
          clear hJ3 hk3 HR HB2 HN2 HT cv hY
          gi_wp2
          go_roundw
          case rel => exact ⟨k + 1, by omega, by go_num, HJ3, HB3, HN3⟩
          case measure => simp [intOf]; omega
        · have HX : Hid (∃ pre, pre <+: vs G (toL nm) ∧ Jx pre W3) := Lib.hid ⟨_, ⟨vs (G.drop (k + 1)) (toL nm), by rw [← HT.out, ← vs_append, List.take_append_drop]⟩, hJx3⟩
          clear hJx3 HR HB2 HN2 HT cv hY
          gi_wp2
          refine bodyPost_ret (results_none rfl _ _ _) rfl ?_
          exact ⟨⟨_, rfl⟩, .inr HX.out⟩
    · have hall : G.take k = G := List.take_of_length_le (by omega)
      have HJE := HJ.out
      rw [hall] at HJE
      have HJH := Lib.hid HJE
      clear HJE HJ hall hY hJ
      gi_wp2
      go_end0
      exact ⟨⟨_, rfl⟩, .inl ⟨_, rfl, HJH.out⟩⟩
/-- the values, one after the other: all of them, or as many as a round let come -/
theorem vals_stops (n Bs Bn n₀ : Nat) (G : List HField) (hG : Few G) (nm : ByteArray) (v : Value) (w : World) (hBs : Bs < w.heap.size) (hn0 : n₀ ≤ w.heap.size)
    (hc : w.cell? ⟨Bs, 0, none⟩ = some v) (hcn : w.cell? ⟨Bn, 0, none⟩ = some (.string nm)) (hL : Under n₀ w v G) :
    SeqStopsK Fence.wide n Tryz.prog 79 #[.pointer (some ⟨Bs, 0, none⟩), .pointer (some ⟨Bn, 0, none⟩)] encV (Kp n₀ Bn nm) (fun ys => ys = vs G (toL nm)) (fun pre => pre <+: vs G (toL nm)) G.length w :=
  fun l J Jx W hW hJ _ hY h0 =>
    vals_in n l Bs Bn n₀ G hG nm v J Jx W hJ (Nat.le_trans hn0 hW.size) hY ((hW.cell (p := ⟨Bs, 0, none⟩) hBs).trans hc) ((hW.cell (p := ⟨Bn, 0, none⟩) (World.block_lt_of_cell? _ _ hcn)).trans hcn) (hL.below (hW.mono hn0)) h0
end Go.Proofs.YtggmafmebocoaaaGreatDoor.PVals

/- Layer 7 of the program: Get. -/
namespace Go.Proofs.YtggmafmebocoaaaGreatDoor.PGet
open Go.ChangeShapes Go.WideShapes Go.ChangeAt Go.RowKit LexPure Bytes Ret FieldsPure Flds R7Get PAlike PVals Mem Go.Shelf
set_option maxRecDepth 100000
attribute [local go_sem] Oper.semAt_some
def firstV : List V → List UInt8
  | [] => []
  | x :: _ => x.1
theorem firstV_snoc (pre : List V) (x : V) : firstV (pre ++ [x]) = if pre.length = 0 then x.1 else firstV pre := by
  cases pre with
  | nil => rfl
  | cons => rfl
theorem vs_first (G : List HField) (hG : ∀ f ∈ G, f.2.length ≤ 1048576) (n : List UInt8) : firstV (vs G n) = getV G n ∧ (vs G n).length = getN G n := by
  induction G with
  | nil => exact ⟨rfl, rfl⟩
  | cons f G ih =>
    obtain ⟨h1, h2⟩ := ih (fun g hg => hG g (List.mem_cons_of_mem _ hg))
    rw [show f :: G = [f] ++ G from rfl, vs_append, vs_one, List.singleton_append, getV_cons, getN_cons]
    cases h : hit n f
    · simp only [Bool.false_eq_true, if_false, List.nil_append]
      exact ⟨h1, h2⟩
    · simp only [if_true, List.singleton_append, List.length_cons]
      exact ⟨clamp_val (hG f List.mem_cons_self), by rw [h2]⟩
theorem few_all {G : List HField} (h : Few G) : ∀ f ∈ G, f.1.length ≤ 1048576 ∧ f.2.length ≤ 1048576 := fun f hf => by
  obtain ⟨j, hj, rfl⟩ := List.mem_iff_getElem.1 hf
  exact h j hj
set_option maxHeartbeats 3200000 in
theorem pget_any (v : Value) (G : List HField) (nm : ByteArray) (hG : Few G) (w : World) (hF : FL w v G) :
    Calls Tryz.prog 51 #[v, .string nm] w fun e w' => e = .returned (.tuple #[.string (ofL (getV G (toL nm))), .int .i64 (getN G (toL nm))]) ∧ Below w.heap.size w w' := by
  obtain ⟨hv1, hv2⟩ := vs_first G (fun f hf => (few_all hG f hf).2) (toL nm)
  obtain ⟨p, cap, hvv, hle, _⟩ := id hF
  subst hvv
  have HF := Lib.hid hF
  have HG := Lib.hid hG
  have HV := Lib.hid hv1
  have HN := Lib.hid hv2
  clear hF hG hv1 hv2
  refine (callsIn_wide (n := 3)).1 ?_
  refine callsIn_of_wp_marks Tryz.func51 rfl trivial ?_ rfl
  simp only [Tryz.ntmps51, List.size_toArray, List.length_cons, List.length_nil, Nat.reduceAdd, Nat.reduceSub, Array.replicate_succ, Array.replicate_zero, List.push_toArray, List.append_toArray, List.nil_append, List.cons_append]
  gi_wp2_with fail
  refine ⟨trivial, ?_⟩
  refine (callsIn_wide.2 (pvalues_any _ _ _ nm _)).mono ?_
  rintro e w' ⟨rfl, rfl⟩
  gi_wp2
  have b0 := (((Boxed.new w 9 (.string ⟨#[]⟩)).alloc (.cells #[.int .i64 0] 3)).alloc (.cells #[.slice p G.length cap] 35)).alloc (.cells #[.string nm] 9)
  have b1 := ((Boxed.new (w.alloc (.cells #[.string ⟨#[]⟩] 9)) 3 (.int .i64 0)).alloc (.cells #[.slice p G.length cap] 35)).alloc (.cells #[.string nm] 9)
  have b2 := (Boxed.new ((w.alloc (.cells #[.string ⟨#[]⟩] 9)).alloc (.cells #[.int .i64 0] 3)) 35 (.slice p G.length cap)).alloc (.cells #[.string nm] 9)
  have b3 := Boxed.new (((w.alloc (.cells #[.string ⟨#[]⟩] 9)).alloc (.cells #[.int .i64 0] 3)).alloc (.cells #[.slice p G.length cap] 35)) 9 (.string nm)
  have hB0 : Below w.heap.size w ((((w.alloc (.cells #[.string ⟨#[]⟩] 9)).alloc (.cells #[.int .i64 0] 3)).alloc (.cells #[.slice p G.length cap] 35)).alloc (.cells #[.string nm] 9)) :=
    ((((Below.refl _ w).alloc (Nat.le_refl _) _).alloc (by simp) _).alloc (by simp; omega) _).alloc (by simp; omega) _
  have hsz : ((((w.alloc (.cells #[.string ⟨#[]⟩] 9)).alloc (.cells #[.int .i64 0] 3)).alloc (.cells #[.slice p G.length cap] 35)).alloc (.cells #[.string nm] 9)).heap.size = w.heap.size + 1 + 1 + 1 + 1 := by simp
  simp only [World.size_alloc] at b1 b2 b3
  generalize ((((w.alloc (.cells #[.string ⟨#[]⟩] 9)).alloc (.cells #[.int .i64 0] 3)).alloc (.cells #[.slice p G.length cap] 35)).alloc (.cells #[.string nm] 9)) = W0 at *
  have hU := (FL.under HF.out).below hB0
  clear HF
  refine wpIn_rangeFunc_ownG rfl (by omega) (gf := 79) (lb := #[.pointer (some ⟨w.heap.size + 1 + 1, 0, none⟩), .pointer (some ⟨w.heap.size + 1 + 1 + 1, 0, none⟩)]) rfl trivial (enters_of Tryz.func79 (by kernel_rfl) rfl)
    (vals_stops (3 - 1) (w.heap.size + 1 + 1) (w.heap.size + 1 + 1 + 1) w.heap.size G HG.out nm (.slice p G.length cap) W0 b2.lt (by omega) b2.cell b3.cell hU) kp_t (kp_b (by omega) b3.lt) (Below.refl _ _) (fun _ => rfl)
    (fun pre W => Boxed W w.heap.size 9 (.string (ofL (firstV pre))) ∧ Boxed W (w.heap.size + 1) 3 (.int .i64 (pre.length : Nat)) ∧ Boxed W (w.heap.size + 1 + 1 + 1) 9 (.string nm) ∧ Below w.heap.size w W)
    (fun _ _ _ => False)
    (OwnFrom.and (Own.from (boxed_own _ _ _) _) (OwnFrom.and (Own.from (boxed_own _ _ (fun pre : List V => Value.int .i64 (pre.length : Nat))) _) (OwnFrom.and (Own.from (boxed_own _ _ (fun _ => Value.string nm)) _) (ownFrom_below (Nat.le_refl _) (by omega)))))
    (fun _ _ _ _ _ hs _ _ => hs)
    ⟨b0, b1, b3, hB0⟩
    (fun x => { tmps := #[.slice p G.length cap, .string nm, undef, undef, .string ⟨#[]⟩, .int .i64 0, .pointer (some ⟨w.heap.size, 0, none⟩), .pointer (some ⟨w.heap.size + 1, 0, none⟩), .string (ofL x.1), .slice p G.length cap, .string nm, .func (.func 79) #[] #[.pointer (some ⟨w.heap.size + 1 + 1, 0, none⟩), .pointer (some ⟨w.heap.size + 1 + 1 + 1, 0, none⟩)], .string (ofL x.1), undef, undef, undef, undef, undef, undef, undef], defers := [] }) ?assign ?body ?done ?stop
  case assign =>
    intro l x W K hK
    dsimp only [encV]
    gi_wp2
    exact hK
  case body =>
    rintro l pre x W ⟨h0, h1, h3, hB⟩ hlt
    have c0 := h0.cell
    have f0 := h0.frozen
    have c1 := h1.cell
    have f1 := h1.frozen
    have hfs := firstV_snoc pre x
    have hls : ((pre ++ [x]).length : Int) = (pre.length : Int) + 1 := by simp
    have hk : ∀ u : Value, KeepsFrom W0.heap.size W ((W.setCell ⟨w.heap.size, 0, none⟩ (.string (ofL x.1))).setCell ⟨w.heap.size + 1, 0, none⟩ u) ∧ Below w.heap.size W ((W.setCell ⟨w.heap.size, 0, none⟩ (.string (ofL x.1))).setCell ⟨w.heap.size + 1, 0, none⟩ u) := fun u =>
      ⟨((KeepsOthers.setCell _ _ _).trans (KeepsOthers.setCell _ _ _)).from _, ((Below.refl w.heap.size W).setCell (p := ⟨w.heap.size, 0, none⟩) (Nat.le_refl _) _).setCell (p := ⟨w.heap.size + 1, 0, none⟩) (by simp) _⟩
    have hk2 : ∀ u : Value, KeepsFrom W0.heap.size W (W.setCell ⟨w.heap.size + 1, 0, none⟩ u) ∧ Below w.heap.size W (W.setCell ⟨w.heap.size + 1, 0, none⟩ u) := fun u =>
      ⟨(KeepsOthers.setCell _ _ _).from _, (Below.refl w.heap.size W).setCell (p := ⟨w.heap.size + 1, 0, none⟩) (by simp) _⟩
    clear b0 b1 b2 b3 hU HG HV HN
    by_cases hz : pre.length = 0
    · rw [if_pos hz] at hfs
      have hz2 : (pre.length : Int) = 0 := by omega
      rw [hz2] at c1 hls
      clear hz2
      gi_wp2
      obtain ⟨k1, k2⟩ := hk (.int .i64 1)
      refine ⟨k1, ⟨k2, fun _ => ((h3.other (by omega) _).other (by omega) _).cell⟩, ?_, ?_, (h3.other (by omega) _).other (by omega) _, hB.trans k2⟩
      · rw [hfs]
        exact (h0.set _).other (by omega) _
      · rw [hls]
        exact (h1.other (by omega) _).set _
    · rw [if_neg hz] at hfs
      have hlt2 : (pre.length : Int) < 4398046511104 := by omega
      have hpos : (0 : Int) < (pre.length : Int) := by omega
      have hne : ((pre.length : Int) == 0) = false := beq_eq_false_iff_ne.2 (by omega)
      replace hls := Lib.hid hls
      replace hfs := Lib.hid hfs
      replace h1 := Lib.hid h1
      clear hz hlt
      generalize hm : (pre.length : Int) = m at *
      replace hm := Lib.hid hm
      gi_wp2
      obtain ⟨k1, k2⟩ := hk2 (.int .i64 (m + 1))
      refine ⟨k1, ⟨k2, fun _ => (h3.other (by omega) _).cell⟩, ?_, ?_, h3.other (by omega) _, hB.trans k2⟩
      · rw [hfs.out]
        exact h0.other (by omega) _
      · rw [hls.out]
        exact h1.out.set _
  case done =>
    rintro D ys W hD rfl ⟨h0, h1, h3, hB⟩ hK
    have c0 := h0.cell
    have c1 := h1.cell
    clear b0 b1 b2 b3 hU
    gi_wp2
    gi_quiet (fail)
    gi_wp2
    have hBd : Below w.heap.size w (W.drewN nq) := ⟨hB.os, hB.tape, hB.output, hB.size, hB.block⟩
    refine ⟨by simp, .inl ⟨_, _, rfl, run_takeDeferred (w := W.drewN nq) hK, ?_⟩⟩
    refine ⟨_, results_tmp2 rfl _ _ _, ?_, hBd.trans (belowK_b (w := w) (Nat.le_refl _) (W.drewN nq) D _ _ (by omega) hK rfl rfl)⟩
    rw [← HV.out, ← HN.out]
    rfl
  case stop =>
    rintro D c pre W _ _ h _
    exact h.elim
end Go.Proofs.YtggmafmebocoaaaGreatDoor.PGet

/- Layer 4 of the program: what the library's calls answer it (strings.Split at a comma), off the shelf's contracts. -/
namespace Go.Proofs.YtggmafmebocoaaaGreatDoor.PLib
open Go.ChangeShapes Go.WideShapes Go.ChangeAt Go.RowKit LexPure Bytes Ret LexSplit Texts Rows1
/-- internal/bytealg.MaxLen holds an int -/
def MaxInt (w : World) : Prop := ∃ m, w.cell? ⟨0, 0, none⟩ = some (.int .i64 m)
theorem MaxInt.of_shape {w : World} (h : w.ShapedOpen Tryz.prog) : MaxInt w :=
  cell_of_shapedOpen_int (t := 3) (zero := #[.int .i64 0]) h (of_decide_eq_true (by kernel_rfl)) (by kernel_rfl) rfl (by kernel_rfl) (by kernel_rfl) Tryz.underlying3
theorem MaxInt.below {w w' : World} (h : MaxInt w) (hb : Below w.heap.size w w') : MaxInt w' := by
  obtain ⟨m, hm⟩ := h
  exact ⟨m, (hb.cell (p := ⟨0, 0, none⟩) (World.block_lt_of_cell? _ _ hm)).trans hm⟩
theorem lib_split (s : ByteArray) (hs : s.size < 4294967281) (w : World) (hm : MaxInt w) :
    Calls Tryz.prog 80 #[.string s, .string ⟨#[44]⟩] w fun e w' => ∃ v, e = .returned v ∧ Texts w' v (pieces (toL s)) ∧ Below w.heap.size w w' := by
  obtain ⟨m, hm⟩ := hm
  refine (Any.strings_Split Tryz.lays146 (by kernel_rfl) s ⟨#[44]⟩ m w hs hm (by decide)).mono ?_
  rintro e w' ⟨rfl, rfl⟩
  have hl : (Go.Lib.splitB ⟨#[44]⟩ 0 (Go.Lib.countB s ⟨#[44]⟩) s).map (·.data.toList) = pieces (toL s) := by
    rw [Go.Lib.splitB_data, show Go.Lib.countB s ⟨#[44]⟩ = s.data.toList.count 44 from Go.Lib.count_one 44 _]
    exact split_pieces _
  have hn : (pieces (toL s)).length = Go.Lib.countB s ⟨#[44]⟩ + 1 := by
    rw [← hl, List.length_map]
    exact Go.Lib.splitB_all ⟨#[44]⟩ (by decide) 0 _ s rfl
  have hle := Go.Lib.countB_le ⟨#[44]⟩ (by decide) s.size s (Nat.le_refl _)
  generalize Go.Lib.splitB ⟨#[44]⟩ 0 (Go.Lib.countB s ⟨#[44]⟩) s = B at *
  refine ⟨_, rfl, ?_, (Below.refl _ _).alloc (Nat.le_refl _) _⟩
  rw [← hn]
  refine ⟨_, _, rfl, by omega, fun h0 => ⟨w.heap.size, 0, rfl, by simp, fun j hj => ?_⟩⟩
  rw [Nat.zero_add]
  have hB : (pieces (toL s))[j]? = (B[j]?).map (·.data.toList) := by rw [← hl, List.getElem?_map]
  rw [List.getElem?_eq_getElem hj] at hB
  cases hx : B[j]? with
  | none => rw [hx] at hB; cases hB
  | some x =>
    rw [hx] at hB
    have hq : (pieces (toL s))[j] = x.data.toList := by simpa using hB
    rw [World.cell?_alloc_at _ _ _ _ (by simp)]
    rw [hq, show ofL x.data.toList = x from toL_inj (toL_ofL _)]
    simp [hx]
end Go.Proofs.YtggmafmebocoaaaGreatDoor.PLib

/- Layer 4 of the program: Elements. -/
namespace Go.Proofs.YtggmafmebocoaaaGreatDoor.PElements
open Go.ChangeShapes Go.WideShapes Go.ChangeAt Go.RowKit LexPure Bytes Ret LexSplit LexList PLib PTrim Texts Rows1 Mem
set_option maxRecDepth 20000
theorem elements_one (s : List UInt8) : elements s = (pieces s).flatMap one := by
  unfold elements
  induction pieces s with
  | nil => rfl
  | cons p ps ih =>
    rw [List.flatMap_cons, ← ih, List.map_cons, List.filter_cons]
    unfold one
    cases h : (trim p).isEmpty <;> simp
theorem pieces_length (s : List UInt8) : (pieces s).length ≤ s.length + 1 := by
  induction s with
  | nil => simp [pieces]
  | cons c s ih =>
    unfold pieces
    split
    · simp only [List.length_cons]; omega
    · split
      · simp
      · rename_i h
        rw [h] at ih
        simp only [List.length_cons] at ih ⊢; omega
theorem pieces_mem (s : List UInt8) : ∀ p ∈ pieces s, p.length ≤ s.length := by
  induction s with
  | nil => intro p hp; simp [pieces] at hp; subst hp; simp
  | cons c s ih =>
    intro p hp
    unfold pieces at hp
    split at hp
    · rcases List.mem_cons.1 hp with rfl | hp
      · simp
      · have := ih p hp; simp only [List.length_cons]; omega
    · split at hp
      · rcases List.mem_cons.1 hp with rfl | hp
        · simp
        · cases hp
      · rename_i q qs h
        rcases List.mem_cons.1 hp with rfl | hp
        · have := ih q (by rw [h]; exact List.mem_cons_self ..)
          simp only [List.length_cons]; omega
        · have := ih p (by rw [h]; exact List.mem_cons_of_mem _ hp)
          simp only [List.length_cons]; omega
/-- behind the first k pieces -/
structure PInv (w : World) (L : List (List UInt8)) (k : Nat) (v : Value) (G : List (List UInt8)) (wr : World) : Prop where
  row : wr.ownsRow w.heap.size 9 1 v G.length (strs G)
  below : Below w.heap.size w wr
  got : G = (L.take k).flatMap one
  few : G.length ≤ k
theorem ownsRow_mono {w : World} {base base' n size : Nat} {e : TypeId} {v : Value} {xs : List Value} (h : w.ownsRow base e size v n xs) (hb : base' ≤ base) : w.ownsRow base' e size v n xs := by
  refine ⟨h.1, ?_⟩
  rcases h.2 with h0 | ⟨g, cap, cur, h1, h2, h3⟩
  · exact .inl h0
  · exact .inr ⟨g, cap, cur, h1, Nat.le_trans hb h2, h3⟩
theorem ownsRow_below {w w' : World} {base n size : Nat} {e : TypeId} {v : Value} {xs : List Value} (h : w.ownsRow base e size v n xs) (hb : Below w.heap.size w w') : w'.ownsRow base e size v n xs := by
  refine ⟨h.1, ?_⟩
  rcases h.2 with h0 | ⟨g, cap, cur, h1, h2, h3, h4⟩
  · exact .inl h0
  · exact .inr ⟨g, cap, cur, h1, h2, by rw [hb.block g (Array.getElem?_eq_some_iff.1 h3).1]; exact h3, h4⟩
set_option maxHeartbeats 1600000 in
theorem pelements_any (s : ByteArray) (hs : s.size < 4294967281) (w : World) (hm : MaxInt w) :
    Calls Tryz.prog 66 #[.string s] w fun e w' => ∃ v, e = .returned v ∧ w'.ownsRow w.heap.size 9 1 v (elements (toL s)).length (strs (elements (toL s))) ∧ Below w.heap.size w w' := by
  obtain ⟨i0, hi, hz0, hz1, hz2⟩ := info_parts infoS
  have HS := Lib.hid (lib_split s hs w hm)
  have hL := pieces_length (toL s)
  rw [toL_length] at hL
  have hP := pieces_mem (toL s)
  rw [toL_length] at hP
  have HP := Lib.hid hP
  have HE := Lib.hid (elements_one (toL s))
  clear hP hm
  go_enter Tryz.func66, Tryz.ntmps66
  go_wp2_with fail
  refine HS.out.mono ?_
  rintro e w1 ⟨v0, rfl, hT, hb⟩
  clear HS
  obtain ⟨p, cap, rfl, hn1, _⟩ := id hT
  have HT := Lib.hid hT
  clear hT
  generalize pieces (toL s) = L at *
  go_wp2_with fail
  have HI0 : Hid (∃ G, PInv w1 L 0 (.slice none 0 0) G w1) := Lib.hid ⟨[], World.ownsRow_nil _ _ _ _, Below.refl _ _, rfl, Nat.le_refl _⟩
  go_loopw [3, 10] (fun v i wr => ∃ k : Nat, k ≤ L.length ∧ i = .int .i64 k ∧ Hid (∃ G, PInv w1 L k v G wr)) (fun _ i _ => L.length - (intOf i).toNat)
  case atStart => exact ⟨0, Nat.zero_le _, rfl, HI0⟩
  case round =>
    obtain ⟨k, hk, rfl, HI⟩ := hrel
    clear HI0
    obtain ⟨G, I⟩ := HI.out
    by_cases hlt : k < L.length
    · have hki : (k : Int) < (L.length : Int) := by omega
      have hrow := I.row
      have hbw := I.below
      have hfew := I.few
      obtain ⟨p', cap', hv, _, hc⟩ := HT.out.below hbw
      injection hv with hv1 hv2 hv3
      subst hv1
      subst hv3
      obtain ⟨g, o, rfl, hg, hcell⟩ := hc (by omega)
      have cx := hcell k hlt
      have hXs : L[k].length ≤ s.size := HP.out _ (List.getElem_mem hlt)
      have hgot : (L.take (k + 1)).flatMap one = G ++ one L[k] := by
        rw [List.take_add_one, List.getElem?_eq_getElem hlt, List.flatMap_append, ← I.got]
        simp
      generalize L[k] = X at *
      have HTr := Lib.hid (fun w => ptrim_any (ofL X) (by rw [ofL_size]; unfold maxLen; omega) w)
      rw [toL_ofL] at HTr
      by_cases hem : (trim X).isEmpty = true
      · have h1 : one X = [] := by unfold one; rw [if_pos hem]
        have e0 : toL (ofL (trim X)) = [] := by rw [toL_ofL]; exact List.isEmpty_iff.1 hem
        have e1 : (ofL (trim X)).toList = [] := by rw [ByteArray.toList_eq]; exact e0
        have e2 : (ofL (trim X)).toList.isEmpty = true := by rw [e1]; rfl
        have HR : Hid (∀ w2, Below wr.heap.size wr w2 → ∃ G, PInv w1 L (k + 1) u3 G w2) := Lib.hid (fun w2 h2 => ⟨G, ownsRow_below hrow h2, below_chain hbw h2, by rw [hgot, h1, List.append_nil], by omega⟩)
        clear hem h1 e0 hrow hc hcell hgot I HI
        generalize ofL (trim X) = E at *
        go_wp2_with (refine (HTr.out _).mono ?_; rintro e w2 ⟨rfl, hb2⟩)
        have HR2 := Lib.hid (HR.out _ hb2)
        clear HR hb2
        go_roundw
        case rel => exact ⟨k + 1, by omega, by go_num, HR2⟩
        case measure => simp [intOf]; omega
      · have h1 : one X = [trim X] := by unfold one; rw [if_neg hem]
        have e1 : ¬ (ofL (trim X)).toList = [] := fun h => by
          rw [ByteArray.toList_eq] at h
          rw [show (ofL (trim X)).data.toList = trim X from toL_ofL _] at h
          rw [h] at hem
          exact hem rfl
        have e2 : (ofL (trim X)).toList.isEmpty = false := by
          cases h : (ofL (trim X)).toList with
          | nil => exact absurd h e1
          | cons => rfl
        have HR : Hid (∀ w2 v' w3, Below wr.heap.size wr w2 → w3.ownsRow w1.heap.size 9 1 v' (G.length + 1) (strs G ++ [.string (ofL (trim X))]) → Below w1.heap.size w2 w3 → ∃ G, PInv w1 L (k + 1) v' G w3) := Lib.hid (fun w2 v' w3 h2 h3 h4 => ⟨G ++ [trim X], by rw [List.length_append, strs_append]; exact h3, (below_chain hbw h2).trans h4, by rw [hgot, h1], by rw [List.length_append]; simp; omega⟩)
        have hs1 := hbw.size
        clear hem h1 hc hcell hgot I HI
        generalize ofL (trim X) = E at *
        go_wp2_with fail
        refine (HTr.out _).mono ?_
        rintro e w2 ⟨rfl, hb2⟩
        have hrow2 := ownsRow_below hrow hb2
        have hs2 := hb2.size
        have HB2 := Lib.hid hb2
        clear hb2 hrow
        go_wp2_with (at_builtin; refine wpList_append_own _ rfl _ _ 22 rfl w1.heap.size 9 i0 (.string ByteArray.empty) 1 16 Tryz.underlying22 hi hz0 hz1 hz2 rfl (by decide) _ _ _ rfl (hrow2.alloc _) ⟨w2.heap.size, 0, none⟩ 1 1 [.string E] rfl rfl (cell_one_new _ _ _) (fun x hx => by simp at hx; subst hx; rfl) (by unfold maxLen; omega) (by omega) (by simp; omega) ?_; intro v' w3 hown' hgrow3 hnil3)
        have HR2 : Hid (∃ G, PInv w1 L (k + 1) v' G w3) := Lib.hid (HR.out w2 v' w3 HB2.out hown' (Below.grown ((Below.refl _ _).alloc (by omega) _) hgrow3 (by simp; omega) (fun j hj => (hrow2.lt _ hj).1)))
        clear hown' hgrow3 hnil3 HR HB2 hrow2
        go_wp2_with fail
        go_roundw
        case rel => exact ⟨k + 1, by omega, by go_num, HR2⟩
        case measure => simp [intOf]; omega
    · have hall : L.take k = L := List.take_of_length_le (by omega)
      have HF : Hid (G = elements (toL s)) := Lib.hid (by rw [HE.out, I.got, hall])
      have HR : Hid (wr.ownsRow w.heap.size 9 1 u3 G.length (strs G) ∧ Below w.heap.size w wr) := Lib.hid ⟨ownsRow_mono I.row hb.size, below_chain hb I.below⟩
      obtain ⟨pv, cv, hpv, _⟩ := row_form I.row
      subst hpv
      clear I HI hall HE hb HT
      go_wp2_with fail
      go_ret
      rw [← HF.out]
      exact ⟨_, rfl, HR.out⟩
end Go.Proofs.YtggmafmebocoaaaGreatDoor.PElements

/- Layer 4, the document's own Blank. -/
namespace Go.Proofs.YtggmafmebocoaaaGreatDoor.RBlank
open Go.ChangeShapes Go.WideShapes Go.ChangeAt Go.RowKit LexPure Bytes Ret
set_option maxRecDepth 20000
end Go.Proofs.YtggmafmebocoaaaGreatDoor.RBlank

/- Layer 4, the document's own Trim. -/
namespace Go.Proofs.YtggmafmebocoaaaGreatDoor.RTrim
open Go.ChangeShapes Go.WideShapes Go.ChangeAt Go.RowKit LexPure Bytes Ret RBlank
set_option maxRecDepth 20000
theorem drop_at (s : ByteArray) (k : Nat) (h : k < s.size) : ((toL s).drop k).dropWhile blankB = if blankB s[k] then ((toL s).drop (k + 1)).dropWhile blankB else (toL s).drop k := by
  rw [toL_drop s k h, List.dropWhile_cons]
theorem last_at (D : List UInt8) (j : Nat) (c : UInt8) (h : D[j]? = some c) : (D.take (j + 1)).reverse.dropWhile blankB = if blankB c then (D.take j).reverse.dropWhile blankB else (D.take (j + 1)).reverse := by
  rw [List.take_add_one, h]
  simp only [Option.toList_some, List.reverse_append, List.reverse_cons, List.reverse_nil, List.nil_append, List.cons_append]
  rw [List.dropWhile_cons]
end Go.Proofs.YtggmafmebocoaaaGreatDoor.RTrim

/- Layer 4, the document's own Elements. -/
namespace Go.Proofs.YtggmafmebocoaaaGreatDoor.RElements
open Go.ChangeShapes Go.WideShapes Go.ChangeAt Go.RowKit LexPure Bytes Ret RTrim LexList Rows1 Texts
set_option maxRecDepth 20000
def rest (s : ByteArray) (f : Nat) : List (List UInt8) := if f ≤ s.size then elements ((toL s).drop f) else []
/-- behind k bytes, the last comma ahead of f -/
structure EInv (w : World) (s : ByteArray) (k f : Nat) (v : Value) (G : List (List UInt8)) (wr : World) : Prop where
  row : wr.ownsRow w.heap.size 9 1 v G.length (strs G)
  below : Below w.heap.size w wr
  all_ : elements (toL s) = G ++ rest s f
  le : f ≤ k
  in_ : k ≤ s.size → f ≤ s.size
  out_ : s.size < k → s.size < f
  no : noComma (((toL s).drop f).take (k - f)) = true
  few : G.length ≤ k
theorem rest_end {s : ByteArray} {f : Nat} (hf : f ≤ s.size) (h : noComma (((toL s).drop f).take (s.size - f)) = true) : rest s f = one (((toL s).drop f).take (s.size - f)) := by
  unfold rest
  have e : ((toL s).drop f).take (s.size - f) = (toL s).drop f := List.take_of_length_le (by rw [List.length_drop, toL_length]; omega)
  rw [if_pos hf]
  rw [e] at h ⊢
  exact elements_plain h
theorem rest_cut {s : ByteArray} {f k : Nat} (hf : f ≤ k) (hk : k < s.size) (h : noComma (((toL s).drop f).take (k - f)) = true) (hc : s[k] = 44) : rest s f = one (((toL s).drop f).take (k - f)) ++ rest s (k + 1) := by
  unfold rest
  rw [if_pos (by omega), if_pos (by omega)]
  have e : (toL s).drop f = ((toL s).drop f).take (k - f) ++ 44 :: (toL s).drop (k + 1) := by
    have h1 := List.take_append_drop (k - f) ((toL s).drop f)
    rw [List.drop_drop, show f + (k - f) = k by omega, toL_drop s k hk, hc] at h1
    exact h1.symm
  conv => lhs; rw [e]
  exact elements_cut h
theorem piece_eq (s : ByteArray) (f k : Nat) : toL (s.extract f k) = ((toL s).drop f).take (k - f) := by
  rw [toL_extract, List.drop_take]
end Go.Proofs.YtggmafmebocoaaaGreatDoor.RElements

/- append of one row of the call's own onto another: the source nil or not, in one law. No program is named. -/
namespace Go.Proofs.YtggmafmebocoaaaGreatDoor.AppendRow

theorem wpList_append_row {P : Program} {w : World} {ops : Array Oper} {rest : List Oper} {o : Oper} {a : Act} {Q : Exit → Act → World → Prop} (hgd : o.guard = none) (s x : Operand) (t : TypeId)
    (ho : o.op = .call { callee := .builtin .append, args := #[s, x], argTypes := #[t, t] })
    (base : Nat) (e : TypeId) (i : TypeInfo) (z : Value) (size bytes : Nat) (ht : P.underlying t = some (.slice e)) (hi : P.info? e = some i) (hz : i.zero = some z)
    (hsize : i.size = size) (hby : i.bytes = bytes) (hzs : z.cells.size = size) (hsz : 0 < size)
    (v : Value) (n : Nat) (xs : List Value) (hs : a.eval s = v) (hown : w.ownsRow base e size v n xs)
    (y : Value) (base' m : Nat) (ys : List Value) (hx : a.eval x = y) (hrow : w.ownsRow base' e size y m ys) (h1 : ∀ u ∈ ys, u.oneCell' = true)
    (h63 : n + m ≤ maxLen) (hbytes : (n + m) * bytes ≤ 140737488355328) (hbase : base ≤ w.heap.size)
    (h : ∀ v' w', w'.ownsRow base e size v' (n + m) (xs ++ ys) → w.grownBy w' v.ownBlock → (v'.ownBlock = v.ownBlock ∨ v'.ownBlock = some w.heap.size) → wpList P ops Q rest (a.put o.dst v') w') :
    wpList P ops Q (o :: rest) a w := by
  rcases hrow.2 with ⟨rfl, rfl⟩ | ⟨g, cap, cur, rfl, _⟩
  · have hys : ys = [] := List.eq_nil_of_length_eq_zero (by simpa using hrow.1)
    subst hys
    exact wpList_append_own_none hgd s x t ho base e i size ht hi v n xs hs hown hx (h v w (by simpa using hown) (World.grownBy.refl w _) (.inl rfl))
  · exact wpList_append_own_at w hgd s x t ho base e i z size bytes ht hi hz hsize hby hzs hsz v n xs hs hown ⟨g, 0, none⟩ m cap ys hx hrow.1 (hrow.cells rfl) h1 h63 hbytes hbase (fun v' w' a1 a2 _ a4 => h v' w' a1 a2 a4)
end Go.Proofs.YtggmafmebocoaaaGreatDoor.AppendRow

/- Layer 7, the document's own Elements. -/
namespace Go.Proofs.YtggmafmebocoaaaGreatDoor.R7Elements
open Go.ChangeShapes Go.WideShapes Go.ChangeAt Go.RowKit LexPure Bytes Ret Rows1 Texts FieldsPure Flds RAlike7 RElements R7Get KeptRow AppendRow Mem
set_option maxRecDepth 20000
theorem elems_snoc (l : List HField) (f : HField) (n : List UInt8) : elems (l ++ [f]) n = if hit n f then elems l n ++ elements f.2 else elems l n := by
  unfold elems
  rw [List.filter_append, List.flatMap_append]
  cases h : hit n f <;> simp [h]
theorem pieces_len : ∀ s : List UInt8, (pieces s).length ≤ s.length + 1
  | [] => by simp [pieces]
  | c :: s => by
    have ih := pieces_len s
    rw [pieces]
    split
    · simp; omega
    · split
      · simp
      · rename_i p ps hp
        rw [hp] at ih
        simp at ih ⊢
        omega
theorem elements_len (s : List UInt8) : (elements s).length ≤ s.length + 1 := by
  unfold elements
  have h1 := List.length_filter_le (fun e : List UInt8 => !e.isEmpty) ((pieces s).map trim)
  rw [List.length_map] at h1
  have := pieces_len s
  omega
theorem elems_len (l : List HField) (n : List UInt8) (B : Nat) (h : ∀ f ∈ l, f.2.length + 1 ≤ B) : (elems l n).length ≤ l.length * B := by
  induction l with
  | nil => simp [elems]
  | cons f l ih =>
    have ih' := ih (fun g hg => h g (List.mem_cons_of_mem _ hg))
    have hf := h f (List.mem_cons_self)
    have he := elements_len f.2
    unfold elems at *
    rw [List.length_cons, Nat.succ_mul]
    clear h ih
    generalize l.length * B = m at *
    cases hq : hit n f
    · rw [List.filter_cons_of_neg (by rw [hq]; decide)]
      omega
    · rw [List.filter_cons_of_pos hq, List.flatMap_cons, List.length_append]
      omega
/-- the elements of the first k fields -/
structure Gath (w : World) (X : List (List UInt8)) (v : Value) (wr : World) : Prop where
  row : wr.ownsRow w.heap.size 9 1 v X.length (strs X)
  below : Below w.heap.size w wr
theorem Gath.start (w : World) : Gath w [] (.slice none 0 0) w := ⟨World.ownsRow_nil _ _ _ _, Below.refl _ _⟩
theorem Gath.call {w w1 w2 : World} {X : List (List UInt8)} {v : Value} (h : Gath w X v w1) (hb : Below w1.heap.size w1 w2) : Gath w X v w2 :=
  ⟨row_below h.row hb, below_chain h.below hb⟩
theorem Gath.lt {w w1 : World} {X : List (List UInt8)} {v : Value} (h : Gath w X v w1) : ∀ j, v.ownBlock = some j → w.heap.size ≤ j := fun j hj => (h.row.lt j hj).1
theorem strs_cells (L : List (List UInt8)) : ∀ u ∈ Texts.strs L, u.oneCell' = true := by
  intro u hu
  unfold Texts.strs at hu
  obtain ⟨a, _, rfl⟩ := List.mem_map.1 hu
  rfl
end Go.Proofs.YtggmafmebocoaaaGreatDoor.R7Elements

/- append of one row of the call's own onto another, at the operation, inside a fence: the source nil or not. No program is named. -/
namespace Go.Proofs.YtggmafmebocoaaaGreatDoor.AppendIn
open Go.RowKit
theorem run_append_row {P : Program} {w : World} (t ty : TypeId) (base : Nat) (e : TypeId) (i : TypeInfo) (z : Value) (size bytes : Nat) (ht : P.underlying t = some (.slice e)) (hi : P.info? e = some i) (hz : i.zero = some z)
    (hsize : i.size = size) (hby : i.bytes = bytes) (hzs : z.cells.size = size) (hsz : 0 < size)
    (v : Value) (n : Nat) (xs : List Value) (hown : w.ownsRow base e size v n xs)
    (y : Value) (base' m : Nat) (ys : List Value) (hrow : w.ownsRow base' e size y m ys) (h1 : ∀ u ∈ ys, u.oneCell' = true)
    (h63 : n + m ≤ maxLen) (hbytes : (n + m) * bytes ≤ 140737488355328) (hbase : base ≤ w.heap.size) :
    ∃ v' w', (Builtin.append_ #[t, t] ty #[v, y]).run P w = .ok v' w' ∧ w'.ownsRow base e size v' (n + m) (xs ++ ys) ∧ w.grownBy w' v.ownBlock := by
  rcases hrow.2 with ⟨rfl, rfl⟩ | ⟨g, cap, cur, rfl, _⟩
  · have hys : ys = [] := List.eq_nil_of_length_eq_zero (by simpa using hrow.1)
    subst hys
    exact ⟨v, w, run_append_owned_none (P := P) (w := w) base t ty e i size ht hi v n xs hown, by simpa using hown, World.grownBy.refl w _⟩
  · obtain ⟨v', w', hr, h2, h3, _, _⟩ := run_append_own_at (P := P) w base t ty e i z size bytes ht hi hz hsize hby hzs hsz v n xs hown ⟨g, 0, none⟩ m cap ys hrow.1 (hrow.cells rfl) h1 h63 hbytes hbase
    exact ⟨v', w', hr, h2, h3⟩
theorem wpIn_append_row {F : Fence} {nF : Nat} {P : Program} {w : World} {o : Oper} {a : Act} {K : Act → World → Prop} {Q : Exit → Act → World → Prop} (s x : Operand) (t : TypeId)
    (ho : o.op = .call { callee := .builtin .append, args := #[s, x], argTypes := #[t, t] })
    (base : Nat) (e : TypeId) (i : TypeInfo) (z : Value) (size bytes : Nat) (ht : P.underlying t = some (.slice e)) (hi : P.info? e = some i) (hz : i.zero = some z)
    (hsize : i.size = size) (hby : i.bytes = bytes) (hzs : z.cells.size = size) (hsz : 0 < size)
    (v : Value) (n : Nat) (xs : List Value) (hs : a.eval s = v) (hown : w.ownsRow base e size v n xs)
    (y : Value) (base' m : Nat) (ys : List Value) (hx : a.eval x = y) (hrow : w.ownsRow base' e size y m ys) (h1 : ∀ u ∈ ys, u.oneCell' = true)
    (h63 : n + m ≤ maxLen) (hbytes : (n + m) * bytes ≤ 140737488355328) (hbase : base ≤ w.heap.size)
    (h : ∀ v' w', w'.ownsRow base e size v' (n + m) (xs ++ ys) → w.grownBy w' v.ownBlock → K (a.put o.dst v') w') :
    o.wpIn F nF P a w K Q := by
  obtain ⟨v', w', hrun, r1, r2⟩ := run_append_row t o.type base e i z size bytes ht hi hz hsize hby hzs hsz v n xs hown y base' m ys hrow h1 h63 hbytes hbase
  unfold Oper.wpIn
  refine ⟨?_, ?_⟩
  · simp [Oper.about, ho, resolve, Target.leads, Sem.run_pure]
  · rw [Oper.semAt_plain F _ _ (by rw [ho]; intro c hc'; cases hc')]
    simp [execOp, ho, resolve, invoke, builtin, hs, hx, hrun, Result.andThen]
    exact h v' w' r1 r2
/-- behind 'out = append(out, f(..)...)', out in a box: all that the walk owes -/
theorem appended {W w1 w2 : World} {n₀ r0 B : Nat} {t e : TypeId} {size : Nat} {v v' : Value} {k m : Nat} {xs ys : List Value}
    (hv : Boxed W B t v) (hte : t ≠ e) (hrow : W.ownsRow r0 e size v k xs) (hn₀ : n₀ ≤ r0) (hr0 : r0 ≤ W.heap.size) (hB : n₀ ≤ B) (hb : Below W.heap.size W w1) (hrow1 : w1.ownsRow r0 e size v k xs)
    (hown' : w2.ownsRow r0 e size v' m ys) (hg : w1.grownBy w2 v.ownBlock) :
    Boxed w2 B t v ∧ Boxed (w2.setCell ⟨B, 0, none⟩ v') B t v' ∧ (w2.setCell ⟨B, 0, none⟩ v').ownsRow r0 e size v' m ys ∧ KeepsOthers W (w2.setCell ⟨B, 0, none⟩ v') ∧ Below n₀ W (w2.setCell ⟨B, 0, none⟩ v') ∧
      (∀ B' t' u, Boxed W B' t' u → B' < r0 → B' ≠ B → Boxed (w2.setCell ⟨B, 0, none⟩ v') B' t' u) := by
  have hgb : W.grownBy w1 none := ⟨hb.os, hb.tape, hb.output, hb.size, fun k hk _ => hb.block k hk⟩
  have hv0 : Boxed w1 B t v := hv.kept hgb (by simp)
  have hv1 : Boxed w2 B t v := hv0.kept hg (hv.not_row hte hrow)
  have hlt : ∀ j, v.ownBlock = some j → r0 ≤ j := fun j hj => (hrow.lt j hj).1
  refine ⟨hv1, hv1.set v', hown'.kept (grownBy_setCell' w2 B v') (.inr (hv1.not_row hte hown').symm), ?_, ?_, ?_⟩
  · refine ((KeepsOthers.of_grownBy hgb fun j o ej hj => (by cases ej)).trans (KeepsOthers.of_grownBy hg fun j o ej hj => ?_)).trans (KeepsOthers.setCell _ _ _)
    rcases hrow1.2 with ⟨rfl, _⟩ | ⟨g, cap, cur, rfl, _, hgb, _⟩
    · simp [Value.ownBlock] at ej
    · obtain rfl : g = j := by simpa [Value.ownBlock] using ej
      rw [hgb] at hj; cases hj; rfl
  · exact ((hb.mono (Nat.le_trans hn₀ hr0)).grown hg (Nat.le_trans (Nat.le_trans hn₀ hr0) hb.size) fun j ej => Nat.le_trans hn₀ (hlt j ej)).setCell (p := ⟨B, 0, none⟩) hB v'
  · intro B' t' u hu hB' hne
    exact ((hu.kept hgb (by simp)).kept hg (fun e => by have := hlt B' e.symm; omega)).other hne _
end Go.Proofs.YtggmafmebocoaaaGreatDoor.AppendIn

/- Layer 7 of the program: Elements. -/
namespace Go.Proofs.YtggmafmebocoaaaGreatDoor.PElems7
open Go.ChangeShapes Go.WideShapes Go.ChangeAt Go.RowKit LexPure Bytes Ret Rows1 Texts FieldsPure Flds R7Get KeptRow R7Elements PAlike PLib PElements PVals PGet AppendIn Mem Go.Shelf
set_option maxRecDepth 100000
attribute [local go_sem] Oper.semAt_some
def elemsV (l : List V) : List (List UInt8) := l.flatMap (fun x => elements x.1)
theorem elemsV_snoc (pre : List V) (x : V) : elemsV (pre ++ [x]) = elemsV pre ++ elements x.1 := by simp [elemsV]
theorem elemsV_len (pre : List V) : (elemsV pre).length ≤ pre.length * 1048577 := by
  induction pre with
  | nil => simp [elemsV]
  | cons x pre ih =>
    rw [show x :: pre = [x] ++ pre from rfl]
    unfold elemsV at *
    rw [List.flatMap_append, List.length_append, List.flatMap_singleton, List.length_append, List.length_singleton, Nat.add_mul]
    have := elements_len x.1
    have := x.2
    omega
theorem elemsV_vs (G : List HField) (hG : ∀ f ∈ G, f.2.length ≤ 1048576) (n : List UInt8) : elemsV (vs G n) = elems G n := by
  induction G with
  | nil => rfl
  | cons f G ih =>
    have h1 := ih (fun g hg => hG g (List.mem_cons_of_mem _ hg))
    rw [show f :: G = [f] ++ G from rfl, vs_append, vs_one]
    unfold elemsV elems at *
    rw [List.flatMap_append, h1, List.filter_append, List.flatMap_append]
    congr 1
    cases h : hit n f
    · simp [h]
    · simp [h, clamp_val (hG f List.mem_cons_self)]
theorem ownsRow_below2 {w w' : World} {base n size : Nat} {e : TypeId} {v : Value} {xs : List Value} (h : w.ownsRow base e size v n xs) (hb : Below w.heap.size w w') : w'.ownsRow base e size v n xs := row_below h hb
set_option maxHeartbeats 3200000 in
theorem pelems_any (v : Value) (G : List HField) (nm : ByteArray) (hG : Few G) (hle2 : G.length ≤ 1048576) (w : World) (hm : MaxInt w) (hF : FL w v G) :
    Calls Tryz.prog 52 #[v, .string nm] w fun e w' => ∃ v', e = .returned v' ∧ w'.ownsRow w.heap.size 9 1 v' (elems G (toL nm)).length (strs (elems G (toL nm))) ∧ Below w.heap.size w w' := by
  obtain ⟨i0, hi, hz0, hz1, hz2⟩ := info_parts infoS
  have HV := Lib.hid (elemsV_vs G (fun f hf => (few_all hG f hf).2) (toL nm))
  obtain ⟨p, cap, hvv, hle, _⟩ := id hF
  subst hvv
  have HF := Lib.hid hF
  have HG := Lib.hid hG
  have HM := Lib.hid hm
  clear hF hG hm
  refine (callsIn_wide (n := 3)).1 ?_
  refine callsIn_of_wp_marks Tryz.func52 rfl trivial ?_ rfl
  simp only [Tryz.ntmps52, List.size_toArray, List.length_cons, List.length_nil, Nat.reduceAdd, Nat.reduceSub, Array.replicate_succ, Array.replicate_zero, List.push_toArray, List.append_toArray, List.nil_append, List.cons_append]
  gi_wp2_with fail
  refine ⟨trivial, ?_⟩
  refine (callsIn_wide.2 (pvalues_any _ _ _ nm _)).mono ?_
  rintro e w' ⟨rfl, rfl⟩
  gi_wp2
  have b0 := ((Boxed.new w 22 (.slice none 0 0)).alloc (.cells #[.slice p G.length cap] 35)).alloc (.cells #[.string nm] 9)
  have b2 := (Boxed.new (w.alloc (.cells #[.slice none 0 0] 22)) 35 (.slice p G.length cap)).alloc (.cells #[.string nm] 9)
  have b3 := Boxed.new ((w.alloc (.cells #[.slice none 0 0] 22)).alloc (.cells #[.slice p G.length cap] 35)) 9 (.string nm)
  have hB0 : Below w.heap.size w (((w.alloc (.cells #[.slice none 0 0] 22)).alloc (.cells #[.slice p G.length cap] 35)).alloc (.cells #[.string nm] 9)) :=
    (((Below.refl _ w).alloc (Nat.le_refl _) _).alloc (by simp) _).alloc (by simp; omega) _
  have hsz : (((w.alloc (.cells #[.slice none 0 0] 22)).alloc (.cells #[.slice p G.length cap] 35)).alloc (.cells #[.string nm] 9)).heap.size = w.heap.size + 1 + 1 + 1 := by simp
  simp only [World.size_alloc] at b2 b3
  generalize (((w.alloc (.cells #[.slice none 0 0] 22)).alloc (.cells #[.slice p G.length cap] 35)).alloc (.cells #[.string nm] 9)) = W0 at *
  have hU := (FL.under HF.out).below hB0
  clear HF
  refine wpIn_rangeFunc_ownG rfl (by omega) (gf := 79) (lb := #[.pointer (some ⟨w.heap.size + 1, 0, none⟩), .pointer (some ⟨w.heap.size + 1 + 1, 0, none⟩)]) rfl trivial (enters_of Tryz.func79 (by kernel_rfl) rfl)
    (vals_stops (3 - 1) (w.heap.size + 1) (w.heap.size + 1 + 1) w.heap.size G HG.out nm (.slice p G.length cap) W0 b2.lt (by omega) b2.cell b3.cell hU) kp_t (kp_b (by omega) b3.lt) (Below.refl _ _) (fun _ => rfl)
    (fun pre W => (∃ v, Boxed W w.heap.size 22 v ∧ W.ownsRow W0.heap.size 9 1 v (elemsV pre).length (strs (elemsV pre)) ∧ True) ∧ Boxed W (w.heap.size + 1 + 1) 9 (.string nm) ∧ W0.heap.size ≤ W.heap.size ∧ Below w.heap.size w W)
    (fun _ _ _ => False)
    (OwnFrom.and (Own.from (holdsRow_own W0.heap.size w.heap.size 22 9 1 (fun pre => (elemsV pre).length) (fun pre => strs (elemsV pre)) (fun _ _ => True)) _) (OwnFrom.and (Own.from (boxed_own _ _ (fun _ => Value.string nm)) _) (OwnFrom.and (fun _ _ _ _ hs hg _ => Nat.le_trans hs hg.size) (ownFrom_below (Nat.le_refl _) (by omega)))))
    (fun _ _ _ _ _ hs _ _ => hs)
    ⟨⟨_, b0, World.ownsRow_nil _ _ _ _, trivial⟩, b3, Nat.le_refl _, hB0⟩
    (fun x => { tmps := #[.slice p G.length cap, .string nm, undef, undef, .slice none 0 0, .pointer (some ⟨w.heap.size, 0, none⟩), .string (ofL x.1), .slice p G.length cap, .string nm, .func (.func 79) #[] #[.pointer (some ⟨w.heap.size + 1, 0, none⟩), .pointer (some ⟨w.heap.size + 1 + 1, 0, none⟩)], .string (ofL x.1), undef, undef, undef, undef, undef], defers := [] }) ?assign ?body ?done ?stop
  case assign =>
    intro l x W K hK
    dsimp only [encV]
    gi_wp2
    exact hK
  case body =>
    rintro l pre x W ⟨⟨v, h0, hrow, _⟩, h3, hW0, hB⟩ hlt
    clear b0 b2 b3 hU HG HV
    have hc := h0.cell
    have hmx : Tryz.prog.follows .mixedOrders = true := by kernel_rfl
    have hE : Calls Tryz.prog 66 #[.string (ofL x.1)] W.drew fun e w' => ∃ v, e = .returned v ∧ w'.ownsRow W.heap.size 9 1 v (elements x.1).length (strs (elements x.1)) ∧ Below W.heap.size W w' := by
      have h := pelements_any (ofL x.1) (by rw [ofL_size]; have := x.2; omega) W.drew (HM.out.below (hB.trans ⟨rfl, rfl, rfl, Nat.le_refl _, fun _ _ => rfl⟩))
      rw [toL_ofL] at h
      refine h.mono ?_
      rintro e w' ⟨v, rfl, hr, hb⟩
      exact ⟨v, rfl, hr, ⟨hb.os, hb.tape, hb.output, hb.size, hb.block⟩⟩
    replace hE := Lib.hid hE
    have hlen : (elemsV pre).length + (elements x.1).length ≤ 1099512676352 := by
      have h1 := elemsV_len (pre ++ [x])
      rw [elemsV_snoc, List.length_append, List.length_append, List.length_singleton] at h1
      have h2 : pre.length + 1 ≤ 1048576 := by omega
      have h3 := Nat.mul_le_mul_right 1048577 h2
      omega
    have hX : Hid (strs (elemsV (pre ++ [x])) = strs (elemsV pre) ++ strs (elements x.1) ∧ (elemsV (pre ++ [x])).length = (elemsV pre).length + (elements x.1).length) := Lib.hid ⟨by rw [elemsV_snoc, strs_append], by rw [elemsV_snoc, List.length_append]⟩
    gi_wp2
    refine wpIn_region_any hmx ?_
    change wpAnyIn _ _ _ _ _ _ _ _ _ (World.drew _)
    refine wpAnyIn_ready (rs := [0, 1]) (by kernel_rfl) (by simp) (AllReadyIn.cons rfl (fun K hK => ?_) (AllReadyIn.cons rfl (fun K hK => ?_) AllReadyIn.nil))
    · go_simp
      refine hK _ _ ?_
      clear hK K
      refine wpAnyIn_ready (rs := [1]) (by kernel_rfl) (by simp) (AllReadyIn.cons rfl (fun K hK => ?_) AllReadyIn.nil)
      go_simp
      refine hK _ _ ?_
      clear hK K
      refine wpAnyIn_ready (rs := [2]) (by kernel_rfl) (by simp) (AllReadyIn.cons rfl (fun K hK => ?_) AllReadyIn.nil)
      go_simp
      refine ⟨trivial, ?_⟩
      refine (CallsIn.inRound l (callsIn_wide.2 hE.out)).mono ?_
      rintro e w' ⟨v3, rfl, hr3, hb3⟩
      refine hK _ _ ?_
      clear hK K
      have hrow1 := ownsRow_below2 hrow hb3
      refine wpAnyIn_ready (rs := [3]) (by kernel_rfl) (by simp) (AllReadyIn.cons rfl (fun K hK => ?_) AllReadyIn.nil)
      rw [if_pos (by rfl)]
      refine wpIn_append_row _ _ 22 rfl W0.heap.size 9 i0 (.string ByteArray.empty) 1 16 Tryz.underlying22 hi hz0 hz1 hz2 rfl (by decide) v _ _ rfl hrow1 v3 W.heap.size _ _ rfl hr3 (strs_cells _) (by simp only [maxLen]; omega) (by omega) (Nat.le_trans hW0 hb3.size) (fun v4 w4 hown4 hg4 => hK _ _ ?_)
      clear hK K
      obtain ⟨q1, q2, q3, q4, q5, q6⟩ := appended (n₀ := w.heap.size) h0 (by decide) hrow (by omega) hW0 (Nat.le_refl _) hb3 hrow1 hown4 hg4
      obtain ⟨p4, cap4, rfl, _⟩ := row_form hown4
      have qc := q1.cell
      have qf := q1.frozen
      have q7 := q6 _ _ _ h3 (by omega) (by omega)
      have HR := Lib.hid (And.intro (q4.from W0.heap.size) (And.intro q5 (And.intro q2 (And.intro q3 q7))))
      clear q1 q2 q3 q4 q5 q6 q7 hown4 hg4 hr3 hb3 hrow1 h0 hrow hc h3
      refine wpAnyIn_ready (rs := [4]) (by kernel_rfl) (by simp) (AllReadyIn.cons rfl (fun K hK => ?_) AllReadyIn.nil)
      go_simp
      refine hK _ _ ?_
      clear hK K
      refine wpAnyIn_done (by kernel_rfl) ?_ _
      gi_wp2
      obtain ⟨r1, r2, r3, r4, r5⟩ := HR.out; exact ⟨r1, ⟨r2, fun _ => r5.cell⟩, ⟨_, r3, by rw [hX.out.1, hX.out.2]; exact r4, trivial⟩, r5, Nat.le_trans hW0 r2.size, hB.trans r2⟩
    · go_simp
      refine hK _ _ ?_
      clear hK K
      refine wpAnyIn_ready (rs := [0, 2]) (by kernel_rfl) (by simp) (AllReadyIn.cons rfl (fun K hK => ?_) (AllReadyIn.cons rfl (fun K hK => ?_) AllReadyIn.nil))
      · go_simp
        refine hK _ _ ?_
        clear hK K
        refine wpAnyIn_ready (rs := [2]) (by kernel_rfl) (by simp) (AllReadyIn.cons rfl (fun K hK => ?_) AllReadyIn.nil)
        go_simp
        refine ⟨trivial, ?_⟩
        refine (CallsIn.inRound l (callsIn_wide.2 hE.out)).mono ?_
        rintro e w' ⟨v3, rfl, hr3, hb3⟩
        refine hK _ _ ?_
        clear hK K
        have hrow1 := ownsRow_below2 hrow hb3
        refine wpAnyIn_ready (rs := [3]) (by kernel_rfl) (by simp) (AllReadyIn.cons rfl (fun K hK => ?_) AllReadyIn.nil)
        rw [if_pos (by rfl)]
        refine wpIn_append_row _ _ 22 rfl W0.heap.size 9 i0 (.string ByteArray.empty) 1 16 Tryz.underlying22 hi hz0 hz1 hz2 rfl (by decide) v _ _ rfl hrow1 v3 W.heap.size _ _ rfl hr3 (strs_cells _) (by simp only [maxLen]; omega) (by omega) (Nat.le_trans hW0 hb3.size) (fun v4 w4 hown4 hg4 => hK _ _ ?_)
        clear hK K
        obtain ⟨q1, q2, q3, q4, q5, q6⟩ := appended (n₀ := w.heap.size) h0 (by decide) hrow (by omega) hW0 (Nat.le_refl _) hb3 hrow1 hown4 hg4
        obtain ⟨p4, cap4, rfl, _⟩ := row_form hown4
        have qc := q1.cell
        have qf := q1.frozen
        have q7 := q6 _ _ _ h3 (by omega) (by omega)
        have HR := Lib.hid (And.intro (q4.from W0.heap.size) (And.intro q5 (And.intro q2 (And.intro q3 q7))))
        clear q1 q2 q3 q4 q5 q6 q7 hown4 hg4 hr3 hb3 hrow1 h0 hrow hc h3
        refine wpAnyIn_ready (rs := [4]) (by kernel_rfl) (by simp) (AllReadyIn.cons rfl (fun K hK => ?_) AllReadyIn.nil)
        go_simp
        refine hK _ _ ?_
        clear hK K
        refine wpAnyIn_done (by kernel_rfl) ?_ _
        gi_wp2
        obtain ⟨r1, r2, r3, r4, r5⟩ := HR.out; exact ⟨r1, ⟨r2, fun _ => r5.cell⟩, ⟨_, r3, by rw [hX.out.1, hX.out.2]; exact r4, trivial⟩, r5, Nat.le_trans hW0 r2.size, hB.trans r2⟩
      · go_simp
        refine ⟨trivial, ?_⟩
        refine (CallsIn.inRound l (callsIn_wide.2 hE.out)).mono ?_
        rintro e w' ⟨v3, rfl, hr3, hb3⟩
        refine hK _ _ ?_
        clear hK K
        have hrow1 := ownsRow_below2 hrow hb3
        have hc3 := (h0.kept (show W.grownBy w' none from ⟨hb3.os, hb3.tape, hb3.output, hb3.size, fun k hk _ => hb3.block k hk⟩) (by simp)).cell
        refine wpAnyIn_ready (rs := [0]) (by kernel_rfl) (by simp) (AllReadyIn.cons rfl (fun K hK => ?_) AllReadyIn.nil)
        go_simp
        refine hK _ _ ?_
        clear hK K
        refine wpAnyIn_ready (rs := [3]) (by kernel_rfl) (by simp) (AllReadyIn.cons rfl (fun K hK => ?_) AllReadyIn.nil)
        rw [if_pos (by rfl)]
        refine wpIn_append_row _ _ 22 rfl W0.heap.size 9 i0 (.string ByteArray.empty) 1 16 Tryz.underlying22 hi hz0 hz1 hz2 rfl (by decide) v _ _ rfl hrow1 v3 W.heap.size _ _ rfl hr3 (strs_cells _) (by simp only [maxLen]; omega) (by omega) (Nat.le_trans hW0 hb3.size) (fun v4 w4 hown4 hg4 => hK _ _ ?_)
        clear hK K
        obtain ⟨q1, q2, q3, q4, q5, q6⟩ := appended (n₀ := w.heap.size) h0 (by decide) hrow (by omega) hW0 (Nat.le_refl _) hb3 hrow1 hown4 hg4
        obtain ⟨p4, cap4, rfl, _⟩ := row_form hown4
        have qc := q1.cell
        have qf := q1.frozen
        have q7 := q6 _ _ _ h3 (by omega) (by omega)
        have HR := Lib.hid (And.intro (q4.from W0.heap.size) (And.intro q5 (And.intro q2 (And.intro q3 q7))))
        clear q1 q2 q3 q4 q5 q6 q7 hown4 hg4 hr3 hb3 hrow1 h0 hrow hc h3
        refine wpAnyIn_ready (rs := [4]) (by kernel_rfl) (by simp) (AllReadyIn.cons rfl (fun K hK => ?_) AllReadyIn.nil)
        go_simp
        refine hK _ _ ?_
        clear hK K
        refine wpAnyIn_done (by kernel_rfl) ?_ _
        gi_wp2
        obtain ⟨r1, r2, r3, r4, r5⟩ := HR.out; exact ⟨r1, ⟨r2, fun _ => r5.cell⟩, ⟨_, r3, by rw [hX.out.1, hX.out.2]; exact r4, trivial⟩, r5, Nat.le_trans hW0 r2.size, hB.trans r2⟩
  case done =>
    rintro D ys W hD rfl ⟨⟨v, h0, hrow, _⟩, h3, _, hB⟩ hK
    have hc := h0.cell
    clear b0 b2 b3 hU HG
    gi_wp2
    refine ⟨by simp, .inl ⟨_, _, rfl, run_takeDeferred hK, ?_⟩⟩
    rw [HV.out] at hrow
    exact ⟨_, results_tmp rfl _ _ _, v, rfl, ownsRow_mono (ownsRow_putObj hrow _ hK rfl) (by omega), hB.trans (belowK_b (w := w) (Nat.le_refl _) W D _ _ (by omega) hK rfl rfl)⟩
  case stop =>
    rintro D c pre W _ _ h _
    exact h.elim
end Go.Proofs.YtggmafmebocoaaaGreatDoor.PElems7

/- Layer 9 of the program: a name with capitals hits what it hits in small letters. -/
namespace Go.Proofs.YtggmafmebocoaaaGreatDoor.FrNames
open Bytes LexPure FieldsPure FramePure
set_option maxRecDepth 20000
def aTENC : List UInt8 := [84, 114, 97, 110, 115, 102, 101, 114, 45, 69, 110, 99, 111, 100, 105, 110, 103]
def aCLEN : List UInt8 := [67, 111, 110, 116, 101, 110, 116, 45, 76, 101, 110, 103, 116, 104]
def aCONN : List UInt8 := [67, 111, 110, 110, 101, 99, 116, 105, 111, 110]
theorem hit_same {a b : List UInt8} (h : lower a = lower b) : hit a = hit b := by
  funext f
  unfold hit alike
  rw [h]
theorem getN_same {a b : List UInt8} (h : lower a = lower b) (G : List HField) : getN G a = getN G b := by
  unfold getN
  rw [hit_same h]
theorem elems_same {a b : List UInt8} (h : lower a = lower b) (G : List HField) : elems G a = elems G b := by
  unfold elems
  rw [hit_same h]
theorem hasE_same {a b : List UInt8} (h : lower a = lower b) (G : List HField) (e : List UInt8) : hasE G a e = hasE G b e := by
  unfold hasE
  rw [elems_same h]
theorem low_t : lower aTENC = lower TENC := by decide
theorem low_l : lower aCLEN = lower CLEN := by decide
theorem low_c : lower aCONN = lower CONNECTION := by decide
end Go.Proofs.YtggmafmebocoaaaGreatDoor.FrNames

/- Layer 9 of the program: isChunked, refusal. -/
namespace Go.Proofs.YtggmafmebocoaaaGreatDoor.PFrCh
open Go.ChangeShapes Go.WideShapes Go.ChangeAt Go.RowKit LexPure Bytes Ret Rows1 Texts FieldsPure HeadPure FramePure FrNames Flds R7Elements PAlike PLib PElems7 HBox Mem
set_option maxRecDepth 20000
theorem pchunk_any (s : ByteArray) (hs : s.size ≤ maxLen) (w : World) :
    Calls Tryz.prog 53 #[.string s] w fun e w' => e = .returned (.bool (lower (toL s) == CHUNKED)) ∧ Below w.heap.size w w' := by
  have HA := Lib.hid (palike_any s ⟨#[99, 104, 117, 110, 107, 101, 100]⟩ hs w)
  have he : alike (toL s) (toL ⟨#[99, 104, 117, 110, 107, 101, 100]⟩) = (lower (toL s) == CHUNKED) := rfl
  rw [he] at HA
  clear he
  generalize (lower (toL s) == CHUNKED) = b at *
  go_enter Tryz.func53, Tryz.ntmps53
  go_wp2_with fail
  refine HA.out.mono ?_
  rintro e w' ⟨rfl, hb⟩
  have HB := Lib.hid hb
  clear hb HA
  go_wp2_with fail
  go_ret
  exact ⟨rfl, HB.out⟩
/-- what a list of codings is refused with -/
def refN (E : List (List UInt8)) : Int := if codeN E = 2 then 91 else 90
theorem code_say (I : List (List UInt8)) (x : List UInt8) : codeN (I ++ [x]) = if lower x = CHUNKED ∧ I.all (fun y => !(lower y == CHUNKED)) = true then (if I = [] then 1 else 2) else 3 := by
  unfold codeN
  rw [List.reverse_append, List.reverse_singleton, List.singleton_append]
  simp only [List.all_reverse, List.reverse_eq_nil_iff]
theorem ref_bad (E : List (List UInt8)) (k : Nat) (hk : k < E.length) (h : (lower E[k] == CHUNKED) ≠ decide (k + 1 = E.length)) : refN E = 90 := by
  unfold refN
  rcases List.eq_nil_or_concat E with rfl | ⟨I, x, hE⟩
  · cases hk
  · rw [List.concat_eq_append] at hE
    subst hE
    rw [code_say, if_neg]
    intro hc
    by_cases hh : lower x = CHUNKED ∧ I.all (fun y => !(lower y == CHUNKED)) = true
    · have hl : (I ++ [x]).length = I.length + 1 := by simp
      by_cases hx : k = I.length
      · subst hx
        rw [List.getElem_concat_length rfl, hh.1, hl] at h
        simp at h
      · have hlt : k < I.length := by omega
        rw [List.getElem_append_left hlt, hl] at h
        have := List.all_eq_true.1 hh.2 I[k] (List.getElem_mem hlt)
        rw [show decide (k + 1 = I.length + 1) = false from decide_eq_false (by omega)] at h
        cases hq : (lower I[k] == CHUNKED)
        · exact h hq
        · rw [hq] at this
          cases this
    · rw [if_neg hh] at hc
      cases hc
theorem ref_good (E : List (List UInt8)) (h : ∀ k (hk : k < E.length), (lower E[k] == CHUNKED) = decide (k + 1 = E.length)) : refN E = if E.length < 2 then 90 else 91 := by
  unfold refN
  rcases List.eq_nil_or_concat E with rfl | ⟨I, x, hE⟩
  · rfl
  · rw [List.concat_eq_append] at hE
    subst hE
    have hx := h I.length (by simp)
    rw [List.getElem_concat_length rfl] at hx
    simp at hx
    have hall : I.all (fun y => !(lower y == CHUNKED)) = true := by
      rw [List.all_eq_true]
      intro y hy
      obtain ⟨j, hj, rfl⟩ := List.mem_iff_getElem.1 hy
      have h1 := h j (by simp; omega)
      rw [List.getElem_append_left hj] at h1
      rw [h1]
      simp
      omega
    rw [code_say, if_pos (And.intro hx hall)]
    cases I with
    | nil => simp
    | cons y I => simp
end Go.Proofs.YtggmafmebocoaaaGreatDoor.PFrCh

/- Elements joined again. No program is named. -/
namespace Go.Proofs.YtggmafmebocoaaaGreatDoor.LexFlat
open LexPure Bytes LexList
/-- one element, dressed -/
def dress (e : List UInt8) : List UInt8 := [32, 44] ++ e ++ [9, 44]
def flat (G : List (List UInt8)) : List UInt8 := G.flatMap dress
theorem flat_snoc (G : List (List UInt8)) (e : List UInt8) : flat (G ++ [e]) = flat G ++ dress e := by simp [flat]
theorem trim_blank {e : List UInt8} (h : trim e = e) (hne : e.isEmpty = false) : trim (e ++ [9]) = e := by
  have h1 : ∀ c r, e = c :: r → blankB c = false := fun c r he => trim_head (s := e) c r (by rw [h]; exact he)
  have h2 : ∀ c r, e.reverse = c :: r → blankB c = false := fun c r he => trim_last (s := e) c r (by rw [h]; exact he)
  unfold trim
  have e1 : (e ++ [9]).dropWhile blankB = e ++ [9] := dropWhile_id (fun c r he => by
    cases e with
    | nil => simp at hne
    | cons d t => simp only [List.cons_append, List.cons.injEq] at he; rw [← he.1]; exact h1 d t rfl)
  rw [e1, List.reverse_append, List.reverse_singleton, List.singleton_append, List.dropWhile_cons, if_pos (by decide), dropWhile_id h2, List.reverse_reverse]
theorem elements_dress {e r : List UInt8} (h : trim e = e) (hne : e.isEmpty = false) (hc : noComma e = true) : elements (dress e ++ r) = e :: elements r := by
  have e1 : dress e ++ r = [32] ++ 44 :: ((e ++ [9]) ++ 44 :: r) := by simp [dress]
  have hc2 : noComma (e ++ [9]) = true := noComma_snoc hc (by decide)
  rw [e1, elements_cut (p := [32]) (by decide), elements_cut hc2]
  have o1 : one [32] = [] := by decide
  have o2 : one (e ++ [9]) = [e] := by unfold one; rw [trim_blank h hne, hne]; rfl
  rw [o1, o2]
  rfl
theorem elements_flat : ∀ {G : List (List UInt8)}, (∀ e ∈ G, e.isEmpty = false ∧ trim e = e ∧ noComma e = true) → elements (flat G) = G
  | [], _ => by decide
  | e :: G, h => by
    have h0 := h e (by simp)
    show elements (dress e ++ flat G) = _
    rw [elements_dress h0.2.1 h0.1 h0.2.2, elements_flat (fun x hx => h x (by simp [hx]))]
theorem pieces_count : ∀ s : List UInt8, (pieces s).length ≤ s.length + 1
  | [] => by simp [pieces]
  | c :: s => by
    have := pieces_count s
    rw [pieces]
    split
    · simp; omega
    · split
      · simp
      · rename_i p ps hp
        rw [hp] at this
        simp at this ⊢
        omega
theorem pieces_short : ∀ {s p : List UInt8}, p ∈ pieces s → p.length ≤ s.length
  | [], p, h => by
    simp only [pieces, List.mem_singleton] at h
    subst h
    simp
  | c :: s, p, h => by
    rw [pieces] at h
    split at h
    · rw [List.mem_cons] at h
      rcases h with rfl | h
      · simp
      · have := pieces_short h
        simp
        omega
    · split at h
      · rw [List.mem_singleton] at h
        subst h
        simp
      · rename_i q qs hp
        rw [List.mem_cons] at h
        rcases h with rfl | h
        · have := pieces_short (s := s) (p := q) (by rw [hp]; simp)
          simp
          omega
        · have := pieces_short (s := s) (p := p) (by rw [hp]; simp [h])
          simp
          omega
theorem elements_count (s : List UInt8) : (elements s).length ≤ s.length + 1 := by
  have h1 := List.length_filter_le (fun e : List UInt8 => !e.isEmpty) ((pieces s).map trim)
  rw [List.length_map] at h1
  have := pieces_count s
  unfold elements
  omega
theorem elements_short {s e : List UInt8} (h : e ∈ elements s) : e.length ≤ s.length := by
  unfold elements at h
  rw [List.mem_filter, List.mem_map] at h
  obtain ⟨⟨p, hp, rfl⟩, _⟩ := h
  have h1 := trim_length p
  have h2 := pieces_short hp
  omega
theorem flat_length {n : Nat} : ∀ {G : List (List UInt8)}, (∀ e ∈ G, e.length ≤ n) → (flat G).length ≤ G.length * (n + 4)
  | [], _ => by simp [flat]
  | e :: G, h => by
    have h0 := h e (by simp)
    have h1 := flat_length (G := G) (fun x hx => h x (by simp [hx]))
    show (dress e ++ flat G).length ≤ _
    rw [List.length_append, List.length_cons, Nat.add_mul, Nat.one_mul]
    have : (dress e).length = e.length + 4 := by simp [dress]
    omega
theorem pieces_total : ∀ s : List UInt8, (pieces s).flatten.length ≤ s.length
  | [] => by simp [pieces]
  | c :: s => by
    have := pieces_total s
    rw [pieces]
    split
    · simp at this ⊢; omega
    · split
      · simp
      · rename_i p ps hp
        rw [hp] at this
        simp at this ⊢
        omega
theorem flat_total : ∀ L : List (List UInt8), (flat ((L.map trim).filter (fun e => !e.isEmpty))).length ≤ L.flatten.length + 4 * L.length
  | [] => by simp [flat]
  | p :: L => by
    have ih := flat_total L
    have ht := trim_length p
    rw [List.map_cons, List.filter_cons]
    split
    · show (dress (trim p) ++ flat _).length ≤ _
      rw [List.length_append]
      have : (dress (trim p)).length = (trim p).length + 4 := by simp [dress]
      simp only [List.flatten_cons, List.length_append, List.length_cons]
      omega
    · simp only [List.flatten_cons, List.length_append, List.length_cons]
      omega
theorem elements_total (s : List UInt8) : (flat (elements s)).length ≤ 5 * s.length + 4 := by
  have h1 := flat_total (pieces s)
  have h2 := pieces_total s
  have h3 := pieces_count s
  unfold elements
  omega
theorem flat_take (G : List (List UInt8)) (k : Nat) : (flat (G.take k)).length ≤ (flat G).length := by
  have h : flat G = flat (G.take k) ++ flat (G.drop k) := by
    unfold flat
    rw [← List.flatMap_append, List.take_append_drop]
  rw [h, List.length_append]
  omega
end Go.Proofs.YtggmafmebocoaaaGreatDoor.LexFlat

/- Layer 7, the document's own Has. -/
namespace Go.Proofs.YtggmafmebocoaaaGreatDoor.R7Has
open Go.ChangeShapes Go.WideShapes Go.ChangeAt Go.RowKit LexPure Bytes Ret Rows1 Texts FieldsPure Flds RAlike7 R7Get KeptRow R7Elements LexFlat Mem
set_option maxRecDepth 20000
theorem elems_short (G : List HField) (n : List UInt8) (hG : Few G) : ∀ (j : Nat) (h : j < (elems G n).length), (elems G n)[j].length ≤ 1048576 := by
  intro j h
  have hm := List.getElem_mem h
  unfold elems at hm
  obtain ⟨f, hf, he⟩ := List.mem_flatMap.1 hm
  obtain ⟨i, hi, rfl⟩ := List.mem_iff_getElem.1 (List.mem_filter.1 hf).1
  exact Nat.le_trans (elements_short he) (hG i hi).2
end Go.Proofs.YtggmafmebocoaaaGreatDoor.R7Has

/- Layer 9 of the program: refusal. -/
namespace Go.Proofs.YtggmafmebocoaaaGreatDoor.PFrRef
open Go.ChangeShapes Go.WideShapes Go.ChangeAt Go.RowKit LexPure Bytes Ret Rows1 Texts FieldsPure HeadPure FramePure FrNames Flds R7Elements R7Has PAlike PLib PElems7 PFrCh HBox Mem
set_option maxRecDepth 20000
theorem ret_ref {a b : Int} (h : a = b) : Ending.returned (.int .i64 a) = .returned (.int .i64 b) := by rw [h]
/-- the first k are as they should be -/
def FitTo (E : List (List UInt8)) (n : Nat) : Prop := ∀ k (hk : k < E.length), k < n → (lower E[k] == CHUNKED) = decide (k + 1 = E.length)
end Go.Proofs.YtggmafmebocoaaaGreatDoor.PFrRef

/- Layer 9 of the program: has. -/
namespace Go.Proofs.YtggmafmebocoaaaGreatDoor.PFrHas
open Go.ChangeShapes Go.WideShapes Go.ChangeAt Go.RowKit LexPure Bytes Ret FieldsPure HeadPure Flds PGet HBox Mem
set_option maxRecDepth 20000
theorem pfrhas_any (h : H8) (v : Value) (nm : ByteArray) (hG : Few h.fields) (w : World) (hF : FL w v h.fields) :
    Calls Tryz.prog 35 #[hv h v, .string nm] w fun e w' => e = .returned (.bool (decide (0 < getN h.fields (toL nm)))) ∧ Below w.heap.size w w' := by
  have hb1 := (Below.refl w.heap.size w).alloc (Nat.le_refl _) (.cells (hc h v) 37)
  have HR := Lib.hid (pget_any v h.fields nm hG _ (hF.below hb1))
  generalize getN h.fields (toL nm) = n at *
  generalize ofL (getV h.fields (toL nm)) = g at *
  unfold hc at hb1 HR
  unfold hv
  replace hb1 := Lib.hid hb1
  go_enter Tryz.func35, Tryz.ntmps35
  go_wp2_with fail
  refine HR.out.mono ?_
  rintro e w' ⟨rfl, hb2⟩
  have HB := Lib.hid (below_chain hb1.out hb2)
  clear hb2 hb1 HR
  go_wp2_with fail
  go_ret
  exact ⟨rfl, HB.out⟩
end Go.Proofs.YtggmafmebocoaaaGreatDoor.PFrHas
