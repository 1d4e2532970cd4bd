/- Layer 2: slices.SortFunc of timers: the same slice holds them in their order. -/
import Derived.Test.YtcobjejaflikjaaWheelOrd
import Derived.Test.YtcobjejaflikjaaSortLay
import Derived.Shelf.SlSortCmp.NoneTotal
namespace Go.Proofs.Ytcobjejaflikjaa.WSort
open Go.Shelf Go.RowKit Go.Lib Go.Sort WMath WPure Mem Step WObj WOrd

theorem encs_get : ∀ (l : List Tm) (t : Nat), t < l.length * 2 → (encs l)[t]? = some ((encT l.toArray[t / 2]!)[t % 2]!)
  | [], t, h => by simp at h
  | x :: l, 0, h => by simp [encs, encT]
  | x :: l, 1, h => by simp [encs, encT]
  | x :: l, t + 2, h => by
    have ih := encs_get l t (by simp at h; omega)
    have e1 : (t + 2) / 2 = t / 2 + 1 := by omega
    have e2 : (t + 2) % 2 = t % 2 := by omega
    have hlt : t / 2 < l.length := by simp at h; omega
    rw [e1, e2]
    have e3 : (x :: l).toArray[t / 2 + 1]! = l.toArray[t / 2]! := by simp [hlt]
    rw [e3, ← ih]
    simp [encs, encT]
theorem flat_encs (l : List Tm) : (flatK encT 2 l.toArray).toList = encs l := by
  apply List.ext_getElem?
  intro t
  by_cases ht : t < l.length * 2
  · rw [encs_get l t ht]
    have := get_flatK encT 2 l.toArray t (by simpa using ht)
    rw [← this, Array.getElem?_toList, getElem!_pos _ _ (by simpa using ht), Array.getElem?_eq_getElem (by simpa using ht)]
  · rw [List.getElem?_eq_none (by simp; omega), List.getElem?_eq_none (by rw [encs_len]; omega)]

theorem holdsK_of_block {w : World} {g : Nat} {cur : Array Value} {e : TypeId} {l : List Tm} (hb : w.heap[g]? = some (.cells cur e (0, 0))) (ht : cur.toList.take (l.length * 2) = encs l) : HoldsK encT 2 w g 0 l.toArray := by
  intro j hj
  have hj' : j < l.length * 2 := by simpa using hj
  refine ⟨?_, by simp [World.frozen?, hb]⟩
  have h1 : (cur.toList.take (l.length * 2))[j]? = (encs l)[j]? := by rw [ht]
  rw [List.getElem?_take_of_lt hj', ← flat_encs, Array.getElem?_toList, Array.getElem?_toList] at h1
  rw [cell_of_row w g (0 + j) cur e (0, 0) hb, Nat.zero_add, h1, Array.getElem?_eq_getElem hj]
  show _ = some ((flatK encT 2 l.toArray)[j]!)
  rw [getElem!_pos (flatK encT 2 l.toArray) j hj]
theorem heap_sortedK {w : World} {g n : Nat} {os : Array Obj} {cur : Array Value} {e : TypeId} {fr : Nat × Nat} (F : Array Value) (hb : w.heap[g]? = some (.cells cur e fr)) :
    (grow (putRow id (Sort.ahead w n) g 0 F) os).heap[g]? = some (.cells (putCells id 0 F cur) e fr) := by
  have hg : g < w.heap.size := (Array.getElem?_eq_some_iff.1 hb).1
  rw [heap_grow_old _ _ (by simpa using hg)]
  simp [putRow, mapBlock, Sort.ahead, Array.getElem?_modify, hb, onCells]
theorem grownBy_sortedK {w : World} {g n : Nat} {os : Array Obj} (F : Array Value) : w.grownBy (grow (putRow id (Sort.ahead w n) g 0 F) os) (some g) := by
  refine ⟨rfl, rfl, rfl, by simp, fun k hk hne => ?_⟩
  rw [heap_grow_old _ _ (by simpa using hk)]
  have : g ≠ k := fun e => hne (by rw [e])
  simp [putRow, mapBlock, Sort.ahead, Array.getElem?_modify, this]
theorem take_putCellsK (cur F : Array Value) (h : F.size ≤ cur.size) : (putCells id 0 F cur).toList.take F.size = F.toList := by
  apply List.ext_getElem?
  intro j
  by_cases hj : j < F.size
  · rw [List.getElem?_take_of_lt hj, Array.getElem?_toList]
    simp [putCells, hj, show j < cur.size by omega]
  · rw [List.getElem?_take_eq_none (by omega), List.getElem?_eq_none (by simp; omega)]

theorem ltOf_ord (a b : Tm) : (ltOf ordI a b = true) ↔ ltT a b := by unfold ltOf; rw [decide_eq_true_iff]; exact ordI_lt
theorem ltOf_not (a b : Tm) : (ltOf ordI a b = false) ↔ ¬ ltT a b := by rw [← ltOf_ord]; simp
theorem swoT : SWO (ltOf ordI) where
  irrefl x := (ltOf_not _ _).2 (ltT_irrefl x)
  trans x y z h1 h2 := (ltOf_ord _ _).2 (ltT_trans ((ltOf_ord _ _).1 h1) ((ltOf_ord _ _).1 h2))
  ntrans x y z h1 h2 := by
    rw [ltOf_not] at *
    unfold ltT at *
    omega
theorem order_grow (a b : Tm) (w : World) :
    Calls Try.prog 29 #[.agg #[.int .i64 a.1, .int .i64 a.2], .agg #[.int .i64 b.1, .int .i64 b.2]] w fun e w' => e = .returned (.int .i64 (ordI a b)) ∧ ∃ q os', w' = grow (w.drewN q) os' := by
  refine (order_any a b w).mono ?_
  rintro e w' ⟨rfl, rfl⟩
  exact ⟨rfl, 1, _, by rw [alloc_eq_grow, alloc_eq_grow, alloc_eq_grow, grow_grow, grow_grow]; rfl⟩
theorem cmpLays (blk off size : Nat) (w : World) : CmpLays Try.prog 29 #[] encT 2 ordI blk off size w :=
  fun _ _ _ _ x y => order_grow x y _

/-- in their order -/
def Rising (l : List Tm) : Prop := l.Pairwise ltT
/-- the list, in its order -/
def sortT (l : List Tm) : List Tm := l.mergeSort fun x y => !(ltOf ordI) y x
theorem sortT_perm (l : List Tm) : (sortT l).Perm l := List.mergeSort_perm _ _
theorem sortT_len (l : List Tm) : (sortT l).length = l.length := (sortT_perm l).length_eq
theorem sortT_sorted (l : List Tm) (hd : l.Nodup) : Rising (sortT l) := by
  have h := List.pairwise_mergeSort (le := fun x y => !(ltOf ordI) y x) (fun a b c h1 h2 => by
      simp only [Bool.not_eq_true', ltOf_not] at *
      unfold ltT at *
      omega) (fun a b => by
      simp only [Bool.or_eq_true, Bool.not_eq_true', ltOf_not]
      unfold ltT
      omega) l
  have hn : (sortT l).Nodup := (sortT_perm l).nodup_iff.2 hd
  have := List.Pairwise.and hn h
  refine this.imp fun {a b} hab => ?_
  obtain ⟨h1, h2⟩ := hab
  simp only [Bool.not_eq_true', ltOf_not] at h2
  by_cases h3 : ltT a b
  · exact h3
  · exact absurd (ltT_total h3 h2) h1

set_option maxHeartbeats 1600000 in
theorem sort_any (v : Value) (l : List Tm) (n : Nat) (w : World) (hr : w.ownsRow 0 42 2 v n (encs l)) (hn : l.length = n) (hbig : n ≤ 1048576) :
    Calls Try.prog 28 #[v, .func (.func 29) #[] #[]] w fun e w' =>
      e = .returned (.tuple #[]) ∧ w'.ownsRow 0 42 2 v n (encs (sortT l)) ∧ w.grownBy w' v.ownBlock := by
  rcases hr.2 with ⟨rfl, rfl⟩ | ⟨g, cap, cur, rfl, _, hb, h1, h2, h3, h4⟩
  · have hl : l = [] := List.eq_nil_of_length_eq_zero hn
    subst hl
    refine (AnyF.slices_SortFunc_none Try.sortT none 0 (.func (.func 29) #[] #[]) w).mono ?_
    rintro e w' ⟨rfl, rfl⟩
    exact ⟨rfl, by simpa [sortT, encs] using World.ownsRow_nil w' 0 42 2, World.grownBy.refl w' _⟩
  · subst hn
    have eg : ∀ args w, (callFunc 29 args).run Try.prog w = .ok (.enter 29 args) w := enters_of Try.func29 (by kernel_rfl) rfl
    have hcon := AnyQ.slices_SortFunc_total Try.sortT 2 Try.isAgg42 Try.sizeOf42 encT (fun _ => rfl) (fun x v hv => by simp [encT] at hv; rcases hv with rfl | rfl <;> rfl) ordI swoT 29 #[] g 0 cap l.toArray w eg
      (cmpLays g 0 l.toArray.size w) (holdsK_of_block hb h4) (Array.getElem?_eq_some_iff.1 hb).1 (by simp; omega) (fun x y hx hy => ltT_total ((ltOf_not _ _).1 hx) ((ltOf_not _ _).1 hy))
    refine hcon.mono ?_
    rintro e w' ⟨rfl, n, os, rfl⟩
    have hs : (flatK encT 2 (sortT l).toArray).size = l.length * 2 := by simp [sortT_len]
    refine ⟨rfl, ⟨by rw [encs_len, sortT_len], .inr ⟨g, cap, _, rfl, Nat.zero_le _, heap_sortedK _ hb, h1, h2, by simp [putCells, h3], ?_⟩⟩, grownBy_sortedK _⟩
    have := take_putCellsK cur (flatK encT 2 (sortT l).toArray) (by rw [hs, h3]; omega)
    rw [hs, flat_encs] at this
    exact this
end Go.Proofs.Ytcobjejaflikjaa.WSort
