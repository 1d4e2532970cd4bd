/- Layer 8: fields and heads in memory. -/
import Derived.Test.YtclecgopmegjeaaDoorHeadPure
import Derived.Test.YtclecgopmegjeaaDoorFlds
import Derived.Test.YtclecgopmegjeaaDoorLawBase
import Derived.Test.YtclecgopmegjeaaDoorMem
import Derived.Laws.ResultCell
namespace Go.Proofs.YtclecgopmegjeaaDoor.HBox
open Go.ChangeShapes Go.WideShapes Go.ChangeAt Go.RowKit LexPure Bytes FieldsPure HeadPure Flds Mem
set_option maxRecDepth 20000
theorem below_drew {B : Nat} {a W : World} (h : Below B a W) : Below B a W.drew := h.trans ⟨rfl, rfl, rfl, Nat.le_refl _, fun _ _ => rfl⟩
theorem below_drewN {B : Nat} {a W : World} (h : Below B a W) (n : Nat) : Below B a (W.drewN n) := h.trans ⟨rfl, rfl, rfl, Nat.le_refl _, fun _ _ => rfl⟩
/-! ### one field -/
def fc (x : HField) : Array Value := #[.string (ofL x.1), .string (ofL x.2)]
def fv (x : HField) : Value := .agg #[.string (ofL x.1), .string (ofL x.2)]
structure FBox (w : World) (g : Nat) (x : HField) : Prop where
  has : Has w g 37 (fc x)
def fput (W : World) (g : Nat) (x : HField) : World := (W.setCell ⟨g, 0, none⟩ (.string (ofL x.1))).setCell ⟨g, 1, none⟩ (.string (ofL x.2))
theorem FBox.put {W : World} {g : Nat} {u : HField} (h : FBox W g u) (x : HField) : FBox (fput W g x) g x :=
  ⟨by have := (h.has.set_ 0 (.string (ofL x.1))).set_ 1 (.string (ofL x.2)); unfold fput; simpa [fc] using this⟩
theorem fload {w : World} {g : Nat} {x : HField} (h : FBox w g x) : (loadVar 37 ⟨g, 0, none⟩).run Tryd.prog w = .ok (fv x) w :=
  run_loadVar_row w g 37 37 _ _ _ h.has.at_ Tryd.underlying37 rfl (by kernel_rfl)
theorem FBox.cells {w : World} {g : Nat} {x : HField} (h : FBox w g x) : w.cell? ⟨g, 0, none⟩ = some (.string (ofL x.1)) ∧ w.cell? ⟨g, 1, none⟩ = some (.string (ofL x.2)) := ⟨(h.has.cell 0).trans rfl, (h.has.cell 1).trans rfl⟩
theorem FBox.frees {w : World} {g : Nat} {x : HField} (h : FBox w g x) : w.frozen? ⟨g, 0, none⟩ = false ∧ w.frozen? ⟨g, 1, none⟩ = false := ⟨h.has.free 0, h.has.free 1⟩
theorem FBox.below {w w' : World} {g B : Nat} {x : HField} (h : FBox w g x) (hb : Below B w w') (hg : g < B) : FBox w' g x := ⟨h.has.below hb hg⟩
/-- the box of a call that answers a field -/
structure FOne (w W : World) (g : Nat) (x : HField) : Prop where
  at_ : g = w.heap.size
  below : Below w.heap.size w W
  box : FBox W g x
  size : g + 1 ≤ W.heap.size
theorem FOne.start (w : World) : FOne w (w.alloc (.cells #[.string ⟨#[]⟩, .string ⟨#[]⟩] 37)) w.heap.size ([], []) :=
  ⟨rfl, (Below.refl w.heap.size w).alloc (Nat.le_refl _) _, ⟨Has.new w _ _⟩, by simp⟩
theorem FOne.call {w W W' : World} {g : Nat} {x : HField} (h : FOne w W g x) (hb : Below W.heap.size W W') : FOne w W' g x :=
  ⟨h.at_, below_chain h.below hb, h.box.below hb (by have := h.size; omega), Nat.le_trans h.size hb.size⟩
theorem FOne.put {w W : World} {g : Nat} {u : HField} (h : FOne w W g u) (x : HField) : Below w.heap.size w (fput W g x) :=
  (h.below.setCell (p := ⟨g, 0, none⟩) (by rw [h.at_]; exact Nat.le_refl _) _).setCell (p := ⟨g, 1, none⟩) (by rw [h.at_]; exact Nat.le_refl _) _
def frv (r : HField × Int) : Value := .tuple #[fv r.1, .int .i64 r.2]
theorem end_fbox {W : World} {g : Nat} {x : HField} {v : Int} {tmps : Array Value} {p u : Tmp} (hp : tmps.getD p undef = .pointer (some ⟨g, 0, none⟩)) (hu : tmps.getD u undef = .int .i64 v) (h : FBox W g x) :
    (((asAddr (tmps.getD p undef)).run Tryd.prog W).andThen fun a w₁ => ((loadVar 37 a).run Tryd.prog w₁).andThen fun v w₂ => .ok (.tuple #[v, tmps.getD u undef]) w₂) = .ok (frv (x, v)) W := by
  rw [hp, hu]
  have := fload h
  simp [asAddr, Result.andThen, this, frv]
/-! ### a head: its fields' list is a value of its own -/
def hc (h : H8) (l : Value) : Array Value := #[.string (ofL h.method), .string (ofL h.target), .int .i64 h.status, .string (ofL h.reason), .int .i64 h.minor, l]
def hv (h : H8) (l : Value) : Value := .agg #[.string (ofL h.method), .string (ofL h.target), .int .i64 h.status, .string (ofL h.reason), .int .i64 h.minor, l]
structure HBox (w : World) (g : Nat) (h : H8) (l : Value) : Prop where
  has : Has w g 25 (hc h l)
def hput (W : World) (g : Nat) (h : H8) (l : Value) : World :=
  (((((W.setCell ⟨g, 0, none⟩ (.string (ofL h.method))).setCell ⟨g, 1, none⟩ (.string (ofL h.target))).setCell ⟨g, 2, none⟩ (.int .i64 h.status)).setCell ⟨g, 3, none⟩ (.string (ofL h.reason))).setCell ⟨g, 4, none⟩ (.int .i64 h.minor)).setCell ⟨g, 5, none⟩ l
theorem HBox.put {W : World} {g : Nat} {u : H8} {m : Value} (b : HBox W g u m) (h : H8) (l : Value) : HBox (hput W g h l) g h l :=
  ⟨by have := (((((b.has.set_ 0 (.string (ofL h.method))).set_ 1 (.string (ofL h.target))).set_ 2 (.int .i64 h.status)).set_ 3 (.string (ofL h.reason))).set_ 4 (.int .i64 h.minor)).set_ 5 l; unfold hput; simpa [hc] using this⟩
theorem HBox.setF {W : World} {g : Nat} {u : H8} {m : Value} (b : HBox W g u m) (l : Value) : HBox (W.setCell ⟨g, 5, none⟩ l) g u l :=
  ⟨by have := b.has.set_ 5 l; simpa [hc] using this⟩
theorem hload {w : World} {g : Nat} {h : H8} {l : Value} (b : HBox w g h l) : (loadVar 25 ⟨g, 0, none⟩).run Tryd.prog w = .ok (hv h l) w :=
  run_loadVar_row w g 25 25 _ _ _ b.has.at_ Tryd.underlying25 rfl (by kernel_rfl)
theorem HBox.cells {w : World} {g : Nat} {h : H8} {l : Value} (b : HBox w g h l) : w.cell? ⟨g, 0, none⟩ = some (.string (ofL h.method)) ∧ w.cell? ⟨g, 1, none⟩ = some (.string (ofL h.target)) ∧ w.cell? ⟨g, 2, none⟩ = some (.int .i64 h.status) ∧ w.cell? ⟨g, 3, none⟩ = some (.string (ofL h.reason)) ∧ w.cell? ⟨g, 4, none⟩ = some (.int .i64 h.minor) ∧ w.cell? ⟨g, 5, none⟩ = some l :=
  ⟨(b.has.cell 0).trans rfl, (b.has.cell 1).trans rfl, (b.has.cell 2).trans rfl, (b.has.cell 3).trans rfl, (b.has.cell 4).trans rfl, (b.has.cell 5).trans rfl⟩
theorem HBox.frees {w : World} {g : Nat} {h : H8} {l : Value} (b : HBox w g h l) : w.frozen? ⟨g, 0, none⟩ = false ∧ w.frozen? ⟨g, 1, none⟩ = false ∧ w.frozen? ⟨g, 2, none⟩ = false ∧ w.frozen? ⟨g, 3, none⟩ = false ∧ w.frozen? ⟨g, 4, none⟩ = false ∧ w.frozen? ⟨g, 5, none⟩ = false :=
  ⟨b.has.free 0, b.has.free 1, b.has.free 2, b.has.free 3, b.has.free 4, b.has.free 5⟩
theorem HBox.below {w w' : World} {g B : Nat} {h : H8} {l : Value} (b : HBox w g h l) (hb : Below B w w') (hg : g < B) : HBox w' g h l := ⟨b.has.below hb hg⟩
theorem HBox.far {w : World} {g : Nat} {h : H8} {l : Value} (b : HBox w g h l) {p : Addr} (hp : g ≠ p.block) (u : Value) : HBox (w.setCell p u) g h l := ⟨b.has.far hp u⟩
theorem HBox.drew {w : World} {g : Nat} {h : H8} {l : Value} (b : HBox w g h l) : HBox w.drew g h l := ⟨b.has.drew⟩
/-- the box of a call that answers a head -/
structure HOne (w W : World) (g : Nat) (h : H8) (l : Value) : Prop where
  at_ : g = w.heap.size
  below : Below w.heap.size w W
  box : HBox W g h l
  size : g + 1 ≤ W.heap.size
theorem HOne.start (w : World) : HOne w (w.alloc (.cells #[.string ⟨#[]⟩, .string ⟨#[]⟩, .int .i64 0, .string ⟨#[]⟩, .int .i64 0, .slice none 0 0] 25)) w.heap.size zero8 (.slice none 0 0) :=
  ⟨rfl, (Below.refl w.heap.size w).alloc (Nat.le_refl _) _, ⟨Has.new w _ _⟩, by simp⟩
theorem HOne.call {w W W' : World} {g : Nat} {h : H8} {l : Value} (b : HOne w W g h l) (hb : Below W.heap.size W W') : HOne w W' g h l :=
  ⟨b.at_, below_chain b.below hb, b.box.below hb (by have := b.size; omega), Nat.le_trans b.size hb.size⟩
theorem below_hput {B : Nat} {a W : World} {g : Nat} (b : Below B a W) (hg : B ≤ g) (h : H8) (l : Value) : Below B a (hput W g h l) :=
  (((((b.setCell (p := ⟨g, 0, none⟩) hg _).setCell (p := ⟨g, 1, none⟩) hg _).setCell (p := ⟨g, 2, none⟩) hg _).setCell (p := ⟨g, 3, none⟩) hg _).setCell (p := ⟨g, 4, none⟩) hg _).setCell (p := ⟨g, 5, none⟩) hg _
theorem HOne.put {w W : World} {g : Nat} {u : H8} {m : Value} (b : HOne w W g u m) (h : H8) (l : Value) : Below w.heap.size w (hput W g h l) := below_hput b.below (by rw [b.at_]; exact Nat.le_refl _) h l
def hrv (h : H8) (l : Value) (e : Int) : Value := .tuple #[hv h l, .int .i64 e]
theorem end_hbox {W : World} {g : Nat} {h : H8} {l : Value} {v : Int} {tmps : Array Value} {p u : Tmp} (hp : tmps.getD p undef = .pointer (some ⟨g, 0, none⟩)) (hu : tmps.getD u undef = .int .i64 v) (b : HBox W g h l) :
    (((asAddr (tmps.getD p undef)).run Tryd.prog W).andThen fun a w₁ => ((loadVar 25 a).run Tryd.prog w₁).andThen fun v w₂ => .ok (.tuple #[v, tmps.getD u undef]) w₂) = .ok (hrv h l v) W := by
  rw [hp, hu]
  have := hload b
  simp [asAddr, Result.andThen, this, hrv]
def hrv3 (h : H8) (l : Value) (n e : Int) : Value := .tuple #[hv h l, .int .i64 n, .int .i64 e]
theorem end_hbox3 {W : World} {g : Nat} {h : H8} {l : Value} {n v : Int} {tmps : Array Value} {p t u : Tmp} (hp : tmps.getD p undef = .pointer (some ⟨g, 0, none⟩)) (ht : tmps.getD t undef = .int .i64 n) (hu : tmps.getD u undef = .int .i64 v) (b : HBox W g h l) :
    (((asAddr (tmps.getD p undef)).run Tryd.prog W).andThen fun a w₁ => ((loadVar 25 a).run Tryd.prog w₁).andThen fun v w₂ => .ok (.tuple #[v, tmps.getD t undef, tmps.getD u undef]) w₂) = .ok (hrv3 h l n v) W := by
  rw [hp, ht, hu]
  have := hload b
  simp [asAddr, Result.andThen, this, hrv3]
theorem results_cell_tmp2 {fn : Func} {p t u : Tmp} {ty : TypeId} (h : fn.results = #[.cell p ty, .tmp t, .tmp u]) (tmps : Array Value) (P : Program) (w : World) :
    (results fn tmps).run P w =
      ((asAddr (tmps.getD p undef)).run P w).andThen fun a w₁ => ((loadVar ty a).run P w₁).andThen fun v w₂ => .ok (.tuple #[v, tmps.getD t undef, tmps.getD u undef]) w₂ := by
  simp only [results, h]
  simp [Sem.run_bind, Result.andThen]
theorem row_hput {W : World} {base n size : Nat} {e : TypeId} {v : Value} {xs : List Value} {g : Nat} (h : W.ownsRow base e size v n xs) (hg : g < base) (H : H8) (l : Value) : (hput W g H l).ownsRow base e size v n xs :=
  ownsRow_setCell_below (ownsRow_setCell_below (ownsRow_setCell_below (ownsRow_setCell_below (ownsRow_setCell_below (ownsRow_setCell_below h hg _) hg _) hg _) hg _) hg _) hg _
theorem box_hput {W : World} {g k : Nat} {H u : H8} {l m : Value} (b : HBox W g u m) (hg : g ≠ k) : HBox (hput W k H l) g u m :=
  (((((b.far (p := ⟨k, 0, none⟩) hg _).far (p := ⟨k, 1, none⟩) hg _).far (p := ⟨k, 2, none⟩) hg _).far (p := ⟨k, 3, none⟩) hg _).far (p := ⟨k, 4, none⟩) hg _).far (p := ⟨k, 5, none⟩) hg _
theorem size_hput (W : World) (g : Nat) (H : H8) (l : Value) : (hput W g H l).heap.size = W.heap.size := by simp [hput]
end Go.Proofs.YtclecgopmegjeaaDoor.HBox
