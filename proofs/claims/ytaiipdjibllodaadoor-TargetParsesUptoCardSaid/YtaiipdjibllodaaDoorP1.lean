/- Texts of this seat, one behind another: RBox. -/
import Derived.Laws.ResultCell
import Derived.Test.YtaiipdjibllodaaDoorB1
import Derived.Test.YtaiipdjibllodaaDoorA1
/- Layer 6: the document's targets in memory. -/
namespace Go.Proofs.YtaiipdjibllodaaDoor.RBox
open Go.ChangeShapes Go.WideShapes Go.ChangeAt Go.RowKit LexPure Bytes TargetPure TBox Mem
set_option maxRecDepth 20000
/-- what a target's box holds, cell by cell -/
structure RB (w : World) (g : Nat) (t : Tgt) : Prop where
  has : Has w g 28 (tc t)
theorem RB.new (w : World) (t : Tgt) : RB (w.alloc (.cells (tc t) 28)) w.heap.size t := ⟨Has.new w _ _⟩
theorem RB.alloc {w : World} {g : Nat} {t : Tgt} (h : RB w g t) (o : Obj) : RB (w.alloc o) g t := ⟨h.has.alloc o⟩
theorem RB.below {w w' : World} {g B : Nat} {t : Tgt} (h : RB w g t) (hb : Below B w w') (hg : g < B) : RB w' g t := ⟨h.has.below hb hg⟩
theorem RB.cells {w : World} {g : Nat} {t : Tgt} (h : RB w g t) : w.cell? ⟨g, 0, none⟩ = some (.int .i64 t.form) ∧ w.cell? ⟨g, 1, none⟩ = some (.string (ofL t.host)) ∧ w.cell? ⟨g, 2, none⟩ = some (.int .i64 t.port) ∧ w.cell? ⟨g, 3, none⟩ = some (.string (ofL t.path)) ∧ w.cell? ⟨g, 4, none⟩ = some (.string (ofL t.query)) ∧ w.cell? ⟨g, 5, none⟩ = some (.bool t.has) :=
  ⟨(h.has.cell 0).trans rfl, (h.has.cell 1).trans rfl, (h.has.cell 2).trans rfl, (h.has.cell 3).trans rfl, (h.has.cell 4).trans rfl, (h.has.cell 5).trans rfl⟩
theorem RB.frees {w : World} {g : Nat} {t : Tgt} (h : RB w g t) : w.frozen? ⟨g, 0, none⟩ = false ∧ w.frozen? ⟨g, 1, none⟩ = false ∧ w.frozen? ⟨g, 2, none⟩ = false ∧ w.frozen? ⟨g, 3, none⟩ = false ∧ w.frozen? ⟨g, 4, none⟩ = false ∧ w.frozen? ⟨g, 5, none⟩ = false :=
  ⟨h.has.free 0, h.has.free 1, h.has.free 2, h.has.free 3, h.has.free 4, h.has.free 5⟩
/-- the boxes of a call that takes a target and answers one -/
structure RTwo (w W : World) (g : Nat) (t u : Tgt) : Prop where
  at_ : g = w.heap.size
  below : Below w.heap.size w W
  tbox : RB W g t
  rbox : RB W (g + 1) u
  size : g + 2 ≤ W.heap.size
theorem RTwo.start (w : World) (fo : Int) (ho : List UInt8) (po : Int) (pa qu : List UInt8) (ha : Bool) : RTwo w ((w.alloc (.cells #[.int .i64 fo, .string (ofL ho), .int .i64 po, .string (ofL pa), .string (ofL qu), .bool ha] 28)).alloc (.cells #[.int .i64 0, .string ⟨#[]⟩, .int .i64 0, .string ⟨#[]⟩, .string ⟨#[]⟩, .bool false] 28)) w.heap.size ⟨fo, ho, po, pa, qu, ha⟩ zero := by
  refine ⟨rfl, ((Below.refl w.heap.size w).alloc (Nat.le_refl _) _).alloc (by simp) _, (RB.new w ⟨fo, ho, po, pa, qu, ha⟩).alloc _, ?_, by simp⟩
  have := RB.new (w.alloc (.cells (tc ⟨fo, ho, po, pa, qu, ha⟩) 28)) zero
  rw [show (w.alloc (.cells (tc ⟨fo, ho, po, pa, qu, ha⟩) 28)).heap.size = w.heap.size + 1 by simp] at this
  exact this
theorem RTwo.call {w W W' : World} {g : Nat} {t u : Tgt} (h : RTwo w W g t u) (hb : Below W.heap.size W W') : RTwo w W' g t u :=
  ⟨h.at_, below_chain h.below hb, h.tbox.below hb (by have := h.size; omega), h.rbox.below hb (by have := h.size; omega), Nat.le_trans h.size hb.size⟩
theorem RB.put {W : World} {g : Nat} {u : Tgt} (h : RB W g u) (t : Tgt) : RB (put W g t) g t :=
  ⟨by have := (((((h.has.set_ 0 (.int .i64 t.form)).set_ 1 (.string (ofL t.host))).set_ 2 (.int .i64 t.port)).set_ 3 (.string (ofL t.path))).set_ 4 (.string (ofL t.query))).set_ 5 (.bool t.has); unfold TBox.put; simpa [tc] using this⟩
theorem load_rbox {w : World} {g : Nat} {t : Tgt} (h : RB w g t) : (loadVar 28 ⟨g, 0, none⟩).run Tryd.prog w = .ok (tv t) w :=
  run_loadVar_row w g 28 28 _ _ _ h.has.at_ Tryd.underlying28 rfl (by kernel_rfl)
theorem RB.far {w : World} {g : Nat} {t : Tgt} (h : RB w g t) {p : Addr} (hp : g ≠ p.block) (u : Value) : RB (w.setCell p u) g t := ⟨h.has.far hp u⟩
/-- what a call that answers a target and a number hands back -/
theorem end_rbox {W : World} {g : Nat} {t : Tgt} {v : Int} {tmps : Array Value} {p u : Tmp} (hp : tmps.getD p undef = .pointer (some ⟨g, 0, none⟩)) (hu : tmps.getD u undef = .int .i64 v) (h : RB W g t) :
    (((asAddr (tmps.getD p undef)).run Tryd.prog W).andThen fun a w₁ => ((loadVar 28 a).run Tryd.prog w₁).andThen fun v w₂ => .ok (.tuple #[v, tmps.getD u undef]) w₂) = .ok (rv (t, v)) W := by
  rw [hp, hu]
  have := load_rbox h
  simp [asAddr, Result.andThen, this, rv]
/-- the box of a call that answers a target -/
structure ROne (w W : World) (g : Nat) (u : Tgt) : Prop where
  at_ : g = w.heap.size
  below : Below w.heap.size w W
  rbox : RB W g u
  size : g + 1 ≤ W.heap.size
theorem ROne.start (w : World) : ROne w (w.alloc (.cells #[.int .i64 0, .string ⟨#[]⟩, .int .i64 0, .string ⟨#[]⟩, .string ⟨#[]⟩, .bool false] 28)) w.heap.size zero :=
  ⟨rfl, (Below.refl w.heap.size w).alloc (Nat.le_refl _) _, RB.new w zero, by simp⟩
theorem ROne.call {w W W' : World} {g : Nat} {u : Tgt} (h : ROne w W g u) (hb : Below W.heap.size W W') : ROne w W' g u :=
  ⟨h.at_, below_chain h.below hb, h.rbox.below hb (by have := h.size; omega), Nat.le_trans h.size hb.size⟩
theorem ROne.put {w W : World} {g : Nat} {u : Tgt} (h : ROne w W g u) (t : Tgt) : Below w.heap.size w (TBox.put W g t) := below_put h.below (by rw [h.at_]; exact Nat.le_refl _) t
/-- the three fields that a target gets last, as the walk writes them -/
theorem RTwo.paths {w W : World} {g : Nat} {fo : Int} {ho : List UInt8} {po : Int} {pa qu : List UInt8} {ha : Bool} {u : Tgt} (h : RTwo w W g ⟨fo, ho, po, pa, qu, ha⟩ u) (p q : List UInt8) (b : Bool) :
    RTwo w (((W.setCell ⟨g, 3, none⟩ (.string (ofL p))).setCell ⟨g, 5, none⟩ (.bool b)).setCell ⟨g, 4, none⟩ (.string (ofL q))) g ⟨fo, ho, po, p, q, b⟩ u := by
  have hg : w.heap.size ≤ g := by rw [h.at_]; exact Nat.le_refl _
  have hne : ∀ i, g + 1 ≠ (⟨g, i, none⟩ : Addr).block := fun i => by simp
  refine ⟨h.at_, ((h.below.setCell (p := ⟨g, 3, none⟩) hg _).setCell (p := ⟨g, 5, none⟩) hg _).setCell (p := ⟨g, 4, none⟩) hg _, ⟨?_⟩, ((h.rbox.far (hne 3) _).far (hne 5) _).far (hne 4) _, by simpa using h.size⟩
  have := ((h.tbox.has.set_ 3 (.string (ofL p))).set_ 5 (.bool b)).set_ 4 (.string (ofL q))
  simpa [tc] using this
theorem RTwo.path {w W : World} {g : Nat} {fo : Int} {ho : List UInt8} {po : Int} {pa qu : List UInt8} {ha : Bool} {u : Tgt} (h : RTwo w W g ⟨fo, ho, po, pa, qu, ha⟩ u) (p : List UInt8) :
    RTwo w (W.setCell ⟨g, 3, none⟩ (.string (ofL p))) g ⟨fo, ho, po, p, qu, ha⟩ u := by
  have hg : w.heap.size ≤ g := by rw [h.at_]; exact Nat.le_refl _
  have hne : ∀ i, g + 1 ≠ (⟨g, i, none⟩ : Addr).block := fun i => by simp
  refine ⟨h.at_, h.below.setCell (p := ⟨g, 3, none⟩) hg _, ⟨?_⟩, h.rbox.far (hne 3) _, by simpa using h.size⟩
  have := h.tbox.has.set_ 3 (.string (ofL p))
  simpa [tc] using this
end Go.Proofs.YtaiipdjibllodaaDoor.RBox
