/- Layer 8: a field in memory. -/
import Derived.Test.YtlgohmghjffiaaaDoorHeadPure
import Derived.Test.YtlgohmghjffiaaaDoorLawBase
import Derived.Test.YtlgohmghjffiaaaDoorMem
import Derived.Laws.ResultCell
namespace Go.Proofs.YtlgohmghjffiaaaDoor.HBox
open Go.ChangeShapes Go.WideShapes Go.ChangeAt Go.RowKit LexPure Bytes FieldsPure HeadPure Mem
set_option maxRecDepth 20000
theorem below_drew {B : Nat} {a W : World} (h : Below B a W) : Below B a W.drew := h.trans ⟨rfl, rfl, rfl, Nat.le_refl _, fun _ _ => rfl⟩
theorem below_drewN {B : Nat} {a W : World} (h : Below B a W) (n : Nat) : Below B a (W.drewN n) := h.trans ⟨rfl, rfl, rfl, Nat.le_refl _, fun _ _ => rfl⟩
/-! ### one field -/
def fc (x : HField) : Array Value := #[.string (ofL x.1), .string (ofL x.2)]
def fv (x : HField) : Value := .agg #[.string (ofL x.1), .string (ofL x.2)]
structure FBox (w : World) (g : Nat) (x : HField) : Prop where
  has : Has w g 68 (fc x)
def fput (W : World) (g : Nat) (x : HField) : World := (W.setCell ⟨g, 0, none⟩ (.string (ofL x.1))).setCell ⟨g, 1, none⟩ (.string (ofL x.2))
theorem FBox.put {W : World} {g : Nat} {u : HField} (h : FBox W g u) (x : HField) : FBox (fput W g x) g x :=
  ⟨by have := (h.has.set_ 0 (.string (ofL x.1))).set_ 1 (.string (ofL x.2)); unfold fput; simpa [fc] using this⟩
theorem fload {w : World} {g : Nat} {x : HField} (h : FBox w g x) : (loadVar 68 ⟨g, 0, none⟩).run Tryd.prog w = .ok (fv x) w :=
  run_loadVar_row w g 68 68 _ _ _ h.has.at_ Tryd.underlying68 rfl (by kernel_rfl)
theorem FBox.cells {w : World} {g : Nat} {x : HField} (h : FBox w g x) : w.cell? ⟨g, 0, none⟩ = some (.string (ofL x.1)) ∧ w.cell? ⟨g, 1, none⟩ = some (.string (ofL x.2)) := ⟨(h.has.cell 0).trans rfl, (h.has.cell 1).trans rfl⟩
theorem FBox.frees {w : World} {g : Nat} {x : HField} (h : FBox w g x) : w.frozen? ⟨g, 0, none⟩ = false ∧ w.frozen? ⟨g, 1, none⟩ = false := ⟨h.has.free 0, h.has.free 1⟩
theorem FBox.below {w w' : World} {g B : Nat} {x : HField} (h : FBox w g x) (hb : Below B w w') (hg : g < B) : FBox w' g x := ⟨h.has.below hb hg⟩
/-- the box of a call that answers a field -/
structure FOne (w W : World) (g : Nat) (x : HField) : Prop where
  at_ : g = w.heap.size
  below : Below w.heap.size w W
  box : FBox W g x
  size : g + 1 ≤ W.heap.size
theorem FOne.start (w : World) : FOne w (w.alloc (.cells #[.string ⟨#[]⟩, .string ⟨#[]⟩] 68)) w.heap.size ([], []) :=
  ⟨rfl, (Below.refl w.heap.size w).alloc (Nat.le_refl _) _, ⟨Has.new w _ _⟩, by simp⟩
theorem FOne.call {w W W' : World} {g : Nat} {x : HField} (h : FOne w W g x) (hb : Below W.heap.size W W') : FOne w W' g x :=
  ⟨h.at_, below_chain h.below hb, h.box.below hb (by have := h.size; omega), Nat.le_trans h.size hb.size⟩
theorem FOne.put {w W : World} {g : Nat} {u : HField} (h : FOne w W g u) (x : HField) : Below w.heap.size w (fput W g x) :=
  (h.below.setCell (p := ⟨g, 0, none⟩) (by rw [h.at_]; exact Nat.le_refl _) _).setCell (p := ⟨g, 1, none⟩) (by rw [h.at_]; exact Nat.le_refl _) _
def frv (r : HField × Int) : Value := .tuple #[fv r.1, .int .i64 r.2]
theorem end_fbox {W : World} {g : Nat} {x : HField} {v : Int} {tmps : Array Value} {p u : Tmp} (hp : tmps.getD p undef = .pointer (some ⟨g, 0, none⟩)) (hu : tmps.getD u undef = .int .i64 v) (h : FBox W g x) :
    (((asAddr (tmps.getD p undef)).run Tryd.prog W).andThen fun a w₁ => ((loadVar 68 a).run Tryd.prog w₁).andThen fun v w₂ => .ok (.tuple #[v, tmps.getD u undef]) w₂) = .ok (frv (x, v)) W := by
  rw [hp, hu]
  have := fload h
  simp [asAddr, Result.andThen, this, frv]
end Go.Proofs.YtlgohmghjffiaaaDoor.HBox
