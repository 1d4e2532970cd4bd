/- Layer 8: a law's variable that holds a head. -/
import Derived.Test.YtclecgopmegjeaaDoorHAnchor
namespace Go.Proofs.YtclecgopmegjeaaDoor.HLaw
open Go.ChangeShapes Go.WideShapes Go.ChangeAt Go.RowKit LexPure Bytes Ret Rows1 FieldsPure Flds HeadPure HBox KeptRow PFlds8 Mem
set_option maxRecDepth 20000
/-- box g, made behind w, holds head H with its list v -/
structure LB (w W : World) (g : Nat) (H : H8) (v : Value) : Prop where
  below : Below w.heap.size w W
  low : w.heap.size ≤ g
  box : HBox W g H v
  list : FL W v H.fields
  lt : g < W.heap.size
theorem LB.new {w W : World} {H : H8} {v : Value} (hb : Below w.heap.size w W) (hf : FL W v H.fields) : LB w (W.alloc (.cells (hc H v) 25)) W.heap.size H v :=
  ⟨hb.alloc hb.size _, hb.size, ⟨Has.new W _ _⟩, hf.below ((Below.refl _ _).alloc (Nat.le_refl _) _), by simp⟩
theorem LB.call {w W W' : World} {g : Nat} {H : H8} {v : Value} (h : LB w W g H v) (hb : Below W.heap.size W W') : LB w W' g H v :=
  ⟨below_chain h.below hb, h.low, h.box.below hb h.lt, h.list.below hb, Nat.lt_of_lt_of_le h.lt hb.size⟩
theorem LB.alloc {w W : World} {g : Nat} {H : H8} {v : Value} (h : LB w W g H v) (o : Obj) : LB w (W.alloc o) g H v := h.call ((Below.refl _ _).alloc (Nat.le_refl _) o)
/-- an answer with a row of its own is stored over -/
theorem LB.put {w W W' : World} {g : Nat} {H H' : H8} {v v' : Value} (h : LB w W g H v) (hb : Below W.heap.size W W') (hr : RowF W' W.heap.size v' H'.fields) : LB w (hput W' g H' v') g H' v' :=
  ⟨below_hput (below_chain h.below hb) h.low _ _, h.low, (h.box.below hb h.lt).put _ _, fl_of (row_hput hr.1 (g := g) h.lt H' v') (by have := hr.2; omega), by rw [size_hput]; exact Nat.lt_of_lt_of_le h.lt hb.size⟩
theorem LB.drewN {w W : World} {g : Nat} {H : H8} {v : Value} (h : LB w W g H v) (n : Nat) : LB w (W.drewN n) g H v :=
  ⟨below_drewN h.below n, h.low, ⟨h.box.has.drewN n⟩, h.list, h.lt⟩
end Go.Proofs.YtclecgopmegjeaaDoor.HLaw
