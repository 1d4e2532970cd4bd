/- Layer 10 of the program: its decoder in memory. -/
import Derived.Test.YtlgohmghjffiaaaDoorChunkText
import Derived.Test.YtlgohmghjffiaaaDoorLawBase
import Derived.Test.YtlgohmghjffiaaaDoorMem
import Derived.Test.YtlgohmghjffiaaaDoorStep
import Derived.Test.YtlgohmghjffiaaaDoorRows1
import Derived.Lib.Hide
import Derived.Below
namespace Go.Proofs.YtlgohmghjffiaaaDoor.ChObj
open Go.ChangeShapes Go.WideShapes Go.ChangeAt Go.RowKit Bytes ChunkPure ChunkText Mem Step Rows1
set_option maxRecDepth 20000
/-- what the cells say, but for the most -/
structure Raw where
  size : Int
  next : Int
  left : Int
  line : List UInt8
  part : Bool
  cr : Bool
  trail : Int
  ref : Int
def cells (most : Int) (r : Raw) (v : Value) : Array Value := #[.int .i64 most, .int .i64 r.size, .int .i64 r.next, .int .i64 r.left, v, .bool r.part, .bool r.cr, .int .i64 r.trail, .int .i64 r.ref]
/-- block g, and those of F, hold it; its line is the row v -/
structure Cod (w : World) (F : Nat → Prop) (g : Nat) (most : Int) (r : Raw) (v : Value) : Prop where
  has : Has w g 39 (cells most r v)
  row : w.ownsRow 0 5 1 v r.line.length (bvs r.line)
  own : ∀ b, v.ownBlock = some b → F b ∧ b ≠ g
  mine : F g
  nil : r.line = [] → v = .slice none 0 0
  lt : ∀ k, F k → k < w.heap.size
section
variable {w w' : World} {F F' : Nat → Prop} {g : Nat} {most : Int} {r : Raw} {v : Value}
theorem Cod.c0 (h : Cod w F g most r v) : w.cell? ⟨g, 0, none⟩ = some (.int .i64 most) := h.has.cell 0
theorem Cod.c1 (h : Cod w F g most r v) : w.cell? ⟨g, 1, none⟩ = some (.int .i64 r.size) := h.has.cell 1
theorem Cod.c2 (h : Cod w F g most r v) : w.cell? ⟨g, 2, none⟩ = some (.int .i64 r.next) := h.has.cell 2
theorem Cod.c3 (h : Cod w F g most r v) : w.cell? ⟨g, 3, none⟩ = some (.int .i64 r.left) := h.has.cell 3
theorem Cod.c4 (h : Cod w F g most r v) : w.cell? ⟨g, 4, none⟩ = some v := h.has.cell 4
theorem Cod.c5 (h : Cod w F g most r v) : w.cell? ⟨g, 5, none⟩ = some (.bool r.part) := h.has.cell 5
theorem Cod.c6 (h : Cod w F g most r v) : w.cell? ⟨g, 6, none⟩ = some (.bool r.cr) := h.has.cell 6
theorem Cod.c7 (h : Cod w F g most r v) : w.cell? ⟨g, 7, none⟩ = some (.int .i64 r.trail) := h.has.cell 7
theorem Cod.c8 (h : Cod w F g most r v) : w.cell? ⟨g, 8, none⟩ = some (.int .i64 r.ref) := h.has.cell 8
theorem Cod.free (h : Cod w F g most r v) (i : Nat) : w.frozen? ⟨g, i, none⟩ = false := h.has.free i
theorem Cod.far (h : Cod w F g most r v) {G G' : Nat → Prop} (hs : Step w w' G G') (hf : ∀ k, F k → ¬ G k) : Cod w' F g most r v :=
  ⟨hs.has h.has (hf g h.mine), hs.row h.row (fun b hb => hf b (h.own b hb).1), h.own, h.mine, h.nil, fun k hk => Nat.lt_of_lt_of_le (h.lt k hk) hs.size⟩
theorem Cod.below (h : Cod w F g most r v) (hb : Below w.heap.size w w') : Cod w' F g most r v :=
  h.far (Step.of_below hb (fun _ => False)) (fun _ _ h => h)
/-- a store -/
theorem Cod.set (h : Cod w F g most r v) (i : Nat) (u : Value) (r' : Raw) (hc : (cells most r v).setIfInBounds i u = cells most r' v) (hl : r'.line = r.line) : Cod (w.setCell ⟨g, i, none⟩ u) F g most r' v :=
  ⟨by rw [← hc]; exact h.has.set_ i u, by
    rw [hl]
    exact (Step.set_ (F := fun k => k = g) w rfl i u).row h.row (fun b hb => (h.own b hb).2), h.own, h.mine, by rw [hl]; exact h.nil, fun k hk => by
    have := h.lt k hk
    simpa [World.setCell] using this⟩
/-- another line -/
theorem Cod.setLine (h : Cod w F g most r v) (u : Value) (l : List UInt8) (hr : w.ownsRow 0 5 1 u l.length (bvs l)) (ho : ∀ b, u.ownBlock = some b → F b ∧ b ≠ g) (hn : l = [] → u = .slice none 0 0) : Cod (w.setCell ⟨g, 4, none⟩ u) F g most { r with line := l } u :=
  ⟨h.has.set_ 4 u, (Step.set_ (F := fun k => k = g) w rfl 4 u).row hr (fun b hb => (ho b hb).2), ho, h.mine, hn, fun k hk => by
    have := h.lt k hk
    simpa [World.setCell] using this⟩
theorem Cod.widen (h : Cod w F g most r v) {G : Nat → Prop} (hG : ∀ k, F k → G k) (hl : ∀ k, G k → k < w.heap.size) : Cod w G g most r v :=
  ⟨h.has, h.row, fun b hb => ⟨hG b (h.own b hb).1, (h.own b hb).2⟩, hG g h.mine, h.nil, hl⟩
/-- with no line the decoder is one block -/
theorem Cod.alone (h : Cod w F g most r (.slice none 0 0)) : Cod w (fun k => k = g) g most r (.slice none 0 0) :=
  ⟨h.has, h.row, fun b hb => (by cases hb), rfl, fun _ => rfl, fun k hk => (by rw [hk]; exact h.lt g h.mine)⟩
/-- the line's value -/
theorem Cod.form (h : Cod w F g most r v) : ∃ p cap, v = .slice p r.line.length cap := by
  obtain ⟨p, cap, h1, _⟩ := row_form h.row
  exact ⟨p, cap, h1⟩
end
/-- from world w on: what it is, and that nothing else has turned -/
structure CS (w : World) (F : Nat → Prop) (w' : World) (F' : Nat → Prop) (g : Nat) (most : Int) (r : Raw) (v : Value) : Prop where
  cod : Cod w' F' g most r v
  step : Step w w' F F'
section
variable {w W W' : World} {F F' : Nat → Prop} {g : Nat} {most : Int} {r : Raw} {v : Value}
theorem CS.start (h : Cod w F g most r v) : CS w F w F g most r v := ⟨h, Step.refl w F⟩
theorem CS.call (h : CS w F W F' g most r v) (hb : Below W.heap.size W W') : CS w F W' F' g most r v :=
  ⟨h.cod.below hb, h.step.trans (Step.of_below hb F')⟩
theorem CS.set (h : CS w F W F' g most r v) (i : Nat) (u : Value) (r' : Raw) (hc : (cells most r v).setIfInBounds i u = cells most r' v) (hl : r'.line = r.line) : CS w F (W.setCell ⟨g, i, none⟩ u) F' g most r' v :=
  ⟨h.cod.set i u r' hc hl, h.step.trans (Step.set_ W h.cod.mine i u)⟩
theorem CS.setLine (h : CS w F W F' g most r v) (u : Value) (l : List UInt8) (hr : W.ownsRow 0 5 1 u l.length (bvs l)) (ho : ∀ b, u.ownBlock = some b → F' b ∧ b ≠ g) (hn : l = [] → u = .slice none 0 0) : CS w F (W.setCell ⟨g, 4, none⟩ u) F' g most { r with line := l } u :=
  ⟨h.cod.setLine u l hr ho hn, h.step.trans (Step.set_ W h.cod.mine 4 u)⟩
theorem CS.then {F1 : Nat → Prop} {r1 : Raw} {v1 : Value} (h : CS w F W F' g most r v) (k : CS W F' W' F1 g most r1 v1) : CS w F W' F1 g most r1 v1 :=
  ⟨k.cod, h.step.trans k.step⟩
end
/-! ### where it stands -/
/-- the body's bytes and the most of them are ints, and the body is within it -/
def InR (x : Int) : Prop := -9223372036854775808 ≤ x ∧ x ≤ 9223372036854775807
theorem InR.of_wf {x : Int} (h : (Lit.int .i64 x).wf = true) : InR x := by
  have h1 : (decide (IntKind.i64.min ≤ x) && decide (x ≤ IntKind.i64.max)) = true := h
  rw [show IntKind.i64.max = 9223372036854775807 from rfl, show IntKind.i64.min = -9223372036854775808 from rfl, Bool.and_eq_true, decide_eq_true_eq, decide_eq_true_eq] at h1
  exact h1
def Sane (m : M) : Prop := InR m.most ∧ ((m.size : Int) ≤ m.most ∨ m.size = 0)
def phN : Ph → Int
  | .size => 0
  | .data _ => 1
  | .after => 2
  | .trail _ => 3
  | .done => 4
  | .bad _ => 5
/-- the error -/
def errN (m : M) : Int :=
  match m.ph with
  | .bad e => e
  | _ => 0
structure Rel (r : Raw) (m : M) : Prop where
  size : r.size = m.size
  next : r.next = phN m.ph
  left : ∀ n, m.ph = .data n → r.left = n
  line : r.line = m.line
  part : r.part = parted m.line
  cr : r.cr = m.cr
  trail : ∀ n, m.ph = .trail n → r.trail = n
  none : r.next ≤ 2 → r.trail = 0
/-- a step's outcome: the error, and where it then stands -/
structure Out (r : Raw) (m : M) : Prop where
  ref : r.ref = 0
  rel : good m = true → Rel r m
def CSF (w : World) (F : Nat → Prop) (w' : World) (g : Nat) (most : Int) (m : M) : Prop := ∃ F' r v, CS w F w' F' g most r v ∧ Out r m
theorem errN_good {m : M} (h : good m = true) : errN m = 0 := by
  unfold good at h
  unfold errN
  split <;> simp_all
end Go.Proofs.YtlgohmghjffiaaaDoor.ChObj
