/- Layer 10 of the program: New. -/
import Derived.Test.YtlgohmghjffiaaaDoorPChFeed
namespace Go.Proofs.YtlgohmghjffiaaaDoor.ChunkObj
open Go.ChangeShapes Go.WideShapes Go.ChangeAt Go.RowKit Bytes LexPure HeadPure ChunkPure ChunkHex ChunkText ChObj Mem Step Ret Rows1
set_option maxRecDepth 20000
/-- what the world must hold for the calls: nothing -/
def Fit (w : World) : Prop := w = w
theorem Fit.of_shape {w : World} (_h : w.ShapedOpen Tryd.prog) : Fit w := rfl
theorem Fit.below {w w' : World} (_h : Fit w) (_hb : Below w.heap.size w w') : Fit w' := rfl
theorem Dec.lt {w : World} {F : Nat → Prop} {g : Nat} {m : M} (h : Dec w F g m) : ∀ k, F k → k < w.heap.size := by
  obtain ⟨r, v, h1, _⟩ := h.is
  exact h1.lt
/-- a new decoder -/
def NewD (w w' : World) (e : Ending) (most : Int) : Prop := ∃ g F, e = .returned (.pointer (some ⟨g, 0, none⟩)) ∧ Dec w' F g (begin_ most) ∧ ∀ k, F k → w.heap.size ≤ k
theorem NewD.at (w : World) (most : Int) (hr : InR most) : NewD w (w.alloc (.cells (cells most ⟨0, 0, 0, [], false, false, 0, 0⟩ (.slice none 0 0)) 39)) (.returned (.pointer (some ⟨w.heap.size, 0, none⟩))) most :=
  ⟨w.heap.size, fun k => k = w.heap.size, rfl, ⟨⟨⟨0, 0, 0, [], false, false, 0, 0⟩, .slice none 0 0, ⟨Has.new w _ _, World.ownsRow_nil _ _ _ _, fun b hb => (by cases hb), rfl, fun _ => rfl, fun k hk => (by rw [hk]; simp)⟩, rfl, fun _ => ⟨rfl, rfl, fun n hn => (by cases hn), rfl, rfl, rfl, fun n hn => (by cases hn), fun _ => rfl⟩⟩, Told.start most, Bare.start most, hr⟩, fun k hk => (by rw [hk]; exact Nat.le_refl _)⟩
theorem pnew_any (most : Int) (hr : InR most) (w : World) (_hm : Fit w) :
    Calls Tryd.prog 8 #[.int .i64 most] w fun e w' => NewD w w' e most ∧ Below w.heap.size w w' := by
  have HN := Lib.hid (NewD.at w most hr)
  unfold cells at HN
  dsimp only at HN
  go_enter Tryd.func8, Tryd.ntmps8
  go_wp2_with fail
  go_ret
  exact ⟨HN.out, (Below.refl _ _).alloc (Nat.le_refl _) _⟩
end Go.Proofs.YtlgohmghjffiaaaDoor.ChunkObj
