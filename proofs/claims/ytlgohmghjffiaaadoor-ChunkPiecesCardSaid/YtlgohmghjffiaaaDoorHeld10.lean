/- A decoder that a law holds. -/
import Derived.Test.YtlgohmghjffiaaaDoorChunkObj
import Derived.Test.YtlgohmghjffiaaaDoorRows1
import Derived.Test.YtlgohmghjffiaaaDoorMem
import Derived.Lib.Hide
import Derived.Below
import Derived.Outline
import Derived.LoopTactic
import Derived.Handy
namespace Go.Proofs.YtlgohmghjffiaaaDoor.Held10
open Go.ChangeShapes Go.WideShapes Go.ChangeAt Go.RowKit Bytes ChunkPure ChunkHex ChunkText ChunkObj Mem Step Rows1 Ret
set_option maxRecDepth 20000
/-- a decoder made behind w -/
structure DB (w W : World) (F : Nat → Prop) (g : Nat) (m : M) : Prop where
  dec : Dec W F g m
  low : ∀ k, F k → w.heap.size ≤ k
  below : Below w.heap.size w W
/-- some blocks hold it -/
def DBF (w W : World) (g : Nat) (m : M) : Prop := ∃ F, DB w W F g m
theorem DB.new {w w1 W : World} {F : Nat → Prop} {g : Nat} {m : M} (hD : Dec W F g m) (hlo : ∀ k, F k → w1.heap.size ≤ k) (hb : Below w1.heap.size w1 W) (h0 : Below w.heap.size w w1) : DB w W F g m :=
  ⟨hD, fun k hk => Nat.le_trans h0.size (hlo k hk), below_chain h0 hb⟩
theorem DB.call {w W W' : World} {F : Nat → Prop} {g : Nat} {m : M} (h : DB w W F g m) (hb : Below W.heap.size W W') : DB w W' F g m :=
  ⟨h.dec.step (Step.of_below hb (fun _ => False)) (fun _ _ h => h), h.low, below_chain h.below hb⟩
theorem DB.drewN {w W : World} {F : Nat → Prop} {g : Nat} {m : M} (h : DB w W F g m) (n : Nat) : DB w (W.drewN n) F g m := h.call ⟨rfl, rfl, rfl, Nat.le_refl _, fun _ _ => rfl⟩
theorem DB.feed {w W : World} {F : Nat → Prop} {g : Nat} {m : M} (h : DB w W F g m) (s : ByteArray) (hs : s.size ≤ 211106232532992) (hroom : s.size ≤ 140737488351232 ∨ m.most ≤ 140737488351232) (hok : Ok m) (_hm : Fit w) :
    Calls Tryd.prog 9 #[.pointer (some ⟨g, 0, none⟩), .string s] W fun e w' => e = .returned (ansV (ans m (toL s))) ∧ DBF w w' g (next m (toL s)) := by
  refine (pfeed_any F g m s hs hroom hok W h.dec).mono ?_
  rintro e w' ⟨rfl, F', hD, hS⟩
  refine ⟨rfl, F', hD, fun k hk => ?_, ?_⟩
  · rcases hS.grow k hk with h1 | h1
    · exact h.low k h1
    · exact Nat.le_trans h.below.size h1.1
  · exact h.below.trans (hS.below h.below.size h.low)
theorem next_size (m : M) (l : List UInt8) : (next m l).size ≤ m.size + l.length ∧ (next m l).most = m.most := by
  obtain ⟨h1, h2⟩ := run_size m l
  obtain ⟨h3, h4, _⟩ := run_used m l
  unfold next
  omega
/-- another's call -/
theorem DB.other {w W W' : World} {F G G' : Nat → Prop} {g : Nat} {m : M} (h : DB w W F g m) (hS : Step W W' G G') (hG : ∀ k, G k → w.heap.size ≤ k) (hF : ∀ k, F k → ¬ G k) : DB w W' F g m :=
  ⟨h.dec.step hS hF, h.low, h.below.trans (hS.below h.below.size hG)⟩
end Go.Proofs.YtlgohmghjffiaaaDoor.Held10
