/- Layer 8: a head held against itself by the document's own SameHead. -/
import Derived.Test.YtclecgopmegjeaaDoorHBox
import Derived.Test.YtclecgopmegjeaaDoorR7Same
import Derived.Handy
namespace Go.Proofs.YtclecgopmegjeaaDoor.R8Same
open Go.ChangeShapes Go.WideShapes Go.ChangeAt Go.RowKit LexPure Bytes Ret FieldsPure HeadPure Flds R7Same HBox Mem
set_option maxRecDepth 20000
set_option maxHeartbeats 1600000 in
theorem same8_any (h : H8) (v1 v2 : Value) (w : World) (h1 : FL w v1 h.fields) (h2 : FL w v2 h.fields) :
    Calls Tryd.prog 14 #[hv h v1, hv h v2] w fun e w' => e = .returned (.bool true) ∧ Below w.heap.size w w' := by
  obtain ⟨m, t, st, re, mi, l⟩ := h
  have q1 := fun s : ByteArray => (show (s.toList == s.toList) = true from beq_self_eq_true _)
  have q2 := fun n : Int => (show (n == n) = true from beq_self_eq_true _)
  have hb1 := (Below.refl w.heap.size w).alloc (Nat.le_refl _) (.cells (hc ⟨m, t, st, re, mi, l⟩ v1) 25)
  have hb2 := hb1.alloc (by simp) (.cells (hc ⟨m, t, st, re, mi, l⟩ v2) 25)
  have b1 : HBox (w.alloc (.cells (hc ⟨m, t, st, re, mi, l⟩ v1) 25)) w.heap.size ⟨m, t, st, re, mi, l⟩ v1 := ⟨Has.new w _ _⟩
  have b2 : HBox ((w.alloc (.cells (hc ⟨m, t, st, re, mi, l⟩ v1) 25)).alloc (.cells (hc ⟨m, t, st, re, mi, l⟩ v2) 25)) (w.heap.size + 1) ⟨m, t, st, re, mi, l⟩ v2 := ⟨by
    have := Has.new (w.alloc (.cells (hc ⟨m, t, st, re, mi, l⟩ v1) 25)) 25 (hc ⟨m, t, st, re, mi, l⟩ v2)
    rw [show (w.alloc (.cells (hc ⟨m, t, st, re, mi, l⟩ v1) 25)).heap.size = w.heap.size + 1 by simp] at this
    exact this⟩
  have b3 : HBox ((w.alloc (.cells (hc ⟨m, t, st, re, mi, l⟩ v1) 25)).alloc (.cells (hc ⟨m, t, st, re, mi, l⟩ v2) 25)) w.heap.size ⟨m, t, st, re, mi, l⟩ v1 := ⟨b1.has.alloc _⟩
  have HS := Lib.hid (r7same_any v1 v2 l l ((w.alloc (.cells (hc ⟨m, t, st, re, mi, l⟩ v1) 25)).alloc (.cells (hc ⟨m, t, st, re, mi, l⟩ v2) 25)) (h1.below hb2) (h2.below hb2))
  rw [beq_self_eq_true] at HS
  replace hb2 := Lib.hid hb2
  obtain ⟨c0, c1, c2, c3, c4, c5⟩ := b2.cells
  obtain ⟨d0, d1, d2, d3, d4, d5⟩ := b3.cells
  clear b1 b2 b3 hb1 h1 h2
  unfold hv
  dsimp only at HS hb2 c0 c1 c2 c3 c4 c5 d0 d1 d2 d3 d4 d5 ⊢
  unfold hc at HS hb2 c0 c1 c2 c3 c4 c5 d0 d1 d2 d3 d4 d5
  dsimp only at HS hb2 c0 c1 c2 c3 c4 c5 d0 d1 d2 d3 d4 d5
  generalize ofL m = M at *
  generalize ofL t = T at *
  generalize ofL re = R at *
  go_enter Tryd.func14, Tryd.ntmps14
  go_wp2_with fail
  generalize (w.alloc (.cells #[.string M, .string T, .int .i64 st, .string R, .int .i64 mi, v1] 25)).alloc (.cells #[.string M, .string T, .int .i64 st, .string R, .int .i64 mi, v2] 25) = W at *
  obtain ⟨g, hg⟩ : ∃ g, g = w.heap.size := ⟨_, rfl⟩
  rw [← hg] at c0 c1 c2 c3 c4 c5 d0 d1 d2 d3 d4 d5 ⊢
  replace hg := Lib.hid hg
  have k1 := q1 M
  have k2 := q1 T
  have k3 := q1 R
  have k4 := q2 st
  have k5 := q2 mi
  clear q1 q2
  refine HS.out.mono ?_
  rintro e w' ⟨rfl, n, rfl⟩
  replace hb2 := Lib.hid (below_drewN hb2.out n)
  clear HS
  go_wp2_with fail
  go_ret
  exact ⟨rfl, hb2.out⟩
end Go.Proofs.YtclecgopmegjeaaDoor.R8Same
