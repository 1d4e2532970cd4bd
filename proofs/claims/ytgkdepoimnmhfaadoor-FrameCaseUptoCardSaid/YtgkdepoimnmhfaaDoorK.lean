/- Texts of this seat, one behind another: FrameCaseW. -/
import Derived.Laws.OwnMore
import Derived.Deep.RegionHeld3
import Derived.BigRegion
import Derived.LoopTactic
import Derived.Handy
import Derived.Test.YtgkdepoimnmhfaaDoorB
import Derived.Test.YtgkdepoimnmhfaaDoorA1
/- The case of names and codings does not matter: FrameCase returns true. -/
namespace Go.Proofs.YtgkdepoimnmhfaaDoor.FrameCaseW
open Go.ChangeShapes Go.WideShapes Go.ChangeAt Go.RowKit LexPure Bytes Ret Rows1 FieldsPure HeadPure FramePure Flds HBox KeptRow Held FRow FrameObj FrAnchor FCopied RLower HArg Mem
set_option maxRecDepth 100000
set_option linter.unusedVariables false
/-- the first k in small letters -/
def half (G : List HField) (k : Nat) : List HField := (G.take k).map lowF ++ G.drop k
theorem half_len (G : List HField) (k : Nat) : (half G k).length = G.length := by unfold half; rw [List.length_append, List.length_map, List.length_take, List.length_drop]; omega
theorem half_next {G : List HField} {k : Nat} (hk : k < G.length) : ((encFs (half G k)).set (k * 2) (.string (ofL (lower G[k].1)))).set (k * 2 + 1) (.string (ofL (lower G[k].2))) = encFs (half G (k + 1)) := by
  have hl : (encFs ((G.take k).map lowF)).length = k * 2 := by rw [encFs_len, List.length_map, List.length_take]; omega
  unfold half
  rw [List.take_add_one, List.getElem?_eq_getElem hk, List.drop_eq_getElem_cons hk, Option.toList_some, List.map_append, encFs_append, encFs_append, encFs_append, show G[k] :: G.drop (k + 1) = [G[k]] ++ G.drop (k + 1) from rfl, encFs_append]
  rw [List.set_append_right _ _ (by rw [hl]; exact Nat.le_refl _), hl, Nat.sub_self, List.set_append_right _ _ (by rw [hl]; omega), hl, show k * 2 + 1 - k * 2 = 1 by omega, List.append_assoc]
  rfl
/-- the law's head and its copy, whose list is its own -/
structure Lw (w W : World) (g gl b0 : Nat) (h : H8) (v vl : Value) (X : List HField) : Prop where
  head : LB w W g h v
  box : HBox W gl h vl
  row : W.ownsRow b0 41 2 vl X.length (encFs X)
  lo : g < b0
  hi : ∀ j, vl.ownBlock = some j → j < gl
  lt : gl < W.heap.size
  gb : b0 ≤ gl
theorem Lw.call {w W W' : World} {g gl b0 : Nat} {h : H8} {v vl : Value} {X : List HField} (x : Lw w W g gl b0 h v vl X) (hb : Below W.heap.size W W') : Lw w W' g gl b0 h v vl X :=
  ⟨x.head.call hb, x.box.below hb x.lt, row_below x.row hb, x.lo, x.hi, Nat.lt_of_lt_of_le x.lt hb.size, x.gb⟩
theorem Lw.store {w W : World} {g gl b0 gr n cap : Nat} {h : H8} {v : Value} {X Y : List HField} (x : Lw w W g gl b0 h v (.slice (some ⟨gr, 0, none⟩) n cap) X) (hF : FL w v h.fields) (a b : Nat) (u t : Value)
    (hX : X.length = n) (hY : Y.length = n) (hs : ((encFs X).set a u).set b t = encFs Y) : Lw w ((W.setCell ⟨gr, a, none⟩ u).setCell ⟨gr, b, none⟩ t) g gl b0 h v (.slice (some ⟨gr, 0, none⟩) n cap) Y := by
  have hlo : b0 ≤ gr := (x.row.lt gr rfl).1
  have hhi : gr < gl := x.hi gr rfl
  have hg := x.lo
  have hl := x.head.low
  have hw : w.heap.size ≤ gr := by omega
  have r0 := x.row
  rw [hX] at r0
  have r1 := (r0.stored a u).1
  have r2 := (r1.stored b t).1
  have hb := (x.head.below.setCell (p := ⟨gr, a, none⟩) hw u).setCell (p := ⟨gr, b, none⟩) hw t
  refine ⟨⟨hb, hl, (x.head.box.far (p := ⟨gr, a, none⟩) (show g ≠ gr by omega) u).far (p := ⟨gr, b, none⟩) (show g ≠ gr by omega) t, hF.below hb, by rw [World.size_setCell, World.size_setCell]; exact x.head.lt⟩,
    (x.box.far (p := ⟨gr, a, none⟩) (show gl ≠ gr by omega) u).far (p := ⟨gr, b, none⟩) (show gl ≠ gr by omega) t, ?_, x.lo, x.hi, by rw [World.size_setCell, World.size_setCell]; exact x.lt, x.gb⟩
  rw [hY, ← hs]
  exact r2
theorem half_at {G : List HField} {k : Nat} (hk : k < G.length) : (encFs (half G k))[k * 2]? = some (.string (ofL G[k].1)) ∧ (encFs (half G k))[k * 2 + 1]? = some (.string (ofL G[k].2)) := by
  have hl : (encFs ((G.take k).map lowF)).length = k * 2 := by rw [encFs_len, List.length_map, List.length_take]; omega
  unfold half
  rw [List.drop_eq_getElem_cons hk, encFs_append, List.getElem?_append_right (by rw [hl]; exact Nat.le_refl _), List.getElem?_append_right (by rw [hl]; omega), hl, Nat.sub_self, show k * 2 + 1 - k * 2 = 1 by omega]
  exact ⟨rfl, rfl⟩
/-- a round of the law's loop: its head, its copy, and the field in hand -/
structure Rd (w W : World) (g gl b0 gf gr n cap k : Nat) (h : H8) (v : Value) (X : List HField) (A B : ByteArray) : Prop where
  lw : Lw w W g gl b0 h v (.slice (some ⟨gr, 0, none⟩) n cap) X
  f : Has W gf 41 #[.string A, .string B]
  lt : gf < W.heap.size
  gt : gl < gf
theorem Rd.call {w W W' : World} {g gl b0 gf gr n cap k : Nat} {h : H8} {v : Value} {X : List HField} {A B : ByteArray} (x : Rd w W g gl b0 gf gr n cap k h v X A B) (hb : Below W.heap.size W W') : Rd w W' g gl b0 gf gr n cap k h v X A B :=
  ⟨x.lw.call hb, x.f.below hb x.lt, Nat.lt_of_lt_of_le x.lt hb.size, x.gt⟩
theorem Lw.drew {w W : World} {g gl b0 : Nat} {h : H8} {v vl : Value} {X : List HField} (x : Lw w W g gl b0 h v vl X) : Lw w W.drew g gl b0 h v vl X :=
  ⟨⟨below_drew x.head.below, x.head.low, x.head.box.drew, x.head.list, x.head.lt⟩, x.box.drew, x.row, x.lo, x.hi, x.lt, x.gb⟩
theorem Rd.drew {w W : World} {g gl b0 gf gr n cap k : Nat} {h : H8} {v : Value} {X : List HField} {A B : ByteArray} (x : Rd w W g gl b0 gf gr n cap k h v X A B) : Rd w W.drew g gl b0 gf gr n cap k h v X A B :=
  ⟨x.lw.drew, x.f.drew, x.lt, x.gt⟩
theorem Rd.cells {w W : World} {g gl b0 gf gr n cap k : Nat} {h : H8} {v : Value} {X : List HField} {A B : ByteArray} (x : Rd w W g gl b0 gf gr n cap k h v X A B) (hX : X.length = n) (hk : k < n) (h1 : (encFs X)[k * 2]? = some (.string A)) (h2 : (encFs X)[k * 2 + 1]? = some (.string B)) :
    (W.cell? ⟨gl, 5, none⟩ = some (.slice (some ⟨gr, 0, none⟩) n cap) ∧ W.cell? ⟨gf, 0, none⟩ = some (.string A) ∧ W.cell? ⟨gf, 1, none⟩ = some (.string B)) ∧ W.cell? ⟨gr, k * 2, none⟩ = some (.string A) ∧ W.cell? ⟨gr, k * 2 + 1, none⟩ = some (.string B) ∧ W.frozen? ⟨gr, k * 2, none⟩ = false ∧ W.frozen? ⟨gr, k * 2 + 1, none⟩ = false := by
  obtain ⟨_, _, _, _, _, a⟩ := x.lw.box.cells
  have r := x.lw.row
  rw [hX] at r
  exact ⟨⟨a, (x.f.cell 0).trans rfl, (x.f.cell 1).trans rfl⟩, (r.cellAt _ (by omega)).trans h1, (r.cellAt _ (by omega)).trans h2, r.frozenAt _, r.frozenAt _⟩
theorem Rd.after {w W : World} {g gl b0 gf gr n cap k : Nat} {h : H8} {v : Value} {X : List HField} {A B : ByteArray} (x : Rd w W g gl b0 gf gr n cap k h v X A B) (a b : Nat) (u t : Value) :
    ((W.setCell ⟨gr, a, none⟩ u).setCell ⟨gr, b, none⟩ t).cell? ⟨gl, 5, none⟩ = some (.slice (some ⟨gr, 0, none⟩) n cap) ∧ ((W.setCell ⟨gr, a, none⟩ u).setCell ⟨gr, b, none⟩ t).cell? ⟨gf, 0, none⟩ = some (.string A) ∧ ((W.setCell ⟨gr, a, none⟩ u).setCell ⟨gr, b, none⟩ t).cell? ⟨gf, 1, none⟩ = some (.string B) := by
  have hhi : gr < gl := x.lw.hi gr rfl
  have hgt := x.gt
  obtain ⟨_, _, _, _, _, c⟩ := ((x.lw.box.far (p := ⟨gr, a, none⟩) (show gl ≠ gr by omega) u).far (p := ⟨gr, b, none⟩) (show gl ≠ gr by omega) t).cells
  have hf := (x.f.far (p := ⟨gr, a, none⟩) (show gf ≠ gr by omega) u).far (p := ⟨gr, b, none⟩) (show gf ≠ gr by omega) t
  exact ⟨c, (hf.cell 0).trans rfl, (hf.cell 1).trans rfl⟩
theorem half_all (G : List HField) : half G G.length = G.map lowF := by unfold half; rw [List.take_length, List.drop_length, List.append_nil]
theorem few_low {G : List HField} (h : Few G) : Few (G.map lowF) := fun j hj => by
  rw [List.length_map] at hj
  rw [List.getElem_map]
  unfold lowF
  dsimp only
  rw [lower_length, lower_length]
  exact h j hj
/-- the head, its copy in small letters, and framings taken -/
structure Fin9 (w W : World) (g gl : Nat) (h H : H8) (v vl : Value) (F : List (Nat × Int × Int)) : Prop where
  a : LB w W g h v
  b : LB w W gl H vl
  f : ∀ x ∈ F, Has W x.1 27 #[.int .i64 x.2.1, .int .i64 x.2.2] ∧ x.1 < W.heap.size
theorem Fin9.call {w W W' : World} {g gl : Nat} {h H : H8} {v vl : Value} {F : List (Nat × Int × Int)} (x : Fin9 w W g gl h H v vl F) (hb : Below W.heap.size W W') : Fin9 w W' g gl h H v vl F :=
  ⟨x.a.call hb, x.b.call hb, fun y hy => ⟨(x.f y hy).1.below hb (x.f y hy).2, Nat.lt_of_lt_of_le (x.f y hy).2 hb.size⟩⟩
theorem Fin9.drew {w W : World} {g gl : Nat} {h H : H8} {v vl : Value} {F : List (Nat × Int × Int)} (x : Fin9 w W g gl h H v vl F) : Fin9 w W.drew g gl h H v vl F :=
  ⟨⟨below_drew x.a.below, x.a.low, x.a.box.drew, x.a.list, x.a.lt⟩, ⟨below_drew x.b.below, x.b.low, x.b.box.drew, x.b.list, x.b.lt⟩, fun y hy => ⟨(x.f y hy).1.drew, (x.f y hy).2⟩⟩
theorem Fin9.add {w W : World} {g gl : Nat} {h H : H8} {v vl : Value} {F : List (Nat × Int × Int)} (x : Fin9 w W g gl h H v vl F) (k n : Int) : Fin9 w (W.alloc (.cells #[.int .i64 k, .int .i64 n] 27)) g gl h H v vl ((W.heap.size, k, n) :: F) := by
  have y := x.call ((Below.refl _ _).alloc (Nat.le_refl _) (.cells #[.int .i64 k, .int .i64 n] 27))
  refine ⟨y.a, y.b, fun z hz => ?_⟩
  rcases List.mem_cons.1 hz with rfl | hz
  · exact ⟨Has.new W _ _, by simp⟩
  · exact y.f z hz
theorem Fin9.fr {w W : World} {g gl : Nat} {h H : H8} {v vl : Value} {F : List (Nat × Int × Int)} (x : Fin9 w W g gl h H v vl F) {f : Nat} {k n : Int} (hm : (f, k, n) ∈ F) : W.cell? ⟨f, 0, none⟩ = some (.int .i64 k) ∧ W.cell? ⟨f, 1, none⟩ = some (.int .i64 n) :=
  ⟨((x.f _ hm).1.cell 0).trans rfl, ((x.f _ hm).1.cell 1).trans rfl⟩
theorem Fin9.all {w W : World} {g gl f1 f2 f3 f4 : Nat} {k1 n1 k2 n2 : Int} {h : H8} {Y : List HField} {v vl : Value} (x : Fin9 w W g gl h { h with fields := Y } v vl [(f4, k2, n2), (f3, k2, n2), (f2, k1, n1), (f1, k1, n1)]) :
    W.cell? ⟨g, 0, none⟩ = some (.string (ofL h.method)) ∧ W.cell? ⟨g, 1, none⟩ = some (.string (ofL h.target)) ∧ W.cell? ⟨g, 2, none⟩ = some (.int .i64 h.status) ∧ W.cell? ⟨g, 3, none⟩ = some (.string (ofL h.reason)) ∧ W.cell? ⟨g, 4, none⟩ = some (.int .i64 h.minor) ∧ W.cell? ⟨g, 5, none⟩ = some (v) ∧ W.cell? ⟨gl, 0, none⟩ = some (.string (ofL h.method)) ∧ W.cell? ⟨gl, 1, none⟩ = some (.string (ofL h.target)) ∧ W.cell? ⟨gl, 2, none⟩ = some (.int .i64 h.status) ∧ W.cell? ⟨gl, 3, none⟩ = some (.string (ofL h.reason)) ∧ W.cell? ⟨gl, 4, none⟩ = some (.int .i64 h.minor) ∧ W.cell? ⟨gl, 5, none⟩ = some (vl) ∧ W.cell? ⟨f1, 0, none⟩ = some (.int .i64 k1) ∧ W.cell? ⟨f1, 1, none⟩ = some (.int .i64 n1) ∧ W.cell? ⟨f2, 0, none⟩ = some (.int .i64 k1) ∧ W.cell? ⟨f2, 1, none⟩ = some (.int .i64 n1) ∧ W.cell? ⟨f3, 0, none⟩ = some (.int .i64 k2) ∧ W.cell? ⟨f3, 1, none⟩ = some (.int .i64 n2) ∧ W.cell? ⟨f4, 0, none⟩ = some (.int .i64 k2) ∧ W.cell? ⟨f4, 1, none⟩ = some (.int .i64 n2) := by
  obtain ⟨a, b, c, d, e, f⟩ := x.a.box.cells
  obtain ⟨a2, b2, c2, d2, e2, z2⟩ := x.b.box.cells
  have y1 := x.fr (f := f1) (k := k1) (n := n1) (by simp)
  have y2 := x.fr (f := f2) (k := k1) (n := n1) (by simp)
  have y3 := x.fr (f := f3) (k := k2) (n := n2) (by simp)
  have y4 := x.fr (f := f4) (k := k2) (n := n2) (by simp)
  exact ⟨a, b, c, d, e, f, a2, b2, c2, d2, e2, z2, y1.1, y1.2, y2.1, y2.2, y3.1, y3.2, y4.1, y4.2⟩
set_option maxHeartbeats 3200000 in
theorem walkIn (h : H8) (v : Value) (most : Int) (hst : (Lit.int .i64 h.status).wf = true) (hG : Few h.fields) (hle : h.fields.length ≤ 1048576) (hy : Nice v h.fields.length) (w : World) (hF : FL w v h.fields) (hm : Fit w) :
    Calls Tryd.prog 8 #[hv h v, .int .i64 most] w fun e w' => e = .returned (.bool true) ∧ Below w.heap.size w w' := by
  have L0 := Lib.hid (LB.new (Below.refl w.heap.size w) hF)
  have HM := Lib.hid hm
  have hF0 := Lib.hid hF
  have CP := Lib.hid (fun w v hy hF => copied_row h v (by omega) hy w hF)
  have hl2 : (h.fields.map lowF).length = h.fields.length := List.length_map ..
  have U1 := Lib.hid (fun w v hF hm => prequest9_any h v most hG hle w hF hm)
  have T1 := Lib.hid (fun w v hF hm => prequest9_any { h with fields := h.fields.map lowF } v most (few_low hG) (by rw [hl2]; exact hle) w hF hm)
  have U2 := Lib.hid (fun w v hF hm => presponse9_any ⟨#[71, 69, 84]⟩ h v hst hG hle w hF hm)
  have T2 := Lib.hid (fun w v hF hm => presponse9_any ⟨#[71, 69, 84]⟩ { h with fields := h.fields.map lowF } v hst (few_low hG) (by rw [hl2]; exact hle) w hF hm)
  clear hst
  have U3 := Lib.hid (fun w v hF hm => pkeep9_any h v hG hle w hF hm)
  have T3 := Lib.hid (fun w v hF hm => pkeep9_any { h with fields := h.fields.map lowF } v (few_low hG) (by rw [hl2]; exact hle) w hF hm)
  have CQ := Lib.hid (fun w v hy hF => copied_any { h with fields := h.fields.map lowF } v (by rw [hl2]; omega) hy w hF)
  rw [show toL ⟨#[71, 69, 84]⟩ = [71, 69, 84] from rfl] at U2 T2
  dsimp only at T1 T2 T3 CQ
  rw [request_low] at T1
  rw [response_low] at T2
  rw [keep_low] at T3
  rw [hl2] at CQ
  generalize request9 h.minor h.fields most = r1 at U1 T1
  generalize response9 [71, 69, 84] h.status h.minor h.fields = r2 at U2 T2
  generalize keep9 h.minor h.fields = kp at U3 T3
  obtain ⟨k1, n1, er1⟩ := r1
  obtain ⟨k2, n2, er2⟩ := r2
  unfold frv9 at U1 T1 U2 T2
  dsimp only at U1 T1 U2 T2
  obtain ⟨p, cap, rfl, _, hcl⟩ := id hF
  replace hcl := Lib.hid hcl
  replace hy := Lib.hid hy
  unfold hv at CP CQ U1 T1 U2 T2 U3 T3 ⊢
  dsimp only at CQ T1 T2 T3
  unfold hc at L0
  clear hF hm
  go_enter Tryd.func8, Tryd.ntmps8
  go_wp2_with fail
  generalize w.alloc (.cells #[.string (ofL h.method), .string (ofL h.target), .int .i64 h.status, .string (ofL h.reason), .int .i64 h.minor, .slice p h.fields.length cap] 24) = W at *
  obtain ⟨g, hg⟩ : ∃ g, g = w.heap.size := ⟨_, rfl⟩
  rw [← hg] at L0 ⊢
  replace hg := Lib.hid hg
  refine (anchor_any _ (HM.out.below L0.out.below)).mono ?_
  rintro e w1 ⟨rfl, hb⟩
  replace L0 := Lib.hid (L0.out.call hb)
  clear hb
  obtain ⟨d0, d1, d2, d3, d4, d5⟩ := L0.out.box.cells
  go_wp2_with fail
  refine (CP.out _ _ hy.out L0.out.list).mono ?_
  rintro e w2 ⟨v2, rfl, hrow, hb⟩
  have hlo := L0.out.lt
  have hsz := hb.size
  replace L0 := Lib.hid (L0.out.call hb)
  clear hb d0 d1 d2 d3 d4 d5
  obtain ⟨p2, cap2, rfl, _, _⟩ := fl_of hrow (by omega)
  have HX : Hid (Lw w (w2.alloc (.cells #[.string (ofL h.method), .string (ofL h.target), .int .i64 h.status, .string (ofL h.reason), .int .i64 h.minor, .slice p2 h.fields.length cap2] 24)) g w2.heap.size w1.heap.size h (.slice p h.fields.length cap) (.slice p2 h.fields.length cap2) (half h.fields 0)) := Lib.hid ⟨L0.out.alloc _, ⟨Has.new w2 _ _⟩, by
    rw [half_len]
    unfold half
    rw [List.take_zero, List.map_nil, List.nil_append, List.drop_zero]
    exact row_below hrow ((Below.refl _ _).alloc (Nat.le_refl _) _), hlo, fun j hj => (hrow.lt j hj).2, by simp, hsz⟩
  have hye : Hid (0 < h.fields.length → ∃ gr, p2 = some ⟨gr, 0, none⟩) := Lib.hid (fun h0 => by
    rcases hrow.2 with ⟨_, hn⟩ | ⟨gr, c2, cur, hv, _⟩
    · omega
    · injection hv with e1
      exact ⟨gr, e1⟩)
  clear hrow L0 hlo hsz
  obtain ⟨d0, d1, d2, d3, d4, d5⟩ := HX.out.head.box.cells
  go_wp2_with fail
  generalize w2.alloc (.cells #[.string (ofL h.method), .string (ofL h.target), .int .i64 h.status, .string (ofL h.reason), .int .i64 h.minor, .slice p2 h.fields.length cap2] 24) = W2 at HX d0 d1 d2 d3 d4 d5 ⊢
  generalize w2.heap.size = gl at HX ⊢
  generalize w1.heap.size = b0 at HX
  clear d0 d1 d2 d3 d4 d5
  go_loopw [23] (fun i wr => ∃ k : Nat, k ≤ h.fields.length ∧ i = .int .i64 k ∧ Hid (Lw w wr g gl b0 h (.slice p h.fields.length cap) (.slice p2 h.fields.length cap2) (half h.fields k))) (fun i _ => h.fields.length - (intOf i).toNat)
  case atStart => exact ⟨0, Nat.zero_le _, rfl, HX⟩
  case round =>
    clear HX
    obtain ⟨k, hk, rfl, HX⟩ := hrel
    by_cases hlt : k < h.fields.length
    · obtain ⟨ga, o, rfl, hgl, hcell⟩ := hcl.out (by omega)
      obtain ⟨gr, rfl⟩ := hye.out (by omega)
      obtain ⟨c1, c2⟩ := hcell k hlt
      have hbw := HX.out.head.below
      replace c1 := (hbw.cell (p := ⟨ga, o + k * 2, none⟩) hgl).trans c1
      replace c2 := (hbw.cell (p := ⟨ga, o + k * 2 + 1, none⟩) hgl).trans c2
      have hki : (k : Int) < (h.fields.length : Int) := by omega
      obtain ⟨s1, s2⟩ := hG k hlt
      have HL1 := Lib.hid (fun w => rlower_any (ofL h.fields[k].1) (by rw [ofL_size]; omega) w)
      have HL2 := Lib.hid (fun w => rlower_any (ofL h.fields[k].2) (by rw [ofL_size]; omega) w)
      rw [toL_ofL] at HL1 HL2
      have hnx := half_next hlt
      obtain ⟨y1, y2⟩ := half_at hlt
      have hhl := half_len h.fields k
      have HX1 := Lib.hid (HX.out.call ((Below.refl _ _).alloc (Nat.le_refl _) (.cells #[.string (ofL h.fields[k].1), .string (ofL h.fields[k].2)] 41)))
      have fx := Has.new wr 41 #[.string (ofL h.fields[k].1), .string (ofL h.fields[k].2)]
      have fg : gl < wr.heap.size := HX.out.lt
      have fs : wr.heap.size < (wr.alloc (.cells #[.string (ofL h.fields[k].1), .string (ofL h.fields[k].2)] 41)).heap.size := by simp
      replace hnx := Lib.hid hnx
      clear hcell hbw HX
      generalize ofL (lower h.fields[k].1) = XA at *
      generalize ofL (lower h.fields[k].2) = XB at *
      generalize ofL h.fields[k].1 = A at *
      generalize ofL h.fields[k].2 = B at *
      go_wp2_with fail
      generalize wr.alloc (.cells #[.string A, .string B] 41) = Wa at HX1 fx fs ⊢
      generalize wr.heap.size = gf at fx fs fg ⊢
      have P1 : Rd w Wa g gl b0 gf gr h.fields.length cap2 k h (.slice (some ⟨ga, o, none⟩) h.fields.length cap) (half h.fields k) A B := ⟨HX1.out, fx, fs, fg⟩
      obtain ⟨s1, c1⟩ := P1.cells hhl hlt y1 y2
      clear fx fs HX1 c2
      go_region_held3 (fun w' => w'.cell? ⟨gl, 5, none⟩ = some (.slice (some ⟨gr, 0, none⟩) h.fields.length cap2) ∧ w'.cell? ⟨gf, 0, none⟩ = some (.string A) ∧ w'.cell? ⟨gf, 1, none⟩ = some (.string B)) (first | exact s3 | exact s2 | exact s1 | exact P3.after _ _ _ _)
        (first
          | (go_at_call 17; refine (HL1.out _).mono ?_; rintro e w5 ⟨rfl, hb5⟩
             have P2 := P1.drew.call hb5
             obtain ⟨s2, c2⟩ := P2.cells hhl hlt y1 y2
             clear hb5 HL1)
          | (go_at_call 17; refine (HL2.out _).mono ?_; rintro e w6 ⟨rfl, hb6⟩
             have P3 := P2.call hb6
             obtain ⟨s3, c3⟩ := P3.cells hhl hlt y1 y2
             clear hb6 HL2))
      have HN := Lib.hid (P3.lw.store (Y := half h.fields (k + 1)) hF0.out (k * 2) (k * 2 + 1) (.string XA) (.string XB) hhl (half_len ..) hnx.out)
      generalize (w6.setCell ⟨gr, k * 2, none⟩ (.string XA)).setCell ⟨gr, k * 2 + 1, none⟩ (.string XB) = W6 at *
      clear P1 P2 P3 s1 s2 s3 c1 c2 c3 
      go_wp2_with fail
      go_roundw
      case rel => exact ⟨k + 1, by omega, rfl, HN⟩
      case measure => simp [intOf]; omega
    · have hke : k = h.fields.length := by omega
      subst hke
      rw [half_all] at HX
      have hy2 : Hid (Nice (.slice p2 h.fields.length cap2) h.fields.length) := Lib.hid (by have := nice_row HX.out.row; rwa [hl2] at this)
      have FN : Hid (Fin9 w wr g gl h { h with fields := h.fields.map lowF } (.slice p h.fields.length cap) (.slice p2 h.fields.length cap2) []) := Lib.hid ⟨HX.out.head, ⟨HX.out.head.below, by have h1 := HX.out.lo; have h2 := HX.out.gb; have h3 := HX.out.head.low; omega, ⟨HX.out.box.has⟩, fl_of HX.out.row (by rw [hl2]; omega), HX.out.lt⟩, fun x hx => absurd hx List.not_mem_nil⟩
      have q1 : (er1 == er1) = true := beq_self_eq_true _
      have q2 : (er2 == er2) = true := beq_self_eq_true _
      have q3 : (kp == kp) = true := beq_self_eq_true _
      clear HX hye hcl hF0 hlt hG hk
      obtain ⟨d0, d1, d2, d3, d4, d5⟩ := FN.out.a.box.cells
      go_wp2_with fail
      refine (CP.out _ _ hy.out FN.out.a.list).mono ?_
      rintro e wa ⟨vc, rfl, hrc, hb⟩
      have hFc := fl_of hrc (by omega)
      clear hrc
      replace FN := Lib.hid (FN.out.call hb)
      clear hb d0 d1 d2 d3 d4 d5
      go_wp2_with fail
      refine (U1.out _ _ hFc (HM.out.below FN.out.a.below)).mono ?_
      rintro e wb ⟨rfl, hb⟩
      replace FN := Lib.hid ((FN.out.call hb).add k1 n1)
      clear hb hFc U1
      dsimp only
      iterate 15 go_step
      generalize wb.alloc (.cells #[.int .i64 k1, .int .i64 n1] 27) = Wf1 at FN ⊢
      generalize wb.heap.size = f1 at FN ⊢
      obtain ⟨d0, d1, d2, d3, d4, d5⟩ := FN.out.b.box.cells
      go_wp2_with fail
      refine (CQ.out _ _ hy2.out FN.out.b.list).mono ?_
      rintro e wa ⟨vc, rfl, hFc, hyc, hb⟩
      clear hyc
      replace FN := Lib.hid (FN.out.call hb)
      clear hb d0 d1 d2 d3 d4 d5
      go_wp2_with fail
      refine (T1.out _ _ hFc (HM.out.below FN.out.a.below)).mono ?_
      rintro e wb ⟨rfl, hb⟩
      replace FN := Lib.hid ((FN.out.call hb).add k1 n1)
      clear hb hFc T1
      dsimp only
      iterate 15 go_step
      generalize wb.alloc (.cells #[.int .i64 k1, .int .i64 n1] 27) = Wf2 at FN ⊢
      generalize wb.heap.size = f2 at FN ⊢
      obtain ⟨d0, d1, d2, d3, d4, d5⟩ := FN.out.a.box.cells
      go_wp2_with fail
      refine (CP.out _ _ hy.out FN.out.a.list).mono ?_
      rintro e wa ⟨vc, rfl, hrc, hb⟩
      have hFc := fl_of hrc (by omega)
      clear hrc
      replace FN := Lib.hid (FN.out.call hb)
      clear hb d0 d1 d2 d3 d4 d5
      go_wp2_with fail
      refine (U2.out _ _ hFc (HM.out.below FN.out.a.below)).mono ?_
      rintro e wb ⟨rfl, hb⟩
      replace FN := Lib.hid ((FN.out.call hb).add k2 n2)
      clear hb hFc U2
      dsimp only
      iterate 15 go_step
      generalize wb.alloc (.cells #[.int .i64 k2, .int .i64 n2] 27) = Wf3 at FN ⊢
      generalize wb.heap.size = f3 at FN ⊢
      obtain ⟨d0, d1, d2, d3, d4, d5⟩ := FN.out.b.box.cells
      go_wp2_with fail
      refine (CQ.out _ _ hy2.out FN.out.b.list).mono ?_
      rintro e wa ⟨vc, rfl, hFc, hyc, hb⟩
      clear hyc
      replace FN := Lib.hid (FN.out.call hb)
      clear hb d0 d1 d2 d3 d4 d5
      go_wp2_with fail
      refine (T2.out _ _ hFc (HM.out.below FN.out.a.below)).mono ?_
      rintro e wb ⟨rfl, hb⟩
      replace FN := Lib.hid ((FN.out.call hb).add k2 n2)
      clear hb hFc T2
      dsimp only
      iterate 15 go_step
      generalize wb.alloc (.cells #[.int .i64 k2, .int .i64 n2] 27) = Wf4 at FN ⊢
      generalize wb.heap.size = f4 at FN ⊢
      have z1 := fun w => eqFr k1 n1 w
      have z2 := fun w => eqFr k2 n2 w
      have P1 := FN.out
      have c1 := P1.all
      clear FN
      go_wp2_with fail
      go_region_held3 (fun w' => w'.cell? ⟨g, 0, none⟩ = some (.string (ofL h.method)) ∧ w'.cell? ⟨g, 1, none⟩ = some (.string (ofL h.target)) ∧ w'.cell? ⟨g, 2, none⟩ = some (.int .i64 h.status) ∧ w'.cell? ⟨g, 3, none⟩ = some (.string (ofL h.reason)) ∧ w'.cell? ⟨g, 4, none⟩ = some (.int .i64 h.minor) ∧ w'.cell? ⟨g, 5, none⟩ = some (.slice p h.fields.length cap) ∧ w'.cell? ⟨gl, 0, none⟩ = some (.string (ofL h.method)) ∧ w'.cell? ⟨gl, 1, none⟩ = some (.string (ofL h.target)) ∧ w'.cell? ⟨gl, 2, none⟩ = some (.int .i64 h.status) ∧ w'.cell? ⟨gl, 3, none⟩ = some (.string (ofL h.reason)) ∧ w'.cell? ⟨gl, 4, none⟩ = some (.int .i64 h.minor) ∧ w'.cell? ⟨gl, 5, none⟩ = some (.slice p2 h.fields.length cap2) ∧ w'.cell? ⟨f1, 0, none⟩ = some (.int .i64 k1) ∧ w'.cell? ⟨f1, 1, none⟩ = some (.int .i64 n1) ∧ w'.cell? ⟨f2, 0, none⟩ = some (.int .i64 k1) ∧ w'.cell? ⟨f2, 1, none⟩ = some (.int .i64 n1) ∧ w'.cell? ⟨f3, 0, none⟩ = some (.int .i64 k2) ∧ w'.cell? ⟨f3, 1, none⟩ = some (.int .i64 n2) ∧ w'.cell? ⟨f4, 0, none⟩ = some (.int .i64 k2) ∧ w'.cell? ⟨f4, 1, none⟩ = some (.int .i64 n2)) (first | exact c4 | exact c3 | exact c2 | exact c1)
        (first
          | (go_at_call 11; refine (CP.out _ _ hy.out P1.drew.a.list).mono ?_; rintro e wc ⟨vc, rfl, hrc, hb5⟩
             have hFc := fl_of hrc (by omega)
             have P2 := P1.drew.call hb5
             have c2 := P2.all
             clear hb5 hrc)
          | (go_at_call 13; refine (U3.out _ _ hFc (HM.out.below P2.a.below)).mono ?_; rintro e wd ⟨rfl, hb6⟩
             have P3 := P2.call hb6
             have c3 := P3.all
             clear hb6 U3)
          | (go_at_call 13; refine (T3.out _ _ P3.b.list (HM.out.below P3.b.below)).mono ?_; rintro e we ⟨rfl, hb7⟩
             have P4 := P3.call hb7
             have c4 := P4.all
             clear hb7))
      have HE := Lib.hid P4.a.below
      clear P1 P2 P3 P4 c1 c2 c3 c4
      go_wp2_with fail
      go_ret
      exact ⟨rfl, HE.out⟩
theorem walk {H : Type} {enc : TypeId × Value → H} {W : World} {base : Nat} (v : Value) (d : DataW H) (p : List MemPlace) (hv : Value.okWide Tryd.prog W .any base 24 v)
    (hd : DataW.Trod enc Tryd.prog W 0 (fun _ => true) true 24 v d p) (hl : ∀ x ∈ p, x.block < W.heap.size) (hb : Rows.uptoBulk d ≤ 1048576)
    (most : Int) (w1 : (Lit.int .i64 most).wf = true) (hsh : W.ShapedOpen Tryd.prog) :
    Calls Tryd.prog 8 #[v, .int .i64 most] W fun e w' => e = .returned (.bool true) ∧ Below W.heap.size W w' := by
  obtain ⟨x, l, rfl, hF, hG, hle, hy, _, _, _, hst, _⟩ := head_arg hv hd hb
  exact walkIn x l most hst hG hle hy W hF (Fit.of_shape hsh)
end Go.Proofs.YtgkdepoimnmhfaaDoor.FrameCaseW
