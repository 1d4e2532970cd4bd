/- Texts of this seat, one behind another: HBox, PField8, KeptRow, PFlds8, PathLays, PPre, PDigit, PCount, PDecimal, PVer8, PSeen, PStart8. -/
import Derived.Laws.ResultCell
import Derived.OwnWalk
import Derived.Maps.AppendAt
import Derived.Deep.AppendLies
import Derived.Shelf.Strings.Prefix
import Derived.Shelf.Strings.Split
import Derived.Shelf.Small.Strs
import Derived.Test.YtclecgopmegjeaaDoorProg
import Derived.Lib.Hide
import Derived.Shelf.Small.Wraps
import Derived.Outline
import Derived.LoopTactic
import Derived.Handy
import Derived.Test.YtclecgopmegjeaaDoorA1
/- Layer 8: fields and heads in memory. -/
namespace Go.Proofs.YtclecgopmegjeaaDoor.HBox
open Go.ChangeShapes Go.WideShapes Go.ChangeAt Go.RowKit LexPure Bytes FieldsPure HeadPure Flds Mem
set_option maxRecDepth 20000
theorem below_drew {B : Nat} {a W : World} (h : Below B a W) : Below B a W.drew := h.trans ⟨rfl, rfl, rfl, Nat.le_refl _, fun _ _ => rfl⟩
theorem below_drewN {B : Nat} {a W : World} (h : Below B a W) (n : Nat) : Below B a (W.drewN n) := h.trans ⟨rfl, rfl, rfl, Nat.le_refl _, fun _ _ => rfl⟩
/-! ### one field -/
def fc (x : HField) : Array Value := #[.string (ofL x.1), .string (ofL x.2)]
def fv (x : HField) : Value := .agg #[.string (ofL x.1), .string (ofL x.2)]
structure FBox (w : World) (g : Nat) (x : HField) : Prop where
  has : Has w g 37 (fc x)
def fput (W : World) (g : Nat) (x : HField) : World := (W.setCell ⟨g, 0, none⟩ (.string (ofL x.1))).setCell ⟨g, 1, none⟩ (.string (ofL x.2))
theorem FBox.put {W : World} {g : Nat} {u : HField} (h : FBox W g u) (x : HField) : FBox (fput W g x) g x :=
  ⟨by have := (h.has.set_ 0 (.string (ofL x.1))).set_ 1 (.string (ofL x.2)); unfold fput; simpa [fc] using this⟩
theorem fload {w : World} {g : Nat} {x : HField} (h : FBox w g x) : (loadVar 37 ⟨g, 0, none⟩).run Tryd.prog w = .ok (fv x) w :=
  run_loadVar_row w g 37 37 _ _ _ h.has.at_ Tryd.underlying37 rfl (by kernel_rfl)
theorem FBox.cells {w : World} {g : Nat} {x : HField} (h : FBox w g x) : w.cell? ⟨g, 0, none⟩ = some (.string (ofL x.1)) ∧ w.cell? ⟨g, 1, none⟩ = some (.string (ofL x.2)) := ⟨(h.has.cell 0).trans rfl, (h.has.cell 1).trans rfl⟩
theorem FBox.frees {w : World} {g : Nat} {x : HField} (h : FBox w g x) : w.frozen? ⟨g, 0, none⟩ = false ∧ w.frozen? ⟨g, 1, none⟩ = false := ⟨h.has.free 0, h.has.free 1⟩
theorem FBox.below {w w' : World} {g B : Nat} {x : HField} (h : FBox w g x) (hb : Below B w w') (hg : g < B) : FBox w' g x := ⟨h.has.below hb hg⟩
/-- the box of a call that answers a field -/
structure FOne (w W : World) (g : Nat) (x : HField) : Prop where
  at_ : g = w.heap.size
  below : Below w.heap.size w W
  box : FBox W g x
  size : g + 1 ≤ W.heap.size
theorem FOne.start (w : World) : FOne w (w.alloc (.cells #[.string ⟨#[]⟩, .string ⟨#[]⟩] 37)) w.heap.size ([], []) :=
  ⟨rfl, (Below.refl w.heap.size w).alloc (Nat.le_refl _) _, ⟨Has.new w _ _⟩, by simp⟩
theorem FOne.call {w W W' : World} {g : Nat} {x : HField} (h : FOne w W g x) (hb : Below W.heap.size W W') : FOne w W' g x :=
  ⟨h.at_, below_chain h.below hb, h.box.below hb (by have := h.size; omega), Nat.le_trans h.size hb.size⟩
theorem FOne.put {w W : World} {g : Nat} {u : HField} (h : FOne w W g u) (x : HField) : Below w.heap.size w (fput W g x) :=
  (h.below.setCell (p := ⟨g, 0, none⟩) (by rw [h.at_]; exact Nat.le_refl _) _).setCell (p := ⟨g, 1, none⟩) (by rw [h.at_]; exact Nat.le_refl _) _
def frv (r : HField × Int) : Value := .tuple #[fv r.1, .int .i64 r.2]
theorem end_fbox {W : World} {g : Nat} {x : HField} {v : Int} {tmps : Array Value} {p u : Tmp} (hp : tmps.getD p undef = .pointer (some ⟨g, 0, none⟩)) (hu : tmps.getD u undef = .int .i64 v) (h : FBox W g x) :
    (((asAddr (tmps.getD p undef)).run Tryd.prog W).andThen fun a w₁ => ((loadVar 37 a).run Tryd.prog w₁).andThen fun v w₂ => .ok (.tuple #[v, tmps.getD u undef]) w₂) = .ok (frv (x, v)) W := by
  rw [hp, hu]
  have := fload h
  simp [asAddr, Result.andThen, this, frv]
/-! ### a head: its fields' list is a value of its own -/
def hc (h : H8) (l : Value) : Array Value := #[.string (ofL h.method), .string (ofL h.target), .int .i64 h.status, .string (ofL h.reason), .int .i64 h.minor, l]
def hv (h : H8) (l : Value) : Value := .agg #[.string (ofL h.method), .string (ofL h.target), .int .i64 h.status, .string (ofL h.reason), .int .i64 h.minor, l]
structure HBox (w : World) (g : Nat) (h : H8) (l : Value) : Prop where
  has : Has w g 25 (hc h l)
def hput (W : World) (g : Nat) (h : H8) (l : Value) : World :=
  (((((W.setCell ⟨g, 0, none⟩ (.string (ofL h.method))).setCell ⟨g, 1, none⟩ (.string (ofL h.target))).setCell ⟨g, 2, none⟩ (.int .i64 h.status)).setCell ⟨g, 3, none⟩ (.string (ofL h.reason))).setCell ⟨g, 4, none⟩ (.int .i64 h.minor)).setCell ⟨g, 5, none⟩ l
theorem HBox.put {W : World} {g : Nat} {u : H8} {m : Value} (b : HBox W g u m) (h : H8) (l : Value) : HBox (hput W g h l) g h l :=
  ⟨by have := (((((b.has.set_ 0 (.string (ofL h.method))).set_ 1 (.string (ofL h.target))).set_ 2 (.int .i64 h.status)).set_ 3 (.string (ofL h.reason))).set_ 4 (.int .i64 h.minor)).set_ 5 l; unfold hput; simpa [hc] using this⟩
theorem HBox.setF {W : World} {g : Nat} {u : H8} {m : Value} (b : HBox W g u m) (l : Value) : HBox (W.setCell ⟨g, 5, none⟩ l) g u l :=
  ⟨by have := b.has.set_ 5 l; simpa [hc] using this⟩
theorem hload {w : World} {g : Nat} {h : H8} {l : Value} (b : HBox w g h l) : (loadVar 25 ⟨g, 0, none⟩).run Tryd.prog w = .ok (hv h l) w :=
  run_loadVar_row w g 25 25 _ _ _ b.has.at_ Tryd.underlying25 rfl (by kernel_rfl)
theorem HBox.cells {w : World} {g : Nat} {h : H8} {l : Value} (b : HBox w g h l) : w.cell? ⟨g, 0, none⟩ = some (.string (ofL h.method)) ∧ w.cell? ⟨g, 1, none⟩ = some (.string (ofL h.target)) ∧ w.cell? ⟨g, 2, none⟩ = some (.int .i64 h.status) ∧ w.cell? ⟨g, 3, none⟩ = some (.string (ofL h.reason)) ∧ w.cell? ⟨g, 4, none⟩ = some (.int .i64 h.minor) ∧ w.cell? ⟨g, 5, none⟩ = some l :=
  ⟨(b.has.cell 0).trans rfl, (b.has.cell 1).trans rfl, (b.has.cell 2).trans rfl, (b.has.cell 3).trans rfl, (b.has.cell 4).trans rfl, (b.has.cell 5).trans rfl⟩
theorem HBox.frees {w : World} {g : Nat} {h : H8} {l : Value} (b : HBox w g h l) : w.frozen? ⟨g, 0, none⟩ = false ∧ w.frozen? ⟨g, 1, none⟩ = false ∧ w.frozen? ⟨g, 2, none⟩ = false ∧ w.frozen? ⟨g, 3, none⟩ = false ∧ w.frozen? ⟨g, 4, none⟩ = false ∧ w.frozen? ⟨g, 5, none⟩ = false :=
  ⟨b.has.free 0, b.has.free 1, b.has.free 2, b.has.free 3, b.has.free 4, b.has.free 5⟩
theorem HBox.below {w w' : World} {g B : Nat} {h : H8} {l : Value} (b : HBox w g h l) (hb : Below B w w') (hg : g < B) : HBox w' g h l := ⟨b.has.below hb hg⟩
theorem HBox.far {w : World} {g : Nat} {h : H8} {l : Value} (b : HBox w g h l) {p : Addr} (hp : g ≠ p.block) (u : Value) : HBox (w.setCell p u) g h l := ⟨b.has.far hp u⟩
theorem HBox.drew {w : World} {g : Nat} {h : H8} {l : Value} (b : HBox w g h l) : HBox w.drew g h l := ⟨b.has.drew⟩
/-- the box of a call that answers a head -/
structure HOne (w W : World) (g : Nat) (h : H8) (l : Value) : Prop where
  at_ : g = w.heap.size
  below : Below w.heap.size w W
  box : HBox W g h l
  size : g + 1 ≤ W.heap.size
theorem HOne.start (w : World) : HOne w (w.alloc (.cells #[.string ⟨#[]⟩, .string ⟨#[]⟩, .int .i64 0, .string ⟨#[]⟩, .int .i64 0, .slice none 0 0] 25)) w.heap.size zero8 (.slice none 0 0) :=
  ⟨rfl, (Below.refl w.heap.size w).alloc (Nat.le_refl _) _, ⟨Has.new w _ _⟩, by simp⟩
theorem HOne.call {w W W' : World} {g : Nat} {h : H8} {l : Value} (b : HOne w W g h l) (hb : Below W.heap.size W W') : HOne w W' g h l :=
  ⟨b.at_, below_chain b.below hb, b.box.below hb (by have := b.size; omega), Nat.le_trans b.size hb.size⟩
theorem below_hput {B : Nat} {a W : World} {g : Nat} (b : Below B a W) (hg : B ≤ g) (h : H8) (l : Value) : Below B a (hput W g h l) :=
  (((((b.setCell (p := ⟨g, 0, none⟩) hg _).setCell (p := ⟨g, 1, none⟩) hg _).setCell (p := ⟨g, 2, none⟩) hg _).setCell (p := ⟨g, 3, none⟩) hg _).setCell (p := ⟨g, 4, none⟩) hg _).setCell (p := ⟨g, 5, none⟩) hg _
theorem HOne.put {w W : World} {g : Nat} {u : H8} {m : Value} (b : HOne w W g u m) (h : H8) (l : Value) : Below w.heap.size w (hput W g h l) := below_hput b.below (by rw [b.at_]; exact Nat.le_refl _) h l
def hrv (h : H8) (l : Value) (e : Int) : Value := .tuple #[hv h l, .int .i64 e]
theorem end_hbox {W : World} {g : Nat} {h : H8} {l : Value} {v : Int} {tmps : Array Value} {p u : Tmp} (hp : tmps.getD p undef = .pointer (some ⟨g, 0, none⟩)) (hu : tmps.getD u undef = .int .i64 v) (b : HBox W g h l) :
    (((asAddr (tmps.getD p undef)).run Tryd.prog W).andThen fun a w₁ => ((loadVar 25 a).run Tryd.prog w₁).andThen fun v w₂ => .ok (.tuple #[v, tmps.getD u undef]) w₂) = .ok (hrv h l v) W := by
  rw [hp, hu]
  have := hload b
  simp [asAddr, Result.andThen, this, hrv]
def hrv3 (h : H8) (l : Value) (n e : Int) : Value := .tuple #[hv h l, .int .i64 n, .int .i64 e]
theorem end_hbox3 {W : World} {g : Nat} {h : H8} {l : Value} {n v : Int} {tmps : Array Value} {p t u : Tmp} (hp : tmps.getD p undef = .pointer (some ⟨g, 0, none⟩)) (ht : tmps.getD t undef = .int .i64 n) (hu : tmps.getD u undef = .int .i64 v) (b : HBox W g h l) :
    (((asAddr (tmps.getD p undef)).run Tryd.prog W).andThen fun a w₁ => ((loadVar 25 a).run Tryd.prog w₁).andThen fun v w₂ => .ok (.tuple #[v, tmps.getD t undef, tmps.getD u undef]) w₂) = .ok (hrv3 h l n v) W := by
  rw [hp, ht, hu]
  have := hload b
  simp [asAddr, Result.andThen, this, hrv3]
theorem results_cell_tmp2 {fn : Func} {p t u : Tmp} {ty : TypeId} (h : fn.results = #[.cell p ty, .tmp t, .tmp u]) (tmps : Array Value) (P : Program) (w : World) :
    (results fn tmps).run P w =
      ((asAddr (tmps.getD p undef)).run P w).andThen fun a w₁ => ((loadVar ty a).run P w₁).andThen fun v w₂ => .ok (.tuple #[v, tmps.getD t undef, tmps.getD u undef]) w₂ := by
  simp only [results, h]
  simp [Sem.run_bind, Result.andThen]
theorem row_hput {W : World} {base n size : Nat} {e : TypeId} {v : Value} {xs : List Value} {g : Nat} (h : W.ownsRow base e size v n xs) (hg : g < base) (H : H8) (l : Value) : (hput W g H l).ownsRow base e size v n xs :=
  ownsRow_setCell_below (ownsRow_setCell_below (ownsRow_setCell_below (ownsRow_setCell_below (ownsRow_setCell_below (ownsRow_setCell_below h hg _) hg _) hg _) hg _) hg _) hg _
theorem box_hput {W : World} {g k : Nat} {H u : H8} {l m : Value} (b : HBox W g u m) (hg : g ≠ k) : HBox (hput W k H l) g u m :=
  (((((b.far (p := ⟨k, 0, none⟩) hg _).far (p := ⟨k, 1, none⟩) hg _).far (p := ⟨k, 2, none⟩) hg _).far (p := ⟨k, 3, none⟩) hg _).far (p := ⟨k, 4, none⟩) hg _).far (p := ⟨k, 5, none⟩) hg _
theorem size_hput (W : World) (g : Nat) (H : H8) (l : Value) : (hput W g H l).heap.size = W.heap.size := by simp [hput]
end Go.Proofs.YtclecgopmegjeaaDoor.HBox

/- Layer 8 of the program: Field. -/
namespace Go.Proofs.YtclecgopmegjeaaDoor.PField8
open Go.ChangeShapes Go.WideShapes Go.ChangeAt Go.RowKit LexPure Bytes Ret FieldsPure HeadPure CutAt HeadCut HBox Mem PCutLib PToken PText
set_option maxRecDepth 20000
set_option maxHeartbeats 1600000 in
theorem pfield_any (s : ByteArray) (hs : s.size ≤ 140737488351232) (w : World) :
    Calls Tryd.prog 18 #[.string s] w fun e w' => e = .returned (frv (field8 (toL s))) ∧ Below w.heap.size w w' := by
  have HO := Lib.hid (FOne.start w)
  obtain ⟨x, hx⟩ : ∃ x, x = field8 (toL s) := ⟨_, rfl⟩
  rw [← hx]
  rw [field_prog] at hx
  unfold fieldP at hx
  have l1 : (aheadOf 58 (toL s)).length ≤ s.size := by rw [ahead_take, List.length_take, toL_length]; omega
  have l2 : (behind 58 (toL s)).length ≤ s.size := by rw [cut_drop, List.length_drop, toL_length]; omega
  have l3 := trim_length (behind 58 (toL s))
  have HC := Lib.hid (fun w => full_cut 58 s hs w)
  have HT := Lib.hid (fun w => (ptoken_any (ofL (aheadOf 58 (toL s))) (by unfold maxLen; rw [ofL_size]; omega) w).mono (fun e w' h => (⟨h.1, h.2.symm⟩ : e = .returned (.bool (token (toL (ofL (aheadOf 58 (toL s)))))) ∧ w' = w)))
  have HR := Lib.hid (fun w => ptrim_any (ofL (behind 58 (toL s))) (by unfold maxLen; rw [ofL_size]; omega) w)
  have HL := Lib.hid (fun w => pvalue_any (ofL (trim (behind 58 (toL s)))) (by unfold maxLen; rw [ofL_size]; omega) w)
  rw [toL_ofL] at HT HR HL
  generalize hasB 58 (toL s) = q at *
  generalize aheadOf 58 (toL s) = A at *
  generalize behind 58 (toL s) = R at *
  generalize trim R = B at *
  generalize token A = tk at *
  generalize value B = vb at *
  clear l1 l2 l3 hs
  replace hx := Lib.hid hx
  go_enter Tryd.func18, Tryd.ntmps18
  go_wp2_with fail
  generalize w.alloc (.cells #[.string ⟨#[]⟩, .string ⟨#[]⟩] 37) = W at HO ⊢
  obtain ⟨g, hg⟩ : ∃ g, g = w.heap.size := ⟨_, rfl⟩
  rw [← hg] at HO ⊢
  replace hg := Lib.hid hg
  refine (HC.out _).mono ?_
  rintro e w1 ⟨rfl, hb1⟩
  replace HO := Lib.hid (HO.out.call hb1)
  clear hb1 HC
  go_wp2_with fail
  refine (HR.out _).mono ?_
  rintro e w2 ⟨rfl, hb2⟩
  replace HO := Lib.hid (HO.out.call hb2)
  clear hb2 HR
  cases q with
  | false =>
    have HX : x = (([], []), 70) := by rw [hx.out, if_neg]; rintro ⟨h, _⟩; cases h
    subst HX
    obtain ⟨d0, d1⟩ := HO.out.box.cells
    obtain ⟨z0, z1⟩ := HO.out.box.frees
    have HE := Lib.hid (HO.out.box.put ([], []))
    have HB := Lib.hid (HO.out.put ([], []))
    clear hx HO
    go_wp2_with fail
    refine bodyPost_ret (v := frv (([], []), 70)) ?_ rfl ⟨rfl, HB.out⟩
    rw [results_cell_tmp rfl]
    exact end_fbox rfl rfl HE.out
  | true =>
  cases tk with
  | false =>
    have HX : x = (([], []), 70) := by rw [hx.out, if_neg]; rintro ⟨_, h, _⟩; cases h
    subst HX
    obtain ⟨d0, d1⟩ := HO.out.box.cells
    obtain ⟨z0, z1⟩ := HO.out.box.frees
    have HE := Lib.hid (HO.out.box.put ([], []))
    have HB := Lib.hid (HO.out.put ([], []))
    clear hx HO
    go_wp2_with fail
    refine (HT.out _).mono ?_
    rintro e w' ⟨rfl, rfl⟩
    go_wp2_with fail
    refine bodyPost_ret (v := frv (([], []), 70)) ?_ rfl ⟨rfl, HB.out⟩
    rw [results_cell_tmp rfl]
    exact end_fbox rfl rfl HE.out
  | true =>
  cases vb with
  | false =>
    have HX : x = (([], []), 70) := by rw [hx.out, if_neg]; rintro ⟨_, _, h⟩; cases h
    subst HX
    clear hx
    go_wp2_with fail
    refine (HT.out _).mono ?_
    rintro e w' ⟨rfl, rfl⟩
    go_wp2_with fail
    refine (HL.out _).mono ?_
    rintro e w3 ⟨rfl, hb3⟩
    replace HO := Lib.hid (HO.out.call hb3)
    clear hb3
    obtain ⟨d0, d1⟩ := HO.out.box.cells
    obtain ⟨z0, z1⟩ := HO.out.box.frees
    have HE := Lib.hid (HO.out.box.put ([], []))
    have HB := Lib.hid (HO.out.put ([], []))
    clear HO
    go_wp2_with fail
    refine bodyPost_ret (v := frv (([], []), 70)) ?_ rfl ⟨rfl, HB.out⟩
    rw [results_cell_tmp rfl]
    exact end_fbox rfl rfl HE.out
  | true =>
    have HX : x = ((A, B), 0) := by rw [hx.out]; rfl
    subst HX
    clear hx
    go_wp2_with fail
    refine (HT.out _).mono ?_
    rintro e w' ⟨rfl, rfl⟩
    go_wp2_with fail
    refine (HL.out _).mono ?_
    rintro e w3 ⟨rfl, hb3⟩
    replace HO := Lib.hid (HO.out.call hb3)
    clear hb3
    obtain ⟨d0, d1⟩ := HO.out.box.cells
    obtain ⟨z0, z1⟩ := HO.out.box.frees
    have HE := Lib.hid (HO.out.box.put (A, B))
    have HB := Lib.hid (HO.out.put (A, B))
    unfold fput at HE HB
    clear HO
    go_wp2_with fail
    refine bodyPost_ret (v := frv ((A, B), 0)) ?_ rfl ⟨rfl, HB.out⟩
    rw [results_cell_tmp rfl]
    exact end_fbox rfl rfl HE.out
end Go.Proofs.YtclecgopmegjeaaDoor.PField8

/- Layer 7: a row of fields that a call gathers. -/
namespace Go.Proofs.YtclecgopmegjeaaDoor.KeptRow
open Go.ChangeShapes Go.WideShapes Go.ChangeAt Go.RowKit LexPure Bytes Ret Rows1 FieldsPure Flds Mem
set_option maxRecDepth 20000
/-- what is kept of the first k -/
structure Kept (w : World) (X : List HField) (v : Value) (wr : World) : Prop where
  row : wr.ownsRow w.heap.size 37 2 v X.length (encFs X)
  below : Below w.heap.size w wr
theorem Kept.start (w : World) : Kept w [] (.slice none 0 0) w := ⟨World.ownsRow_nil _ _ _ _, Below.refl _ _⟩
theorem row_below {w w' : World} {base n size : Nat} {e : TypeId} {v : Value} {xs : List Value} (h : w.ownsRow base e size v n xs) (hb : Below w.heap.size w w') : w'.ownsRow base e size v n xs := by
  refine ⟨h.1, ?_⟩
  rcases h.2 with h0 | ⟨g, cap, cur, hv, h1, hg, rest⟩
  · exact .inl h0
  · exact .inr ⟨g, cap, cur, hv, h1, (hb.block g (Array.getElem?_eq_some_iff.1 hg).1).trans hg, rest⟩
theorem row_mono {w : World} {base base' n size : Nat} {e : TypeId} {v : Value} {xs : List Value} (h : w.ownsRow base e size v n xs) (hb : base' ≤ base) : w.ownsRow base' e size v n xs := by
  refine ⟨h.1, ?_⟩
  rcases h.2 with h0 | ⟨g, cap, cur, h1, h2, h3⟩
  · exact .inl h0
  · exact .inr ⟨g, cap, cur, h1, Nat.le_trans hb h2, h3⟩
theorem Kept.call {w w1 w2 : World} {X : List HField} {v : Value} (h : Kept w X v w1) (hb : Below w1.heap.size w1 w2) : Kept w X v w2 :=
  ⟨row_below h.row hb, below_chain h.below hb⟩
theorem Kept.alloc {w w1 : World} {X : List HField} {v : Value} (h : Kept w X v w1) (o : Obj) : Kept w X v (w1.alloc o) := h.call ((Below.refl _ _).alloc (Nat.le_refl _) o)
theorem Kept.lt {w w1 : World} {X : List HField} {v : Value} (h : Kept w X v w1) : ∀ j, v.ownBlock = some j → w.heap.size ≤ j := fun j hj => (h.row.lt j hj).1
theorem fl_none (w : World) : FL w (.slice none 0 0) [] := ⟨none, 0, rfl, Nat.zero_le _, fun h => absurd h (by decide)⟩
/-- a row of a call's own, of 32 fields at most -/
def RowF (W : World) (base : Nat) (v : Value) (l : List HField) : Prop := W.ownsRow base 37 2 v l.length (encFs l) ∧ l.length ≤ 32
theorem row_none (W : World) (base : Nat) : RowF W base (.slice none 0 0) [] := ⟨World.ownsRow_nil _ _ _ _, by decide⟩
end Go.Proofs.YtclecgopmegjeaaDoor.KeptRow

/- Layer 8 of the program: readFields. -/
namespace Go.Proofs.YtclecgopmegjeaaDoor.PFlds8
open Go.ChangeShapes Go.WideShapes Go.ChangeAt Go.RowKit LexPure Bytes Ret Rows1 FieldsPure Flds HeadPure HBox Mem KeptRow PNext PField8
set_option maxRecDepth 20000
theorem ret_fields {W w : World} {R : Res} {v : Value} {n e : Int} {l : List HField} (h2 : (resN R : Int) = n) (h3 : resE R = e) (h4 : (resH R).fields = l) (hf : RowF W w.heap.size v l) (hb : Below w.heap.size w W) :
    ∃ u, Ending.returned (.tuple #[v, .int .i64 n, .int .i64 e]) = .returned (.tuple #[u, .int .i64 (resN R), .int .i64 (resE R)]) ∧ RowF W w.heap.size u (resH R).fields ∧ Below w.heap.size w W :=
  ⟨v, by rw [h2, h3], by rw [h4]; exact hf, hb⟩
theorem field_err (l : List UInt8) : (field8 l).2 = 0 ∨ (field8 l).2 = 70 := by
  unfold field8
  split
  · exact .inl rfl
  · exact .inr rfl
theorem whole_most {most k : Nat} {over : Int} {D : List UInt8} (h : scan most over 0 D = .whole k) : k ≤ most := by
  obtain ⟨l, q, e, hk, _, hm⟩ := scan_whole _ _ _ _ _ h
  omega
theorem whole_len {most k : Nat} {over : Int} {D : List UInt8} (h : scan most over 0 D = .whole k) : k + 2 ≤ D.length := by
  obtain ⟨l, q, e, hk, _, _⟩ := scan_whole _ _ _ _ _ h
  have := congrArg List.length e
  rw [List.length_append, List.length_cons, List.length_cons] at this
  omega
set_option maxHeartbeats 1600000 in
theorem pfields_any (s : ByteArray) (hs : s.size ≤ 4611686018427387904) (w : World) :
    Calls Tryd.prog 38 #[.string s] w fun e w' => ∃ v, e = .returned (.tuple #[v, .int .i64 (resN (fields8 zero8 32 [] 0 (toL s))), .int .i64 (resE (fields8 zero8 32 [] 0 (toL s)))]) ∧ RowF w' w.heap.size v (resH (fields8 zero8 32 [] 0 (toL s))).fields ∧ Below w.heap.size w w' := by
  obtain ⟨i0, hi, hz0, hz1, hz2⟩ := info_parts infoF
  obtain ⟨X, hX⟩ : ∃ X, X = fields8 zero8 32 [] 0 (toL s) := ⟨_, rfl⟩
  rw [← hX]
  replace hX := Lib.hid hX
  have HK := Lib.hid (Kept.start w)
  go_enter Tryd.func38, Tryd.ntmps38
  go_wp2_with fail
  go_loopw [5, 6] (fun f sz wr => ∃ (a : Nat) (acc : List HField), a ≤ s.size ∧ acc.length ≤ 32 ∧ sz = .int .i64 a ∧ Hid (Kept w acc f wr) ∧ Hid (X = fields8 zero8 (32 - acc.length) acc a ((toL s).drop a))) (fun _ sz _ => s.size - (intOf sz).toNat)
  case atStart => exact ⟨0, [], Nat.zero_le _, by decide, rfl, HK, hX⟩
  case round =>
    obtain ⟨a, acc, ha, hac, rfl, HI, HR⟩ := hrel
    clear HK hX
    obtain ⟨p, cap, hv, _, _⟩ := fl_of HI.out.row (by omega)
    subst hv
    have hai : (a : Int) ≤ (s.size : Int) := by omega
    obtain ⟨D, hD⟩ : ∃ D, D = s.extract a s.size := ⟨_, rfl⟩
    have eD : toL D = (toL s).drop a := by rw [hD, toL_extract, toL_take_all s (Nat.le_refl _)]
    have lD : D.size = s.size - a := by rw [hD, ByteArray.size_extract]; omega
    have HN := Lib.hid (fun w => pnext_any D (by omega) 512 83 w)
    rw [← eD] at HR
    have hF : X = match scan 512 83 0 (toL D) with
      | .wait => .wait
      | .bad e => .bad e
      | .whole k => if k = 0 then .done { zero8 with fields := acc } (a + 2) else
        match 32 - acc.length with
        | 0 => .bad 83
        | m + 1 => if (field8 ((toL D).take k)).2 = 0 then fields8 zero8 m (acc ++ [(field8 ((toL D).take k)).1]) (a + k + 2) ((toL D).drop (k + 2)) else .bad 70 := by
      rw [HR.out]
      conv => lhs; unfold fields8
      rfl
    clear HR
    cases hsc : scan 512 83 0 (toL D) with
    | wait =>
      rw [hsc] at HN hF
      have HV : X = .wait := hF
      subst HV
      unfold lineT lineB lineE at HN
      rw [hD] at HN
      clear hF hsc eD lD hD
      go_wp2_with fail
      refine (HN.out _).mono ?_
      rintro e w' ⟨rfl, rfl⟩
      go_wp2_with fail
      go_ret3
      exact ret_fields (R := .wait) rfl rfl rfl (row_none _ _) HI.out.below
    | bad er =>
      rw [hsc] at HN hF
      have HV : X = .bad er := hF
      subst HV
      unfold lineT lineB lineE at HN
      rw [hD] at HN
      clear hF hsc eD lD hD
      go_wp2_with fail
      refine (HN.out _).mono ?_
      rintro e w' ⟨rfl, rfl⟩
      go_wp2_with fail
      go_ret3
      exact ret_fields (R := .bad er) rfl rfl rfl (row_none _ _) HI.out.below
    | whole k =>
      have hkl := whole_len hsc
      have hkm := whole_most hsc
      rw [toL_length] at hkl
      rw [hsc] at HN hF
      unfold lineT lineB lineE at HN
      dsimp only at hF HN
      by_cases hk0 : k = 0
      · rw [if_pos hk0] at hF
        subst hF
        subst hk0
        rw [hD, show ofL ((toL (s.extract a s.size)).take 0) = ⟨#[]⟩ from rfl] at HN
        have ha2 : (a : Int) + 2 ≤ (s.size : Int) := by omega
        have HL := Lib.hid (show RowF wr w.heap.size (.slice p acc.length cap) acc from ⟨HI.out.row, hac⟩)
        clear hsc eD lD hD hkl
        go_wp2_with fail
        refine (HN.out _).mono ?_
        rintro e w' ⟨rfl, rfl⟩
        go_wp2_with fail
        go_ret3
        exact ret_fields (R := .done { zero8 with fields := acc } (a + 2)) (by show ((a + 2 : Nat) : Int) = _; omega) rfl rfl HL.out HI.out.below
      · rw [if_neg hk0] at hF
        obtain ⟨LN, hLN⟩ : ∃ LN, LN = ofL ((toL D).take k) := ⟨_, rfl⟩
        have lLN : LN.size = k := by rw [hLN, ofL_size, List.length_take, toL_length]; omega
        have tLN : toL LN = (toL D).take k := by rw [hLN, toL_ofL]
        rw [← hLN, hD] at HN
        have n1 : ¬ (LN.toList = []) := by
          rw [ByteArray.toList_eq]
          intro h
          have := congrArg List.length h
          rw [show LN.data.toList.length = LN.size from toL_length LN] at this
          rw [List.length_nil] at this
          omega
        have n2 : LN.toList.isEmpty = false := by
          cases hx : LN.toList with
          | nil => exact absurd hx n1
          | cons => rfl
        have ha2 : (a : Int) + ((LN.size : Int) + 2) ≤ (s.size : Int) := by omega
        have hsi : (s.size : Int) ≤ 4611686018427387904 := by omega
        by_cases h32 : acc.length = 32
        · have HV : X = .bad 83 := by rw [hF, h32]; rfl
          subst HV
          have hj : ((acc.length : Int) == 32) = true := by rw [h32]; rfl
          clear hF hsc eD lD hD hkl hLN tLN h32
          go_wp2_with fail
          refine (HN.out _).mono ?_
          rintro e w' ⟨rfl, rfl⟩
          go_wp2_with fail
          go_ret3
          exact ret_fields (R := .bad 83) rfl rfl rfl (row_none _ _) HI.out.below
        · have hj : ((acc.length : Int) == 32) = false := beq_eq_false_iff_ne.2 (by omega)
          obtain ⟨m, hm⟩ : ∃ m, 32 - acc.length = m + 1 := ⟨31 - acc.length, by omega⟩
          rw [hm] at hF
          dsimp only at hF
          have HP := Lib.hid (fun w => pfield_any LN (by omega) w)
          rw [tLN] at HP
          have hfe := field_err ((toL D).take k)
          generalize field8 ((toL D).take k) = y at *
          obtain ⟨⟨f1, f2⟩, er⟩ := y
          dsimp only at hF
          unfold frv fv at HP
          dsimp only at HP
          replace hm := Lib.hid hm
          by_cases h9 : er = 0
          · rw [if_pos h9] at hF
            subst h9
            have tD : ((toL D).drop (k + 2)) = (toL s).drop (a + k + 2) := by rw [eD, List.drop_drop, Nat.add_assoc]
            rw [tD] at hF
            replace hF := Lib.hid hF
            clear hsc eD lD hD hLN tLN h32 hfe tD
            go_wp2_with fail
            refine (HN.out _).mono ?_
            rintro e w' ⟨rfl, rfl⟩
            go_wp2_with fail
            refine (HP.out _).mono ?_
            rintro e w3 ⟨rfl, hb3⟩
            have HK1 := Lib.hid (((HI.out.call hb3).alloc (.cells #[.string (ofL f1), .string (ofL f2)] 37)).alloc (.cells #[.string (ofL f1), .string (ofL f2)] 37))
            have HW := World.news_of_block (heap_alloc_new (w3.alloc (.cells #[.string (ofL f1), .string (ofL f2)] 37)) (.cells #[.string (ofL f1), .string (ofL f2)] 37))
            rw [show (w3.alloc (.cells #[.string (ofL f1), .string (ofL f2)] 37)).heap.size = w3.heap.size + 1 by simp] at HW
            replace HW := Lib.hid HW
            have hrow := HK1.out.row
            have hsz := HK1.out.below.size
            clear hb3
            go_wp2_with (at_builtin; refine wpList_append_own_at _ rfl (.tmp 42) (.tmp 44) 23 rfl w.heap.size 37 i0 _ 2 32 Tryd.underlying23 hi hz0 hz1 hz2 rfl (by omega) _ _ _ rfl hrow ⟨w3.heap.size + 1, 0, none⟩ 1 1 (encF (f1, f2)) rfl rfl HW.out (by simp [encF, Value.oneCell']) (by simp only [maxLen]; omega) (by omega) hsz ?_; intro v4 w4 hown4 hg4 _ hat4)
            have HK3 : Hid (Kept w (acc ++ [(f1, f2)]) v4 w4) := Lib.hid (by
              refine ⟨?_, Below.grown HK1.out.below hg4 HK1.out.below.size HK1.out.lt⟩
              rw [encFs_append, List.length_append]
              exact hown4)
            clear hown4 hg4 hat4 hrow
            go_wp2_with fail
            go_roundw
            case rel => exact ⟨a + k + 2, acc ++ [(f1, f2)], by omega, by rw [List.length_append, List.length_singleton]; have := hm.out; omega, by go_num, HK3, Lib.hid (by rw [hF.out, List.length_append, List.length_singleton, show 32 - (acc.length + 1) = m by have := hm.out; omega])⟩
            case measure => simp [intOf]; omega
          · rw [if_neg h9] at hF
            have h7 : (er != 0) = true := bne_iff_ne.2 h9
            have h70 : er = 70 := hfe.resolve_left h9
            subst h70
            subst hF
            clear hsc eD lD hD hkl hLN tLN h32 h9 hfe
            go_wp2_with fail
            refine (HN.out _).mono ?_
            rintro e w' ⟨rfl, rfl⟩
            go_wp2_with fail
            refine (HP.out _).mono ?_
            rintro e w3 ⟨rfl, hb3⟩
            go_wp2_with fail
            go_ret3
            exact ret_fields (R := .bad 70) rfl rfl rfl (row_none _ _) (below_chain (below_chain HI.out.below hb3) ((Below.refl _ _).alloc (Nat.le_refl _) _))
end Go.Proofs.YtclecgopmegjeaaDoor.PFlds8

/-
  DERIVED: THE SHELF's CONTRACTS AT THIS DUMP, IN PLAIN WORDS (tools/lay-plain.mjs out of 'YtclecgopmegjeaaDoorPathLaysT.lean', which tools/lay-shelf.mjs wrote): THE SAME DECLARATIONS UNDER THE SAME NAMES: 'import', 'namespace', 'open', 'def', 'theorem' AND NOTHING ELSE: no command of the shelf's: FOR A HAND-IN. Each laying: the table of numbers ('.._ren') and one theorem, a field a fact of the dump's own or the kernel's comparison; each contract: ONE APPLICATION.
-/
namespace Go.Proofs
open Go.Shelf
def Tryd.lays99_ren : Go.Shelf.Ren := ⟨fun | 99 => 21 | 206 => 36 | n => n, fun | 9 => 9 | 4 => 4 | 3 => 3 | n => n, fun | n => n⟩
theorem Tryd.lays99 : Go.Proofs.Lays.n99 Tryd.prog Tryd.lays99_ren := {
  mixed := by kernel_rfl
  f99 := Tryd.func21.trans (congrArg some (by kernel_rfl))
  f206 := Tryd.func36.trans (congrArg some (by kernel_rfl))
  t3 := Tryd.underlying3
  a3 := Tryd.isAgg3
  z3 := Tryd.sizeOf3
  v3 := Tryd.zeroValue3
  t4 := Tryd.underlying4
  a4 := Tryd.isAgg4
  z4 := Tryd.sizeOf4
  v4 := Tryd.zeroValue4
  t9 := Tryd.underlying9
  a9 := Tryd.isAgg9
  z9 := Tryd.sizeOf9
  v9 := Tryd.zeroValue9 }
def Tryd.lays103_ren : Go.Shelf.Ren := ⟨fun | 103 => 51 | 210 => 63 | 206 => 36 | n => n, fun | 9 => 9 | 4 => 4 | 24 => 69 | 3 => 3 | n => n, fun | n => n⟩
theorem Tryd.lays103 : Go.Proofs.Lays.n103 Tryd.prog Tryd.lays103_ren := {
  mixed := by kernel_rfl
  f103 := Tryd.func51.trans (congrArg some (by kernel_rfl))
  f206 := Tryd.func36.trans (congrArg some (by kernel_rfl))
  f210 := Tryd.func63.trans (congrArg some (by kernel_rfl))
  t3 := Tryd.underlying3
  a3 := Tryd.isAgg3
  z3 := Tryd.sizeOf3
  v3 := Tryd.zeroValue3
  t4 := Tryd.underlying4
  a4 := Tryd.isAgg4
  z4 := Tryd.sizeOf4
  v4 := Tryd.zeroValue4
  t9 := Tryd.underlying9
  a9 := Tryd.isAgg9
  z9 := Tryd.sizeOf9
  v9 := Tryd.zeroValue9
  t24 := Tryd.underlying69
  a24 := Tryd.isAgg69
  z24 := Tryd.sizeOf69
  v24 := Tryd.zeroValue69 }
end Go.Proofs

/- How a text begins: strings.HasPrefix, strings.CutPrefix. -/
namespace Go.Proofs.YtclecgopmegjeaaDoor.PPre
open Go.ChangeShapes Go.WideShapes Go.ChangeAt Go.RowKit Bytes Ret
set_option maxRecDepth 20000
theorem lib_has (s p : ByteArray) (w : World) :
    Calls Tryd.prog 21 #[.string s, .string p] w fun e w' => e = .returned (.bool ((toL p).isPrefixOf (toL s))) ∧ w' = w :=
  Any.strings_HasPrefix Tryd.lays99 s p w
theorem lib_cutp (s p : ByteArray) (w : World) :
    Calls Tryd.prog 51 #[.string s, .string p] w fun e w' => e = .returned (.tuple #[.string (ofL (if (toL p).isPrefixOf (toL s) then (toL s).drop p.size else toL s)), .bool ((toL p).isPrefixOf (toL s))]) ∧ w' = w := by
  have h := Any.strings_CutPrefix Tryd.lays103 s p w
  unfold Lib.trimPrefix Lib.hasPrefix at h
  rw [show p.data.toList.length = p.size from toL_length p] at h
  exact h
end Go.Proofs.YtclecgopmegjeaaDoor.PPre

/- Layer 4 of the program: digit. -/
namespace Go.Proofs.YtclecgopmegjeaaDoor.PDigit
open Go.ChangeShapes Go.WideShapes Go.ChangeAt Go.RowKit LexPure Bytes Ret LexNum
set_option maxRecDepth 20000
/-- what the program counts a byte as: 16 where the document's is no digit -/
def digP (b : UInt8) : Nat := if dig b ≤ 15 then dig b else 16
theorem digP_cases (b : UInt8) : ((b.toNat : Int) < 48 ∧ digP b = 16) ∨ (48 ≤ (b.toNat : Int) ∧ (b.toNat : Int) ≤ 57 ∧ (digP b : Int) = (b.toNat : Int) - 48) ∨ (57 < (b.toNat : Int) ∧ (b.toNat : Int) < 65 ∧ digP b = 16) ∨
    (65 ≤ (b.toNat : Int) ∧ (b.toNat : Int) ≤ 70 ∧ (digP b : Int) = (b.toNat : Int) - 65 + 10) ∨ (70 < (b.toNat : Int) ∧ (b.toNat : Int) < 97 ∧ digP b = 16) ∨ (97 ≤ (b.toNat : Int) ∧ (b.toNat : Int) ≤ 102 ∧ (digP b : Int) = (b.toNat : Int) - 97 + 10) ∨ (102 < (b.toNat : Int) ∧ digP b = 16) := by
  have := all_bytes (p := fun b => decide (((b.toNat : Int) < 48 ∧ digP b = 16) ∨ (48 ≤ (b.toNat : Int) ∧ (b.toNat : Int) ≤ 57 ∧ (digP b : Int) = (b.toNat : Int) - 48) ∨ (57 < (b.toNat : Int) ∧ (b.toNat : Int) < 65 ∧ digP b = 16) ∨
    (65 ≤ (b.toNat : Int) ∧ (b.toNat : Int) ≤ 70 ∧ (digP b : Int) = (b.toNat : Int) - 65 + 10) ∨ (70 < (b.toNat : Int) ∧ (b.toNat : Int) < 97 ∧ digP b = 16) ∨ (97 ≤ (b.toNat : Int) ∧ (b.toNat : Int) ≤ 102 ∧ (digP b : Int) = (b.toNat : Int) - 97 + 10) ∨ (102 < (b.toNat : Int) ∧ digP b = 16))) (by decide +kernel) b
  simpa only [decide_eq_true_eq] using this
theorem pdigit_any (b : UInt8) (w : World) :
    Calls Tryd.prog 64 #[.int .u8 (b.toNat : Int)] w fun e w' => e = .returned (.int .i64 (digP b : Int)) ∧ w = w' := by
  have hub : (b.toNat : Int) ≤ 255 := by have := b.toNat_lt; omega
  rcases digP_cases b with ⟨h1, h2⟩ | ⟨h1, h2, h3⟩ | ⟨h1, h2, h3⟩ | ⟨h1, h2, h3⟩ | ⟨h1, h2, h3⟩ | ⟨h1, h2, h3⟩ | ⟨h1, h2⟩
  · rw [h2]
    clear h2
    generalize (b.toNat : Int) = c at *
    go_enter Tryd.func64, Tryd.ntmps64
    go_wp2_with fail
    go_ret
    exact ⟨rfl, rfl⟩
  · rw [h3]
    clear h3
    generalize (b.toNat : Int) = c at *
    go_enter Tryd.func64, Tryd.ntmps64
    go_wp2_with fail
    go_ret
    exact ⟨rfl, rfl⟩
  · rw [h3]
    clear h3
    generalize (b.toNat : Int) = c at *
    go_enter Tryd.func64, Tryd.ntmps64
    go_wp2_with fail
    go_ret
    exact ⟨rfl, rfl⟩
  · rw [h3]
    clear h3
    generalize (b.toNat : Int) = c at *
    go_enter Tryd.func64, Tryd.ntmps64
    go_wp2_with fail
    go_ret
    exact ⟨rfl, rfl⟩
  · rw [h3]
    clear h3
    generalize (b.toNat : Int) = c at *
    go_enter Tryd.func64, Tryd.ntmps64
    go_wp2_with fail
    go_ret
    exact ⟨rfl, rfl⟩
  · rw [h3]
    clear h3
    generalize (b.toNat : Int) = c at *
    go_enter Tryd.func64, Tryd.ntmps64
    go_wp2_with fail
    go_ret
    exact ⟨rfl, rfl⟩
  · rw [h2]
    clear h2
    generalize (b.toNat : Int) = c at *
    go_enter Tryd.func64, Tryd.ntmps64
    go_wp2_with fail
    go_ret
    exact ⟨rfl, rfl⟩
end Go.Proofs.YtclecgopmegjeaaDoor.PDigit

/- Layer 4 of the program: number. -/
namespace Go.Proofs.YtclecgopmegjeaaDoor.PCount
open Go.ChangeShapes Go.WideShapes Go.ChangeAt Go.RowKit LexPure Bytes Ret LexNum PDigit
set_option maxRecDepth 20000
theorem digP_lt {b : UInt8} {base : Nat} (hb : base ≤ 16) (h : dig b < base) : digP b = dig b := by
  unfold digP
  rw [if_pos (by omega)]
theorem digP_ge {b : UInt8} {base : Nat} (hb : base ≤ 16) (h : ¬ dig b < base) : base ≤ digP b := by
  unfold digP
  split <;> omega
set_option maxHeartbeats 2000000 in
theorem pnumber_any (s : ByteArray) (hs : s.size ≤ maxLen) (digits : Int) (base : Nat) (hF : Fit base digits) (w : World) :
    Calls Tryd.prog 53 #[.string s, .int .i64 digits, .int .i64 (base : Int)] w fun e w' => e = .returned (.tuple #[.int .i64 (numR base digits (toL s)), .bool (numOk base digits (toL s))]) ∧ w = w' := by
  unfold maxLen at hs
  have HF := Lib.hid hF
  have hb16 : base ≤ 16 := by rcases hF with ⟨h, _⟩ | ⟨h, _⟩ <;> omega
  clear hF
  by_cases hlen : 1 ≤ s.size ∧ (s.size : Int) ≤ digits
  · obtain ⟨hl1, hl2⟩ := hlen
    have h1 : ¬ s.toList = [] := fun h => by
      rw [ByteArray.toList_eq] at h
      have h2 := toL_length s
      rw [show toL s = [] from h] at h2
      simp at h2
      omega
    have h2 : s.toList.isEmpty = false := by
      cases h : s.toList with
      | nil => exact absurd h h1
      | cons => rfl
    go_enter Tryd.func53, Tryd.ntmps53
    go_wp2_with fail
    go_loop [8, 21] (fun n i => ∃ k : Nat, k ≤ s.size ∧ i = .int .i64 k ∧ n = .int .i64 (numV base ((toL s).take k) : Nat) ∧ Hid (((toL s).take k).all (fun c => decide (dig c < base)) = true)) (fun _ i => s.size - (intOf i).toNat)
    case atStart => exact ⟨0, Nat.zero_le _, rfl, rfl, Lib.hid rfl⟩
    case round =>
      obtain ⟨k, hk, rfl, rfl, ha⟩ := hrel
      by_cases hlt : k < s.size
      · have hki : (k : Int) < (s.size : Int) := by omega
        have HT := Lib.hid (toL_take_succ s k hlt)
        have HG := Lib.hid (toL_get s k hlt)
        obtain ⟨hb1, hb2⟩ := HF.out.bound (l := (toL s).take k) (by rw [List.length_take, toL_length]; omega) ha.out
        have HN : Hid (numV base ((toL s).take (k + 1)) = base * numV base ((toL s).take k) + dig s[k]) := Lib.hid (by rw [HT.out, numV_snoc])
        have HC := Lib.hid (fun w => pdigit_any s[k] w)
        generalize numV base ((toL s).take k) = n at *
        have hcomm : (base : Int) * (n : Int) = (n : Int) * (base : Int) := Int.mul_comm _ _
        have hp0 : 0 ≤ (n : Int) * (base : Int) := by omega
        have hp1 : (n : Int) * (base : Int) ≤ 1152921504606846976 := by
          have : ((base * n : Nat) : Int) ≤ 1152921504606846976 := by omega
          rw [Int.natCast_mul] at this
          omega
        clear hb1
        by_cases hdb : dig s[k] < base
        · have HA : Hid (((toL s).take (k + 1)).all (fun c => decide (dig c < base)) = true) := Lib.hid (by rw [HT.out, List.all_append, ha.out]; simp [hdb])
          have HN2 : Hid ((n : Int) * (base : Int) + (dig s[k] : Nat) = (numV base ((toL s).take (k + 1)) : Int)) := Lib.hid (by rw [HN.out, ← hcomm]; push_cast; rfl)
          rw [digP_lt hb16 hdb] at HC
          have hdn : ¬ ((base : Int) ≤ (dig s[k] : Int)) := by omega
          have hdm : (dig s[k] : Int) ≤ 16 := by omega
          clear HT HG HN ha hdb hcomm hb16
          generalize dig s[k] = d at *
          go_wp2_with (refine (HC.out _).mono ?_; rintro e w' ⟨rfl, rfl⟩)
          go_round
          case rel => exact ⟨k + 1, by omega, by go_num, by rw [HN2.out], HA⟩
          case measure => simp [intOf]; omega
        · have HV2 : Hid (numOk base digits (toL s) = false) := Lib.hid (by
            unfold numOk
            rw [Bool.and_eq_false_iff]
            right
            rw [List.all_eq_false]
            exact ⟨s[k], List.mem_of_getElem? HG.out, by simpa using hdb⟩)
          have HV1 : Hid (numR base digits (toL s) = 0) := Lib.hid (by unfold numR; rw [HV2.out]; rfl)
          have hdn : (base : Int) ≤ (digP s[k] : Int) := by have := digP_ge hb16 hdb; omega
          clear HT HG HN ha hdb hcomm hb16
          generalize digP s[k] = d at *
          go_wp2_with (refine (HC.out _).mono ?_; rintro e w' ⟨rfl, rfl⟩)
          go_ret2
          exact ⟨ret_num HV1.out.symm HV2.out.symm, rfl⟩
      · have hall : (toL s).take k = toL s := toL_take_all s (by omega)
        have HV2 : Hid (numOk base digits (toL s) = true) := Lib.hid (by
          unfold numOk
          have h := ha.out
          rw [hall] at h
          rw [h, toL_length, decide_eq_true hl2]
          have : (toL s).isEmpty = false := by
            cases hl : toL s with
            | nil => have := toL_length s; rw [hl] at this; simp at this; omega
            | cons => rfl
          rw [this]
          rfl)
        have HV1 : Hid (numR base digits (toL s) = (numV base (toL s) : Int)) := Lib.hid (by unfold numR; rw [HV2.out]; rfl)
        rw [hall]
        clear ha hall hb16
        go_wp2_with fail
        go_ret2
        exact ⟨ret_num HV1.out.symm HV2.out.symm, rfl⟩
  · have HV2 : Hid (numOk base digits (toL s) = false) := Lib.hid (by
      unfold numOk
      rw [toL_length]
      by_cases h0 : s.size = 0
      · rw [List.isEmpty_iff.2 (List.length_eq_zero_iff.1 (by rw [toL_length]; exact h0))]
        rfl
      · rw [decide_eq_false (by omega)]
        simp)
    have HV1 : Hid (numR base digits (toL s) = 0) := Lib.hid (by unfold numR; rw [HV2.out]; rfl)
    clear hb16
    by_cases h0 : s.size = 0
    · have h1 : s.toList = [] := by
        rw [ByteArray.toList_eq]
        exact List.length_eq_zero_iff.1 (by rw [← h0]; exact toL_length s)
      have h2 : s.toList.isEmpty = true := by rw [h1]; rfl
      clear hlen
      go_enter Tryd.func53, Tryd.ntmps53
      go_wp2_with fail
      go_ret2
      exact ⟨ret_num HV1.out.symm HV2.out.symm, rfl⟩
    · have hx : digits < (s.size : Int) := by omega
      have h1 : ¬ s.toList = [] := fun h => by
        rw [ByteArray.toList_eq] at h
        have h2 := toL_length s
        rw [show toL s = [] from h] at h2
        simp at h2
        omega
      have h2 : s.toList.isEmpty = false := by
        cases h : s.toList with
        | nil => exact absurd h h1
        | cons => rfl
      clear hlen
      go_enter Tryd.func53, Tryd.ntmps53
      go_wp2_with fail
      go_ret2
      exact ⟨ret_num HV1.out.symm HV2.out.symm, rfl⟩
end Go.Proofs.YtclecgopmegjeaaDoor.PCount

/- Layer 4 of the program: Decimal. -/
namespace Go.Proofs.YtclecgopmegjeaaDoor.PDecimal
open Go.ChangeShapes Go.WideShapes Go.ChangeAt Go.RowKit LexPure Bytes Ret LexNum PCount
set_option maxRecDepth 20000
theorem pdecimal_any (s : ByteArray) (hs : s.size ≤ maxLen) (digits : Int) (w : World) :
    Calls Tryd.prog 44 #[.string s, .int .i64 digits] w fun e w' => e = .returned (.tuple #[.int .i64 (numR 10 (min digits 18) (toL s)), .bool (numOk 10 (min digits 18) (toL s))]) ∧ w = w' := by
  have HN := Lib.hid (pnumber_any s hs (min digits 18) 10 (.inl ⟨rfl, Int.min_le_right _ _⟩))
  clear hs
  rcases (show digits < 18 ∨ digits = 18 ∨ 18 < digits by omega) with h | h | h
  · have hm : min digits 18 = digits := by omega
    rw [hm] at HN ⊢
    go_enter Tryd.func44, Tryd.ntmps44
    go_wp2_with fail
    refine (HN.out _).mono ?_
    rintro e w' ⟨rfl, rfl⟩
    go_wp2_with fail
    go_ret2
    exact ⟨rfl, rfl⟩
  · subst h
    have hm : min 18 18 = (18 : Int) := rfl
    rw [hm] at HN ⊢
    go_enter Tryd.func44, Tryd.ntmps44
    go_wp2_with fail
    refine (HN.out _).mono ?_
    rintro e w' ⟨rfl, rfl⟩
    go_wp2_with fail
    go_ret2
    exact ⟨rfl, rfl⟩
  · have hm : min digits 18 = 18 := by omega
    rw [hm] at HN ⊢
    go_enter Tryd.func44, Tryd.ntmps44
    go_wp2_with fail
    refine (HN.out _).mono ?_
    rintro e w' ⟨rfl, rfl⟩
    go_wp2_with fail
    go_ret2
    exact ⟨rfl, rfl⟩
end Go.Proofs.YtclecgopmegjeaaDoor.PDecimal

/- Layer 8 of the program: readVersion. -/
namespace Go.Proofs.YtclecgopmegjeaaDoor.PVer8
open Go.ChangeShapes Go.WideShapes Go.ChangeAt Go.RowKit LexPure Bytes Ret LexNum FieldsPure HeadPure CutAt HeadCut PPre PCutLib PDecimal
set_option maxRecDepth 20000
theorem ret_ver {a b c d : Int} (h : a = b) (k : c = d) : Ending.returned (.tuple #[.int .i64 a, .int .i64 c]) = .returned (.tuple #[.int .i64 b, .int .i64 d]) := by rw [h, k]
set_option maxHeartbeats 1600000 in
theorem pversion_any (s : ByteArray) (hs : s.size ≤ 140737488351232) (w : World) :
    Calls Tryd.prog 40 #[.string s] w fun e w' => e = .returned (.tuple #[.int .i64 (version8 (toL s)).1, .int .i64 (version8 (toL s)).2]) ∧ Below w.heap.size w w' := by
  have HP := lib_cutp s ⟨#[72, 84, 84, 80, 47]⟩ w
  rw [show toL (⟨#[72, 84, 84, 80, 47]⟩ : ByteArray) = HTTPS from rfl, show (⟨#[72, 84, 84, 80, 47]⟩ : ByteArray).size = 5 from rfl] at HP
  have hv : (if HTTPS.isPrefixOf (toL s) then (toL s).drop 5 else toL s) = verR (toL s) := rfl
  rw [hv] at HP
  have hvl : (verR (toL s)).length ≤ s.size := by
    unfold verR
    rw [← toL_length s]
    split
    · rw [List.length_drop]; omega
    · exact Nat.le_refl _
  have HC := Lib.hid (fun w => full_cut 46 (ofL (verR (toL s))) (by rw [ofL_size]; omega) w)
  rw [toL_ofL] at HC
  have l1 : (aheadOf 46 (verR (toL s))).length ≤ (verR (toL s)).length := by rw [ahead_take, List.length_take]; omega
  have l2 : (behind 46 (verR (toL s))).length ≤ (verR (toL s)).length := by rw [cut_drop, List.length_drop]; omega
  have HD1 := Lib.hid (fun w => pdecimal_any (ofL (aheadOf 46 (verR (toL s)))) (by unfold maxLen; rw [ofL_size]; omega) 1 w)
  have HD2 := Lib.hid (fun w => pdecimal_any (ofL (behind 46 (verR (toL s)))) (by unfold maxLen; rw [ofL_size]; omega) 1 w)
  rw [toL_ofL, show min (1 : Int) 18 = 1 from rfl] at HD1 HD2
  have HX := version_prog (toL s)
  unfold verP at HX
  generalize version8 (toL s) = X at *
  generalize HTTPS.isPrefixOf (toL s) = p at *
  generalize aheadOf 46 (verR (toL s)) = A at *
  generalize behind 46 (verR (toL s)) = B at *
  generalize hasB 46 (verR (toL s)) = q at *
  generalize verR (toL s) = R at *
  generalize numOk 10 1 A = a at *
  generalize numOk 10 1 B = b at *
  generalize numR 10 1 A = m at *
  generalize numR 10 1 B = n at *
  replace HP := Lib.hid HP
  clear hv hvl l1 l2 hs
  rcases (show (p = true ∧ a = true ∧ b = true) ∨ p = false ∨ (p = true ∧ a = false) ∨ (p = true ∧ a = true ∧ b = false) by cases p <;> cases a <;> cases b <;> simp) with ⟨rfl, rfl, rfl⟩ | rfl | ⟨rfl, rfl⟩ | ⟨rfl, rfl, rfl⟩
  · rw [if_pos (by decide)] at HX
    by_cases hm : m = 1
    · rw [if_pos hm] at HX
      have hb : (m != 1) = false := by rw [hm]; rfl
      replace HX := Lib.hid HX
      clear hm
      go_enter Tryd.func40, Tryd.ntmps40
      go_wp2_with fail
      refine HP.out.mono ?_
      rintro e w' ⟨rfl, rfl⟩
      go_wp2_with fail
      refine (HC.out _).mono ?_
      rintro e w2 ⟨rfl, hb2⟩
      go_wp2_with fail
      refine (HD1.out _).mono ?_
      rintro e w3 ⟨rfl, rfl⟩
      go_wp2_with fail
      refine (HD2.out _).mono ?_
      rintro e w4 ⟨rfl, rfl⟩
      go_wp2_with fail
      go_ret2
      exact ⟨ret_ver (by rw [HX.out]) (by rw [HX.out]), hb2⟩
    · rw [if_neg hm] at HX
      have hb : (m != 1) = true := bne_iff_ne.2 hm
      replace HX := Lib.hid HX
      clear hm
      go_enter Tryd.func40, Tryd.ntmps40
      go_wp2_with fail
      refine HP.out.mono ?_
      rintro e w' ⟨rfl, rfl⟩
      go_wp2_with fail
      refine (HC.out _).mono ?_
      rintro e w2 ⟨rfl, hb2⟩
      go_wp2_with fail
      refine (HD1.out _).mono ?_
      rintro e w3 ⟨rfl, rfl⟩
      go_wp2_with fail
      refine (HD2.out _).mono ?_
      rintro e w4 ⟨rfl, rfl⟩
      go_wp2_with fail
      go_ret2
      exact ⟨ret_ver (by rw [HX.out]) (by rw [HX.out]), hb2⟩
  all_goals
    rw [if_neg (by simp)] at HX
    replace HX := Lib.hid HX
    go_enter Tryd.func40, Tryd.ntmps40
    go_wp2_with fail
    refine HP.out.mono ?_
    rintro e w' ⟨rfl, rfl⟩
    go_wp2_with fail
    refine (HC.out _).mono ?_
    rintro e w2 ⟨rfl, hb2⟩
    go_wp2_with fail
    refine (HD1.out _).mono ?_
    rintro e w3 ⟨rfl, rfl⟩
    go_wp2_with fail
    refine (HD2.out _).mono ?_
    rintro e w4 ⟨rfl, rfl⟩
    go_wp2_with fail
    go_ret2
    exact ⟨ret_ver (by rw [HX.out]) (by rw [HX.out]), hb2⟩
end Go.Proofs.YtclecgopmegjeaaDoor.PVer8

/- Layer 8 of the program: isTarget, isReason. -/
namespace Go.Proofs.YtclecgopmegjeaaDoor.PSeen
open Go.ChangeShapes Go.WideShapes Go.ChangeAt Go.RowKit LexPure Bytes Ret FieldsPure HeadPure HeadCut PText Mem
set_option maxRecDepth 20000
/-- what may stand as a target -/
def targetB (s : List UInt8) : Bool := s.all seenB && !s.isEmpty
theorem target_iff (s : List UInt8) : targetB s = true ↔ s.all seenB = true ∧ s ≠ [] := by
  unfold targetB
  cases s <;> simp
theorem seen_three (b : UInt8) : (seenB b = false ∧ (b.toNat : Int) < 33) ∨ (seenB b = false ∧ ¬ (b.toNat : Int) < 33 ∧ (126 : Int) < (b.toNat : Int)) ∨ (seenB b = true ∧ ¬ (b.toNat : Int) < 33 ∧ ¬ (126 : Int) < (b.toNat : Int)) := by
  unfold seenB
  rcases (show b.toNat ≤ 32 ∨ 127 ≤ b.toNat ∨ (32 < b.toNat ∧ b.toNat < 127) by omega) with h | h | h
  · exact .inl ⟨by rw [decide_eq_false (by omega)]; rfl, by omega⟩
  · exact .inr (.inl ⟨by rw [decide_eq_false (p := b.toNat < 127) (by omega), Bool.and_false], by omega, by omega⟩)
  · exact .inr (.inr ⟨by rw [decide_eq_true h.1, decide_eq_true h.2]; rfl, by omega, by omega⟩)
theorem ptarget_any (s : ByteArray) (hs : s.size ≤ 140737488351232) (w : World) :
    Calls Tryd.prog 39 #[.string s] w fun e w' => e = .returned (.bool (targetB (toL s))) ∧ w' = w := by
  go_enter Tryd.func39, Tryd.ntmps39
  go_wp2_with fail
  go_loop [6] (fun i => ∃ k : Nat, k ≤ s.size ∧ i = .int .i64 k ∧ Hid (((toL s).take k).all seenB = true)) (fun i => s.size - (intOf i).toNat)
  case atStart => exact ⟨0, Nat.zero_le _, rfl, Lib.hid rfl⟩
  case round =>
    obtain ⟨k, hk, rfl, ha⟩ := hrel
    by_cases hlt : k < s.size
    · have hki : (k : Int) < (s.size : Int) := by omega
      have HS := Lib.hid (toL_take_succ s k hlt)
      have HG := Lib.hid (toL_get s k hlt)
      rcases seen_three s[k] with ⟨c0, c1⟩ | ⟨c0, c1, c2⟩ | ⟨c0, c1, c2⟩
      · have HV : Hid (targetB (toL s) = false) := Lib.hid (by
          unfold targetB
          rw [Bool.and_eq_false_iff]
          left
          rw [List.all_eq_false]
          exact ⟨s[k], List.mem_of_getElem? HG.out, by rw [c0]; decide⟩)
        clear HS HG c0
        go_wp2_with fail
        go_ret
        exact ⟨by rw [HV.out]; rfl, rfl⟩
      · have HV : Hid (targetB (toL s) = false) := Lib.hid (by
          unfold targetB
          rw [Bool.and_eq_false_iff]
          left
          rw [List.all_eq_false]
          exact ⟨s[k], List.mem_of_getElem? HG.out, by rw [c0]; decide⟩)
        clear HS HG c0
        go_wp2_with fail
        go_ret
        exact ⟨by rw [HV.out]; rfl, rfl⟩
      · have HA : Hid (((toL s).take (k + 1)).all seenB = true) := Lib.hid (by rw [HS.out, List.all_append, ha.out]; simp [c0])
        clear HS HG c0
        go_wp2_with fail
        go_round
        case rel => exact ⟨k + 1, by omega, by go_num, HA⟩
        case measure => simp [intOf]; omega
    · have hki : ¬ (k : Int) < (s.size : Int) := by omega
      have hall : (toL s).take k = toL s := toL_take_all s (by omega)
      have HV : Hid (targetB (toL s) = !(s.toList).isEmpty) := Lib.hid (by
        unfold targetB
        rw [← hall, ha.out, hall, ByteArray.toList_eq]
        rfl)
      clear ha hall
      cases hz : s.toList with
      | nil =>
        rw [hz] at HV
        go_wp2_with fail
        go_ret
        exact ⟨by rw [HV.out]; rfl, rfl⟩
      | cons c r =>
        rw [hz] at HV
        have n1 : ¬ (s.toList = []) := by rw [hz]; intro h; cases h
        have n2 : s.toList.isEmpty = false := by rw [hz]; rfl
        clear hz
        go_wp2_with fail
        go_ret
        exact ⟨by rw [HV.out]; rfl, rfl⟩
theorem preason_any (s : ByteArray) (hs : s.size ≤ 140737488351232) (w : World) :
    Calls Tryd.prog 45 #[.string s] w fun e w' => e = .returned (.bool ((toL s).all plainB)) ∧ Below w.heap.size w w' := by
  have HT := Lib.hid (fun w => ptrim_any s (by unfold maxLen; omega) w)
  have HV := Lib.hid (fun w => pvalue_any (ofL (trim (toL s))) (by unfold maxLen; rw [ofL_size]; have := trim_length (toL s); rw [toL_length] at this; omega) w)
  rw [toL_ofL, value_trim'] at HV
  generalize (toL s).all plainB = x at HV ⊢
  clear hs
  go_enter Tryd.func45, Tryd.ntmps45
  go_wp2_with fail
  refine (HT.out _).mono ?_
  rintro e w1 ⟨rfl, hb1⟩
  go_wp2_with fail
  refine (HV.out _).mono ?_
  rintro e w2 ⟨rfl, hb2⟩
  replace hb1 := below_chain hb1 hb2
  clear hb2
  go_wp2_with fail
  go_ret
  exact ⟨rfl, hb1⟩
end Go.Proofs.YtclecgopmegjeaaDoor.PSeen

/- Layer 8 of the program: startLine. -/
namespace Go.Proofs.YtclecgopmegjeaaDoor.PStart8
open Go.ChangeShapes Go.WideShapes Go.ChangeAt Go.RowKit LexPure Bytes Ret FieldsPure HeadPure CutAt HeadCut HBox Mem PCutLib PToken PVer8 PSeen
set_option maxRecDepth 20000
theorem cut_sizes (x : UInt8) (s : List UInt8) : (aheadOf x s).length ≤ s.length ∧ (behind x s).length ≤ s.length :=
  ⟨by rw [ahead_take, List.length_take]; omega, by rw [cut_drop, List.length_drop]; omega⟩
set_option maxHeartbeats 1600000 in
theorem pstart_any (s : ByteArray) (hs : s.size ≤ 140737488351232) (w : World) :
    Calls Tryd.prog 23 #[.string s] w fun e w' => e = .returned (hrv (start8 (toL s)).1 (.slice none 0 0) (start8 (toL s)).2) ∧ Below w.heap.size w w' := by
  have HO := Lib.hid (HOne.start w)
  obtain ⟨x, hx⟩ : ∃ x, x = start8 (toL s) := ⟨_, rfl⟩
  rw [← hx]
  rw [start_prog] at hx
  unfold startP at hx
  have z1 := cut_sizes 32 (toL s)
  have z2 := cut_sizes 32 (behind 32 (toL s))
  rw [toL_length] at z1
  have HC1 := Lib.hid (fun w => full_cut 32 s hs w)
  have HC2 := Lib.hid (fun w => full_cut 32 (ofL (behind 32 (toL s))) (by rw [ofL_size]; omega) w)
  rw [toL_ofL] at HC2
  have HT := Lib.hid (fun w => (ptoken_any (ofL (aheadOf 32 (toL s))) (by unfold maxLen; rw [ofL_size]; omega) w).mono (fun e w' h => (⟨h.1, h.2.symm⟩ : e = .returned (.bool (token (toL (ofL (aheadOf 32 (toL s)))))) ∧ w' = w)))
  have HG := Lib.hid (fun w => ptarget_any (ofL (aheadOf 32 (behind 32 (toL s)))) (by rw [ofL_size]; omega) w)
  have HV := Lib.hid (fun w => pversion_any (ofL (behind 32 (behind 32 (toL s)))) (by rw [ofL_size]; omega) w)
  have hM : (ofL (aheadOf 32 (toL s))).size = (aheadOf 32 (toL s)).length := ofL_size _
  rw [toL_ofL] at HT HG HV
  generalize hasB 32 (toL s) = q1 at *
  generalize hasB 32 (behind 32 (toL s)) = q2 at *
  generalize hM0 : aheadOf 32 (toL s) = M at *
  generalize behind 32 (toL s) = R at *
  generalize hT0 : aheadOf 32 R = T at *
  generalize behind 32 R = V at *
  have hh : (T.all seenB = true ∧ T ≠ []) = (targetB T = true) := propext (target_iff T).symm
  simp only [hh] at hx
  generalize version8 V = v at *
  generalize token M = tk at *
  generalize targetB T = tg at *
  obtain ⟨m, er⟩ := v
  clear z1 z2 hM0 hT0 hh hs
  replace hx := Lib.hid hx
  have hcases : (16 : Int) < ((ofL M).size : Int) ∨ ¬ (16 : Int) < ((ofL M).size : Int) := by omega
  go_enter Tryd.func23, Tryd.ntmps23
  go_wp2_with fail
  generalize w.alloc (.cells #[.string ⟨#[]⟩, .string ⟨#[]⟩, .int .i64 0, .string ⟨#[]⟩, .int .i64 0, .slice none 0 0] 25) = W at HO ⊢
  obtain ⟨g, hg⟩ : ∃ g, g = w.heap.size := ⟨_, rfl⟩
  rw [← hg] at HO ⊢
  replace hg := Lib.hid hg
  refine (HC1.out _).mono ?_
  rintro e w1 ⟨rfl, hb1⟩
  replace HO := Lib.hid (HO.out.call hb1)
  clear hb1 HC1
  go_wp2_with fail
  refine (HC2.out _).mono ?_
  rintro e w2 ⟨rfl, hb2⟩
  replace HO := Lib.hid (HO.out.call hb2)
  clear hb2 HC2
  obtain ⟨d0, d1, d2, d3, d4, d5⟩ := HO.out.box.cells
  obtain ⟨y0, y1, y2, y3, y4, y5⟩ := HO.out.box.frees
  have HE := Lib.hid (HO.out.box.put zero8 (.slice none 0 0))
  have HB := Lib.hid (HO.out.put zero8 (.slice none 0 0))
  rcases hcases with hi | hi
  · have HX : x = (zero8, 80) := by rw [hx.out, if_neg]; rintro ⟨h, _⟩; omega
    subst HX
    clear hx HO HT HG HV
    go_wp2_with fail
    refine bodyPost_ret (v := hrv zero8 (.slice none 0 0) 80) ?_ rfl ⟨rfl, HB.out⟩
    rw [results_cell_tmp rfl]
    exact end_hbox rfl rfl HE.out
  cases tk with
  | false =>
    have HX : x = (zero8, 80) := by rw [hx.out, if_neg]; rintro ⟨_, h, _⟩; cases h
    subst HX
    clear hx HO HG HV
    go_wp2_with fail
    refine (HT.out _).mono ?_
    rintro e w' ⟨rfl, rfl⟩
    go_wp2_with fail
    refine bodyPost_ret (v := hrv zero8 (.slice none 0 0) 80) ?_ rfl ⟨rfl, HB.out⟩
    rw [results_cell_tmp rfl]
    exact end_hbox rfl rfl HE.out
  | true =>
  cases tg with
  | false =>
    have HX : x = (zero8, 80) := by rw [hx.out, if_neg]; rintro ⟨_, _, h⟩; cases h
    subst HX
    clear hx HO HV
    go_wp2_with fail
    refine (HT.out _).mono ?_
    rintro e w' ⟨rfl, rfl⟩
    go_wp2_with fail
    refine (HG.out _).mono ?_
    rintro e w' ⟨rfl, rfl⟩
    go_wp2_with fail
    refine bodyPost_ret (v := hrv zero8 (.slice none 0 0) 80) ?_ rfl ⟨rfl, HB.out⟩
    rw [results_cell_tmp rfl]
    exact end_hbox rfl rfl HE.out
  | true =>
  have HX1 : x = if er = 0 then (⟨M, T, 0, [], m, []⟩, 0) else (zero8, er) := by
    rw [hx.out, if_pos ⟨by omega, rfl, rfl⟩]
  clear hx HE HB d0 d1 d2 d3 d4 d5 y0 y1 y2 y3 y4 y5
  go_wp2_with fail
  refine (HT.out _).mono ?_
  rintro e w' ⟨rfl, rfl⟩
  go_wp2_with fail
  refine (HG.out _).mono ?_
  rintro e w' ⟨rfl, rfl⟩
  clear HT HG
  go_wp2_with fail
  refine (HV.out _).mono ?_
  rintro e w3 ⟨rfl, hb3⟩
  replace HO := Lib.hid (HO.out.call hb3)
  clear hb3 HV
  obtain ⟨d0, d1, d2, d3, d4, d5⟩ := HO.out.box.cells
  obtain ⟨y0, y1, y2, y3, y4, y5⟩ := HO.out.box.frees
  by_cases h6 : er = 0
  · rw [if_pos h6] at HX1
    subst HX1
    subst h6
    have HE := Lib.hid (HO.out.box.put ⟨M, T, 0, [], m, []⟩ (.slice none 0 0))
    have HB := Lib.hid (HO.out.put ⟨M, T, 0, [], m, []⟩ (.slice none 0 0))
    unfold hput at HE HB
    clear HO
    go_wp2_with fail
    refine bodyPost_ret (v := hrv ⟨M, T, 0, [], m, []⟩ (.slice none 0 0) 0) ?_ rfl ⟨rfl, HB.out⟩
    rw [results_cell_tmp rfl]
    exact end_hbox rfl rfl HE.out
  · rw [if_neg h6] at HX1
    subst HX1
    have h7 : (er != 0) = true := bne_iff_ne.2 h6
    have HE := Lib.hid (HO.out.box.put zero8 (.slice none 0 0))
    have HB := Lib.hid (HO.out.put zero8 (.slice none 0 0))
    clear HO h6
    go_wp2_with fail
    refine bodyPost_ret (v := hrv zero8 (.slice none 0 0) er) ?_ rfl ⟨rfl, HB.out⟩
    rw [results_cell_tmp rfl]
    exact end_hbox rfl rfl HE.out
end Go.Proofs.YtclecgopmegjeaaDoor.PStart8
