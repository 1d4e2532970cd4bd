/- Texts of this seat, one behind another: Held, FrBox, PFrEnc, PDecimal, PFrLens, PFrSized, PFrReq, PFrResp, POutEnds, PFindT, PHas7, PKeep9, POutOpen, POutBody, OutFew, PNext, PFlds8, PathLays, PPre, PVer8, PSeen, PStart8, PRead8, PHeadQ, PReason, PStatus8, PHead8, FrameObj, POutHead, POutLen, POutChunks. -/
import Derived.Outline
import Derived.LoopTactic
import Derived.Handy
import Derived.Deep.RegionHeld3
import Derived.BigRegion
import Derived.RegionTactic
import Derived.ChangeAlike
import Derived.Deep.QuietTactic
import Derived.BigQuiet
import Derived.Shelf.Abstract
import Derived.Laws.EntriesVeiled
import Derived.Lib.Hide
import Derived.Laws.DeepStrings4
import Derived.Shelf.Strings.Prefix
import Derived.Shelf.Strings.Split
import Derived.Shelf.Small.Strs
import Derived.Test.YtggmafmebocoaaaGreatDoorProg
import Derived.Shelf.Small.Wraps
import Derived.Test.YtggmafmebocoaaaGreatDoorA1
import Derived.Test.YtggmafmebocoaaaGreatDoorC1
import Derived.Test.YtggmafmebocoaaaGreatDoorC2
/- A variable or a parameter that holds a head, in a box made behind w. -/
namespace Go.Proofs.YtggmafmebocoaaaGreatDoor.Held
open Go.ChangeShapes Go.WideShapes Go.ChangeAt Go.RowKit LexPure Bytes Ret Rows1 FieldsPure Flds HeadPure HBox KeptRow Mem
set_option maxRecDepth 20000
/-- box g, made behind w, holds head H with its list v -/
structure LB (w W : World) (g : Nat) (H : H8) (v : Value) : Prop where
  below : Below w.heap.size w W
  low : w.heap.size ≤ g
  box : HBox W g H v
  list : FL W v H.fields
  lt : g < W.heap.size
theorem LB.new {w W : World} {H : H8} {v : Value} (hb : Below w.heap.size w W) (hf : FL W v H.fields) : LB w (W.alloc (.cells (hc H v) 37)) W.heap.size H v :=
  ⟨hb.alloc hb.size _, hb.size, ⟨Has.new W _ _⟩, hf.below ((Below.refl _ _).alloc (Nat.le_refl _) _), by simp⟩
theorem LB.call {w W W' : World} {g : Nat} {H : H8} {v : Value} (h : LB w W g H v) (hb : Below W.heap.size W W') : LB w W' g H v :=
  ⟨below_chain h.below hb, h.low, h.box.below hb h.lt, h.list.below hb, Nat.lt_of_lt_of_le h.lt hb.size⟩
theorem LB.alloc {w W : World} {g : Nat} {H : H8} {v : Value} (h : LB w W g H v) (o : Obj) : LB w (W.alloc o) g H v := h.call ((Below.refl _ _).alloc (Nat.le_refl _) o)
/-- an answer with a row of its own is stored over -/
theorem LB.put {w W W' : World} {g : Nat} {H H' : H8} {v v' : Value} (h : LB w W g H v) (hb : Below W.heap.size W W') (hr : RowF W' W.heap.size v' H'.fields) : LB w (hput W' g H' v') g H' v' :=
  ⟨below_hput (below_chain h.below hb) h.low _ _, h.low, (h.box.below hb h.lt).put _ _, fl_of (row_hput hr.1 (g := g) h.lt H' v') (by have := hr.2; omega), by rw [size_hput]; exact Nat.lt_of_lt_of_le h.lt hb.size⟩
theorem LB.drewN {w W : World} {g : Nat} {H : H8} {v : Value} (h : LB w W g H v) (n : Nat) : LB w (W.drewN n) g H v :=
  ⟨below_drewN h.below n, h.low, ⟨h.box.has.drewN n⟩, h.list, h.lt⟩
end Go.Proofs.YtggmafmebocoaaaGreatDoor.Held

/- Layer 9 of the program: a framing in memory, and how a call that answers one ends. -/
namespace Go.Proofs.YtggmafmebocoaaaGreatDoor.FrBox
open Go.ChangeShapes Go.WideShapes Go.ChangeAt Go.RowKit LexPure Bytes FieldsPure HeadPure FramePure Flds HBox Mem
set_option maxRecDepth 20000
def rc (x : Int × Int) : Array Value := #[.int .i64 x.1, .int .i64 x.2]
def rv (x : Int × Int) : Value := .agg #[.int .i64 x.1, .int .i64 x.2]
structure RBox (w : World) (g : Nat) (x : Int × Int) : Prop where
  has : Has w g 65 (rc x)
def rput (W : World) (g : Nat) (x : Int × Int) : World := (W.setCell ⟨g, 0, none⟩ (.int .i64 x.1)).setCell ⟨g, 1, none⟩ (.int .i64 x.2)
theorem RBox.put {W : World} {g : Nat} {u : Int × Int} (h : RBox W g u) (x : Int × Int) : RBox (rput W g x) g x :=
  ⟨by have := (h.has.set_ 0 (.int .i64 x.1)).set_ 1 (.int .i64 x.2); unfold rput; simpa [rc] using this⟩
theorem rload {w : World} {g : Nat} {x : Int × Int} (h : RBox w g x) : (loadVar 65 ⟨g, 0, none⟩).run Tryz.prog w = .ok (rv x) w :=
  run_loadVar_row w g 65 65 _ _ _ h.has.at_ Tryz.underlying65 rfl (by kernel_rfl)
theorem RBox.cells {w : World} {g : Nat} {x : Int × Int} (h : RBox w g x) : w.cell? ⟨g, 0, none⟩ = some (.int .i64 x.1) ∧ w.cell? ⟨g, 1, none⟩ = some (.int .i64 x.2) := ⟨(h.has.cell 0).trans rfl, (h.has.cell 1).trans rfl⟩
theorem RBox.frees {w : World} {g : Nat} {x : Int × Int} (h : RBox w g x) : w.frozen? ⟨g, 0, none⟩ = false ∧ w.frozen? ⟨g, 1, none⟩ = false := ⟨h.has.free 0, h.has.free 1⟩
theorem RBox.below {w w' : World} {g B : Nat} {x : Int × Int} (h : RBox w g x) (hb : Below B w w') (hg : g < B) : RBox w' g x := ⟨h.has.below hb hg⟩
/-- the box of a call's answer, made behind w -/
structure RB (w W : World) (g : Nat) (x : Int × Int) : Prop where
  below : Below w.heap.size w W
  low : w.heap.size ≤ g
  box : RBox W g x
  lt : g < W.heap.size
theorem RB.new {w W : World} {x : Int × Int} (hb : Below w.heap.size w W) : RB w (W.alloc (.cells (rc x) 65)) W.heap.size x :=
  ⟨hb.alloc hb.size _, hb.size, ⟨Has.new W _ _⟩, by simp⟩
theorem RB.call {w W W' : World} {g : Nat} {x : Int × Int} (h : RB w W g x) (hb : Below W.heap.size W W') : RB w W' g x :=
  ⟨below_chain h.below hb, h.low, h.box.below hb h.lt, Nat.lt_of_lt_of_le h.lt hb.size⟩
theorem RB.put {w W : World} {g : Nat} {u : Int × Int} (h : RB w W g u) (x : Int × Int) : RB w (rput W g x) g x :=
  ⟨(h.below.setCell (p := ⟨g, 0, none⟩) h.low _).setCell (p := ⟨g, 1, none⟩) h.low _, h.low, h.box.put x, by have := h.lt; simpa [rput] using this⟩
theorem RB.drewN {w W : World} {g : Nat} {x : Int × Int} (h : RB w W g x) (n : Nat) : RB w (W.drewN n) g x :=
  ⟨below_drewN h.below n, h.low, ⟨h.box.has.drewN n⟩, h.lt⟩
/-- a framing and an error -/
def frv9 (r : Int × Int × Int) : Value := .tuple #[.agg #[.int .i64 r.1, .int .i64 r.2.1], .int .i64 r.2.2]
theorem end_rbox {W : World} {g : Nat} {a b v : Int} {r : Int × Int × Int} (hr : r = (a, b, v)) {tmps : Array Value} {p u : Tmp} (hp : tmps.getD p undef = .pointer (some ⟨g, 0, none⟩)) (hu : tmps.getD u undef = .int .i64 v) (h : RBox W g (a, b)) :
    (((asAddr (tmps.getD p undef)).run Tryz.prog W).andThen fun a w₁ => ((loadVar 65 a).run Tryz.prog w₁).andThen fun v w₂ => .ok (.tuple #[v, tmps.getD u undef]) w₂) = .ok (frv9 r) W := by
  rw [hp, hu, hr]
  have := rload h
  simp [asAddr, Result.andThen, this, frv9, rv]
end Go.Proofs.YtggmafmebocoaaaGreatDoor.FrBox

/- Layer 9 of the program: encoded. -/
namespace Go.Proofs.YtggmafmebocoaaaGreatDoor.PFrEnc
open Go.ChangeShapes Go.WideShapes Go.ChangeAt Go.RowKit LexPure Bytes Ret Rows1 Texts FieldsPure HeadPure FramePure FrNames Flds R7Elements R7Has PAlike PLib PElems7 PFrCh PFrHas HBox FrBox Held Mem
set_option maxRecDepth 20000
/-- where there is a coding -/
def enc9 (minor : Int) (G : List HField) (other : Int) : Int × Int × Int :=
  if minor = 0 ∨ 0 < getN G CLEN then (0, 0, 90) else if codeN (elems G TENC) = 1 then (3, 0, 0) else (0, 0, other)
set_option maxHeartbeats 1600000 in
theorem penc_any (h : H8) (v : Value) (other : Int) (hG : Few h.fields) (hle : h.fields.length ≤ 1048576) (w : World) (hF : FL w v h.fields) (hm : MaxInt w) :
    Calls Tryz.prog 36 #[hv h v, .int .i64 other] w fun e w' => e = .returned (frv9 (enc9 h.minor h.fields other)) ∧ Below w.heap.size w w' := by
  have L0 : LB w ((w.alloc (.cells (hc h v) 37)).alloc (.cells (rc (0, 0)) 65)) w.heap.size h v := (LB.new (Below.refl _ _) hF).alloc _
  have R0 : RB w ((w.alloc (.cells (hc h v) 37)).alloc (.cells (rc (0, 0)) 65)) (w.heap.size + 1) (0, 0) := by
    have := RB.new (w := w) (W := w.alloc (.cells (hc h v) 37)) (x := (0, 0)) ((Below.refl w.heap.size w).alloc (Nat.le_refl _) _)
    rwa [World.size_alloc] at this
  have HM := Lib.hid (hm.below L0.below)
  have HC := Lib.hid (fun w hF => pfrhas_any h v ⟨#[67, 111, 110, 116, 101, 110, 116, 45, 76, 101, 110, 103, 116, 104]⟩ hG w hF)
  rw [show toL ⟨#[67, 111, 110, 116, 101, 110, 116, 45, 76, 101, 110, 103, 116, 104]⟩ = aCLEN from rfl, getN_same low_l] at HC
  have HR := Lib.hid (fun w hm hF => pelems_any v h.fields ⟨#[84, 114, 97, 110, 115, 102, 101, 114, 45, 69, 110, 99, 111, 100, 105, 110, 103]⟩ hG hle w hm hF)
  have hS := Lib.hid (elems_short h.fields TENC hG)
  rw [show toL ⟨#[84, 114, 97, 110, 115, 102, 101, 114, 45, 69, 110, 99, 111, 100, 105, 110, 103]⟩ = aTENC from rfl, elems_same low_t] at HR
  obtain ⟨X, hX⟩ : ∃ X, X = enc9 h.minor h.fields other := ⟨_, rfl⟩
  rw [← hX]
  unfold enc9 at hX
  generalize elems h.fields TENC = E at *
  generalize getN h.fields CLEN = n at *
  clear hm hF
  by_cases m0 : h.minor = 0
  · replace hX := Lib.hid (show X = (0, 0, 90) by rw [hX, if_pos (.inl m0)])
    have RE := Lib.hid R0.box
    have RBw := Lib.hid R0.below
    unfold hc rc at RE RBw
    clear L0 R0 HM HC HR hS
    unfold hv
    go_enter Tryz.func36, Tryz.ntmps36
    go_wp2_with fail
    rw [m0] at RE RBw
    refine bodyPost_ret (v := frv9 X) ?_ rfl ⟨rfl, RBw.out⟩
    rw [results_cell_tmp rfl]
    exact end_rbox hX.out rfl rfl RE.out
  have m1 : (h.minor == 0) = false := beq_eq_false_iff_ne.2 m0
  unfold hc rc at L0 R0 HM
  obtain ⟨d0, d1, d2, d3, d4, d5⟩ := L0.box.cells
  have HC1 := Lib.hid (HC.out _ L0.list)
  replace L0 := Lib.hid L0
  replace R0 := Lib.hid R0
  unfold hv at HC1 ⊢
  clear HC
  go_enter Tryz.func36, Tryz.ntmps36
  go_wp2_with fail
  generalize (w.alloc (.cells #[.string (ofL h.method), .string (ofL h.target), .int .i64 h.status, .string (ofL h.reason), .int .i64 h.minor, v] 37)).alloc (.cells #[.int .i64 0, .int .i64 0] 65) = W at *
  refine HC1.out.mono ?_
  rintro e w2 ⟨rfl, hb2⟩
  replace HM := Lib.hid (HM.out.below hb2)
  replace L0 := Lib.hid (L0.out.call hb2)
  replace R0 := Lib.hid (R0.out.call hb2)
  clear HC1 hb2 d0 d1 d2 d3 d4 d5
  obtain ⟨d0, d1, d2, d3, d4, d5⟩ := L0.out.box.cells
  obtain ⟨c0, c1⟩ := R0.out.box.cells
  obtain ⟨z0, z1⟩ := R0.out.box.frees
  by_cases q1 : 0 < n
  · replace hX := Lib.hid (show X = (0, 0, 90) by rw [hX, if_pos (.inr q1)])
    have q2 : decide (0 < n) = true := decide_eq_true q1
    have RE := Lib.hid (R0.out.put (0, 0))
    rw [q2]
    clear q1 q2 HR hS HM
    go_wp2_with fail
    refine bodyPost_ret (v := frv9 X) ?_ rfl ⟨rfl, RE.out.below⟩
    rw [results_cell_tmp rfl]
    exact end_rbox hX.out rfl rfl RE.out.box
  replace hX := Lib.hid (show X = if codeN E = 1 then (3, 0, 0) else (0, 0, other) by rw [hX, if_neg (by rintro (h | h); exact m0 h; exact q1 h)])
  have q2 : decide (0 < n) = false := decide_eq_false q1
  rw [q2]
  clear q1 q2 m0
  have HR1 := Lib.hid (HR.out _ HM.out L0.out.list)
  clear HR HM
  go_wp2_with fail
  refine HR1.out.mono ?_
  rintro e w3 ⟨v2, rfl, hrow, hb3⟩
  obtain ⟨p, cap, rfl, hle2, hc⟩ := texts_of hrow
  replace hc := Lib.hid hc
  replace L0 := Lib.hid (L0.out.call hb3)
  replace R0 := Lib.hid (R0.out.call hb3)
  clear hrow hb3 HR1 d0 d1 d2 d3 d4 d5 c0 c1 z0 z1
  obtain ⟨c0, c1⟩ := R0.out.box.cells
  obtain ⟨z0, z1⟩ := R0.out.box.frees
  by_cases h1 : E.length = 1
  · obtain ⟨x, rfl⟩ := List.length_eq_one_iff.1 h1
    obtain ⟨g, o, rfl, hgl, hcell⟩ := hc.out (by rw [h1]; exact Nat.zero_lt_one)
    have cx : w3.cell? ⟨g, o, none⟩ = some (.string (ofL x)) := hcell 0 (by rw [h1]; exact Nat.zero_lt_one)
    have hs1 : x.length ≤ 1048576 := hS.out 0 (by rw [h1]; exact Nat.zero_lt_one)
    have HL := Lib.hid (fun w => pchunk_any (ofL x) (by rw [ofL_size]; unfold maxLen; omega) w)
    rw [toL_ofL] at HL
    have hX2 : Hid (X = if (lower x == CHUNKED) = true then (3, 0, 0) else (0, 0, other)) := Lib.hid (by
      rw [hX.out]
      by_cases hx : lower x = CHUNKED
      · rw [if_pos ((code_one [x]).2 ⟨x, rfl, hx⟩), if_pos (show (lower x == CHUNKED) = true by rw [hx]; exact beq_self_eq_true _)]
      · rw [if_neg (show ¬ (lower x == CHUNKED) = true by rw [beq_iff_eq]; exact hx), if_neg]
        intro hc
        obtain ⟨y, hy, hz⟩ := (code_one _).1 hc
        cases hy
        exact hx hz)
    rw [h1]
    generalize (lower x == CHUNKED) = b at *
    clear hX hcell hs1 hS hc hle2 h1
    go_wp2_with fail
    refine (HL.out _).mono ?_
    rintro e w4 ⟨rfl, hb4⟩
    replace R0 := Lib.hid (R0.out.call hb4)
    clear hb4 HL cx c0 c1 z0 z1 L0
    obtain ⟨c0, c1⟩ := R0.out.box.cells
    obtain ⟨z0, z1⟩ := R0.out.box.frees
    cases b
    · have hV : Hid (X = (0, 0, other)) := Lib.hid hX2.out
      have RE := Lib.hid (R0.out.put (0, 0))
      clear hX2 R0
      go_wp2_with fail
      refine bodyPost_ret (v := frv9 X) ?_ rfl ⟨rfl, RE.out.below⟩
      rw [results_cell_tmp rfl]
      exact end_rbox hV.out rfl rfl RE.out.box
    · have hV : Hid (X = (3, 0, 0)) := Lib.hid hX2.out
      have RE := Lib.hid (R0.out.put (3, 0))
      clear hX2 R0
      go_wp2_with fail
      refine bodyPost_ret (v := frv9 X) ?_ rfl ⟨rfl, RE.out.below⟩
      rw [results_cell_tmp rfl]
      exact end_rbox hV.out rfl rfl RE.out.box
  · have hV : Hid (X = (0, 0, other)) := Lib.hid (by
      rw [hX.out, if_neg]
      intro hc
      obtain ⟨y, hy, _⟩ := (code_one _).1 hc
      rw [hy] at h1
      exact h1 rfl)
    have q1 : ((E.length : Int) != 1) = true := bne_iff_ne.2 (by omega)
    have RE := Lib.hid (R0.out.put (0, 0))
    clear hX hc hS h1 L0 R0
    go_wp2_with fail
    refine bodyPost_ret (v := frv9 X) ?_ rfl ⟨rfl, RE.out.below⟩
    rw [results_cell_tmp rfl]
    exact end_rbox hV.out rfl rfl RE.out.box
end Go.Proofs.YtggmafmebocoaaaGreatDoor.PFrEnc

/- Layer 4 of the program: Decimal. -/
namespace Go.Proofs.YtggmafmebocoaaaGreatDoor.PDecimal
open Go.ChangeShapes Go.WideShapes Go.ChangeAt Go.RowKit LexPure Bytes Ret LexNum PCount
set_option maxRecDepth 20000
theorem pdecimal_any (s : ByteArray) (hs : s.size ≤ maxLen) (digits : Int) (w : World) :
    Calls Tryz.prog 48 #[.string s, .int .i64 digits] w fun e w' => e = .returned (.tuple #[.int .i64 (numR 10 (min digits 18) (toL s)), .bool (numOk 10 (min digits 18) (toL s))]) ∧ w = w' := by
  have HN := Lib.hid (pnumber_any s hs (min digits 18) 10 (.inl ⟨rfl, Int.min_le_right _ _⟩))
  clear hs
  rcases (show digits < 18 ∨ digits = 18 ∨ 18 < digits by omega) with h | h | h
  · have hm : min digits 18 = digits := by omega
    rw [hm] at HN ⊢
    go_enter Tryz.func48, Tryz.ntmps48
    go_wp2_with fail
    refine (HN.out _).mono ?_
    rintro e w' ⟨rfl, rfl⟩
    go_wp2_with fail
    go_ret2
    exact ⟨rfl, rfl⟩
  · subst h
    have hm : min 18 18 = (18 : Int) := rfl
    rw [hm] at HN ⊢
    go_enter Tryz.func48, Tryz.ntmps48
    go_wp2_with fail
    refine (HN.out _).mono ?_
    rintro e w' ⟨rfl, rfl⟩
    go_wp2_with fail
    go_ret2
    exact ⟨rfl, rfl⟩
  · have hm : min digits 18 = 18 := by omega
    rw [hm] at HN ⊢
    go_enter Tryz.func48, Tryz.ntmps48
    go_wp2_with fail
    refine (HN.out _).mono ?_
    rintro e w' ⟨rfl, rfl⟩
    go_wp2_with fail
    go_ret2
    exact ⟨rfl, rfl⟩
end Go.Proofs.YtggmafmebocoaaaGreatDoor.PDecimal

/- Layer 9 of the program: readLengths. -/
namespace Go.Proofs.YtggmafmebocoaaaGreatDoor.PFrLens
open Go.ChangeShapes Go.WideShapes Go.ChangeAt Go.RowKit LexPure Bytes Ret Rows1 LexList LexNum FieldsPure HeadPure FramePure FrNames Flds PAlike PTrim PDecimal CutAt PCutLib HBox Mem
set_option maxRecDepth 20000
theorem ahead_no : ∀ r : List UInt8, noComma (aheadOf 44 r) = true
  | [] => rfl
  | c :: r => by
    unfold aheadOf
    rw [List.takeWhile_cons]
    by_cases hc : c = 44
    · subst hc
      rfl
    · have : (c != 44) = true := bne_iff_ne.2 hc
      rw [this]
      have ih := ahead_no r
      unfold noComma aheadOf at *
      simp only [if_true, List.all_cons, ih, Bool.and_true]
      simpa using hc
theorem cut_whole : ∀ r : List UInt8, hasB 44 r = true → r = aheadOf 44 r ++ 44 :: behind 44 r
  | [], h => by cases h
  | c :: r, h => by
    unfold aheadOf behind
    rw [List.takeWhile_cons, List.dropWhile_cons]
    by_cases hc : c = 44
    · subst hc
      rfl
    · have h1 : (c != 44) = true := bne_iff_ne.2 hc
      have h2 : hasB 44 r = true := by
        unfold hasB at h ⊢
        rw [List.any_cons, show (c == 44) = false from beq_eq_false_iff_ne.2 hc, Bool.false_or] at h
        exact h
      have ih := cut_whole r h2
      unfold aheadOf behind at ih
      rw [h1]
      simp only [if_true]
      rw [List.cons_append, ← ih]
theorem cut_none : ∀ r : List UInt8, hasB 44 r = false → aheadOf 44 r = r
  | [], _ => rfl
  | c :: r, h => by
    unfold hasB at h
    rw [List.any_cons, Bool.or_eq_false_iff] at h
    unfold aheadOf
    have ih := cut_none r h.2
    unfold aheadOf at ih
    rw [List.takeWhile_cons, show (c != 44) = true by simpa using h.1, ih]
    rfl
theorem cut_pieces (r : List UInt8) : pieces r = aheadOf 44 r :: (if hasB 44 r then pieces (behind 44 r) else []) := by
  cases h : hasB 44 r
  · have h1 := cut_none r h
    have h2 := ahead_no r
    rw [h1] at h2 ⊢
    exact pieces_plain h2
  · conv => lhs; rw [cut_whole r h]
    rw [pieces_cut (ahead_no r)]
    rfl
theorem ahead_le (r : List UInt8) : (aheadOf 44 r).length ≤ r.length := by
  unfold aheadOf
  exact (List.takeWhile_sublist _).length_le
theorem behind_lt (r : List UInt8) (h : hasB 44 r = true) : (behind 44 r).length + 1 ≤ r.length := by
  have := congrArg List.length (cut_whole r h)
  rw [List.length_append, List.length_cons] at this
  omega
/-- what is told so far, and what is left -/
structure LI (C : Int) (n : Int) (c : Nat) (rem : List (List UInt8)) : Prop where
  all_ : C = lenFrom (if c = 0 then -1 else n) rem
  pos : 0 ≤ n
  zero : c = 0 → n = 0
theorem LI.start (G : List HField) : LI (lenN G) 0 0 (lens G) := ⟨rfl, Int.le_refl _, fun _ => rfl⟩
theorem LI.step {C n : Int} {c : Nat} {p : List UInt8} {rem : List (List UInt8)} (h : LI C n c (p :: rem)) (h1 : numOk 10 15 p = true) (h2 : c = 0 ∨ numR 10 15 p = n) : LI C (numR 10 15 p) (c + 1) rem := by
  refine ⟨?_, numR_pos _ _ _, fun h => by omega⟩
  rw [h.all_, if_neg (Nat.succ_ne_zero c)]
  conv => lhs; unfold lenFrom lenStep
  rw [if_pos]
  refine ⟨h1, ?_⟩
  rcases h2 with h2 | h2
  · left
    rw [if_pos h2]
    decide
  · by_cases h0 : c = 0
    · left
      rw [if_pos h0]
      decide
    · right
      rw [if_neg h0]
      exact h2
theorem LI.bad {C n : Int} {c : Nat} {p : List UInt8} {rem : List (List UInt8)} (h : LI C n c (p :: rem)) (h1 : numOk 10 15 p = false ∨ (0 < c ∧ numR 10 15 p ≠ n)) : C = -1 := by
  rw [h.all_]
  unfold lenFrom lenStep
  rw [if_neg]
  rintro ⟨h2, h3⟩
  rcases h1 with h1 | ⟨h1, h4⟩
  · rw [h1] at h2
    cases h2
  · rw [if_neg (by omega)] at h3
    have := h.pos
    rcases h3 with h3 | h3
    · omega
    · exact h4 h3
theorem LI.done {C n : Int} {c : Nat} (h : LI C n c []) : (if C < 0 then 0 else C) = n ∧ decide (0 ≤ C) = decide (0 < c) := by
  have h1 : C = if c = 0 then -1 else n := h.all_
  have hp := h.pos
  by_cases h0 : c = 0
  · rw [if_pos h0] at h1
    have hz := h.zero h0
    subst h1
    subst h0
    subst hz
    exact ⟨rfl, rfl⟩
  · rw [if_neg h0] at h1
    subst h1
    rw [if_neg (by omega), decide_eq_true hp, decide_eq_true (by omega)]
    exact ⟨rfl, rfl⟩
theorem ret_lens {a b : Int} {p q : Bool} (h : a = b) (k : p = q) : Ending.returned (.tuple #[.int .i64 a, .bool p]) = .returned (.tuple #[.int .i64 b, .bool q]) := by rw [h, k]
theorem lens_drop (G : List HField) (k : Nat) (hk : k < G.length) : lens (G.drop k) = if hit CLEN G[k] then (pieces G[k].2).map trim ++ lens (G.drop (k + 1)) else lens (G.drop (k + 1)) := by
  rw [← lens_cons, List.drop_eq_getElem_cons hk]
theorem more_le {c k B : Nat} (h : c ≤ k * B) : c ≤ (k + 1) * B := Nat.le_trans h (Nat.mul_le_mul_right B (Nat.le_succ k))
/-- what is left of a value -/
def left (b : Bool) (R : ByteArray) : List (List UInt8) := if b then (pieces (toL R)).map trim else []
def room (b : Bool) (R : ByteArray) : Nat := if b then R.size + 1 else 0
theorem left_cut (R : ByteArray) : left true R = trim (aheadOf 44 (toL R)) :: left (hasB 44 (toL R)) (ofL (behind 44 (toL R))) := by
  unfold left
  rw [toL_ofL, if_pos rfl]
  conv => lhs; rw [cut_pieces]
  cases hasB 44 (toL R) <;> rfl
theorem room_cut (R : ByteArray) : room (hasB 44 (toL R)) (ofL (behind 44 (toL R))) ≤ R.size := by
  unfold room
  cases h : hasB 44 (toL R)
  · exact Nat.zero_le _
  · have := behind_lt _ h
    rw [toL_length] at this
    rw [if_pos rfl, ofL_size]
    exact this
theorem left_end {rest : List (List UInt8)} (R : ByteArray) : left false R ++ rest = rest := rfl
set_option maxHeartbeats 1600000 in
theorem plens_any (v : Value) (G : List HField) (hG : Few G) (hle : G.length ≤ 1048576) (w : World) (hF : FL w v G) :
    Calls Tryz.prog 54 #[v] w fun e w' => e = .returned (.tuple #[.int .i64 (if lenN G < 0 then 0 else lenN G), .bool (decide (0 ≤ lenN G))]) ∧ Below w.heap.size w w' := by
  obtain ⟨C, hC⟩ : ∃ C, C = lenN G := ⟨_, rfl⟩
  rw [← hC]
  have HI0 : Hid (LI C 0 0 (lens (G.drop 0)) ∧ Below w.heap.size w w) := Lib.hid ⟨by rw [hC]; exact LI.start G, Below.refl _ _⟩
  clear hC
  obtain ⟨Z1, hZ1⟩ : ∃ Z, Z = if C < 0 then 0 else C := ⟨_, rfl⟩
  obtain ⟨Z2, hZ2⟩ : ∃ Z, Z = decide (0 ≤ C) := ⟨_, rfl⟩
  rw [← hZ1, ← hZ2]
  have HZ := Lib.hid (And.intro hZ1 hZ2)
  clear hZ1 hZ2
  obtain ⟨p, cap, rfl, hle2, hcl⟩ := hF
  replace hcl := Lib.hid hcl
  replace hG := Lib.hid hG
  go_enter Tryz.func54, Tryz.ntmps54
  go_wp2_with fail
  go_loopw [4, 5, 15] (fun n c i wr => ∃ (k c1 : Nat) (n1 : Int), k ≤ G.length ∧ i = .int .i64 k ∧ c = .int .i64 c1 ∧ n = .int .i64 n1 ∧ c1 ≤ k * 1048577 ∧ Hid (LI C n1 c1 (lens (G.drop k)) ∧ Below w.heap.size w wr)) (fun _ _ i _ => G.length - (intOf i).toNat)
  case atStart => exact ⟨0, 0, 0, Nat.zero_le _, rfl, rfl, rfl, Nat.zero_le _, HI0⟩
  case round =>
    obtain ⟨k, c1, n1, hk, rfl, rfl, rfl, hc1, HI⟩ := hrel
    clear HI0
    by_cases hlt : k < G.length
    · obtain ⟨g, o, rfl, hgl, hcell⟩ := hcl.out (by omega)
      obtain ⟨s1, s2⟩ := hG.out k hlt
      have hki : (k : Int) < (G.length : Int) := by omega
      have HD := Lib.hid (lens_drop G k hlt)
      have HA := Lib.hid (fun w => palike_any (ofL G[k].1) ⟨#[67, 111, 110, 116, 101, 110, 116, 45, 76, 101, 110, 103, 116, 104]⟩ (by rw [ofL_size]; unfold maxLen; omega) w)
      rw [toL_ofL, show alike G[k].1 (toL ⟨#[67, 111, 110, 116, 101, 110, 116, 45, 76, 101, 110, 103, 116, 104]⟩) = hit CLEN G[k] from congrFun (hit_same low_l) G[k]] at HA
      obtain ⟨d1, d2⟩ := hcell k hlt
      replace d1 := (HI.out.2.cell (p := ⟨g, o + k * 2, none⟩) hgl).trans d1
      replace d2 := (HI.out.2.cell (p := ⟨g, o + k * 2 + 1, none⟩) hgl).trans d2
      have hb1 := (Below.refl wr.heap.size wr).alloc (Nat.le_refl _) (.cells (fc G[k]) 103)
      have B0 : FBox (wr.alloc (.cells (fc G[k]) 103)) wr.heap.size G[k] := ⟨Has.new wr _ _⟩
      have hsz : wr.heap.size < (wr.alloc (.cells (fc G[k]) 103)).heap.size := by simp
      unfold fc at hb1 B0 hsz
      have HB1 := Lib.hid (below_chain HI.out.2 hb1)
      obtain ⟨e1, e2⟩ := B0.cells
      replace B0 := Lib.hid B0
      clear hcell hgl hb1
      cases hh : hit CLEN G[k]
      · rw [hh] at HD HA
        clear hh
        go_wp2_with fail
        generalize wr.alloc (.cells #[.string (ofL G[k].1), .string (ofL G[k].2)] 103) = W1 at *
        refine (HA.out _).mono ?_
        rintro e w2 ⟨rfl, hb2⟩
        have HI2 : Hid (LI C n1 c1 (lens (G.drop (k + 1))) ∧ Below w.heap.size w w2) := Lib.hid ⟨by have := HI.out.1; rw [HD.out] at this; exact this, below_chain HB1.out hb2⟩
        clear hb2 HA HD HI d1 d2 e1 e2 B0 HB1
        go_wp2_with fail
        go_roundw
        case rel => exact ⟨k + 1, c1, n1, by omega, by go_num, rfl, rfl, more_le hc1, HI2⟩
        case measure => simp [intOf]; omega
      · rw [hh] at HD HA
        clear hh
        go_wp2_with fail
        generalize wr.alloc (.cells #[.string (ofL G[k].1), .string (ofL G[k].2)] 103) = W1 at *
        refine (HA.out _).mono ?_
        rintro e w2 ⟨rfl, hb2⟩
        have HI2 : Hid (LI C n1 c1 (left true (ofL G[k].2) ++ lens (G.drop (k + 1))) ∧ Below w.heap.size w w2) := Lib.hid ⟨by have := HI.out.1; rw [HD.out] at this; unfold left; rw [toL_ofL]; exact this, below_chain HB1.out hb2⟩
        have hB2 := B0.out.below hb2 hsz
        clear HA HD HI d1 d2 e1 e2 B0 HB1 hb2
        obtain ⟨e1, e2⟩ := hB2.cells
        clear hB2
        go_wp2_with fail
        obtain ⟨M, hM⟩ : ∃ M, M = (k + 1) * 1048577 := ⟨_, rfl⟩
        have hM2 : M ≤ 1099512676353 := by rw [hM]; exact Nat.le_trans (Nat.mul_le_mul_right _ (Nat.le_trans (Nat.succ_le_of_lt hlt) hle)) (by decide)
        have hM3 : c1 + room true (ofL G[k].2) ≤ M := by
          unfold room
          rw [hM, if_pos rfl, ofL_size, Nat.succ_mul]
          exact Nat.add_le_add hc1 (Nat.succ_le_succ s2)
        replace hM := Lib.hid hM
        clear e1 e2 hc1 s1 s2 hsz
        generalize ofL G[k].2 = V at *
        generalize hRest : lens (G.drop (k + 1)) = rest at *
        replace hRest := Lib.hid hRest
        go_loopw [8, 9, 4, 5] (fun r m n c w3 => ∃ (R : ByteArray) (b : Bool) (c3 : Nat) (n3 : Int), r = .string R ∧ m = .bool b ∧ c = .int .i64 c3 ∧ n = .int .i64 n3 ∧ c3 + room b R ≤ M ∧ Hid (LI C n3 c3 (left b R ++ rest) ∧ Below w.heap.size w w3)) (fun r m _ _ _ => match r, m with | .string R, .bool b => room b R | _, _ => 0)
        case atStart => exact ⟨V, true, c1, n1, rfl, rfl, rfl, rfl, hM3, HI2⟩
        case round =>
          obtain ⟨R, b, c3, n3, rfl, rfl, rfl, rfl, hc3, HI⟩ := hrel
          clear HI2 hM3
          cases b
          · have HI3 : Hid (LI C n3 c3 (lens (G.drop (k + 1))) ∧ Below w.heap.size w wr) := Lib.hid (by rw [hRest.out]; exact HI.out)
            have hc4 : c3 ≤ (k + 1) * 1048577 := by rw [← hM.out]; exact hc3
            replace hc4 := Lib.hid hc4
            clear HI hM hM2 hc3 hRest
            go_wp2_with fail
            go_roundw
            case rel => exact ⟨k + 1, c3, n3, by omega, by go_num, rfl, rfl, hc4.out, HI3⟩
            case measure => simp [intOf]; omega
          · have hsz : R.size + 1 + c3 ≤ M := by
              have : c3 + (R.size + 1) ≤ M := hc3
              omega
            have hrm := room_cut R
            have hal := ahead_le (toL R)
            rw [toL_length] at hal
            have HC := Lib.hid (fun w => full_cut 44 R (by omega) w)
            obtain ⟨A, hA⟩ : ∃ A, A = ofL (aheadOf 44 (toL R)) := ⟨_, rfl⟩
            have sA : A.size ≤ R.size := by rw [hA, ofL_size]; exact hal
            have tA : toL A = aheadOf 44 (toL R) := by rw [hA, toL_ofL]
            have HT := Lib.hid (fun w => ptrim_any A (by unfold maxLen; omega) w)
            obtain ⟨T, hT⟩ : ∃ T, T = ofL (trim (toL A)) := ⟨_, rfl⟩
            have sT : T.size ≤ A.size := by rw [hT, ofL_size, ← toL_length A]; exact trim_length _
            have tT : toL T = trim (aheadOf 44 (toL R)) := by rw [hT, toL_ofL, tA]
            have HD := Lib.hid (fun w => pdecimal_any T (by unfold maxLen; omega) 15 w)
            have hL := left_cut R
            rw [show min (15 : Int) 18 = 15 from rfl, tT] at HD
            rw [hL] at HI
            rw [← hA] at HC
            rw [← hT] at HT
            have hOk := Lib.hid (fun h1 h2 => LI.step HI.out.1 h1 h2)
            have hBad := Lib.hid (fun h1 => LI.bad HI.out.1 h1)
            have HBw := Lib.hid HI.out.2
            clear hL HI hal sA tA hA sT tT hT hc3
            generalize numR 10 15 (trim (aheadOf 44 (toL R))) = num at *
            generalize numOk 10 15 (trim (aheadOf 44 (toL R))) = okb at *
            generalize hasB 44 (toL R) = b2 at *
            generalize ofL (behind 44 (toL R)) = R2 at *
            have hc5 : (c3 : Int) ≤ 1099512676353 := by omega
            replace hsz := Lib.hid hsz
            replace hrm := Lib.hid hrm
            go_wp2_with fail
            refine (HC.out _).mono ?_
            rintro e w4 ⟨rfl, hb4⟩
            replace HBw := Lib.hid (below_chain HBw.out hb4)
            clear hb4 HC
            go_wp2_with fail
            refine (HT.out _).mono ?_
            rintro e w5 ⟨rfl, hb5⟩
            replace HBw := Lib.hid (below_chain HBw.out hb5)
            clear hb5 HT
            go_wp2_with fail
            refine (HD.out _).mono ?_
            rintro e w6 ⟨rfl, rfl⟩
            clear HD
            cases okb
            · have hV : Hid (Z1 = 0 ∧ Z2 = false) := Lib.hid (by rw [HZ.out.1, HZ.out.2, hBad.out (.inl rfl)]; exact ⟨rfl, rfl⟩)
              clear hOk hBad
              go_wp2_with fail
              go_ret2
              exact ⟨ret_lens hV.out.1.symm hV.out.2.symm, HBw.out⟩
            · by_cases h0 : c3 = 0
              · subst h0
                have HI2 : Hid (LI C num (0 + 1) (left b2 R2 ++ rest) ∧ Below w.heap.size w w5) := Lib.hid ⟨hOk.out rfl (.inl rfl), HBw.out⟩
                clear hOk hBad HBw
                go_wp2_with fail
                go_roundw
                case rel => exact ⟨R2, b2, 0 + 1, num, rfl, rfl, by go_num, rfl, by have := hrm.out; have := hsz.out; omega, HI2⟩
                case measure => exact Nat.lt_succ_of_le hrm.out
              · have h1 : (0 : Int) < (c3 : Int) := by omega
                by_cases h2 : num = n3
                · subst h2
                  have HI2 : Hid (LI C num (c3 + 1) (left b2 R2 ++ rest) ∧ Below w.heap.size w w5) := Lib.hid ⟨hOk.out rfl (.inr rfl), HBw.out⟩
                  clear hOk hBad HBw h0
                  go_wp2_with fail
                  go_roundw
                  case rel => exact ⟨R2, b2, c3 + 1, num, rfl, rfl, by go_num, rfl, by have := hrm.out; have := hsz.out; omega, HI2⟩
                  case measure => exact Nat.lt_succ_of_le hrm.out
                · have h3 : (num != n3) = true := bne_iff_ne.2 h2
                  have hV : Hid (Z1 = 0 ∧ Z2 = false) := Lib.hid (by rw [HZ.out.1, HZ.out.2, hBad.out (.inr ⟨by omega, h2⟩)]; exact ⟨rfl, rfl⟩)
                  clear hOk hBad h0 h2
                  go_wp2_with fail
                  go_ret2
                  exact ⟨ret_lens hV.out.1.symm hV.out.2.symm, HBw.out⟩
    · have hki : ¬ ((k : Int) < (G.length : Int)) := by omega
      have HI3 : Hid (LI C n1 c1 [] ∧ Below w.heap.size w wr) := Lib.hid (by
        have h := HI.out
        rw [List.drop_of_length_le (by omega)] at h
        exact h)
      have hd := HI3.out.1.done
      rw [← HZ.out.1, ← HZ.out.2] at hd
      replace hd := Lib.hid hd
      clear HI hcl hG hlt hc1
      go_wp2_with fail
      go_ret2
      exact ⟨ret_lens hd.out.1.symm hd.out.2.symm, HI3.out.2⟩
end Go.Proofs.YtggmafmebocoaaaGreatDoor.PFrLens

/- Layer 9 of the program: sized, bounded. -/
namespace Go.Proofs.YtggmafmebocoaaaGreatDoor.PFrSized
open Go.ChangeShapes Go.WideShapes Go.ChangeAt Go.RowKit LexPure Bytes Ret Rows1 Texts FieldsPure HeadPure FramePure FrNames Flds PFrLens HBox FrBox Held Mem
set_option maxRecDepth 20000
/-- by the lengths -/
def sized9 (G : List HField) : Int × Int × Int := if lenN G < 0 then (0, 0, 90) else (2, lenN G, 0)
def bound9 (G : List HField) (most : Int) : Int × Int × Int := if lenN G < 0 then (0, 0, 90) else if most < lenN G then (0, 0, 101) else (2, lenN G, 0)
theorem start9 (w : World) (h : H8) (v : Value) (hF : FL w v h.fields) : LB w ((w.alloc (.cells (hc h v) 37)).alloc (.cells (rc (0, 0)) 65)) w.heap.size h v ∧ RB w ((w.alloc (.cells (hc h v) 37)).alloc (.cells (rc (0, 0)) 65)) (w.heap.size + 1) (0, 0) := by
  refine ⟨(LB.new (Below.refl _ _) hF).alloc _, ?_⟩
  have := RB.new (w := w) (W := w.alloc (.cells (hc h v) 37)) (x := (0, 0)) ((Below.refl w.heap.size w).alloc (Nat.le_refl _) _)
  rwa [World.size_alloc] at this
set_option maxHeartbeats 1600000 in
theorem psized_any (h : H8) (v : Value) (hG : Few h.fields) (hle : h.fields.length ≤ 1048576) (w : World) (hF : FL w v h.fields) :
    Calls Tryz.prog 37 #[hv h v] w fun e w' => e = .returned (frv9 (sized9 h.fields)) ∧ Below w.heap.size w w' := by
  obtain ⟨L0, R0⟩ := start9 w h v hF
  have HR := Lib.hid (plens_any v h.fields hG hle _ L0.list)
  obtain ⟨X, hX⟩ : ∃ X, X = sized9 h.fields := ⟨_, rfl⟩
  rw [← hX]
  unfold sized9 at hX
  generalize lenN h.fields = n at *
  clear hF
  unfold hc rc at L0 R0 HR
  obtain ⟨d0, d1, d2, d3, d4, d5⟩ := L0.box.cells
  replace L0 := Lib.hid L0
  replace R0 := Lib.hid R0
  unfold hv
  by_cases hn : n < 0
  · replace hX := Lib.hid (show X = (0, 0, 90) by rw [hX, if_pos hn])
    rw [if_pos hn, decide_eq_false (by omega)] at HR
    clear hn
    go_enter Tryz.func37, Tryz.ntmps37
    go_wp2_with fail
    generalize (w.alloc (.cells #[.string (ofL h.method), .string (ofL h.target), .int .i64 h.status, .string (ofL h.reason), .int .i64 h.minor, v] 37)).alloc (.cells #[.int .i64 0, .int .i64 0] 65) = W at *
    refine HR.out.mono ?_
    rintro e w2 ⟨rfl, hb2⟩
    replace R0 := Lib.hid (R0.out.call hb2)
    clear hb2 HR L0 d0 d1 d2 d3 d4 d5
    obtain ⟨c0, c1⟩ := R0.out.box.cells
    obtain ⟨z0, z1⟩ := R0.out.box.frees
    have RE := Lib.hid (R0.out.put (0, 0))
    clear R0
    go_wp2_with fail
    refine bodyPost_ret (v := frv9 X) ?_ rfl ⟨rfl, RE.out.below⟩
    rw [results_cell_tmp rfl]
    exact end_rbox hX.out rfl rfl RE.out.box
  · replace hX := Lib.hid (show X = (2, n, 0) by rw [hX, if_neg hn])
    rw [if_neg hn, decide_eq_true (by omega)] at HR
    clear hn
    go_enter Tryz.func37, Tryz.ntmps37
    go_wp2_with fail
    generalize (w.alloc (.cells #[.string (ofL h.method), .string (ofL h.target), .int .i64 h.status, .string (ofL h.reason), .int .i64 h.minor, v] 37)).alloc (.cells #[.int .i64 0, .int .i64 0] 65) = W at *
    refine HR.out.mono ?_
    rintro e w2 ⟨rfl, hb2⟩
    replace R0 := Lib.hid (R0.out.call hb2)
    clear hb2 HR L0 d0 d1 d2 d3 d4 d5
    obtain ⟨c0, c1⟩ := R0.out.box.cells
    obtain ⟨z0, z1⟩ := R0.out.box.frees
    have RE := Lib.hid (R0.out.put (2, n))
    clear R0
    go_wp2_with fail
    refine bodyPost_ret (v := frv9 X) ?_ rfl ⟨rfl, RE.out.below⟩
    rw [results_cell_tmp rfl]
    exact end_rbox hX.out rfl rfl RE.out.box
end Go.Proofs.YtggmafmebocoaaaGreatDoor.PFrSized

/- Layer 9 of the program: Request. -/
namespace Go.Proofs.YtggmafmebocoaaaGreatDoor.PFrReq
open Go.ChangeShapes Go.WideShapes Go.ChangeAt Go.RowKit LexPure Bytes Ret Rows1 Texts FieldsPure HeadPure FramePure FrNames Flds PLib PFrCh PFrRef PFrHas PFrEnc PFrSized HBox FrBox Held Mem
set_option maxRecDepth 20000
theorem request_prog (minor : Int) (G : List HField) (most : Int) : request9 minor G most = if 0 < getN G TENC then enc9 minor G (refN (elems G TENC)) else if 0 < getN G CLEN then bound9 G most else (1, 0, 0) := by
  unfold request9 enc9 bound9 refN
  by_cases h1 : 0 < getN G TENC
  · rw [if_pos h1, if_pos h1]
    by_cases h2 : minor = 0 ∨ 0 < getN G CLEN
    · rw [if_pos h2, if_pos (by rcases h2 with h | h; exact .inl h; exact .inr (.inl h))]
    · rw [if_neg h2]
      rcases code_three (elems G TENC) with h | h | h
      · rw [if_neg (by rw [h]; rintro (a | a | a); exact h2 (.inl a); exact h2 (.inr a); cases a), if_pos h, if_neg (by rw [h]; decide)]
      · rw [if_neg (by rw [h]; rintro (a | a | a); exact h2 (.inl a); exact h2 (.inr a); cases a), if_pos h, if_neg (by rw [h]; decide), if_pos h]
      · rw [if_pos (.inr (.inr h)), if_neg (by rw [h]; decide), if_neg (by rw [h]; decide)]
  · rw [if_neg h1, if_neg h1]
    by_cases h2 : getN G CLEN = 0
    · rw [if_pos h2, if_neg (by omega)]
    · rw [if_neg h2, if_pos (Nat.pos_of_ne_zero h2)]
/-- a call of this layer: its head, its answer's box, MaxLen's cell -/
structure PQ (w W : World) (h : H8) (v : Value) (x : Int × Int) : Prop where
  lb : LB w W w.heap.size h v
  rb : RB w W (w.heap.size + 1) x
  mi : MaxInt W
theorem PQ.call {w W W' : World} {h : H8} {v : Value} {x : Int × Int} (q : PQ w W h v x) (hb : Below W.heap.size W W') : PQ w W' h v x := ⟨q.lb.call hb, q.rb.call hb, q.mi.below hb⟩
theorem PQ.drew {w W : World} {h : H8} {v : Value} {x : Int × Int} (q : PQ w W h v x) : PQ w W.drew h v x := q.call ⟨rfl, rfl, rfl, Nat.le_refl _, fun _ _ => rfl⟩
theorem PQ.after {w W : World} {h : H8} {v : Value} {x : Int × Int} (q : PQ w W h v x) (y : Int × Int) : HBox (rput W (w.heap.size + 1) y) w.heap.size h v :=
  (q.lb.box.far (p := ⟨w.heap.size + 1, 0, none⟩) (by simp) _).far (p := ⟨w.heap.size + 1, 1, none⟩) (by simp) _
end Go.Proofs.YtggmafmebocoaaaGreatDoor.PFrReq

/- Layer 9 of the program: Response. -/
namespace Go.Proofs.YtggmafmebocoaaaGreatDoor.PFrResp
open Go.ChangeShapes Go.WideShapes Go.ChangeAt Go.RowKit LexPure Bytes Ret Rows1 Texts FieldsPure HeadPure FramePure FrNames Flds PLib PFrCh PFrHas PFrEnc PFrSized PFrReq HBox FrBox Held Mem
set_option maxRecDepth 20000
theorem box9 (w : World) (h : H8) (v : Value) (x : Int × Int) : RB w ((w.alloc (.cells (hc h v) 37)).alloc (.cells (rc x) 65)) (w.heap.size + 1) x := by
  have := RB.new (w := w) (W := w.alloc (.cells (hc h v) 37)) (x := x) ((Below.refl w.heap.size w).alloc (Nat.le_refl _) _)
  rwa [World.size_alloc] at this
theorem text_at (m : ByteArray) (l : List UInt8) : (m.toList == l) = decide (toL m = l) := by
  rw [ByteArray.toList_eq, show m.data.toList = toL m from rfl]
  by_cases h : toL m = l
  · rw [decide_eq_true h, h]; exact beq_self_eq_true _
  · rw [decide_eq_false h]; exact beq_eq_false_iff_ne.2 h
def CON : List UInt8 := [67, 79, 78, 78, 69, 67, 84]
def HEA : List UInt8 := [72, 69, 65, 68]
/-- how the tests come out that look at no field -/
structure Way9 (m : ByteArray) (st : Int) (e1 d1 e2 e3 con d2 hd : Bool) : Prop where
  a1 : (st == 101) = e1
  a2 : (wrap64 (st.tdiv 100) == 1) = d1
  a3 : (st == 204) = e2
  a4 : (st == 304) = e3
  a5 : (m.toList == CON) = con
  a6 : (wrap64 (st.tdiv 100) == 2) = d2
  a7 : (m.toList == HEA) = hd
def early (e1 d1 e2 e3 con d2 hd : Bool) : Option (Int × Int × Int) :=
  if e1 then some (5, 0, 0) else if d1 || e2 || e3 then some (1, 0, 0) else if con && d2 then some (5, 0, 0) else if hd then some (1, 0, 0) else none
theorem tdiv_at (st : Int) : (0 ≤ st → st.tdiv 100 = st / 100) ∧ (st < 0 → st.tdiv 100 = -((-st) / 100)) := by
  refine ⟨fun h => Int.tdiv_eq_ediv_of_nonneg h, fun h => ?_⟩
  rw [← Int.tdiv_eq_ediv_of_nonneg (by omega), Int.neg_tdiv, Int.neg_neg]
theorem tdiv_one (st : Int) : st.tdiv 100 = 1 ↔ 100 ≤ st ∧ st < 200 := by
  obtain ⟨h1, h2⟩ := tdiv_at st
  rcases Int.lt_or_le st 0 with h | h
  · rw [h2 h]; omega
  · rw [h1 h]; omega
theorem tdiv_two (st : Int) : st.tdiv 100 = 2 ↔ 200 ≤ st ∧ st < 300 := by
  obtain ⟨h1, h2⟩ := tdiv_at st
  rcases Int.lt_or_le st 0 with h | h
  · rw [h2 h]; omega
  · rw [h1 h]; omega
theorem wrap_div (st : Int) (h : (Lit.int .i64 st).wf = true) : wrap64 (st.tdiv 100) = st.tdiv 100 := by
  have h2 : -9223372036854775808 ≤ st ∧ st ≤ 9223372036854775807 := by
    have this : (decide (IntKind.i64.min ≤ st) && decide (st ≤ IntKind.i64.max)) = true := h
    rw [show IntKind.i64.min = -9223372036854775808 from rfl, show IntKind.i64.max = 9223372036854775807 from rfl, Bool.and_eq_true, decide_eq_true_eq, decide_eq_true_eq] at this
    exact this
  obtain ⟨t1, t2⟩ := tdiv_at st
  unfold wrap64
  rcases Int.lt_or_le st 0 with q | q
  · rw [t2 q]; omega
  · rw [t1 q]; omega
theorem resp_prog (m : ByteArray) (st minor : Int) (G : List HField) (hst : (Lit.int .i64 st).wf = true) {e1 d1 e2 e3 con d2 hd : Bool} (hw : Way9 m st e1 d1 e2 e3 con d2 hd) :
    response9 (toL m) st minor G = match early e1 d1 e2 e3 con d2 hd with
      | some x => x
      | none => if 0 < getN G TENC then enc9 minor G 91 else if 0 < getN G CLEN then sized9 G else (4, 0, 0) := by
  obtain ⟨a1, a2, a3, a4, a5, a6, a7⟩ := hw
  rw [wrap_div st hst] at a2 a6
  rw [text_at] at a5 a7
  unfold response9 early
  by_cases h1 : st = 101
  · rw [if_pos h1, ← a1, h1]
    rfl
  have b1 : e1 = false := by rw [← a1]; exact beq_eq_false_iff_ne.2 h1
  subst b1
  rw [if_neg h1]
  by_cases h2 : (100 ≤ st ∧ st < 200) ∨ st = 204 ∨ st = 304
  · rw [if_pos h2]
    have : (d1 || e2 || e3) = true := by
      rcases h2 with h | h | h
      · rw [← a2, (tdiv_one st).2 h]; rfl
      · rw [← a3, h]; simp
      · rw [← a4, h]; simp
    rw [this]
    rfl
  rw [if_neg h2]
  have b2 : (d1 || e2 || e3) = false := by
    have c1 : d1 = false := by rw [← a2]; exact beq_eq_false_iff_ne.2 (fun h => h2 (.inl ((tdiv_one st).1 h)))
    have c2 : e2 = false := by rw [← a3]; exact beq_eq_false_iff_ne.2 (fun h => h2 (.inr (.inl h)))
    have c3 : e3 = false := by rw [← a4]; exact beq_eq_false_iff_ne.2 (fun h => h2 (.inr (.inr h)))
    rw [c1, c2, c3]
    rfl
  rw [b2]
  by_cases h3 : toL m = [67, 79, 78, 78, 69, 67, 84] ∧ 200 ≤ st ∧ st < 300
  · rw [if_pos h3]
    have : (con && d2) = true := by
      rw [← a5, ← a6, (tdiv_two st).2 h3.2, decide_eq_true (show toL m = CON from h3.1)]
      rfl
    rw [this]
    rfl
  rw [if_neg h3]
  have b3 : (con && d2) = false := by
    rw [← a5, ← a6]
    by_cases q : toL m = CON
    · rw [decide_eq_true q, Bool.true_and]
      exact beq_eq_false_iff_ne.2 (fun h => h3 ⟨q, (tdiv_two st).1 h⟩)
    · rw [decide_eq_false q]
      rfl
  rw [b3]
  by_cases h4 : toL m = [72, 69, 65, 68]
  · rw [if_pos h4]
    have : hd = true := by rw [← a7]; exact decide_eq_true h4
    rw [this]
    rfl
  rw [if_neg h4]
  have b4 : hd = false := by rw [← a7]; exact decide_eq_false h4
  rw [b4]
  unfold enc9 sized9
  simp only [Bool.false_eq_true, if_false]
  by_cases h5 : 0 < getN G TENC
  · rw [if_pos h5, if_pos h5]
  · rw [if_neg h5, if_neg h5]
    by_cases h6 : getN G CLEN = 0
    · rw [if_pos h6, if_neg (Nat.not_lt.2 (Nat.le_of_eq h6))]
    · rw [if_neg h6, if_pos (Nat.pos_of_ne_zero h6)]
/-- the tests that come out early, one by one -/
theorem early_cases {e1 d1 e2 e3 con d2 hd : Bool} {X : Int × Int × Int} (h : early e1 d1 e2 e3 con d2 hd = some X) (hx : con = true → hd = false) :
    (e1 = true ∧ X = (5, 0, 0)) ∨ (e1 = false ∧ d1 = true ∧ X = (1, 0, 0)) ∨ (e1 = false ∧ d1 = false ∧ e2 = true ∧ X = (1, 0, 0)) ∨ (e1 = false ∧ d1 = false ∧ e2 = false ∧ e3 = true ∧ X = (1, 0, 0)) ∨
      (e1 = false ∧ d1 = false ∧ e2 = false ∧ e3 = false ∧ con = true ∧ d2 = true ∧ X = (5, 0, 0)) ∨ (e1 = false ∧ d1 = false ∧ e2 = false ∧ e3 = false ∧ con = false ∧ hd = true ∧ X = (1, 0, 0)) := by
  unfold early at h
  cases e1 <;> cases d1 <;> cases e2 <;> cases e3 <;> cases con <;> cases d2 <;> cases hd <;> simp_all
theorem late_cases {e1 d1 e2 e3 con d2 hd : Bool} (h : early e1 d1 e2 e3 con d2 hd = none) : e1 = false ∧ d1 = false ∧ e2 = false ∧ e3 = false ∧ hd = false ∧ (con = false ∨ (con = true ∧ d2 = false)) := by
  unfold early at h
  cases e1 <;> cases d1 <;> cases e2 <;> cases e3 <;> cases con <;> cases d2 <;> cases hd <;> simp_all
theorem con_head {m : ByteArray} {st : Int} {e1 d1 e2 e3 con d2 hd : Bool} (hw : Way9 m st e1 d1 e2 e3 con d2 hd) : con = true → hd = false := by
  intro h
  have a5 := hw.a5
  have a7 := hw.a7
  rw [text_at] at a5 a7
  rw [h] at a5
  rw [← a7, of_decide_eq_true a5]
  decide
set_option maxHeartbeats 1600000 in
theorem presp_early (m : ByteArray) (h : H8) (v : Value) {e1 d1 e2 e3 con d2 hd : Bool} (hw : Way9 m h.status e1 d1 e2 e3 con d2 hd) (X : Int × Int × Int) (hX : early e1 d1 e2 e3 con d2 hd = some X) (w : World) :
    Calls Tryz.prog 28 #[.string m, hv h v] w fun e w' => e = .returned (frv9 X) ∧ Below w.heap.size w w' := by
  have hc := early_cases hX (con_head hw)
  obtain ⟨a1, a2, a3, a4, a5, a6, a7⟩ := hw
  unfold CON at a5
  unfold HEA at a7
  have R1 := Lib.hid (box9 w h v (1, 0))
  have R5 := Lib.hid (box9 w h v (5, 0))
  unfold HBox.hc rc at R1 R5
  unfold hv
  clear hX
  rcases hc with ⟨rfl, hV⟩ | ⟨rfl, rfl, hV⟩ | ⟨rfl, rfl, rfl, hV⟩ | ⟨rfl, rfl, rfl, rfl, hV⟩ | ⟨rfl, rfl, rfl, rfl, rfl, rfl, hV⟩ | ⟨rfl, rfl, rfl, rfl, rfl, rfl, hV⟩
  · replace hV := Lib.hid hV
    clear a2 a3 a4 a5 a6 a7
    go_enter Tryz.func28, Tryz.ntmps28
    go_wp2_with fail
    refine bodyPost_ret (v := frv9 X) ?_ rfl ⟨rfl, R5.out.below⟩
    rw [results_cell_tmp rfl]
    exact end_rbox hV.out rfl rfl R5.out.box
  · replace hV := Lib.hid hV
    clear a3 a4 a5 a6 a7
    go_enter Tryz.func28, Tryz.ntmps28
    go_wp2_with fail
    refine bodyPost_ret (v := frv9 X) ?_ rfl ⟨rfl, R1.out.below⟩
    rw [results_cell_tmp rfl]
    exact end_rbox hV.out rfl rfl R1.out.box
  · replace hV := Lib.hid hV
    clear a4 a5 a6 a7
    go_enter Tryz.func28, Tryz.ntmps28
    go_wp2_with fail
    refine bodyPost_ret (v := frv9 X) ?_ rfl ⟨rfl, R1.out.below⟩
    rw [results_cell_tmp rfl]
    exact end_rbox hV.out rfl rfl R1.out.box
  · replace hV := Lib.hid hV
    clear a5 a6 a7
    go_enter Tryz.func28, Tryz.ntmps28
    go_wp2_with fail
    refine bodyPost_ret (v := frv9 X) ?_ rfl ⟨rfl, R1.out.below⟩
    rw [results_cell_tmp rfl]
    exact end_rbox hV.out rfl rfl R1.out.box
  · replace hV := Lib.hid hV
    clear a7
    go_enter Tryz.func28, Tryz.ntmps28
    go_wp2_with fail
    refine bodyPost_ret (v := frv9 X) ?_ rfl ⟨rfl, R5.out.below⟩
    rw [results_cell_tmp rfl]
    exact end_rbox hV.out rfl rfl R5.out.box
  · replace hV := Lib.hid hV
    clear a6
    go_enter Tryz.func28, Tryz.ntmps28
    go_wp2_with fail
    refine bodyPost_ret (v := frv9 X) ?_ rfl ⟨rfl, R1.out.below⟩
    rw [results_cell_tmp rfl]
    exact end_rbox hV.out rfl rfl R1.out.box
set_option maxHeartbeats 3200000 in
theorem presp_late (m : ByteArray) (h : H8) (v : Value) {e1 d1 e2 e3 con d2 hd : Bool} (hw : Way9 m h.status e1 d1 e2 e3 con d2 hd) (hX0 : early e1 d1 e2 e3 con d2 hd = none) (hG : Few h.fields) (hle : h.fields.length ≤ 1048576) (w : World) (hF : FL w v h.fields) (hm : MaxInt w) :
    Calls Tryz.prog 28 #[.string m, hv h v] w fun e w' => e = .returned (frv9 (if 0 < getN h.fields TENC then enc9 h.minor h.fields 91 else if 0 < getN h.fields CLEN then sized9 h.fields else (4, 0, 0))) ∧ Below w.heap.size w w' := by
  have hc := late_cases hX0
  obtain ⟨a1, a2, a3, a4, a5, a6, a7⟩ := hw
  unfold CON at a5
  unfold HEA at a7
  obtain ⟨L0, R0⟩ := start9 w h v hF
  have P0 : PQ w ((w.alloc (.cells (HBox.hc h v) 37)).alloc (.cells (rc (0, 0)) 65)) h v (0, 0) := ⟨L0, R0, hm.below L0.below⟩
  have HT := Lib.hid (pfrhas_any h v ⟨#[84, 114, 97, 110, 115, 102, 101, 114, 45, 69, 110, 99, 111, 100, 105, 110, 103]⟩ hG _ L0.list)
  rw [show toL ⟨#[84, 114, 97, 110, 115, 102, 101, 114, 45, 69, 110, 99, 111, 100, 105, 110, 103]⟩ = aTENC from rfl, getN_same low_t] at HT
  have HC := Lib.hid (fun w hF => pfrhas_any h v ⟨#[67, 111, 110, 116, 101, 110, 116, 45, 76, 101, 110, 103, 116, 104]⟩ hG w hF)
  rw [show toL ⟨#[67, 111, 110, 116, 101, 110, 116, 45, 76, 101, 110, 103, 116, 104]⟩ = aCLEN from rfl, getN_same low_l] at HC
  have HE := Lib.hid (fun w hF hm => penc_any h v 91 hG hle w hF hm)
  have HB := Lib.hid (fun w hF => psized_any h v hG hle w hF)
  obtain ⟨X, hX⟩ : ∃ X, X = (if 0 < getN h.fields TENC then enc9 h.minor h.fields 91 else if 0 < getN h.fields CLEN then sized9 h.fields else (4, 0, 0)) := ⟨_, rfl⟩
  rw [← hX]
  generalize sized9 h.fields = xb at *
  generalize enc9 h.minor h.fields 91 = xe at *
  generalize getN h.fields TENC = k1 at *
  generalize getN h.fields CLEN = k2 at *
  clear hF hm hX0 L0 R0
  unfold HBox.hc rc at P0 HT
  unfold hv at HT HC HE HB ⊢
  unfold frv9 at HE HB
  obtain ⟨d0, d1', d2', d3, d4, d5⟩ := P0.lb.box.cells
  obtain ⟨rfl, rfl, rfl, rfl, rfl, hcon⟩ := hc
  rcases hcon with rfl | ⟨rfl, rfl⟩
  · clear a6
    go_enter Tryz.func28, Tryz.ntmps28
    go_wp2_with fail
    generalize (w.alloc (.cells #[.string (ofL h.method), .string (ofL h.target), .int .i64 h.status, .string (ofL h.reason), .int .i64 h.minor, v] 37)).alloc (.cells #[.int .i64 0, .int .i64 0] 65) = W at *
    refine HT.out.mono ?_
    rintro e w2 ⟨rfl, hb2⟩
    have P2 := P0.call hb2
    clear HT hb2 d0 d1' d2' d3 d4 d5 P0 a1 a2 a3 a4 a5 a7
    obtain ⟨d0, d1', d2', d3, d4, d5⟩ := P2.lb.box.cells
    replace P2 := Lib.hid P2
    by_cases h1 : 0 < k1
    · have HX : X = (xe.1, xe.2.1, xe.2.2) := by rw [hX, if_pos h1]
      replace HX := Lib.hid HX
      rw [decide_eq_true h1]
      have HE1 := Lib.hid (HE.out _ P2.out.lb.list P2.out.mi)
      clear h1 hX HE HB HC
      go_wp2_with fail
      refine HE1.out.mono ?_
      rintro e w4 ⟨rfl, hb4⟩
      replace P2 := Lib.hid (P2.out.call hb4)
      clear HE1 hb4 d0 d1' d2' d3 d4 d5
      obtain ⟨c0, c1⟩ := P2.out.rb.box.cells
      obtain ⟨z0, z1⟩ := P2.out.rb.box.frees
      have RE := Lib.hid (P2.out.rb.put (xe.1, xe.2.1))
      clear P2
      go_wp2_with fail
      refine bodyPost_ret (v := frv9 X) ?_ rfl ⟨rfl, RE.out.below⟩
      rw [results_cell_tmp rfl]
      exact end_rbox HX.out rfl rfl RE.out.box
    · rw [if_neg h1] at hX
      rw [decide_eq_false h1]
      have HC1 := Lib.hid (HC.out _ P2.out.lb.list)
      clear h1 HE HC
      go_wp2_with fail
      refine HC1.out.mono ?_
      rintro e w3 ⟨rfl, hb3⟩
      replace P2 := Lib.hid (P2.out.call hb3)
      clear HC1 hb3 d0 d1' d2' d3 d4 d5
      obtain ⟨d0, d1', d2', d3, d4, d5⟩ := P2.out.lb.box.cells
      by_cases h2 : 0 < k2
      · have HX : X = (xb.1, xb.2.1, xb.2.2) := by rw [hX, if_pos h2]
        replace HX := Lib.hid HX
        rw [decide_eq_true h2]
        have HB1 := Lib.hid (HB.out _ P2.out.lb.list)
        clear h2 hX HB
        go_wp2_with fail
        refine HB1.out.mono ?_
        rintro e w4 ⟨rfl, hb4⟩
        replace P2 := Lib.hid (P2.out.call hb4)
        clear HB1 hb4 d0 d1' d2' d3 d4 d5
        obtain ⟨c0, c1⟩ := P2.out.rb.box.cells
        obtain ⟨z0, z1⟩ := P2.out.rb.box.frees
        have RE := Lib.hid (P2.out.rb.put (xb.1, xb.2.1))
        clear P2
        go_wp2_with fail
        refine bodyPost_ret (v := frv9 X) ?_ rfl ⟨rfl, RE.out.below⟩
        rw [results_cell_tmp rfl]
        exact end_rbox HX.out rfl rfl RE.out.box
      · have HX : X = (4, 0, 0) := by rw [hX, if_neg h2]
        replace HX := Lib.hid HX
        rw [decide_eq_false h2]
        clear h2 hX HB d0 d1' d2' d3 d4 d5
        obtain ⟨c0, c1⟩ := P2.out.rb.box.cells
        obtain ⟨z0, z1⟩ := P2.out.rb.box.frees
        have RE := Lib.hid (P2.out.rb.put (4, 0))
        clear P2
        go_wp2_with fail
        refine bodyPost_ret (v := frv9 X) ?_ rfl ⟨rfl, RE.out.below⟩
        rw [results_cell_tmp rfl]
        exact end_rbox HX.out rfl rfl RE.out.box
  · go_enter Tryz.func28, Tryz.ntmps28
    go_wp2_with fail
    generalize (w.alloc (.cells #[.string (ofL h.method), .string (ofL h.target), .int .i64 h.status, .string (ofL h.reason), .int .i64 h.minor, v] 37)).alloc (.cells #[.int .i64 0, .int .i64 0] 65) = W at *
    refine HT.out.mono ?_
    rintro e w2 ⟨rfl, hb2⟩
    have P2 := P0.call hb2
    clear HT hb2 d0 d1' d2' d3 d4 d5 P0 a1 a2 a3 a4 a5 a6 a7
    obtain ⟨d0, d1', d2', d3, d4, d5⟩ := P2.lb.box.cells
    replace P2 := Lib.hid P2
    by_cases h1 : 0 < k1
    · have HX : X = (xe.1, xe.2.1, xe.2.2) := by rw [hX, if_pos h1]
      replace HX := Lib.hid HX
      rw [decide_eq_true h1]
      have HE1 := Lib.hid (HE.out _ P2.out.lb.list P2.out.mi)
      clear h1 hX HE HB HC
      go_wp2_with fail
      refine HE1.out.mono ?_
      rintro e w4 ⟨rfl, hb4⟩
      replace P2 := Lib.hid (P2.out.call hb4)
      clear HE1 hb4 d0 d1' d2' d3 d4 d5
      obtain ⟨c0, c1⟩ := P2.out.rb.box.cells
      obtain ⟨z0, z1⟩ := P2.out.rb.box.frees
      have RE := Lib.hid (P2.out.rb.put (xe.1, xe.2.1))
      clear P2
      go_wp2_with fail
      refine bodyPost_ret (v := frv9 X) ?_ rfl ⟨rfl, RE.out.below⟩
      rw [results_cell_tmp rfl]
      exact end_rbox HX.out rfl rfl RE.out.box
    · rw [if_neg h1] at hX
      rw [decide_eq_false h1]
      have HC1 := Lib.hid (HC.out _ P2.out.lb.list)
      clear h1 HE HC
      go_wp2_with fail
      refine HC1.out.mono ?_
      rintro e w3 ⟨rfl, hb3⟩
      replace P2 := Lib.hid (P2.out.call hb3)
      clear HC1 hb3 d0 d1' d2' d3 d4 d5
      obtain ⟨d0, d1', d2', d3, d4, d5⟩ := P2.out.lb.box.cells
      by_cases h2 : 0 < k2
      · have HX : X = (xb.1, xb.2.1, xb.2.2) := by rw [hX, if_pos h2]
        replace HX := Lib.hid HX
        rw [decide_eq_true h2]
        have HB1 := Lib.hid (HB.out _ P2.out.lb.list)
        clear h2 hX HB
        go_wp2_with fail
        refine HB1.out.mono ?_
        rintro e w4 ⟨rfl, hb4⟩
        replace P2 := Lib.hid (P2.out.call hb4)
        clear HB1 hb4 d0 d1' d2' d3 d4 d5
        obtain ⟨c0, c1⟩ := P2.out.rb.box.cells
        obtain ⟨z0, z1⟩ := P2.out.rb.box.frees
        have RE := Lib.hid (P2.out.rb.put (xb.1, xb.2.1))
        clear P2
        go_wp2_with fail
        refine bodyPost_ret (v := frv9 X) ?_ rfl ⟨rfl, RE.out.below⟩
        rw [results_cell_tmp rfl]
        exact end_rbox HX.out rfl rfl RE.out.box
      · have HX : X = (4, 0, 0) := by rw [hX, if_neg h2]
        replace HX := Lib.hid HX
        rw [decide_eq_false h2]
        clear h2 hX HB d0 d1' d2' d3 d4 d5
        obtain ⟨c0, c1⟩ := P2.out.rb.box.cells
        obtain ⟨z0, z1⟩ := P2.out.rb.box.frees
        have RE := Lib.hid (P2.out.rb.put (4, 0))
        clear P2
        go_wp2_with fail
        refine bodyPost_ret (v := frv9 X) ?_ rfl ⟨rfl, RE.out.below⟩
        rw [results_cell_tmp rfl]
        exact end_rbox HX.out rfl rfl RE.out.box
end Go.Proofs.YtggmafmebocoaaaGreatDoor.PFrResp

/- Layer 12 of the program: finish, tellBody, isInterim, and the steps that tell an end, nothing, an error. -/
namespace Go.Proofs.YtggmafmebocoaaaGreatDoor.POutEnds
open Go.ChangeShapes Go.WideShapes Go.ChangeAt Go.RowKit LexPure Bytes Ret FieldsPure HeadPure HBox OutPure OutBox KeptRow Mem Step InEmb OutObj POutText
set_option maxRecDepth 100000
set_option linter.unusedVariables false
set_option linter.unusedSimpArgs false
abbrev nilV : Value := .slice none 0 0
abbrev zbox : Array Value := #[.int .i64 0, .string ⟨#[]⟩, .string ⟨#[]⟩, .int .i64 0, .string ⟨#[]⟩, .int .i64 0, .slice none 0 0, .string ⟨#[]⟩]
/-- behind the making of the result's box -/
theorem boxed {w : World} {R : Nat → Prop} {g : Nat} {r : Raw} {l : List UInt8} (h : Dat w R g r l) :
    Dat (w.alloc (.cells zbox PT)) R g r l ∧ PBox (w.alloc (.cells zbox PT)) w.heap.size 0 zero8 nilV [] ∧ Step w (w.alloc (.cells zbox PT)) R R ∧ ¬ g = w.heap.size ∧ ¬ w.heap.size = g ∧ ∀ k, R k → ¬ k = w.heap.size := by
  have hlt := h.lt g h.mine
  exact ⟨h.step (Step.alloc w _ (fun _ => False)) (fun _ _ h => h), PBox.start w, Step.alloc w _ R, by omega, by omega, fun k hk => by have := h.lt k hk; omega⟩
/-- a piece stored into the box -/
theorem stored {w W : World} {R : Nat → Prop} {g b : Nat} {r : Raw} {l : List UInt8} {k0 : Int} {h0 : H8} {v0 : Value} {d0 : List UInt8} (hD : Dat W R g r l) (hP : PBox W b k0 h0 v0 d0) (hS : Step w W R R) (hb : b = w.heap.size) (hR : ∀ k, R k → ¬ k = w.heap.size) (k : Int) (h : H8) (v : Value) (d : List UInt8) :
    PBox (pput W b k h v d) b k h v d ∧ Dat (pput W b k h v d) R g r l ∧ Step w (pput W b k h v d) R R :=
  ⟨hP.put k h v d, hD.step (pput_step W b k h v d) (fun j hj e => hR j hj (e.trans hb)), hS.beyond (pput_step W b k h v d) (fun j hj => by rw [hj, hb]; exact Nat.le_refl _)⟩
abbrev zp (k : Int) : Array Value := #[.int .i64 k, .string ⟨#[]⟩, .string ⟨#[]⟩, .int .i64 0, .string ⟨#[]⟩, .int .i64 0, .slice none 0 0, .string ⟨#[]⟩]
theorem PBox.at_ {W : World} {b : Nat} (hb : W.heap.size = b) (k : Int) (h : H8) (l : Value) (d : List UInt8) : PBox (W.alloc (.cells (pca k h l d) PT)) b k h l d := by
  subst hb
  exact ⟨Has.new W _ _⟩
/-- a call's box beside the reader; of the blocks that were there those of H have turned -/
structure Stood (w w1 : World) (H H' R : Nat → Prop) (g : Nat) (r : Raw) (l : List UInt8) : Prop where
  dat : Dat w1 R g r l
  box : PBox w1 w.heap.size 0 zero8 nilV []
  step : Step w w1 H H'
  far : ∀ k, R k → ¬ k = w.heap.size
theorem stepped {w W w1 : World} {R : Nat → Prop} {g : Nat} {r : Raw} {l : List UInt8} (P0 : PBox W w.heap.size 0 zero8 nilV []) (hD : Dat w1 R g r l) (S0 : Step w W R R) (hS : Step W w1 R R) (hR : ∀ k, R k → ¬ k = w.heap.size) : Stood w w1 R R R g r l :=
  ⟨hD, P0.step hS (fun x => hR _ x rfl), S0.trans hS, hR⟩
section
variable {w w1 w2 : World} {H H' R : Nat → Prop} {g : Nat} {r r' : Raw} {l l' : List UInt8}
theorem Stood.put (h : Stood w w1 H H' R g r l) (k : Int) (hd : H8) (v : Value) (d : List UInt8) :
    PBox (pput w1 w.heap.size k hd v d) w.heap.size k hd v d ∧ Dat (pput w1 w.heap.size k hd v d) R g r l ∧ Step w (pput w1 w.heap.size k hd v d) H H' :=
  ⟨h.box.put k hd v d, h.dat.step (pput_step w1 w.heap.size k hd v d) (fun j hj e => h.far j hj e), h.step.beyond (pput_step w1 w.heap.size k hd v d) (fun j hj => by rw [hj]; exact Nat.le_refl _)⟩
/-- a call that leaves all as it is -/
theorem Stood.call (h : Stood w w1 H H' R g r l) (hb : Below w1.heap.size w1 w2) : Stood w w2 H H' R g r l :=
  ⟨h.dat.below hb, h.box.step (Step.of_below hb (fun _ => False)) (fun x => x), h.step.trans (Step.of_below hb H'), h.far⟩
/-- a call that turns the reader -/
theorem Stood.turn (h : Stood w w1 H H' R g r l) (hD : Dat w2 R g r' l') (hS : Step w1 w2 R R) (hRH : ∀ k, R k → H' k) : Stood w w2 H H' R g r' l' :=
  ⟨hD, h.box.step hS (fun x => h.far _ x rfl), h.step.trans (hS.up hRH), h.far⟩
/-- a cell of the reader -/
theorem Stood.cell (h : Stood w w1 H H' R g r l) (i : Nat) (u : Value) (hD : Dat (w1.setCell ⟨g, i, none⟩ u) R g r' l) (hRH : ∀ k, R k → H' k) : Stood w (w1.setCell ⟨g, i, none⟩ u) H H' R g r' l :=
  h.turn hD (h.dat.step_put i u) hRH
theorem Stood.start (h : Dat w R g r l) (hRH : ∀ k, R k → H k) : Stood w (w.alloc (.cells zbox PT)) H H R g r l := by
  obtain ⟨D0, P0, S0, _, _, hR⟩ := boxed h
  exact ⟨D0, P0, S0.up hRH, hR⟩
end
set_option maxHeartbeats 1600000 in
theorem pfinish {w : World} {R : Nat → Prop} {g : Nat} {r : Raw} {l : List UInt8} (h : Dat w R g r l) (u : Int) :
    Calls Tryz.prog 56 #[.pointer (some ⟨g, 0, none⟩), .int .i64 u] w fun e w' => e = .returned (.tuple #[.agg (pca 3 zero8 nilV []), .int .i64 u, .int .i64 0]) ∧ Dat w' R g { r with done := true, fn := 70 } l ∧ Step w w' R R := by
  have hgl : g < w.heap.size := h.lt g h.mine
  have n1 : ¬ g = w.heap.size := by omega
  obtain ⟨_, _, _, c5, _, _, _, _, c10, _⟩ := h.cells
  have z5 := h.free 5
  have z10 := h.free 10
  have HD : Hid (Dat (((w.setCell ⟨g, 10, none⟩ (.bool true)).setCell ⟨g, 5, none⟩ (.func (.func 70) #[] #[])).alloc (.cells (zp 3) PT)) R g { r with done := true, fn := 70 } l ∧
      Step w (((w.setCell ⟨g, 10, none⟩ (.bool true)).setCell ⟨g, 5, none⟩ (.func (.func 70) #[] #[])).alloc (.cells (zp 3) PT)) R R) := Lib.hid (by
    have D1 := h.put10 true
    have D2 := D1.put5 70
    exact ⟨D2.step (Step.alloc _ _ (fun _ => False)) (fun _ _ h => h), ((h.step_put 10 _).trans (D1.step_put 5 _)).trans (Step.alloc _ _ R)⟩)
  have HP : Hid (PBox (((w.setCell ⟨g, 10, none⟩ (.bool true)).setCell ⟨g, 5, none⟩ (.func (.func 70) #[] #[])).alloc (.cells (zp 3) PT)) w.heap.size 3 zero8 nilV []) := Lib.hid (PBox.at_ (by simp [World.setCell]) 3 zero8 nilV [])
  clear h
  go_enter Tryz.func56, Tryz.ntmps56
  go_wp2_with fail
  refine bodyPost_ret (v := .tuple #[.agg (pca 3 zero8 nilV []), .int .i64 u, .int .i64 0]) ?_ rfl ⟨rfl, HD.out⟩
  rw [results_cell_tmp2 rfl]
  exact end_pbox3 rfl rfl rfl HP.out
/-- a call that answers what another one answers -/
theorem ptellend {w : World} {R : Nat → Prop} {g : Nat} {r : Raw} {l : List UInt8} (h : Dat w R g r l) :
    Calls Tryz.prog 43 #[.pointer (some ⟨g, 0, none⟩)] w fun e w' => e = .returned (.tuple #[.agg (pca 3 zero8 nilV []), .int .i64 0, .int .i64 0]) ∧ Dat w' R g { r with done := true, fn := 70 } l ∧ Step w w' R R := by
  obtain ⟨D0, P0, S0, n1, n2, hR⟩ := boxed h
  have HF := Lib.hid ((pfinish D0 0).mono (fun e w1 ⟨x1, x2, x3⟩ => (⟨x1, stepped P0 x2 S0 x3 hR⟩ : e = Ending.returned (Value.tuple #[.agg (zp 3), .int .i64 0, .int .i64 0]) ∧ Stood w w1 R R R g { r with done := true, fn := 70 } l)))
  clear D0 P0 S0 hR h
  go_enter Tryz.func43, Tryz.ntmps43
  go_wp2_with fail
  refine HF.out.mono ?_
  rintro e w1 ⟨rfl, hst⟩
  obtain ⟨q0, q1, q2, q3, q4, q5, q6, q7⟩ := hst.box.cells
  obtain ⟨y0, y1, y2, y3, y4, y5, y6, y7⟩ := hst.box.frees
  obtain ⟨P3, D3, S3⟩ := hst.put 3 zero8 nilV []
  replace P3 := Lib.hid P3
  replace D3 := Lib.hid (And.intro D3 S3)
  unfold pput at P3 D3
  clear HF hst S3
  go_wp2_with fail
  refine bodyPost_ret (v := .tuple #[.agg (pca 3 zero8 nilV []), .int .i64 0, .int .i64 0]) ?_ rfl ⟨rfl, D3.out⟩
  rw [results_cell_tmp2 rfl]
  exact end_pbox3 rfl rfl rfl P3.out
theorem ptellnothing (w : World) (a : Value) :
    Calls Tryz.prog 70 #[a] w fun e w' => e = .returned (.tuple #[.agg (pca 0 zero8 nilV []), .int .i64 0, .int .i64 0]) ∧ Below w.heap.size w w' := by
  have HP := Lib.hid (PBox.at_ (W := w) rfl 0 zero8 nilV [])
  go_enter Tryz.func70, Tryz.ntmps70
  go_wp2_with fail
  refine bodyPost_ret (v := .tuple #[.agg (pca 0 zero8 nilV []), .int .i64 0, .int .i64 0]) ?_ rfl ⟨rfl, (Below.refl _ _).alloc (Nat.le_refl _) _⟩
  rw [results_cell_tmp2 rfl]
  exact end_pbox3 rfl rfl rfl HP.out
theorem ptellerror {w : World} {R : Nat → Prop} {g : Nat} {r : Raw} {l : List UInt8} (h : Dat w R g r l) :
    Calls Tryz.prog 23 #[.pointer (some ⟨g, 0, none⟩)] w fun e w' => e = .returned (.tuple #[.agg (pca 0 zero8 nilV []), .int .i64 0, .int .i64 r.ref]) ∧ Below w.heap.size w w' := by
  obtain ⟨_, _, _, _, _, _, _, _, _, c11⟩ := h.cells
  have hgl : g < w.heap.size := h.lt g h.mine
  have n1 : ¬ g = w.heap.size := by omega
  have HP := Lib.hid (PBox.at_ (W := w.drew) rfl 0 zero8 nilV [])
  have HB : Hid (Below w.heap.size w (w.drew.alloc (.cells (zp 0) PT))) := Lib.hid (((Below.refl _ _).drew).alloc (Nat.le_refl _) _)
  clear h
  generalize r.ref = x at *
  go_enter Tryz.func23, Tryz.ntmps23
  go_wp2_with fail
  go_region
  all_goals
    go_wp2_with fail
    refine bodyPost_ret (v := .tuple #[.agg (pca 0 zero8 nilV []), .int .i64 0, .int .i64 x]) ?_ rfl ⟨rfl, HB.out⟩
    rw [results_cell_tmp2 rfl]
    exact end_pbox3 rfl rfl rfl HP.out
theorem ptellbody (d : List UInt8) (u : Int) (w : World) :
    Calls Tryz.prog 57 #[.string (ofL d), .int .i64 u] w fun e w' => e = .returned (.tuple #[.agg (pcl (tell d) nilV), .int .i64 u, .int .i64 0]) ∧ Below w.heap.size w w' := by
  by_cases hd : d = []
  · have t1 : (ofL d).toList.isEmpty = true := by rw [ByteArray.toList_eq, hd]; rfl
    have t2 : (ofL d).toList = [] := by rw [ByteArray.toList_eq, hd]; rfl
    have HP := Lib.hid (PBox.at_ (W := w) rfl 0 zero8 nilV [])
    have HV : Hid (pcl (tell d) nilV = pca 0 zero8 nilV []) := Lib.hid (by unfold tell; rw [if_pos hd]; rfl)
    rw [HV.out]
    clear HV hd
    generalize ofL d = S at *
    go_enter Tryz.func57, Tryz.ntmps57
    go_wp2_with fail
    refine bodyPost_ret (v := .tuple #[.agg (pca 0 zero8 nilV []), .int .i64 u, .int .i64 0]) ?_ rfl ⟨rfl, (Below.refl _ _).alloc (Nat.le_refl _) _⟩
    rw [results_cell_tmp2 rfl]
    exact end_pbox3 rfl rfl rfl HP.out
  · have t2 : ¬ (ofL d).toList = [] := by rw [ByteArray.toList_eq]; show ¬ toL (ofL d) = []; rw [toL_ofL]; exact hd
    have t1 : (ofL d).toList.isEmpty = false := by
      cases hx : (ofL d).toList with
      | nil => exact absurd hx t2
      | cons => rfl
    have HP := Lib.hid (PBox.at_ (W := w) rfl 2 zero8 nilV d)
    have HV : Hid (pcl (tell d) nilV = pca 2 zero8 nilV d) := Lib.hid (by unfold tell; rw [if_neg hd]; rfl)
    rw [HV.out]
    clear HV hd
    go_enter Tryz.func57, Tryz.ntmps57
    go_wp2_with fail
    refine bodyPost_ret (v := .tuple #[.agg (pca 2 zero8 nilV d), .int .i64 u, .int .i64 0]) ?_ rfl ⟨rfl, (Below.refl _ _).alloc (Nat.le_refl _) _⟩
    rw [results_cell_tmp2 rfl]
    exact end_pbox3 rfl rfl rfl HP.out
theorem pinterim (st : Int) (hst : (Lit.int .i64 st).wf = true) (w : World) :
    Calls Tryz.prog 27 #[.int .i64 st] w fun e w' => e = .returned (.bool (interim st)) ∧ w' = w := by
  have h1 : wrap64 (st.tdiv 100) = st.tdiv 100 := PFrResp.wrap_div st hst
  have h2 := PFrResp.tdiv_one st
  by_cases a : 100 ≤ st ∧ st < 200
  · have q : (wrap64 (st.tdiv 100) == 1) = true := by rw [h1, h2.2 a]; rfl
    have HV : Hid (interim st = (st != 101)) := Lib.hid (by
      unfold interim
      rw [decide_eq_true a.1, decide_eq_true a.2]
      cases hb : (st != 101) with
      | true => simp at hb; simp [hb]
      | false => simp at hb; simp [hb])
    rw [HV.out]
    clear h1 h2 a HV
    go_enter Tryz.func27, Tryz.ntmps27
    go_wp2_with fail
    all_goals
      go_ret
      exact ⟨rfl, rfl⟩
  · have q : (wrap64 (st.tdiv 100) == 1) = false := by
      rw [h1, beq_eq_false_iff_ne]
      exact fun e => a (h2.1 e)
    have HV : Hid (interim st = false) := Lib.hid (by
      unfold interim
      rcases Decidable.not_and_iff_or_not.1 a with x | x
      · rw [decide_eq_false x]; rfl
      · rw [decide_eq_false x]; cases decide (100 ≤ st) <;> rfl)
    rw [HV.out]
    clear h1 h2 a HV
    go_enter Tryz.func27, Tryz.ntmps27
    go_wp2_with fail
    all_goals
      go_ret
      exact ⟨rfl, rfl⟩
end Go.Proofs.YtggmafmebocoaaaGreatDoor.POutEnds

/- Layer 7 of the program: what it asks of package slices (at texts). -/
namespace Go.Proofs.YtggmafmebocoaaaGreatDoor.PFindT
open Go.ChangeShapes Go.WideShapes Go.ChangeAt Go.RowKit LexPure Bytes Ret Rows1 Texts FieldsPure Flds R7Get KeptRow R7Elements Mem Go.Shelf
set_option maxRecDepth 20000
set_option maxHeartbeats 1600000 in
theorem index_any (fid bx : Nat) (hent : ∀ args w, (callFunc fid args).run Tryz.prog w = .ok (.enter fid args) w) (q : List UInt8 → Bool) (v : Value) (G : List (List UInt8)) (hle2 : G.length ≤ 1099512676352) (w : World) (hF : Texts w v G)
    (hcall : ∀ (j : Nat) (hj : j < G.length) (W : World), Below w.heap.size w W → Calls Tryz.prog fid #[.string (ofL G[j]), .pointer (some ⟨bx, 0, none⟩)] W fun e w' => e = .returned (.bool (q G[j])) ∧ Below W.heap.size W w') :
    Calls Tryz.prog 82 #[v, .func (.func fid) #[] #[.pointer (some ⟨bx, 0, none⟩)]] w fun e w' => ∃ r : Int, e = .returned (.int .i64 r) ∧ (decide (0 ≤ r) = G.any q) ∧ Below w.heap.size w w' := by
  obtain ⟨p, cap, rfl, hle, hc⟩ := hF
  replace hc := Lib.hid hc
  replace hcall := Lib.hid hcall
  have HB0 := Lib.hid (Below.refl w.heap.size w)
  go_enter Tryz.func82, Tryz.ntmps82
  go_wp2_with fail
  go_loopw [5, 8] (fun _ i wr => ∃ k : Nat, k ≤ G.length ∧ i = .int .i64 k ∧ Hid ((G.take k).any q = false) ∧ Hid (Below w.heap.size w wr)) (fun _ i _ => G.length - (intOf i).toNat)
  case atStart => exact ⟨0, Nat.zero_le _, rfl, Lib.hid rfl, HB0⟩
  case round =>
    obtain ⟨k, hk, rfl, ha, HB⟩ := hrel
    clear HB0
    by_cases hlt : k < G.length
    · obtain ⟨g, o, rfl, hgl, hcell⟩ := hc.out (by omega)
      have c1 := (HB.out.cell (p := ⟨g, o + k, none⟩) hgl).trans (hcell k hlt)
      have hki : (k : Int) < (G.length : Int) := by omega
      have HT : Hid ((G.take (k + 1)).any q = q G[k]) := Lib.hid (by rw [List.take_add_one, List.getElem?_eq_getElem hlt, List.any_append, ha.out]; simp)
      have HA := Lib.hid (hcall.out k hlt wr HB.out)
      clear hcell
      cases hh : q G[k]
      · rw [hh] at HT HA
        clear hh ha
        go_wp2_with fail
        refine HA.out.mono ?_
        rintro e w2 ⟨rfl, hb2⟩
        have HB2 := Lib.hid (below_chain HB.out hb2)
        clear hb2
        go_wp2_with fail
        go_roundw
        case rel => exact ⟨k + 1, by omega, by go_num, HT, HB2⟩
        case measure => simp [intOf]; omega
      · have HV : Hid (decide ((0 : Int) ≤ (k : Int)) = G.any q) := Lib.hid (by
          rw [decide_eq_true (by omega)]
          exact (List.any_eq_true.2 ⟨_, List.getElem_mem hlt, hh⟩).symm)
        rw [hh] at HA
        clear hh ha HT
        go_wp2_with fail
        refine HA.out.mono ?_
        rintro e w2 ⟨rfl, hb2⟩
        have HB2 := Lib.hid (below_chain HB.out hb2)
        clear hb2
        go_wp2_with fail
        go_ret
        exact ⟨_, rfl, HV.out, HB2.out⟩
    · have HV : Hid (decide ((0 : Int) ≤ -1) = G.any q) := Lib.hid (by
        have h := ha.out
        rw [List.take_of_length_le (by omega)] at h
        rw [h]
        rfl)
      clear ha
      go_wp2_with fail
      go_ret
      exact ⟨_, rfl, HV.out, HB.out⟩
set_option maxHeartbeats 1600000 in
theorem contains_any (fid bx : Nat) (hent : ∀ args w, (callFunc fid args).run Tryz.prog w = .ok (.enter fid args) w) (q : List UInt8 → Bool) (v : Value) (G : List (List UInt8)) (hle2 : G.length ≤ 1099512676352) (w : World) (hF : Texts w v G)
    (hcall : ∀ (j : Nat) (hj : j < G.length) (W : World), Below w.heap.size w W → Calls Tryz.prog fid #[.string (ofL G[j]), .pointer (some ⟨bx, 0, none⟩)] W fun e w' => e = .returned (.bool (q G[j])) ∧ Below W.heap.size W w') :
    Calls Tryz.prog 69 #[v, .func (.func fid) #[] #[.pointer (some ⟨bx, 0, none⟩)]] w fun e w' => e = .returned (.bool (G.any q)) ∧ Below w.heap.size w w' := by
  have HI := Lib.hid (index_any fid bx hent q v G hle2 w hF hcall)
  obtain ⟨p, cap, rfl, hle, hc⟩ := hF
  clear hc hcall
  generalize G.any q = b at *
  go_enter Tryz.func69, Tryz.ntmps69
  go_wp2_with fail
  refine HI.out.mono ?_
  rintro e w2 ⟨r, rfl, hr, hb2⟩
  have HB := Lib.hid hb2
  have HR := Lib.hid hr
  clear hb2 hr
  go_wp2_with fail
  all_goals
    go_ret
    refine ⟨ret_bool ?_, HB.out⟩
    rw [← HR.out]
end Go.Proofs.YtggmafmebocoaaaGreatDoor.PFindT

/- Layer 7 of the program: Has. -/
namespace Go.Proofs.YtggmafmebocoaaaGreatDoor.PHas7
open Go.ChangeShapes Go.WideShapes Go.ChangeAt Go.RowKit LexPure Bytes Ret Rows1 Texts FieldsPure Flds R7Get KeptRow R7Elements PAlike PLib PElements PVals PGet PElems7 LexFlat Mem Go.Shelf
set_option maxRecDepth 100000
attribute [local go_sem] Oper.semAt_some
set_option maxHeartbeats 1600000 in
theorem phas1_any (a x : ByteArray) (ha : a.size ≤ maxLen) (bx : Nat) (w : World) (hx : w.cell? ⟨bx, 0, none⟩ = some (.string x)) :
    Calls Tryz.prog 68 #[.string a, .pointer (some ⟨bx, 0, none⟩)] w fun e w' => e = .returned (.bool (alike (toL a) (toL x))) ∧ Below w.heap.size w w' := by
  have HA := Lib.hid (fun w => palike_any a x ha w)
  go_enter Tryz.func68, Tryz.ntmps68
  go_wp2_with fail
  refine (HA.out _).mono ?_
  rintro e w2 ⟨rfl, hb2⟩
  have HB := Lib.hid hb2
  clear hb2 hx
  go_wp2_with fail
  go_ret
  exact ⟨rfl, HB.out⟩
def anyV (l : List V) (x : List UInt8) : Bool := l.any (fun v => (elements v.1).any (fun e => alike e x))
theorem anyV_snoc (pre : List V) (v : V) (x : List UInt8) : anyV (pre ++ [v]) x = (anyV pre x || (elements v.1).any (fun e => alike e x)) := by simp [anyV]
theorem anyV_elems (l : List V) (x : List UInt8) : anyV l x = (elemsV l).any (fun e => alike e x) := by
  unfold anyV elemsV
  rw [List.any_flatMap]
theorem anyV_prefix {pre l : List V} {x : List UInt8} (h : pre <+: l) (ha : anyV pre x = true) : anyV l x = true := by
  obtain ⟨r, rfl⟩ := h
  unfold anyV at *
  rw [List.any_append, ha]
  rfl
theorem elements_few (s : List UInt8) (h : s.length ≤ 1048576) : (elements s).length ≤ 1048577 := by have := elements_len s; omega
theorem grown_row {w w' : World} (h : Below w.heap.size w w') (row : Option Nat) : w.grownBy w' row := ⟨h.os, h.tape, h.output, h.size, fun k hk _ => h.block k hk⟩
theorem Boxed.low {W W' : World} {B : Nat} {t : TypeId} {v : Value} (h : Boxed W B t v) (hb : Below W.heap.size W W') : Boxed W' B t v := h.kept (grown_row hb none) (by simp)
set_option maxHeartbeats 3200000 in
theorem phas_any (v : Value) (G : List HField) (nm x : ByteArray) (hG : Few G) (w : World) (hm : MaxInt w) (hF : FL w v G) :
    Calls Tryz.prog 55 #[v, .string nm, .string x] w fun e w' => e = .returned (.bool (hasE G (toL nm) (toL x))) ∧ Below w.heap.size w w' := by
  have HV : Hid (hasE G (toL nm) (toL x) = anyV (vs G (toL nm)) (toL x)) := Lib.hid (by rw [anyV_elems, elemsV_vs G (fun f hf => (few_all hG f hf).2) (toL nm)]; rfl)
  obtain ⟨p, cap, hvv, hle, _⟩ := id hF
  subst hvv
  have HF := Lib.hid hF
  have HG := Lib.hid hG
  have HM := Lib.hid hm
  clear hF hG hm
  refine (callsIn_wide (n := 3)).1 ?_
  refine callsIn_of_wp_marks Tryz.func55 rfl trivial ?_ rfl
  simp only [Tryz.ntmps55, List.size_toArray, List.length_cons, List.length_nil, Nat.reduceAdd, Nat.reduceSub, Array.replicate_succ, Array.replicate_zero, List.push_toArray, List.append_toArray, List.nil_append, List.cons_append]
  gi_wp2_with fail
  refine ⟨trivial, ?_⟩
  refine (callsIn_wide.2 (pvalues_any _ _ _ nm _)).mono ?_
  rintro e w' ⟨rfl, rfl⟩
  gi_wp2
  have bE := ((((Boxed.new w 9 (.string x)).alloc (.cells #[.bool false] 4)).alloc (.cells #[.func (.func 68) #[] #[.pointer (some ⟨w.heap.size, 0, none⟩)]] 88)).alloc (.cells #[.slice p G.length cap] 35)).alloc (.cells #[.string nm] 9)
  have bR := (((Boxed.new (w.alloc (.cells #[.string x] 9)) 4 (.bool false)).alloc (.cells #[.func (.func 68) #[] #[.pointer (some ⟨w.heap.size, 0, none⟩)]] 88)).alloc (.cells #[.slice p G.length cap] 35)).alloc (.cells #[.string nm] 9)
  have bF := ((Boxed.new ((w.alloc (.cells #[.string x] 9)).alloc (.cells #[.bool false] 4)) 88 (.func (.func 68) #[] #[.pointer (some ⟨w.heap.size, 0, none⟩)])).alloc (.cells #[.slice p G.length cap] 35)).alloc (.cells #[.string nm] 9)
  have b2 := (Boxed.new (((w.alloc (.cells #[.string x] 9)).alloc (.cells #[.bool false] 4)).alloc (.cells #[.func (.func 68) #[] #[.pointer (some ⟨w.heap.size, 0, none⟩)]] 88)) 35 (.slice p G.length cap)).alloc (.cells #[.string nm] 9)
  have b3 := Boxed.new ((((w.alloc (.cells #[.string x] 9)).alloc (.cells #[.bool false] 4)).alloc (.cells #[.func (.func 68) #[] #[.pointer (some ⟨w.heap.size, 0, none⟩)]] 88)).alloc (.cells #[.slice p G.length cap] 35)) 9 (.string nm)
  have hB0 : Below w.heap.size w (((((w.alloc (.cells #[.string x] 9)).alloc (.cells #[.bool false] 4)).alloc (.cells #[.func (.func 68) #[] #[.pointer (some ⟨w.heap.size, 0, none⟩)]] 88)).alloc (.cells #[.slice p G.length cap] 35)).alloc (.cells #[.string nm] 9)) :=
    (((((Below.refl _ w).alloc (Nat.le_refl _) _).alloc (by simp) _).alloc (by simp; omega) _).alloc (by simp; omega) _).alloc (by simp; omega) _
  have hsz : (((((w.alloc (.cells #[.string x] 9)).alloc (.cells #[.bool false] 4)).alloc (.cells #[.func (.func 68) #[] #[.pointer (some ⟨w.heap.size, 0, none⟩)]] 88)).alloc (.cells #[.slice p G.length cap] 35)).alloc (.cells #[.string nm] 9)).heap.size = w.heap.size + 1 + 1 + 1 + 1 + 1 := by simp
  simp only [World.size_alloc] at bR bF b2 b3
  generalize (((((w.alloc (.cells #[.string x] 9)).alloc (.cells #[.bool false] 4)).alloc (.cells #[.func (.func 68) #[] #[.pointer (some ⟨w.heap.size, 0, none⟩)]] 88)).alloc (.cells #[.slice p G.length cap] 35)).alloc (.cells #[.string nm] 9)) = W0 at *
  have hU := (FL.under HF.out).below hB0
  clear HF
  refine wpIn_rangeFunc_ownG rfl (by omega) (gf := 79) (lb := #[.pointer (some ⟨w.heap.size + 1 + 1 + 1, 0, none⟩), .pointer (some ⟨w.heap.size + 1 + 1 + 1 + 1, 0, none⟩)]) rfl trivial (enters_of Tryz.func79 (by kernel_rfl) rfl)
    (vals_stops (3 - 1) (w.heap.size + 1 + 1 + 1) (w.heap.size + 1 + 1 + 1 + 1) w.heap.size G HG.out nm (.slice p G.length cap) W0 b2.lt (by omega) b2.cell b3.cell hU) kp_t (kp_b (by omega) b3.lt) (Below.refl _ _) (fun _ => rfl)
    (fun pre W => anyV pre (toL x) = false ∧ Boxed W w.heap.size 9 (.string x) ∧ Boxed W (w.heap.size + 1) 4 (.bool false) ∧ Boxed W (w.heap.size + 1 + 1) 88 (.func (.func 68) #[] #[.pointer (some ⟨w.heap.size, 0, none⟩)]) ∧ Boxed W (w.heap.size + 1 + 1 + 1 + 1) 9 (.string nm) ∧ Below w.heap.size w W)
    (fun c pre W => (c = .ret ∧ anyV pre (toL x) = true) ∧ Boxed W (w.heap.size + 1) 4 (.bool true) ∧ Below w.heap.size w W)
    (OwnFrom.and (ownFrom_pure _ _) (OwnFrom.and (Own.from (boxed_own _ _ (fun _ => Value.string x)) _) (OwnFrom.and (Own.from (boxed_own _ _ (fun _ => Value.bool false)) _) (OwnFrom.and (Own.from (boxed_own _ _ (fun _ => Value.func (.func 68) #[] #[.pointer (some ⟨w.heap.size, 0, none⟩)])) _) (OwnFrom.and (Own.from (boxed_own _ _ (fun _ => Value.string nm)) _) (ownFrom_below (Nat.le_refl _) (by omega)))))))
    (fun _ => OwnFrom.and (ownFrom_pure _ _) (OwnFrom.and (Own.from (boxed_own _ _ (fun _ => Value.bool true)) _) (ownFrom_below (Nat.le_refl _) (by omega))))
    ⟨rfl, bE, bR, bF, b3, hB0⟩
    (fun y => { tmps := #[.slice p G.length cap, .string nm, .string x, undef, undef, .pointer (some ⟨w.heap.size, 0, none⟩), .pointer (some ⟨w.heap.size + 1, 0, none⟩), .pointer (some ⟨w.heap.size + 1 + 1, 0, none⟩), .string (ofL y.1), .func (.func 68) #[] #[.pointer (some ⟨w.heap.size, 0, none⟩)], .slice p G.length cap, .string nm, .func (.func 79) #[] #[.pointer (some ⟨w.heap.size + 1 + 1 + 1, 0, none⟩), .pointer (some ⟨w.heap.size + 1 + 1 + 1 + 1, 0, none⟩)], .string (ofL y.1), undef, undef, undef, undef], defers := [] }) ?assign ?body ?done ?stop
  case assign =>
    intro l y W K hK
    dsimp only [encV]
    gi_wp2
    exact hK
  case body =>
    rintro l pre y W ⟨ha, hE, hR, hFn, h3, hB⟩ hlt
    clear bE bR bF b2 b3 hU HG HV
    have hmx : Tryz.prog.follows .mixedOrders = true := by kernel_rfl
    have hcf := hFn.cell
    have hEl : Calls Tryz.prog 66 #[.string (ofL y.1)] W.drew fun e w' => ∃ v, e = .returned v ∧ Texts w' v (elements y.1) ∧ Below W.heap.size W w' := by
      have h := pelements_any (ofL y.1) (by rw [ofL_size]; have := y.2; omega) W.drew (HM.out.below (hB.trans ⟨rfl, rfl, rfl, Nat.le_refl _, fun _ _ => rfl⟩))
      rw [toL_ofL] at h
      refine h.mono ?_
      rintro e w' ⟨v, rfl, hr, hb⟩
      exact ⟨v, rfl, texts_of hr, ⟨hb.os, hb.tape, hb.output, hb.size, hb.block⟩⟩
    replace hEl := Lib.hid hEl
    have hCo : ∀ w' v3, Below W.heap.size W w' → Texts w' v3 (elements y.1) → Calls Tryz.prog 69 #[v3, .func (.func 68) #[] #[.pointer (some ⟨w.heap.size, 0, none⟩)]] w' fun e w2 => e = .returned (.bool ((elements y.1).any (fun e => alike e (toL x)))) ∧ Below w'.heap.size w' w2 := fun w' v3 hb hT => by
      have hc := (Boxed.low hE hb).cell
      have hbx := World.block_lt_of_cell? _ _ hc
      exact PFindT.contains_any 68 w.heap.size (enters_of Tryz.func68 (by kernel_rfl) rfl) (fun e => alike e (toL x)) v3 (elements y.1) (by have := elements_few y.1 y.2; omega) w' hT (fun j hj W3 hW3 => by
        have h := phas1_any (ofL (elements y.1)[j]) x (by rw [ofL_size]; have := elements_short (List.getElem_mem hj); have := y.2; unfold maxLen; omega) w.heap.size W3 ((hW3.cell (p := ⟨w.heap.size, 0, none⟩) hbx).trans hc)
        rw [toL_ofL] at h
        exact h)
    replace hCo := Lib.hid hCo
    have hsn := Lib.hid (anyV_snoc pre y (toL x))
    have hfin : ∀ w', Below W.heap.size W w' → KeepsFrom W0.heap.size W w' ∧ Below w.heap.size W w' ∧ Boxed w' w.heap.size 9 (.string x) ∧ Boxed w' (w.heap.size + 1) 4 (.bool false) ∧ Boxed w' (w.heap.size + 1 + 1) 88 (.func (.func 68) #[] #[.pointer (some ⟨w.heap.size, 0, none⟩)]) ∧ Boxed w' (w.heap.size + 1 + 1 + 1 + 1) 9 (.string nm) := fun w' hb =>
      ⟨KeepsFrom.of_grownBy (grown_row hb none) (fun j e => by cases e), hb.mono hB.size, Boxed.low hE hb, Boxed.low hR hb, Boxed.low hFn hb, Boxed.low h3 hb⟩
    replace hfin := Lib.hid hfin
    gi_wp2
    refine wpIn_region_any hmx ?_
    change wpAnyIn _ _ _ _ _ _ _ _ _ (World.drew _)
    refine wpAnyIn_ready (rs := [0, 2]) (by kernel_rfl) (by simp) (AllReadyIn.cons rfl (fun K hK => ?_) (AllReadyIn.cons rfl (fun K hK => ?_) AllReadyIn.nil))
    · go_simp
      refine hK _ _ ?_
      clear hK K
      refine wpAnyIn_ready (rs := [1, 2]) (by kernel_rfl) (by simp) (AllReadyIn.cons rfl (fun K hK => ?_) (AllReadyIn.cons rfl (fun K hK => ?_) AllReadyIn.nil))
      · go_simp
        refine ⟨trivial, ?_⟩
        refine (CallsIn.inRound l (callsIn_wide.2 hEl.out)).mono ?_
        rintro e w' ⟨v3, rfl, hT3, hb3⟩
        refine hK _ _ ?_
        clear hK K
        have hcf3 := (Boxed.low hFn hb3).cell
        have hCo3 := Lib.hid (hCo.out w' v3 hb3 hT3)
        obtain ⟨p3, cap3, rfl, _⟩ := hT3
        refine wpAnyIn_ready (rs := [2]) (by kernel_rfl) (by simp) (AllReadyIn.cons rfl (fun K hK => ?_) AllReadyIn.nil)
        go_simp
        refine hK _ _ ?_
        clear hK K
        refine wpAnyIn_ready (rs := [3]) (by kernel_rfl) (by simp) (AllReadyIn.cons rfl (fun K hK => ?_) AllReadyIn.nil)
        go_simp
        refine ⟨trivial, ?_⟩
        refine (CallsIn.inRound l (callsIn_wide.2 hCo3.out)).mono ?_
        rintro e w6 ⟨rfl, hb6⟩
        refine hK _ _ ?_
        clear hK K
        have hb7 := below_chain hb3 hb6
        have HR := Lib.hid (hfin.out w6 hb7)
        have hcr := (hfin.out w6 hb7).2.2.2.1.cell
        have hfr := (hfin.out w6 hb7).2.2.2.1.frozen
        clear hb3 hb6 hcf3 hCo3 hcf hb7 hR hE hFn h3
        refine wpAnyIn_done (by kernel_rfl) ?_ _
        cases hq : (elements y.1).any (fun e => alike e (toL x))
        · rw [hq, ha] at hsn
          gi_wp2
          obtain ⟨r1, r2, r3, r4, r5, r6⟩ := HR.out
          exact ⟨r1, ⟨r2, fun _ => r6.cell⟩, hsn.out, r3, r4, r5, r6, hB.trans r2⟩
        · rw [hq, Bool.or_true] at hsn
          gi_wp2
          obtain ⟨r1, r2, r3, r4, r5, r6⟩ := HR.out
          exact ⟨r1.trans ((KeepsOthers.setCell _ _ _).from _), ⟨rfl, hsn.out⟩, r4.set _, (hB.trans r2).setCell (p := ⟨w.heap.size + 1, 0, none⟩) (by simp) _⟩
      · go_simp
        refine hK _ _ ?_
        clear hK K
        refine wpAnyIn_ready (rs := [1]) (by kernel_rfl) (by simp) (AllReadyIn.cons rfl (fun K hK => ?_) AllReadyIn.nil)
        go_simp
        refine ⟨trivial, ?_⟩
        refine (CallsIn.inRound l (callsIn_wide.2 hEl.out)).mono ?_
        rintro e w' ⟨v3, rfl, hT3, hb3⟩
        refine hK _ _ ?_
        clear hK K
        have hcf3 := (Boxed.low hFn hb3).cell
        have hCo3 := Lib.hid (hCo.out w' v3 hb3 hT3)
        obtain ⟨p3, cap3, rfl, _⟩ := hT3
        refine wpAnyIn_ready (rs := [3]) (by kernel_rfl) (by simp) (AllReadyIn.cons rfl (fun K hK => ?_) AllReadyIn.nil)
        go_simp
        refine ⟨trivial, ?_⟩
        refine (CallsIn.inRound l (callsIn_wide.2 hCo3.out)).mono ?_
        rintro e w6 ⟨rfl, hb6⟩
        refine hK _ _ ?_
        clear hK K
        have hb7 := below_chain hb3 hb6
        have HR := Lib.hid (hfin.out w6 hb7)
        have hcr := (hfin.out w6 hb7).2.2.2.1.cell
        have hfr := (hfin.out w6 hb7).2.2.2.1.frozen
        clear hb3 hb6 hcf3 hCo3 hcf hb7 hR hE hFn h3
        refine wpAnyIn_done (by kernel_rfl) ?_ _
        cases hq : (elements y.1).any (fun e => alike e (toL x))
        · rw [hq, ha] at hsn
          gi_wp2
          obtain ⟨r1, r2, r3, r4, r5, r6⟩ := HR.out
          exact ⟨r1, ⟨r2, fun _ => r6.cell⟩, hsn.out, r3, r4, r5, r6, hB.trans r2⟩
        · rw [hq, Bool.or_true] at hsn
          gi_wp2
          obtain ⟨r1, r2, r3, r4, r5, r6⟩ := HR.out
          exact ⟨r1.trans ((KeepsOthers.setCell _ _ _).from _), ⟨rfl, hsn.out⟩, r4.set _, (hB.trans r2).setCell (p := ⟨w.heap.size + 1, 0, none⟩) (by simp) _⟩
    · go_simp
      refine hK _ _ ?_
      clear hK K
      refine wpAnyIn_ready (rs := [0]) (by kernel_rfl) (by simp) (AllReadyIn.cons rfl (fun K hK => ?_) AllReadyIn.nil)
      go_simp
      refine hK _ _ ?_
      clear hK K
      refine wpAnyIn_ready (rs := [1]) (by kernel_rfl) (by simp) (AllReadyIn.cons rfl (fun K hK => ?_) AllReadyIn.nil)
      go_simp
      refine ⟨trivial, ?_⟩
      refine (CallsIn.inRound l (callsIn_wide.2 hEl.out)).mono ?_
      rintro e w' ⟨v3, rfl, hT3, hb3⟩
      refine hK _ _ ?_
      clear hK K
      have hcf3 := (Boxed.low hFn hb3).cell
      have hCo3 := Lib.hid (hCo.out w' v3 hb3 hT3)
      obtain ⟨p3, cap3, rfl, _⟩ := hT3
      refine wpAnyIn_ready (rs := [3]) (by kernel_rfl) (by simp) (AllReadyIn.cons rfl (fun K hK => ?_) AllReadyIn.nil)
      go_simp
      refine ⟨trivial, ?_⟩
      refine (CallsIn.inRound l (callsIn_wide.2 hCo3.out)).mono ?_
      rintro e w6 ⟨rfl, hb6⟩
      refine hK _ _ ?_
      clear hK K
      have hb7 := below_chain hb3 hb6
      have HR := Lib.hid (hfin.out w6 hb7)
      have hcr := (hfin.out w6 hb7).2.2.2.1.cell
      have hfr := (hfin.out w6 hb7).2.2.2.1.frozen
      clear hb3 hb6 hcf3 hCo3 hcf hb7 hR hE hFn h3
      refine wpAnyIn_done (by kernel_rfl) ?_ _
      cases hq : (elements y.1).any (fun e => alike e (toL x))
      · rw [hq, ha] at hsn
        gi_wp2
        obtain ⟨r1, r2, r3, r4, r5, r6⟩ := HR.out
        exact ⟨r1, ⟨r2, fun _ => r6.cell⟩, hsn.out, r3, r4, r5, r6, hB.trans r2⟩
      · rw [hq, Bool.or_true] at hsn
        gi_wp2
        obtain ⟨r1, r2, r3, r4, r5, r6⟩ := HR.out
        exact ⟨r1.trans ((KeepsOthers.setCell _ _ _).from _), ⟨rfl, hsn.out⟩, r4.set _, (hB.trans r2).setCell (p := ⟨w.heap.size + 1, 0, none⟩) (by simp) _⟩
  case done =>
    rintro D ys W hD rfl ⟨ha, hE, hR, hFn, h3, hB⟩ hK
    have hcr := hR.cell
    have hfr := hR.frozen
    clear bE bR bF b2 b3 hU HG
    gi_wp2
    have hK' := (KeepsOthers.setCell W ⟨w.heap.size + 1, 0, none⟩ (.bool false)).same D _ hK rfl
    have hBd : Below w.heap.size w (W.setCell ⟨w.heap.size + 1, 0, none⟩ (.bool false)) := hB.setCell (p := ⟨w.heap.size + 1, 0, none⟩) (by simp) _
    refine ⟨by simp, .inl ⟨_, _, rfl, run_takeDeferred hK', ?_⟩⟩
    have hc5 := cell_kept (hR.set (.bool false)).cell (grownBy_putObj' _ D (.deferred none)) (fun r e => by cases e; exact ⟨_, hK', rfl⟩)
    refine ⟨.bool false, ?_, by rw [HV.out, ha], hBd.trans (belowK_b (w := w) (Nat.le_refl _) _ D _ _ (by omega) hK' rfl rfl)⟩
    simp [results, Tryz.f55, go_sem, hc5]
  case stop =>
    rintro D c pre W hD hSp ⟨⟨rfl, ha⟩, hR, hB⟩ hK
    have hfull := anyV_prefix hSp ha
    clear bE bR bF b2 b3 hU HG
    gi_wp2
    refine ⟨by simp, .inl ⟨_, _, rfl, run_takeDeferred hK, ?_⟩⟩
    have hc5 := cell_kept hR.cell (grownBy_putObj' _ D (.deferred none)) (fun r e => by cases e; exact ⟨_, hK, rfl⟩)
    refine ⟨.bool true, ?_, by rw [HV.out, hfull], hB.trans (belowK_b (w := w) (Nat.le_refl _) W D _ _ (by omega) hK rfl rfl)⟩
    simp [results, Tryz.f55, go_sem, hc5]
end Go.Proofs.YtggmafmebocoaaaGreatDoor.PHas7

/- Layer 9 of the program: Keep. -/
namespace Go.Proofs.YtggmafmebocoaaaGreatDoor.PKeep9
open Go.ChangeShapes Go.WideShapes Go.ChangeAt Go.RowKit LexPure Bytes Ret FieldsPure HeadPure FramePure FrNames Flds PLib PHas7 HBox Mem
set_option maxRecDepth 20000
theorem pkeep_any (h : H8) (v : Value) (hG : Few h.fields) (w : World) (hF : FL w v h.fields) (hm : MaxInt w) :
    Calls Tryz.prog 38 #[hv h v] w fun e w' => e = .returned (.bool (keep9 h.minor h.fields)) ∧ Below w.heap.size w w' := by
  have hb1 := (Below.refl w.heap.size w).alloc (Nat.le_refl _) (.cells (hc h v) 37)
  have B0 : HBox (w.alloc (.cells (hc h v) 37)) w.heap.size h v := ⟨Has.new w _ _⟩
  have hsz : w.heap.size < (w.alloc (.cells (hc h v) 37)).heap.size := by simp
  have hF1 := hF.below hb1
  have hx1 := Lib.hid (hm.below hb1)
  clear hm
  have H1 := Lib.hid (fun w hM hF => phas_any v h.fields ⟨#[67, 111, 110, 110, 101, 99, 116, 105, 111, 110]⟩ ⟨#[99, 108, 111, 115, 101]⟩ hG w hM hF)
  have H2 := Lib.hid (fun w hM hF => phas_any v h.fields ⟨#[67, 111, 110, 110, 101, 99, 116, 105, 111, 110]⟩ ⟨#[107, 101, 101, 112, 45, 97, 108, 105, 118, 101]⟩ hG w hM hF)
  have hk : keep9 h.minor h.fields = (!hasE h.fields (toL ⟨#[67, 111, 110, 110, 101, 99, 116, 105, 111, 110]⟩) (toL ⟨#[99, 108, 111, 115, 101]⟩) && (h.minor != 0 || hasE h.fields (toL ⟨#[67, 111, 110, 110, 101, 99, 116, 105, 111, 110]⟩) (toL ⟨#[107, 101, 101, 112, 45, 97, 108, 105, 118, 101]⟩))) := by
    have e1 := hasE_same low_c h.fields CLOSE
    have e2 := hasE_same low_c h.fields KEEPA
    unfold keep9
    rw [← e1, ← e2]
    rfl
  rw [hk]
  clear hk
  generalize hasE h.fields (toL ⟨#[67, 111, 110, 110, 101, 99, 116, 105, 111, 110]⟩) (toL ⟨#[99, 108, 111, 115, 101]⟩) = b1 at *
  generalize hasE h.fields (toL ⟨#[67, 111, 110, 110, 101, 99, 116, 105, 111, 110]⟩) (toL ⟨#[107, 101, 101, 112, 45, 97, 108, 105, 118, 101]⟩) = b2 at *
  obtain ⟨p, cap, rfl, _, _⟩ := id hF
  unfold hc at hb1 B0 hF1 hsz hx1
  unfold hv
  replace hb1 := Lib.hid hb1
  replace hF1 := Lib.hid hF1
  replace B0 := Lib.hid B0
  clear hF
  go_enter Tryz.func38, Tryz.ntmps38
  go_wp2_with fail
  generalize w.alloc (.cells #[.string (ofL h.method), .string (ofL h.target), .int .i64 h.status, .string (ofL h.reason), .int .i64 h.minor, .slice p h.fields.length cap] 37) = W at *
  obtain ⟨g, hg⟩ : ∃ g, g = w.heap.size := ⟨_, rfl⟩
  rw [← hg] at B0 hsz ⊢
  replace hg := Lib.hid hg
  refine (H1.out _ hx1.out hF1.out).mono ?_
  rintro e w1 ⟨rfl, hb2⟩
  have hx2 := Lib.hid (hx1.out.below hb2)
  have hF2 := Lib.hid (hF1.out.below hb2)
  have B1 := Lib.hid (B0.out.below hb2 hsz)
  have HB := Lib.hid (below_chain hb1.out hb2)
  obtain ⟨d0, d1, d2, d3, d4, d5⟩ := B1.out.cells
  clear hb2 H1 B0 B1 hF1 hb1 hx1
  cases b1 with
  | true =>
    go_wp2_with fail
    go_ret
    exact ⟨rfl, HB.out⟩
  | false =>
    by_cases hm : h.minor = 0
    · have hm1 : (h.minor != 0) = false := by rw [hm]; rfl
      clear hm
      have hq : (!false && (h.minor != 0 || b2)) = b2 := by rw [hm1]; rfl
      replace hq := Lib.hid hq
      go_wp2_with fail
      refine (H2.out _ hx2.out hF2.out).mono ?_
      rintro e w2 ⟨rfl, hb2⟩
      replace HB := Lib.hid (below_chain HB.out hb2)
      clear hb2 H2 hF2 hx2
      go_wp2_with fail
      go_ret
      exact ⟨ret_bool hq.out.symm, HB.out⟩
    · have hm1 : (h.minor != 0) = true := bne_iff_ne.2 hm
      clear hm
      have hq : (!false && (h.minor != 0 || b2)) = true := by rw [hm1]; rfl
      replace hq := Lib.hid hq
      go_wp2_with fail
      go_ret
      exact ⟨ret_bool hq.out.symm, HB.out⟩
end Go.Proofs.YtggmafmebocoaaaGreatDoor.PKeep9

/- Layer 12 of the program: open. -/
namespace Go.Proofs.YtggmafmebocoaaaGreatDoor.POutOpen
open Go.ChangeShapes Go.WideShapes Go.ChangeAt Go.RowKit LexPure Bytes Ret FieldsPure Flds HeadPure HBox FrBox FramePure ChunkPure ChunkObj OutPure OutBox KeptRow Mem Step InEmb OutObj POutText POutEnds PLib
set_option maxRecDepth 100000
set_option linter.unusedVariables false
set_option linter.unusedSimpArgs false
def MAXB : Nat := 0
theorem max_step {w w' : World} {F F' : Nat → Prop} (h : MaxInt w) (hs : Step w w' F F') (hn : ¬ F MAXB) : MaxInt w' := by
  obtain ⟨m, hm⟩ := h
  exact ⟨m, (hs.cell (World.block_lt_of_cell? _ _ hm) hn).trans hm⟩
theorem row_step {w w' : World} {b : Nat} {l : Value} {F : List HField} (hl : RowF w b l F) {G G' : Nat → Prop} (hs : Step w w' G G') (hf : ∀ j, l.ownBlock = some j → ¬ G j) : RowF w' b l F := ⟨hs.row hl.1 hf, hl.2⟩
theorem row_fl {w : World} {b : Nat} {l : Value} {F : List HField} (hl : RowF w b l F) : FL w l F := fl_of hl.1 (by have := hl.2; omega)
/-- what open leaves -/
def OpenR (W w' : World) (R : Nat → Prop) (g : Nat) (r : Raw) (l : List UInt8) (h : H8) (k len : Int) : Prop :=
  ∃ dp, Dat w' R g { r with kind := k, left := len, kept := keep9 h.minor h.fields, fn := fnOf (openM (k, len, 0)), dp := dp } l ∧ Step W w' R R ∧ (k = 3 → ∃ gd G, dp = .pointer (some ⟨gd, 0, none⟩) ∧ Dec w' G gd (begin_ MT) ∧ ∀ j, G j → W.heap.size ≤ j)
abbrev FRT : TypeId := 65
abbrev HT_ : TypeId := 37
set_option maxHeartbeats 3200000 in
theorem popen {W : World} {R : Nat → Prop} {g : Nat} {r : Raw} {l : List UInt8} (hD : Dat W R g r l) (h : H8) (p : Option Addr) (cap : Nat) (hrow : RowF W 0 (.slice p h.fields.length cap) h.fields) (hap : ∀ b, (Value.slice p h.fields.length cap).ownBlock = some b → ¬ R b)
    (k len : Int) (hG : Few h.fields) (hm : MaxInt W) (hn : ¬ R MAXB) :
    Calls Tryz.prog 29 #[.pointer (some ⟨g, 0, none⟩), hv h (.slice p h.fields.length cap), .agg #[.int .i64 k, .int .i64 len]] W fun e w' => e = .returned (.tuple #[]) ∧ OpenR W w' R g r l h k len := by
  have hgl : g < W.heap.size := hD.lt g hD.mine
  have n1 : ¬ g = W.heap.size := by omega
  have n2 : ¬ g = W.heap.size + 1 := by omega
  obtain ⟨_, _, _, c5, c6, c7, c8, c9, _, _⟩ := hD.cells
  have z5 := hD.free 5
  have z6 := hD.free 6
  have z7 := hD.free 7
  have z8 := hD.free 8
  have z9 := hD.free 9
  have n3 : ¬ W.heap.size + 1 = g := by omega
  obtain ⟨W2, hW2⟩ : ∃ W2, W2 = (((W.setCell ⟨g, 6, none⟩ (.int .i64 k)).setCell ⟨g, 8, none⟩ (.int .i64 len)).alloc (.cells (hc h (.slice p h.fields.length cap)) HT_)).alloc (.cells (rc (k, len)) FRT) := ⟨_, rfl⟩
  have D1 := hD.put6 k
  have D2 := D1.put8 len
  have S2 : Step W W2 R R := by rw [hW2]; exact (((hD.step_put 6 _).trans (D1.step_put 8 _)).trans (Step.alloc _ _ R)).trans (Step.alloc _ _ R)
  have DW : Dat W2 R g { r with kind := k, left := len } l := by rw [hW2]; exact (D2.step (Step.alloc _ _ (fun _ => False)) (fun _ _ h => h)).step (Step.alloc _ _ (fun _ => False)) (fun _ _ h => h)
  have BW : RBox W2 (W.heap.size + 1) (k, len) := by
    have e : W.heap.size + 1 = (((W.setCell ⟨g, 6, none⟩ (.int .i64 k)).setCell ⟨g, 8, none⟩ (.int .i64 len)).alloc (.cells (hc h (.slice p h.fields.length cap)) HT_)).heap.size := by simp [World.setCell]
    rw [hW2, e]
    exact ⟨Has.new _ _ _⟩
  have HK := Lib.hid ((PKeep9.pkeep_any h (.slice p h.fields.length cap) hG W2 (row_fl (row_step hrow S2 hap)) (max_step hm S2 hn)).mono (fun e w3 ⟨x1, x2⟩ => (⟨x1, DW.below x2, S2.trans (Step.of_below x2 R), (BW.below x2 (by have := BW.has.lt; exact this)).cells.1⟩ :
    e = Ending.returned (Value.bool (keep9 h.minor h.fields)) ∧ Dat w3 R g { r with kind := k, left := len } l ∧ Step W w3 R R ∧ w3.cell? ⟨W.heap.size + 1, 0, none⟩ = some (Value.int .i64 k))))
  have HS : Hid (∀ w3, Dat w3 R g { r with kind := k, left := len } l → Step W w3 R R → ∀ q, Hid (Dat ((w3.setCell ⟨g, 7, none⟩ (.bool q)).setCell ⟨g, 5, none⟩ (.func (.func (fnOf (openM (k, len, 0)))) #[] #[])) R g { r with kind := k, left := len, kept := q, fn := fnOf (openM (k, len, 0)) } l ∧ Step W ((w3.setCell ⟨g, 7, none⟩ (.bool q)).setCell ⟨g, 5, none⟩ (.func (.func (fnOf (openM (k, len, 0)))) #[] #[])) R R)) := Lib.hid (fun w3 d t q => by
    have a1 := d.put7 q
    exact Lib.hid ⟨a1.put5 _, (t.trans (d.step_put 7 _)).trans (a1.step_put 5 _)⟩)
  have HN : Hid (∀ w3, Dat w3 R g { r with kind := k, left := len } l → Step W w3 R R → ∀ q, Calls Tryz.prog 40 #[.int .i64 1099511627776] (w3.setCell ⟨g, 7, none⟩ (.bool q)) fun e w4 => ∃ gd, e = .returned (.pointer (some ⟨gd, 0, none⟩)) ∧
      w4.cell? ⟨g, 9, none⟩ = some r.dp ∧ w4.frozen? ⟨g, 9, none⟩ = false ∧ w4.cell? ⟨g, 5, none⟩ = some (.func (.func r.fn) #[] #[]) ∧ w4.frozen? ⟨g, 5, none⟩ = false ∧ ¬ gd = g ∧
      Hid (Dat ((w4.setCell ⟨g, 9, none⟩ (.pointer (some ⟨gd, 0, none⟩))).setCell ⟨g, 5, none⟩ (.func (.func 41) #[] #[])) R g { r with kind := k, left := len, kept := q, dp := .pointer (some ⟨gd, 0, none⟩), fn := 41 } l ∧
        Step W ((w4.setCell ⟨g, 9, none⟩ (.pointer (some ⟨gd, 0, none⟩))).setCell ⟨g, 5, none⟩ (.func (.func 41) #[] #[])) R R ∧
        ∃ G, Dec ((w4.setCell ⟨g, 9, none⟩ (.pointer (some ⟨gd, 0, none⟩))).setCell ⟨g, 5, none⟩ (.func (.func 41) #[] #[])) G gd (begin_ MT) ∧ ∀ j, G j → W.heap.size ≤ j)) := Lib.hid (fun w3 d t q => by
    have a1 := d.put7 q
    have t1 := t.trans (d.step_put 7 (.bool q))
    refine (pnew_any MT (by unfold ChObj.InR MT; omega) (w3.setCell ⟨g, 7, none⟩ (.bool q)) rfl).mono (fun e w4 ⟨⟨gd, G, x1, x2, x3⟩, x4⟩ => ?_)
    have a2 := a1.below x4
    have hcs := a2.cells
    have hGlo : ∀ j, G j → W.heap.size ≤ j := fun j hj => Nat.le_trans t1.size (x3 j hj)
    have hGR : ∀ j, G j → ¬ R j := fun j hj x => by have := hD.lt j x; have := hGlo j hj; omega
    have a3 := a2.put9 (.pointer (some ⟨gd, 0, none⟩))
    have gdl : G gd := by obtain ⟨r0, v0, y1, _⟩ := x2.is; exact y1.mine
    refine ⟨gd, x1, hcs.2.2.2.2.2.2.2.1, a2.free 9, hcs.2.2.2.1, a2.free 5, fun e => hGR gd gdl (by rw [e]; exact hD.mine), Lib.hid ⟨a3.put5 _, (((t1.trans (Step.of_below x4 R)).trans (a2.step_put 9 _)).trans (a3.step_put 5 _)), G, ?_, hGlo⟩⟩
    exact (x2.step (a2.step_put 9 _) hGR).step (a3.step_put 5 _) hGR)
  have HF : Hid (∀ w3, Dat w3 R g { r with kind := k, left := len } l → w3.cell? ⟨g, 7, none⟩ = some (.bool r.kept) ∧ w3.frozen? ⟨g, 7, none⟩ = false ∧ w3.cell? ⟨g, 5, none⟩ = some (.func (.func r.fn) #[] #[]) ∧ w3.frozen? ⟨g, 5, none⟩ = false) := Lib.hid (fun w3 d => ⟨d.cells.2.2.2.2.2.1, d.free 7, d.cells.2.2.2.1, d.free 5⟩)
  have hopen : (k = 2 ∧ fnOf (openM (k, len, 0)) = 39) ∨ (k = 3 ∧ fnOf (openM (k, len, 0)) = 41) ∨ (k = 4 ∧ fnOf (openM (k, len, 0)) = 42) ∨ ((k == 2) = false ∧ (k == 3) = false ∧ (k == 4) = false ∧ k ≠ 3 ∧ fnOf (openM (k, len, 0)) = 43) := by
    unfold openM
    by_cases c2 : k = 2
    · exact .inl ⟨c2, by rw [if_pos c2]; rfl⟩
    by_cases c3 : k = 3
    · exact .inr (.inl ⟨c3, by rw [if_neg c2, if_pos c3]; rfl⟩)
    by_cases c4 : k = 4
    · exact .inr (.inr (.inl ⟨c4, by rw [if_neg c2, if_neg c3, if_pos c4]; rfl⟩))
    exact .inr (.inr (.inr ⟨beq_eq_false_iff_ne.2 c2, beq_eq_false_iff_ne.2 c3, beq_eq_false_iff_ne.2 c4, c3, by rw [if_neg c2, if_neg c3, if_neg c4]; rfl⟩))
  unfold hc rc at hW2
  replace hW2 := Lib.hid hW2
  clear D1 D2 S2 DW BW hD hrow hap hG hm hn
  unfold hv at HK ⊢
  rcases hopen with ⟨rfl, hfn⟩ | ⟨rfl, hfn⟩ | ⟨rfl, hfn⟩ | ⟨k2, k3, k4, k5, hfn⟩
  · rw [hfn] at HS
    have HQ : Hid (∀ w3, Dat w3 R g { r with kind := 2, left := len, kept := keep9 h.minor h.fields, fn := 39 } l → Step W w3 R R → OpenR W w3 R g r l h 2 len) := Lib.hid (fun w3 a b => ⟨r.dp, by rw [hfn]; exact a, b, fun e => by cases e⟩)
    clear HN hfn
    generalize keep9 h.minor h.fields = kp at *
    go_enter Tryz.func29, Tryz.ntmps29
    go_wp2_with fail
    rw [← hW2.out]
    refine HK.out.mono ?_
    rintro e w3 ⟨rfl, d3, t3, k0⟩
    obtain ⟨x7, y7, x5, y5⟩ := HF.out w3 d3
    have hFin := HS.out w3 d3 t3 kp
    clear HK HS HF d3 t3 hW2
    go_wp2_with fail
    go_end0
    exact ⟨rfl, HQ.out _ hFin.out.1 hFin.out.2⟩
  · have HQ : Hid (∀ w3 gd G, Dat w3 R g { r with kind := 3, left := len, kept := keep9 h.minor h.fields, dp := .pointer (some ⟨gd, 0, none⟩), fn := 41 } l → Step W w3 R R → Dec w3 G gd (begin_ MT) → (∀ j, G j → W.heap.size ≤ j) → OpenR W w3 R g r l h 3 len) := Lib.hid (fun w3 gd G a b c d => ⟨_, by rw [hfn]; exact a, b, fun _ => ⟨gd, G, rfl, c, d⟩⟩)
    clear HS hfn
    generalize keep9 h.minor h.fields = kp at *
    go_enter Tryz.func29, Tryz.ntmps29
    go_wp2_with fail
    rw [← hW2.out]
    refine HK.out.mono ?_
    rintro e w3 ⟨rfl, d3, t3, k0⟩
    obtain ⟨x7, y7, x5, y5⟩ := HF.out w3 d3
    have HN2 := Lib.hid (HN.out w3 d3 t3 kp)
    clear HK HN HF d3 t3 hW2
    go_wp2_with fail
    refine HN2.out.mono ?_
    rintro e w4 ⟨gd, rfl, x9, y9, x5, y5, hne, hFin⟩
    clear HN2
    go_wp2_with fail
    go_end0
    obtain ⟨a, b, G, c, d⟩ := hFin.out
    exact ⟨rfl, HQ.out _ gd G a b c d⟩
  · rw [hfn] at HS
    have HQ : Hid (∀ w3, Dat w3 R g { r with kind := 4, left := len, kept := keep9 h.minor h.fields, fn := 42 } l → Step W w3 R R → OpenR W w3 R g r l h 4 len) := Lib.hid (fun w3 a b => ⟨r.dp, by rw [hfn]; exact a, b, fun e => by cases e⟩)
    clear HN hfn
    generalize keep9 h.minor h.fields = kp at *
    go_enter Tryz.func29, Tryz.ntmps29
    go_wp2_with fail
    rw [← hW2.out]
    refine HK.out.mono ?_
    rintro e w3 ⟨rfl, d3, t3, k0⟩
    obtain ⟨x7, y7, x5, y5⟩ := HF.out w3 d3
    have hFin := HS.out w3 d3 t3 kp
    clear HK HS HF d3 t3 hW2
    go_wp2_with fail
    go_end0
    exact ⟨rfl, HQ.out _ hFin.out.1 hFin.out.2⟩
  · rw [hfn] at HS
    have HQ : Hid (∀ w3, Dat w3 R g { r with kind := k, left := len, kept := keep9 h.minor h.fields, fn := 43 } l → Step W w3 R R → OpenR W w3 R g r l h k len) := Lib.hid (fun w3 a b => ⟨r.dp, by rw [hfn]; exact a, b, fun e => absurd e k5⟩)
    clear HN hfn
    replace k5 := Lib.hid k5
    generalize keep9 h.minor h.fields = kp at *
    go_enter Tryz.func29, Tryz.ntmps29
    go_wp2_with fail
    rw [← hW2.out]
    refine HK.out.mono ?_
    rintro e w3 ⟨rfl, d3, t3, k0⟩
    obtain ⟨x7, y7, x5, y5⟩ := HF.out w3 d3
    have hFin := HS.out w3 d3 t3 kp
    clear HK HS HF d3 t3 hW2
    go_wp2_with fail
    go_end0
    exact ⟨rfl, HQ.out _ hFin.out.1 hFin.out.2⟩
end Go.Proofs.YtggmafmebocoaaaGreatDoor.POutOpen

/- Layer 12 of the program: the steps that read a body by its length, and up to the connection's end. -/
namespace Go.Proofs.YtggmafmebocoaaaGreatDoor.POutBody
open Go.ChangeShapes Go.WideShapes Go.ChangeAt Go.RowKit LexPure Bytes Ret FieldsPure HeadPure HBox ChunkPure OutPure OutBox KeptRow Mem Step InEmb OutObj POutText POutEnds
set_option maxRecDepth 100000
set_option linter.unusedVariables false
set_option linter.unusedSimpArgs false
def kT (d : List UInt8) : Int := if d = [] then 0 else 2
theorem pcl_tell (d : List UInt8) : pcl (tell d) nilV = pca (kT d) zero8 nilV d := by
  unfold tell kT
  by_cases h : d = []
  · rw [if_pos h, if_pos h, h]; rfl
  · rw [if_neg h, if_neg h]; rfl
theorem ptellbody2 (d : List UInt8) (u : Int) (w : World) :
    Calls Tryz.prog 57 #[.string (ofL d), .int .i64 u] w fun e w' => e = .returned (.tuple #[.agg #[.int .i64 (kT d), .string ⟨#[]⟩, .string ⟨#[]⟩, .int .i64 0, .string ⟨#[]⟩, .int .i64 0, .slice none 0 0, .string (ofL d)], .int .i64 u, .int .i64 0]) ∧ Below w.heap.size w w' :=
  (ptellbody d u w).mono (fun e w' ⟨x1, x2⟩ => ⟨by rw [pcl_tell] at x1; exact x1, x2⟩)
section
variable {w w3 : World} {F R : Nat → Prop} {g u : Nat} {meth : ByteArray} {s s' : St} {r' : Raw} {l' : List UInt8}
/-- the reader behind a step -/
theorem shut12 (hRF : ∀ k, R k → F k) (hFg : F g) (hFl : ∀ k, F k → k < w.heap.size) (hD : Dat w3 R g r' l') (hS : Step w w3 R R) (h2 : r'.meth = meth) (h3 : r'.A ++ l' = s'.data) (h4 : u ≤ r'.A.length) (h5 : r'.gone = s'.gone) (h6 : r'.kind = s'.kind) (h7 : r'.kept = s'.kept) (h8 : Rel w3 F R s'.md r') :
    RdrU w3 F g meth s' u ∧ Step w w3 F F :=
  ⟨⟨⟨R, r', l', hD, h2, h3, h4, h5, h6, h7, h8, hRF⟩, hFg, fun k hk => Nat.lt_of_lt_of_le (hFl k hk) hS.size⟩, hS.up hRF⟩
theorem shut_step {p : Pc} {e : Int} (hs : stepO (toL meth) s = (p, u, e, s')) (hp : headP p = zero8) (hR : RdrU w3 F g meth s' u ∧ Step w w3 F F) : StepR w w3 (.returned (.tuple #[.agg (pcl p nilV), .int .i64 (u : Int), .int .i64 e])) F g meth s := by
  unfold StepR
  rw [hs]
  exact ⟨nilV, F, rfl, by dsimp only; rw [hp]; exact row_none _ _, fun b hb => (by cases hb), hR.1, hR.2⟩
end
/-- its end is told -/
theorem rel_nothing {w : World} {F R : Nat → Prop} {r : Raw} : Rel w F R .nothing { r with done := true, fn := 70 } :=
  ⟨rfl, rfl, fun e h => (by cases h), fun n h => (by cases h), fun m h => (by cases h)⟩
theorem step_fin {w : World} {F : Nat → Prop} {g : Nat} {meth : ByteArray} {s : St} (h : Rdr w F g meth s) (hm : s.md = .fin) :
    Calls Tryz.prog 43 #[.pointer (some ⟨g, 0, none⟩)] w fun e w' => StepR w w' e F g meth s := by
  obtain ⟨R, r, l, h1, h2, h3, h4, h5, h6, h7, h8, h9⟩ := h.is
  refine (ptellend h1).mono (fun e w' ⟨x1, x2, x3⟩ => ?_)
  subst x1
  exact shut_step (p := .fin) (u := 0) (s' := { s with md := .nothing }) (by unfold stepO; rw [hm]) rfl (shut12 h9 h.mine h.lt x2 x3 h2 h3 (Nat.zero_le _) h5 h6 h7 rel_nothing)
theorem step_nothing {w : World} {F : Nat → Prop} {g : Nat} {meth : ByteArray} {s : St} (h : Rdr w F g meth s) (hm : s.md = .nothing) :
    Calls Tryz.prog 70 #[.pointer (some ⟨g, 0, none⟩)] w fun e w' => StepR w w' e F g meth s := by
  refine (ptellnothing w _).mono (fun e w' ⟨x1, x2⟩ => ?_)
  subst x1
  exact shut_step (p := .none) (u := 0) (s' := s) (by unfold stepO; rw [hm]) rfl ⟨h.below x2, Step.of_below x2 F⟩
theorem step_bad {w : World} {F : Nat → Prop} {g : Nat} {meth : ByteArray} {s : St} (h : Rdr w F g meth s) (er : Int) (hm : s.md = .bad er) :
    Calls Tryz.prog 23 #[.pointer (some ⟨g, 0, none⟩)] w fun e w' => StepR w w' e F g meth s := by
  obtain ⟨R, r, l, h1, h2, h3, h4, h5, h6, h7, h8, h9⟩ := h.is
  refine (ptellerror h1).mono (fun e w' ⟨x1, x2⟩ => ?_)
  rw [h8.bad er hm] at x1
  subst x1
  exact shut_step (p := .none) (u := 0) (s' := s) (by unfold stepO; rw [hm]) rfl ⟨h.below x2, Step.of_below x2 F⟩
set_option maxHeartbeats 1600000 in
theorem step_all {w : World} {F : Nat → Prop} {g : Nat} {meth : ByteArray} {s : St} (h : Rdr w F g meth s) (hm : s.md = .all) (hs : s.data.length ≤ 4611686018427387904) :
    Calls Tryz.prog 42 #[.pointer (some ⟨g, 0, none⟩)] w fun e w' => StepR w w' e F g meth s := by
  obtain ⟨R, r, l, h1, h2, h3, h4, h5, h6, h7, h8, h9⟩ := h.is
  have hst := Stood.start (H := R) h1 (fun _ h => h)
  have HT := Lib.hid ((ptext12 hst.dat (by rw [← h3, List.length_append] at hs; exact hs)).mono (fun e w1 ⟨x1, x2, x3⟩ => (⟨by rw [h3] at x1; exact x1, by rw [h3] at x2; exact hst.turn x2 x3 (fun _ h => h)⟩ : e = Ending.returned (Value.string (ofL s.data)) ∧ Stood w w1 R R R g { r with A := s.data } [])))
  by_cases hd : s.data = [] ∧ s.gone = true
  · have t1 : (ofL s.data).toList.isEmpty = true := by rw [ByteArray.toList_eq, hd.1]; rfl
    have t2 : (ofL s.data).toList = [] := by rw [ByteArray.toList_eq, hd.1]; rfl
    have HF : Hid (∀ w1, Stood w w1 R R R g { r with A := s.data } [] → Calls Tryz.prog 56 #[.pointer (some ⟨g, 0, none⟩), .int .i64 0] w1 fun e w2 => e = .returned (.tuple #[.agg (zp 3), .int .i64 0, .int .i64 0]) ∧ Stood w w2 R R R g { r with A := s.data, done := true, fn := 70 } []) := Lib.hid (fun w1 k => (pfinish k.dat 0).mono (fun e w2 ⟨x1, x2, x3⟩ => ⟨x1, k.turn x2 x3 (fun _ h => h)⟩))
    have HQ : Hid (∀ w3, Dat w3 R g { r with A := s.data, done := true, fn := 70 } [] → Step w w3 R R → StepR w w3 (.returned (.tuple #[.agg (pca 3 zero8 nilV []), .int .i64 0, .int .i64 0])) F g meth s) := Lib.hid (fun w3 x2 x3 =>
      shut_step (p := .fin) (u := 0) (s' := { s with md := .nothing }) (by unfold stepO; rw [hm]; dsimp only; rw [if_pos hd]) rfl (shut12 h9 h.mine h.lt x2 x3 h2 (List.append_nil _) (Nat.zero_le _) h5 h6 h7 (rel_nothing (r := { r with A := s.data }))))
    have hgo : Hid (r.gone = true) := Lib.hid (h5.trans hd.2)
    clear hst h1 h2 h3 h4 h5 h6 h7 h8 h9 h hm hs hd
    generalize ofL s.data = S at *
    go_enter Tryz.func42, Tryz.ntmps42
    go_wp2_with fail
    refine HT.out.mono ?_
    rintro e w1 ⟨rfl, hst⟩
    have c4 := hst.dat.cells.2.2.1
    dsimp only at c4
    rw [hgo.out] at c4
    have HF2 := Lib.hid (HF.out w1 hst)
    clear HT HF hst
    go_wp2_with fail
    refine HF2.out.mono ?_
    rintro e w2 ⟨rfl, hst⟩
    obtain ⟨q0, q1, q2, q3, q4, q5, q6, q7⟩ := hst.box.cells
    obtain ⟨y0, y1, y2, y3, y4, y5, y6, y7⟩ := hst.box.frees
    obtain ⟨P3, D3, S3⟩ := hst.put 3 zero8 nilV []
    replace P3 := Lib.hid P3
    have hFin := Lib.hid (HQ.out _ D3 S3)
    unfold pput at P3 hFin
    clear HF2 hst D3 S3 HQ c4
    go_wp2_with fail
    refine bodyPost_ret (v := .tuple #[.agg (pca 3 zero8 nilV []), .int .i64 0, .int .i64 0]) ?_ rfl hFin.out
    rw [results_cell_tmp2 rfl]
    exact end_pbox3 rfl rfl rfl P3.out
  · have HB : Hid (∀ w1, Stood w w1 R R R g { r with A := s.data } [] → Calls Tryz.prog 57 #[.string (ofL s.data), .int .i64 ((ofL s.data).size : Int)] w1 fun e w2 => e = .returned (.tuple #[.agg #[.int .i64 (kT s.data), .string ⟨#[]⟩, .string ⟨#[]⟩, .int .i64 0, .string ⟨#[]⟩, .int .i64 0, .slice none 0 0, .string (ofL s.data)], .int .i64 ((ofL s.data).size : Int), .int .i64 0]) ∧ Stood w w2 R R R g { r with A := s.data } []) := Lib.hid (fun w1 k => (ptellbody2 s.data _ w1).mono (fun e w2 ⟨x1, x2⟩ => ⟨x1, k.call x2⟩))
    have HQ : Hid (∀ w3, Dat w3 R g { r with A := s.data } [] → Step w w3 R R → StepR w w3 (.returned (.tuple #[.agg (pca (kT s.data) zero8 nilV s.data), .int .i64 ((ofL s.data).size : Int), .int .i64 0])) F g meth s) := Lib.hid (fun w3 x2 x3 => by
      rw [← pcl_tell, ofL_size]
      refine shut_step (s' := s) (by unfold stepO; rw [hm]; dsimp only; rw [if_neg hd]) (by unfold tell; split <;> rfl) (shut12 h9 h.mine h.lt x2 x3 h2 (List.append_nil _) (Nat.le_refl _) h5 h6 h7 ?_)
      rw [hm] at h8 ⊢
      exact ⟨h8.fn, h8.done, fun e h => (by cases h), fun n h => (by cases h), fun m h => (by cases h)⟩)
    have hcs : (∃ b, (ofL s.data).toList.isEmpty = b ∧ b = false ∧ ¬ (ofL s.data).toList = []) ∨ ((ofL s.data).toList.isEmpty = true ∧ (ofL s.data).toList = [] ∧ r.gone = false) := by
      have e : (ofL s.data).toList = s.data := by rw [ByteArray.toList_eq]; exact toL_ofL _
      rw [e]
      by_cases h0 : s.data = []
      · refine .inr ⟨by rw [h0]; rfl, h0, ?_⟩
        rw [h5]
        cases hg : s.gone with
        | false => rfl
        | true => exact absurd ⟨h0, hg⟩ hd
      · refine .inl ⟨false, ?_, rfl, h0⟩
        cases hx : s.data with
        | nil => exact absurd hx h0
        | cons => rfl
    clear hst h1 h2 h3 h4 h5 h6 h7 h8 h9 h hm hs hd
    have key : ∀ w2, Stood w w2 R R R g { r with A := s.data } [] → Hid (PBox (pput w2 w.heap.size (kT s.data) zero8 nilV s.data) w.heap.size (kT s.data) zero8 nilV s.data) ∧ Hid (StepR w (pput w2 w.heap.size (kT s.data) zero8 nilV s.data) (.returned (.tuple #[.agg (pca (kT s.data) zero8 nilV s.data), .int .i64 ((ofL s.data).size : Int), .int .i64 0])) F g meth s) := fun w2 k => by
      obtain ⟨P3, D3, S3⟩ := k.put (kT s.data) zero8 nilV s.data
      exact ⟨Lib.hid P3, Lib.hid (HQ.out _ D3 S3)⟩
    replace key := Lib.hid key
    clear HQ
    unfold pput at key
    rcases hcs with ⟨b, t1, rfl, t2⟩ | ⟨t1, t2, hgo⟩
    · go_enter Tryz.func42, Tryz.ntmps42
      go_wp2_with fail
      refine HT.out.mono ?_
      rintro e w1 ⟨rfl, hst⟩
      have HF2 := Lib.hid (HB.out w1 hst)
      clear HT HB hst
      go_wp2_with fail
      refine HF2.out.mono ?_
      rintro e w2 ⟨rfl, hst⟩
      obtain ⟨q0, q1, q2, q3, q4, q5, q6, q7⟩ := hst.box.cells
      obtain ⟨y0, y1, y2, y3, y4, y5, y6, y7⟩ := hst.box.frees
      obtain ⟨P3, hFin⟩ := key.out w2 hst
      clear HF2 hst key
      go_wp2_with fail
      refine bodyPost_ret (v := .tuple #[.agg (pca (kT s.data) zero8 nilV s.data), .int .i64 ((ofL s.data).size : Int), .int .i64 0]) ?_ rfl hFin.out
      rw [results_cell_tmp2 rfl]
      exact end_pbox3 rfl rfl rfl P3.out
    · replace hgo := Lib.hid hgo
      go_enter Tryz.func42, Tryz.ntmps42
      go_wp2_with fail
      refine HT.out.mono ?_
      rintro e w1 ⟨rfl, hst⟩
      have c4 := hst.dat.cells.2.2.1
      dsimp only at c4
      rw [hgo.out] at c4
      have HF2 := Lib.hid (HB.out w1 hst)
      clear HT HB hst
      go_wp2_with fail
      refine HF2.out.mono ?_
      rintro e w2 ⟨rfl, hst⟩
      obtain ⟨q0, q1, q2, q3, q4, q5, q6, q7⟩ := hst.box.cells
      obtain ⟨y0, y1, y2, y3, y4, y5, y6, y7⟩ := hst.box.frees
      obtain ⟨P3, hFin⟩ := key.out w2 hst
      clear HF2 hst key c4
      go_wp2_with fail
      refine bodyPost_ret (v := .tuple #[.agg (pca (kT s.data) zero8 nilV s.data), .int .i64 ((ofL s.data).size : Int), .int .i64 0]) ?_ rfl hFin.out
      rw [results_cell_tmp2 rfl]
      exact end_pbox3 rfl rfl rfl P3.out
end Go.Proofs.YtggmafmebocoaaaGreatDoor.POutBody

/- Layer 12: a response's head that is read is short, its fields are few, its status has three digits. No program is named. -/
namespace Go.Proofs.YtggmafmebocoaaaGreatDoor.OutFew
open LexPure LexNum Bytes FieldsPure HeadPure FramePure Flds OutPure
set_option maxRecDepth 20000
def short (f : HField) : Prop := f.1.length ≤ 512 ∧ f.2.length ≤ 512
theorem trim_len (l : List UInt8) : (trim l).length ≤ l.length := trim_length l
theorem field_short (l : List UInt8) (h : l.length ≤ 512) : short (field8 l).1 := by
  unfold field8
  split
  · refine ⟨?_, ?_⟩
    · have : (nameB l).length ≤ l.length := (List.takeWhile_prefix _).length_le
      show (nameB l).length ≤ 512
      omega
    · have h1 := trim_len (l.drop ((nameB l).length + 1))
      rw [List.length_drop] at h1
      show (trim _).length ≤ 512
      omega
  · exact ⟨Nat.zero_le _, Nat.zero_le _⟩
theorem fields_few (h : H8) : ∀ (m : Nat) (acc : List HField) (a : Nat) (s : List UInt8) (h' : H8) (n : Nat), fields8 h m acc a s = .done h' n → (∀ f ∈ acc, short f) →
    h'.status = h.status ∧ ∀ f ∈ h'.fields, short f := by
  intro m
  induction m with
  | zero =>
    intro acc a s h' n hd ha
    unfold fields8 at hd
    cases hs : scan 512 83 0 s with
    | wait => rw [hs] at hd; cases hd
    | bad e => rw [hs] at hd; cases hd
    | whole k =>
      rw [hs] at hd
      dsimp only at hd
      by_cases hk : k = 0
      · rw [if_pos hk] at hd
        injection hd with e1 e2
        subst e1
        exact ⟨rfl, ha⟩
      · rw [if_neg hk] at hd
        cases hd
  | succ m ih =>
    intro acc a s h' n hd ha
    unfold fields8 at hd
    cases hs : scan 512 83 0 s with
    | wait => rw [hs] at hd; cases hd
    | bad e => rw [hs] at hd; cases hd
    | whole k =>
      rw [hs] at hd
      dsimp only at hd
      by_cases hk : k = 0
      · rw [if_pos hk] at hd
        injection hd with e1 e2
        subst e1
        exact ⟨rfl, ha⟩
      · rw [if_neg hk] at hd
        by_cases hf : (field8 (s.take k)).2 = 0
        · rw [if_pos hf] at hd
          obtain ⟨l, q, e, hk2, _, hb⟩ := scan_whole 512 83 s 0 k hs
          have hkl : k ≤ 512 := by omega
          exact ih _ _ _ _ _ hd (fun f hf => by
            rcases List.mem_append.1 hf with hf | hf
            · exact ha f hf
            · rw [List.mem_singleton] at hf
              rw [hf]
              exact field_short _ (by rw [List.length_take]; omega))
        · rw [if_neg hf] at hd
          cases hd
theorem status_range (l : List UInt8) (h : (status8 l).2 = 0) : 100 ≤ (status8 l).1.status ∧ (status8 l).1.status < 600 := by
  unfold status8 at h ⊢
  split
  · rename_i hc
    rw [if_pos hc] at h
    dsimp only at h ⊢
    split
    · exact ⟨hc.2.2.2.1, hc.2.2.2.2.1⟩
    · rename_i hv
      rw [if_neg hv] at h
      exact absurd h hv
  · rename_i hc
    rw [if_neg hc] at h
    cases h
theorem resp_few {s : List UInt8} {h : H8} {n : Nat} (hd : read8 true s = .done h n) : 100 ≤ h.status ∧ h.status < 600 ∧ Few h.fields := by
  unfold read8 from8 at hd
  split at hd
  · cases hd
  · cases hd
  · rename_i k hs
    dsimp only at hd
    rw [if_pos rfl] at hd
    split at hd
    · rename_i h0
      obtain ⟨h1, h2⟩ := fields_few _ _ _ _ _ _ _ hd (fun f hf => by cases hf)
      have hr := status_range _ h0
      refine ⟨by rw [h1]; exact hr.1, by rw [h1]; exact hr.2, fun j hj => ?_⟩
      have := h2 _ (List.getElem_mem hj)
      exact ⟨by have := this.1; omega, by have := this.2; omega⟩
    · cases hd
/-- lengths are small -/
theorem numR_most (p : List UInt8) : numR 10 15 p ≤ 999999999999999 := by
  unfold numR
  split
  · rename_i h
    unfold numOk at h
    rw [Bool.and_eq_true, Bool.and_eq_true] at h
    have h1 := numV_lt 10 p h.2
    have h2 := of_decide_eq_true h.1.2
    have h3 : 10 ^ p.length ≤ 10 ^ 15 := Nat.pow_le_pow_right (by decide) (by omega)
    have h4 : (10 : Nat) ^ 15 = 1000000000000000 := by decide
    omega
  · omega
theorem len_most : ∀ (l : List (List UInt8)) (n : Int), n ≤ 999999999999999 → lenFrom n l ≤ 999999999999999 := by
  intro l
  induction l with
  | nil => intro n h; exact h
  | cons p l ih =>
    intro n h
    unfold lenFrom lenStep
    by_cases hc : numOk 10 15 p = true ∧ (n < 0 ∨ numR 10 15 p = n)
    · rw [if_pos hc]
      exact ih _ (numR_most p)
    · rw [if_neg hc]
      show (-1 : Int) ≤ _
      decide
theorem resp_len (meth : List UInt8) (st minor : Int) (G : List HField) : (response9 meth st minor G).2.1 ≤ 999999999999999 ∧ ((response9 meth st minor G).2.2 = 0 → 0 ≤ (response9 meth st minor G).2.1) := by
  have h := len_most (lens G) (-1) (by decide)
  have h2 : lenFrom (-1) (lens G) = lenN G := rfl
  rw [h2] at h
  unfold response9
  (repeat' split) <;> dsimp only <;> first | (constructor <;> omega) | exact ⟨by omega, fun e => by omega⟩
end Go.Proofs.YtggmafmebocoaaaGreatDoor.OutFew

/- Layer 8 of the program: nextLine. -/
namespace Go.Proofs.YtggmafmebocoaaaGreatDoor.PNext
open Go.ChangeShapes Go.WideShapes Go.ChangeAt Go.RowKit LexPure Bytes Ret HeadPure
set_option maxRecDepth 20000
/-- a line as the program tells it: its bytes, whether it is whole, the error -/
def lineT (s : List UInt8) : Line → List UInt8
  | .whole k => s.take k
  | _ => []
def lineB : Line → Bool
  | .whole _ => true
  | _ => false
def lineE : Line → Int
  | .bad e => e
  | _ => 0
theorem ret_line {a b : ByteArray} (h : a = b) {p q : Bool} (k : p = q) {x y : Int} (l : x = y) : Ending.returned (.tuple #[.string a, .bool p, .int .i64 x]) = .returned (.tuple #[.string b, .bool q, .int .i64 y]) := by rw [h, k, l]
theorem mark_line (b : UInt8) : (b = 10 ∧ ((b.toNat : Int) == 10) = true ∧ ((b.toNat : Int) == 13) = false) ∨ (b = 13 ∧ b ≠ 10 ∧ ((b.toNat : Int) == 10) = false ∧ ((b.toNat : Int) == 13) = true) ∨ (b ≠ 10 ∧ b ≠ 13 ∧ ((b.toNat : Int) == 10) = false ∧ ((b.toNat : Int) == 13) = false) := by
  have := all_bytes (p := fun b => decide ((b = 10 ∧ ((b.toNat : Int) == 10) = true ∧ ((b.toNat : Int) == 13) = false) ∨ (b = 13 ∧ b ≠ 10 ∧ ((b.toNat : Int) == 10) = false ∧ ((b.toNat : Int) == 13) = true) ∨ (b ≠ 10 ∧ b ≠ 13 ∧ ((b.toNat : Int) == 10) = false ∧ ((b.toNat : Int) == 13) = false))) (by decide +kernel) b
  exact of_decide_eq_true this
set_option maxHeartbeats 1600000 in
theorem pnext_any (s : ByteArray) (hs : s.size ≤ 4611686018427387904) (most : Nat) (over : Int) (w : World) :
    Calls Tryz.prog 45 #[.string s, .int .i64 (most : Int), .int .i64 over] w fun e w' => e = .returned (.tuple #[.string (ofL (lineT (toL s) (scan most over 0 (toL s)))), .bool (lineB (scan most over 0 (toL s))), .int .i64 (lineE (scan most over 0 (toL s)))]) ∧ w' = w := by
  go_enter Tryz.func45, Tryz.ntmps45
  go_wp2_with fail
  go_loop [12] (fun i => ∃ k : Nat, k ≤ s.size ∧ i = .int .i64 k ∧ Hid (scan most over 0 (toL s) = scan most over k ((toL s).drop k))) (fun i => s.size - (intOf i).toNat)
  case atStart => exact ⟨0, Nat.zero_le _, rfl, Lib.hid rfl⟩
  case round =>
    obtain ⟨k, hk, rfl, hq⟩ := hrel
    by_cases hlt : k < s.size
    · have hki : (k : Int) < (s.size : Int) := by omega
      have HE : Hid (scan most over 0 (toL s) = scan most over k (s[k] :: (toL s).drop (k + 1))) := Lib.hid (by rw [hq.out, toL_drop s k hlt])
      clear hq
      rcases mark_line s[k] with ⟨c0, c1, c2⟩ | ⟨c0, c9, c1, c2⟩ | ⟨c0, c9, c1, c2⟩
      · have HV : Hid (scan most over 0 (toL s) = .bad 80) := Lib.hid (by rw [HE.out, scan_cons, if_pos c0])
        clear HE c0 c2
        go_wp2_with fail
        go_ret3
        rw [HV.out]
        exact ⟨rfl, rfl⟩
      · by_cases hn : k + 1 < s.size
        · have hni : (k : Int) + 1 < (s.size : Int) := by omega
          have hng : ((k : Int) + 1 == (s.size : Int)) = false := beq_eq_false_iff_ne.2 (by omega)
          have HD : Hid (scan most over 0 (toL s) = if s[k + 1] = 10 then .whole k else .bad 80) := Lib.hid (by
            rw [HE.out, scan_cons, if_neg c9, if_pos c0, toL_drop s (k + 1) hn])
          rcases mark_line s[k + 1] with ⟨d0, d1, d2⟩ | ⟨_, d0, d1, d2⟩ | ⟨d0, _, d1, d2⟩
          · have HV : Hid (scan most over 0 (toL s) = .whole k) := Lib.hid (by rw [HD.out, if_pos d0])
            have HT : Hid (s.extract 0 k = ofL ((toL s).take k)) := Lib.hid (toL_inj (by rw [toL_extract, toL_ofL, List.drop_zero]))
            clear HE HD c0 c9 d0 d2
            go_wp2_with fail
            go_ret3
            rw [HV.out]
            exact ⟨ret_line HT.out rfl rfl, rfl⟩
          · have HV : Hid (scan most over 0 (toL s) = .bad 80) := Lib.hid (by rw [HD.out, if_neg d0])
            clear HE HD c0 c9 d0 d2
            go_wp2_with fail
            go_ret3
            rw [HV.out]
            exact ⟨rfl, rfl⟩
          · have HV : Hid (scan most over 0 (toL s) = .bad 80) := Lib.hid (by rw [HD.out, if_neg d0])
            clear HE HD c0 c9 d0 d2
            go_wp2_with fail
            go_ret3
            rw [HV.out]
            exact ⟨rfl, rfl⟩
        · have hng : ((k : Int) + 1 == (s.size : Int)) = true := by rw [beq_iff_eq]; omega
          have HV : Hid (scan most over 0 (toL s) = .wait) := Lib.hid (by
            rw [HE.out, scan_cons, if_neg c9, if_pos c0, List.drop_eq_nil_of_le (by rw [toL_length]; omega)])
          clear HE c0 c9 hn
          go_wp2_with fail
          go_ret3
          rw [HV.out]
          exact ⟨rfl, rfl⟩
      · by_cases hm : most ≤ k
        · have hmi : (most : Int) ≤ (k : Int) := by omega
          have HV : Hid (scan most over 0 (toL s) = .bad over) := Lib.hid (by rw [HE.out, scan_cons, if_neg c0, if_neg c9, if_pos hm])
          clear HE c0 c9
          go_wp2_with fail
          go_ret3
          rw [HV.out]
          exact ⟨rfl, rfl⟩
        · have hmi : ¬ (most : Int) ≤ (k : Int) := by omega
          have HV : Hid (scan most over 0 (toL s) = scan most over (k + 1) ((toL s).drop (k + 1))) := Lib.hid (by
            rw [HE.out, scan_cons, if_neg c0, if_neg c9, if_neg hm])
          clear HE c0 c9
          go_wp2_with fail
          go_round
          case rel => exact ⟨k + 1, by omega, by go_num, HV⟩
          case measure => simp [intOf]; omega
    · have hki : ¬ (k : Int) < (s.size : Int) := by omega
      have HV : Hid (scan most over 0 (toL s) = .wait) := Lib.hid (by rw [hq.out, List.drop_eq_nil_of_le (by rw [toL_length]; omega)]; rfl)
      clear hq
      go_wp2_with fail
      go_ret3
      rw [HV.out]
      exact ⟨rfl, rfl⟩
end Go.Proofs.YtggmafmebocoaaaGreatDoor.PNext

/- Layer 8 of the program: readFields. -/
namespace Go.Proofs.YtggmafmebocoaaaGreatDoor.PFlds8
open Go.ChangeShapes Go.WideShapes Go.ChangeAt Go.RowKit LexPure Bytes Ret Rows1 FieldsPure Flds HeadPure HBox Mem KeptRow PNext PField8
set_option maxRecDepth 20000
theorem ret_fields {W w : World} {R : Res} {v : Value} {n e : Int} {l : List HField} (h2 : (resN R : Int) = n) (h3 : resE R = e) (h4 : (resH R).fields = l) (hf : RowF W w.heap.size v l) (hb : Below w.heap.size w W) :
    ∃ u, Ending.returned (.tuple #[v, .int .i64 n, .int .i64 e]) = .returned (.tuple #[u, .int .i64 (resN R), .int .i64 (resE R)]) ∧ RowF W w.heap.size u (resH R).fields ∧ Below w.heap.size w W :=
  ⟨v, by rw [h2, h3], by rw [h4]; exact hf, hb⟩
theorem field_err (l : List UInt8) : (field8 l).2 = 0 ∨ (field8 l).2 = 70 := by
  unfold field8
  split
  · exact .inl rfl
  · exact .inr rfl
theorem whole_most {most k : Nat} {over : Int} {D : List UInt8} (h : scan most over 0 D = .whole k) : k ≤ most := by
  obtain ⟨l, q, e, hk, _, hm⟩ := scan_whole _ _ _ _ _ h
  omega
theorem whole_len {most k : Nat} {over : Int} {D : List UInt8} (h : scan most over 0 D = .whole k) : k + 2 ≤ D.length := by
  obtain ⟨l, q, e, hk, _, _⟩ := scan_whole _ _ _ _ _ h
  have := congrArg List.length e
  rw [List.length_append, List.length_cons, List.length_cons] at this
  omega
set_option maxHeartbeats 1600000 in
theorem pfields_any (s : ByteArray) (hs : s.size ≤ 4611686018427387904) (w : World) :
    Calls Tryz.prog 46 #[.string s] w fun e w' => ∃ v, e = .returned (.tuple #[v, .int .i64 (resN (fields8 zero8 32 [] 0 (toL s))), .int .i64 (resE (fields8 zero8 32 [] 0 (toL s)))]) ∧ RowF w' w.heap.size v (resH (fields8 zero8 32 [] 0 (toL s))).fields ∧ Below w.heap.size w w' := by
  obtain ⟨i0, hi, hz0, hz1, hz2⟩ := info_parts infoF
  obtain ⟨X, hX⟩ : ∃ X, X = fields8 zero8 32 [] 0 (toL s) := ⟨_, rfl⟩
  rw [← hX]
  replace hX := Lib.hid hX
  have HK := Lib.hid (Kept.start w)
  go_enter Tryz.func46, Tryz.ntmps46
  go_wp2_with fail
  go_loopw [5, 6] (fun f sz wr => ∃ (a : Nat) (acc : List HField), a ≤ s.size ∧ acc.length ≤ 32 ∧ sz = .int .i64 a ∧ Hid (Kept w acc f wr) ∧ Hid (X = fields8 zero8 (32 - acc.length) acc a ((toL s).drop a))) (fun _ sz _ => s.size - (intOf sz).toNat)
  case atStart => exact ⟨0, [], Nat.zero_le _, by decide, rfl, HK, hX⟩
  case round =>
    obtain ⟨a, acc, ha, hac, rfl, HI, HR⟩ := hrel
    clear HK hX
    obtain ⟨p, cap, hv, _, _⟩ := fl_of HI.out.row (by omega)
    subst hv
    have hai : (a : Int) ≤ (s.size : Int) := by omega
    obtain ⟨D, hD⟩ : ∃ D, D = s.extract a s.size := ⟨_, rfl⟩
    have eD : toL D = (toL s).drop a := by rw [hD, toL_extract, toL_take_all s (Nat.le_refl _)]
    have lD : D.size = s.size - a := by rw [hD, ByteArray.size_extract]; omega
    have HN := Lib.hid (fun w => pnext_any D (by omega) 512 83 w)
    rw [← eD] at HR
    have hF : X = match scan 512 83 0 (toL D) with
      | .wait => .wait
      | .bad e => .bad e
      | .whole k => if k = 0 then .done { zero8 with fields := acc } (a + 2) else
        match 32 - acc.length with
        | 0 => .bad 83
        | m + 1 => if (field8 ((toL D).take k)).2 = 0 then fields8 zero8 m (acc ++ [(field8 ((toL D).take k)).1]) (a + k + 2) ((toL D).drop (k + 2)) else .bad 70 := by
      rw [HR.out]
      conv => lhs; unfold fields8
      rfl
    clear HR
    cases hsc : scan 512 83 0 (toL D) with
    | wait =>
      rw [hsc] at HN hF
      have HV : X = .wait := hF
      subst HV
      unfold lineT lineB lineE at HN
      rw [hD] at HN
      clear hF hsc eD lD hD
      go_wp2_with fail
      refine (HN.out _).mono ?_
      rintro e w' ⟨rfl, rfl⟩
      go_wp2_with fail
      go_ret3
      exact ret_fields (R := .wait) rfl rfl rfl (row_none _ _) HI.out.below
    | bad er =>
      rw [hsc] at HN hF
      have HV : X = .bad er := hF
      subst HV
      unfold lineT lineB lineE at HN
      rw [hD] at HN
      clear hF hsc eD lD hD
      go_wp2_with fail
      refine (HN.out _).mono ?_
      rintro e w' ⟨rfl, rfl⟩
      go_wp2_with fail
      go_ret3
      exact ret_fields (R := .bad er) rfl rfl rfl (row_none _ _) HI.out.below
    | whole k =>
      have hkl := whole_len hsc
      have hkm := whole_most hsc
      rw [toL_length] at hkl
      rw [hsc] at HN hF
      unfold lineT lineB lineE at HN
      dsimp only at hF HN
      by_cases hk0 : k = 0
      · rw [if_pos hk0] at hF
        subst hF
        subst hk0
        rw [hD, show ofL ((toL (s.extract a s.size)).take 0) = ⟨#[]⟩ from rfl] at HN
        have ha2 : (a : Int) + 2 ≤ (s.size : Int) := by omega
        have HL := Lib.hid (show RowF wr w.heap.size (.slice p acc.length cap) acc from ⟨HI.out.row, hac⟩)
        clear hsc eD lD hD hkl
        go_wp2_with fail
        refine (HN.out _).mono ?_
        rintro e w' ⟨rfl, rfl⟩
        go_wp2_with fail
        go_ret3
        exact ret_fields (R := .done { zero8 with fields := acc } (a + 2)) (by show ((a + 2 : Nat) : Int) = _; omega) rfl rfl HL.out HI.out.below
      · rw [if_neg hk0] at hF
        obtain ⟨LN, hLN⟩ : ∃ LN, LN = ofL ((toL D).take k) := ⟨_, rfl⟩
        have lLN : LN.size = k := by rw [hLN, ofL_size, List.length_take, toL_length]; omega
        have tLN : toL LN = (toL D).take k := by rw [hLN, toL_ofL]
        rw [← hLN, hD] at HN
        have n1 : ¬ (LN.toList = []) := by
          rw [ByteArray.toList_eq]
          intro h
          have := congrArg List.length h
          rw [show LN.data.toList.length = LN.size from toL_length LN] at this
          rw [List.length_nil] at this
          omega
        have n2 : LN.toList.isEmpty = false := by
          cases hx : LN.toList with
          | nil => exact absurd hx n1
          | cons => rfl
        have ha2 : (a : Int) + ((LN.size : Int) + 2) ≤ (s.size : Int) := by omega
        have hsi : (s.size : Int) ≤ 4611686018427387904 := by omega
        by_cases h32 : acc.length = 32
        · have HV : X = .bad 83 := by rw [hF, h32]; rfl
          subst HV
          have hj : ((acc.length : Int) == 32) = true := by rw [h32]; rfl
          clear hF hsc eD lD hD hkl hLN tLN h32
          go_wp2_with fail
          refine (HN.out _).mono ?_
          rintro e w' ⟨rfl, rfl⟩
          go_wp2_with fail
          go_ret3
          exact ret_fields (R := .bad 83) rfl rfl rfl (row_none _ _) HI.out.below
        · have hj : ((acc.length : Int) == 32) = false := beq_eq_false_iff_ne.2 (by omega)
          obtain ⟨m, hm⟩ : ∃ m, 32 - acc.length = m + 1 := ⟨31 - acc.length, by omega⟩
          rw [hm] at hF
          dsimp only at hF
          have HP := Lib.hid (fun w => pfield_any LN (by omega) w)
          rw [tLN] at HP
          have hfe := field_err ((toL D).take k)
          generalize field8 ((toL D).take k) = y at *
          obtain ⟨⟨f1, f2⟩, er⟩ := y
          dsimp only at hF
          unfold frv fv at HP
          dsimp only at HP
          replace hm := Lib.hid hm
          by_cases h9 : er = 0
          · rw [if_pos h9] at hF
            subst h9
            have tD : ((toL D).drop (k + 2)) = (toL s).drop (a + k + 2) := by rw [eD, List.drop_drop, Nat.add_assoc]
            rw [tD] at hF
            replace hF := Lib.hid hF
            clear hsc eD lD hD hLN tLN h32 hfe tD
            go_wp2_with fail
            refine (HN.out _).mono ?_
            rintro e w' ⟨rfl, rfl⟩
            go_wp2_with fail
            refine (HP.out _).mono ?_
            rintro e w3 ⟨rfl, hb3⟩
            have HK1 := Lib.hid (((HI.out.call hb3).alloc (.cells #[.string (ofL f1), .string (ofL f2)] 103)).alloc (.cells #[.string (ofL f1), .string (ofL f2)] 103))
            have HW := World.news_of_block (heap_alloc_new (w3.alloc (.cells #[.string (ofL f1), .string (ofL f2)] 103)) (.cells #[.string (ofL f1), .string (ofL f2)] 103))
            rw [show (w3.alloc (.cells #[.string (ofL f1), .string (ofL f2)] 103)).heap.size = w3.heap.size + 1 by simp] at HW
            replace HW := Lib.hid HW
            have hrow := HK1.out.row
            have hsz := HK1.out.below.size
            clear hb3
            go_wp2_with (at_builtin; refine wpList_append_own_at _ rfl (.tmp 42) (.tmp 44) 35 rfl w.heap.size 103 i0 _ 2 32 Tryz.underlying35 hi hz0 hz1 hz2 rfl (by omega) _ _ _ rfl hrow ⟨w3.heap.size + 1, 0, none⟩ 1 1 (encF (f1, f2)) rfl rfl HW.out (by simp [encF, Value.oneCell']) (by simp only [maxLen]; omega) (by omega) hsz ?_; intro v4 w4 hown4 hg4 _ hat4)
            have HK3 : Hid (Kept w (acc ++ [(f1, f2)]) v4 w4) := Lib.hid (by
              refine ⟨?_, Below.grown HK1.out.below hg4 HK1.out.below.size HK1.out.lt⟩
              rw [encFs_append, List.length_append]
              exact hown4)
            clear hown4 hg4 hat4 hrow
            go_wp2_with fail
            go_roundw
            case rel => exact ⟨a + k + 2, acc ++ [(f1, f2)], by omega, by rw [List.length_append, List.length_singleton]; have := hm.out; omega, by go_num, HK3, Lib.hid (by rw [hF.out, List.length_append, List.length_singleton, show 32 - (acc.length + 1) = m by have := hm.out; omega])⟩
            case measure => simp [intOf]; omega
          · rw [if_neg h9] at hF
            have h7 : (er != 0) = true := bne_iff_ne.2 h9
            have h70 : er = 70 := hfe.resolve_left h9
            subst h70
            subst hF
            clear hsc eD lD hD hkl hLN tLN h32 h9 hfe
            go_wp2_with fail
            refine (HN.out _).mono ?_
            rintro e w' ⟨rfl, rfl⟩
            go_wp2_with fail
            refine (HP.out _).mono ?_
            rintro e w3 ⟨rfl, hb3⟩
            go_wp2_with fail
            go_ret3
            exact ret_fields (R := .bad 70) rfl rfl rfl (row_none _ _) (below_chain (below_chain HI.out.below hb3) ((Below.refl _ _).alloc (Nat.le_refl _) _))
end Go.Proofs.YtggmafmebocoaaaGreatDoor.PFlds8

/-
  DERIVED: THE SHELF's CONTRACTS AT THIS DUMP, IN PLAIN WORDS (tools/lay-plain.mjs out of 'YtggmafmebocoaaaGreatDoorPathLaysT.lean', which tools/lay-shelf.mjs wrote): THE SAME DECLARATIONS UNDER THE SAME NAMES: 'import', 'namespace', 'open', 'def', 'theorem' AND NOTHING ELSE: no command of the shelf's: FOR A HAND-IN. Each laying: the table of numbers ('.._ren') and one theorem, a field a fact of the dump's own or the kernel's comparison; each contract: ONE APPLICATION.
-/
namespace Go.Proofs
open Go.Shelf
def Tryz.lays103_ren : Go.Shelf.Ren := ⟨fun | 103 => 64 | 210 => 78 | 206 => 97 | n => n, fun | 9 => 9 | 4 => 4 | 24 => 108 | 3 => 3 | n => n, fun | n => n⟩
theorem Tryz.lays103 : Go.Proofs.Lays.n103 Tryz.prog Tryz.lays103_ren := {
  mixed := by kernel_rfl
  f103 := Tryz.func64.trans (congrArg some (by kernel_rfl))
  f206 := Tryz.func97.trans (congrArg some (by kernel_rfl))
  f210 := Tryz.func78.trans (congrArg some (by kernel_rfl))
  t3 := Tryz.underlying3
  a3 := Tryz.isAgg3
  z3 := Tryz.sizeOf3
  v3 := Tryz.zeroValue3
  t4 := Tryz.underlying4
  a4 := Tryz.isAgg4
  z4 := Tryz.sizeOf4
  v4 := Tryz.zeroValue4
  t9 := Tryz.underlying9
  a9 := Tryz.isAgg9
  z9 := Tryz.sizeOf9
  v9 := Tryz.zeroValue9
  t24 := Tryz.underlying108
  a24 := Tryz.isAgg108
  z24 := Tryz.sizeOf108
  v24 := Tryz.zeroValue108 }
end Go.Proofs

/- How a text begins: strings.HasPrefix, strings.CutPrefix. -/
namespace Go.Proofs.YtggmafmebocoaaaGreatDoor.PPre
open Go.ChangeShapes Go.WideShapes Go.ChangeAt Go.RowKit Bytes Ret
set_option maxRecDepth 20000
theorem lib_cutp (s p : ByteArray) (w : World) :
    Calls Tryz.prog 64 #[.string s, .string p] w fun e w' => e = .returned (.tuple #[.string (ofL (if (toL p).isPrefixOf (toL s) then (toL s).drop p.size else toL s)), .bool ((toL p).isPrefixOf (toL s))]) ∧ w' = w := by
  have h := Any.strings_CutPrefix Tryz.lays103 s p w
  unfold Lib.trimPrefix Lib.hasPrefix at h
  rw [show p.data.toList.length = p.size from toL_length p] at h
  exact h
end Go.Proofs.YtggmafmebocoaaaGreatDoor.PPre

/- Layer 8 of the program: readVersion. -/
namespace Go.Proofs.YtggmafmebocoaaaGreatDoor.PVer8
open Go.ChangeShapes Go.WideShapes Go.ChangeAt Go.RowKit LexPure Bytes Ret LexNum FieldsPure HeadPure CutAt HeadCut PPre PCutLib PDecimal
set_option maxRecDepth 20000
theorem ret_ver {a b c d : Int} (h : a = b) (k : c = d) : Ending.returned (.tuple #[.int .i64 a, .int .i64 c]) = .returned (.tuple #[.int .i64 b, .int .i64 d]) := by rw [h, k]
set_option maxHeartbeats 1600000 in
theorem pversion_any (s : ByteArray) (hs : s.size ≤ 140737488351232) (w : World) :
    Calls Tryz.prog 50 #[.string s] w fun e w' => e = .returned (.tuple #[.int .i64 (version8 (toL s)).1, .int .i64 (version8 (toL s)).2]) ∧ Below w.heap.size w w' := by
  have HP := lib_cutp s ⟨#[72, 84, 84, 80, 47]⟩ w
  rw [show toL (⟨#[72, 84, 84, 80, 47]⟩ : ByteArray) = HTTPS from rfl, show (⟨#[72, 84, 84, 80, 47]⟩ : ByteArray).size = 5 from rfl] at HP
  have hv : (if HTTPS.isPrefixOf (toL s) then (toL s).drop 5 else toL s) = verR (toL s) := rfl
  rw [hv] at HP
  have hvl : (verR (toL s)).length ≤ s.size := by
    unfold verR
    rw [← toL_length s]
    split
    · rw [List.length_drop]; omega
    · exact Nat.le_refl _
  have HC := Lib.hid (fun w => full_cut 46 (ofL (verR (toL s))) (by rw [ofL_size]; omega) w)
  rw [toL_ofL] at HC
  have l1 : (aheadOf 46 (verR (toL s))).length ≤ (verR (toL s)).length := by rw [ahead_take, List.length_take]; omega
  have l2 : (behind 46 (verR (toL s))).length ≤ (verR (toL s)).length := by rw [cut_drop, List.length_drop]; omega
  have HD1 := Lib.hid (fun w => pdecimal_any (ofL (aheadOf 46 (verR (toL s)))) (by unfold maxLen; rw [ofL_size]; omega) 1 w)
  have HD2 := Lib.hid (fun w => pdecimal_any (ofL (behind 46 (verR (toL s)))) (by unfold maxLen; rw [ofL_size]; omega) 1 w)
  rw [toL_ofL, show min (1 : Int) 18 = 1 from rfl] at HD1 HD2
  have HX := version_prog (toL s)
  unfold verP at HX
  generalize version8 (toL s) = X at *
  generalize HTTPS.isPrefixOf (toL s) = p at *
  generalize aheadOf 46 (verR (toL s)) = A at *
  generalize behind 46 (verR (toL s)) = B at *
  generalize hasB 46 (verR (toL s)) = q at *
  generalize verR (toL s) = R at *
  generalize numOk 10 1 A = a at *
  generalize numOk 10 1 B = b at *
  generalize numR 10 1 A = m at *
  generalize numR 10 1 B = n at *
  replace HP := Lib.hid HP
  clear hv hvl l1 l2 hs
  rcases (show (p = true ∧ a = true ∧ b = true) ∨ p = false ∨ (p = true ∧ a = false) ∨ (p = true ∧ a = true ∧ b = false) by cases p <;> cases a <;> cases b <;> simp) with ⟨rfl, rfl, rfl⟩ | rfl | ⟨rfl, rfl⟩ | ⟨rfl, rfl, rfl⟩
  · rw [if_pos (by decide)] at HX
    by_cases hm : m = 1
    · rw [if_pos hm] at HX
      have hb : (m != 1) = false := by rw [hm]; rfl
      replace HX := Lib.hid HX
      clear hm
      go_enter Tryz.func50, Tryz.ntmps50
      go_wp2_with fail
      refine HP.out.mono ?_
      rintro e w' ⟨rfl, rfl⟩
      go_wp2_with fail
      refine (HC.out _).mono ?_
      rintro e w2 ⟨rfl, hb2⟩
      go_wp2_with fail
      refine (HD1.out _).mono ?_
      rintro e w3 ⟨rfl, rfl⟩
      go_wp2_with fail
      refine (HD2.out _).mono ?_
      rintro e w4 ⟨rfl, rfl⟩
      go_wp2_with fail
      go_ret2
      exact ⟨ret_ver (by rw [HX.out]) (by rw [HX.out]), hb2⟩
    · rw [if_neg hm] at HX
      have hb : (m != 1) = true := bne_iff_ne.2 hm
      replace HX := Lib.hid HX
      clear hm
      go_enter Tryz.func50, Tryz.ntmps50
      go_wp2_with fail
      refine HP.out.mono ?_
      rintro e w' ⟨rfl, rfl⟩
      go_wp2_with fail
      refine (HC.out _).mono ?_
      rintro e w2 ⟨rfl, hb2⟩
      go_wp2_with fail
      refine (HD1.out _).mono ?_
      rintro e w3 ⟨rfl, rfl⟩
      go_wp2_with fail
      refine (HD2.out _).mono ?_
      rintro e w4 ⟨rfl, rfl⟩
      go_wp2_with fail
      go_ret2
      exact ⟨ret_ver (by rw [HX.out]) (by rw [HX.out]), hb2⟩
  all_goals
    rw [if_neg (by simp)] at HX
    replace HX := Lib.hid HX
    go_enter Tryz.func50, Tryz.ntmps50
    go_wp2_with fail
    refine HP.out.mono ?_
    rintro e w' ⟨rfl, rfl⟩
    go_wp2_with fail
    refine (HC.out _).mono ?_
    rintro e w2 ⟨rfl, hb2⟩
    go_wp2_with fail
    refine (HD1.out _).mono ?_
    rintro e w3 ⟨rfl, rfl⟩
    go_wp2_with fail
    refine (HD2.out _).mono ?_
    rintro e w4 ⟨rfl, rfl⟩
    go_wp2_with fail
    go_ret2
    exact ⟨ret_ver (by rw [HX.out]) (by rw [HX.out]), hb2⟩
end Go.Proofs.YtggmafmebocoaaaGreatDoor.PVer8

/- Layer 8 of the program: isTarget. -/
namespace Go.Proofs.YtggmafmebocoaaaGreatDoor.PSeen
open Go.ChangeShapes Go.WideShapes Go.ChangeAt Go.RowKit LexPure Bytes Ret FieldsPure HeadPure HeadCut PTrim PText Mem
set_option maxRecDepth 20000
/-- what may stand as a target -/
def targetB (s : List UInt8) : Bool := s.all seenB && !s.isEmpty
theorem target_iff (s : List UInt8) : targetB s = true ↔ s.all seenB = true ∧ s ≠ [] := by
  unfold targetB
  cases s <;> simp
theorem seen_three (b : UInt8) : (seenB b = false ∧ (b.toNat : Int) < 33) ∨ (seenB b = false ∧ ¬ (b.toNat : Int) < 33 ∧ (126 : Int) < (b.toNat : Int)) ∨ (seenB b = true ∧ ¬ (b.toNat : Int) < 33 ∧ ¬ (126 : Int) < (b.toNat : Int)) := by
  unfold seenB
  rcases (show b.toNat ≤ 32 ∨ 127 ≤ b.toNat ∨ (32 < b.toNat ∧ b.toNat < 127) by omega) with h | h | h
  · exact .inl ⟨by rw [decide_eq_false (by omega)]; rfl, by omega⟩
  · exact .inr (.inl ⟨by rw [decide_eq_false (p := b.toNat < 127) (by omega), Bool.and_false], by omega, by omega⟩)
  · exact .inr (.inr ⟨by rw [decide_eq_true h.1, decide_eq_true h.2]; rfl, by omega, by omega⟩)
end Go.Proofs.YtggmafmebocoaaaGreatDoor.PSeen

/- Layer 8 of the program: startLine. -/
namespace Go.Proofs.YtggmafmebocoaaaGreatDoor.PStart8
open Go.ChangeShapes Go.WideShapes Go.ChangeAt Go.RowKit LexPure Bytes Ret FieldsPure HeadPure CutAt HeadCut HBox Mem PCutLib PToken PVer8 PSeen
set_option maxRecDepth 20000
theorem cut_sizes (x : UInt8) (s : List UInt8) : (aheadOf x s).length ≤ s.length ∧ (behind x s).length ≤ s.length :=
  ⟨by rw [ahead_take, List.length_take]; omega, by rw [cut_drop, List.length_drop]; omega⟩
end Go.Proofs.YtggmafmebocoaaaGreatDoor.PStart8

/- Layer 8 of the program: read, over whatever its function answers; Request, Response. -/
namespace Go.Proofs.YtggmafmebocoaaaGreatDoor.PRead8
open Go.ChangeShapes Go.WideShapes Go.ChangeAt Go.RowKit LexPure Bytes Ret Rows1 FieldsPure Flds HeadPure HBox Mem KeptRow PNext PFlds8
set_option maxRecDepth 20000
/-- the first line by g, then the fields -/
def fromG (g : List UInt8 → H8 × Int) (s : List UInt8) : Res :=
  match scan 1100 82 0 s with
  | .wait => .wait
  | .bad e => .bad e
  | .whole k => if (g (s.take k)).2 = 0 then fields8 (g (s.take k)).1 32 [] (k + 2) (s.drop (k + 2)) else .bad (g (s.take k)).2
theorem from_g (r : Bool) (s : List UInt8) : from8 r 0 s = fromG (if r then status8 else start8) s := by
  unfold from8 fromG
  cases r <;> (cases scan 1100 82 0 s <;> simp)
/-- a reading of fields, with another head -/
def reHead (h : H8) (d : Nat) : Res → Res
  | .wait => .wait
  | .bad e => .bad e
  | .done h' n => .done { h with fields := h'.fields } (n + d)
theorem fields_head (h : H8) (d : Nat) : ∀ (m : Nat) (acc : List HField) (a : Nat) (s : List UInt8), fields8 h m acc (a + d) s = reHead h d (fields8 zero8 m acc a s) := by
  intro m
  induction m with
  | zero =>
    intro acc a s
    unfold fields8
    cases scan 512 83 0 s with
    | wait => rfl
    | bad e => rfl
    | whole k =>
      simp only
      split
      · unfold reHead; simp only; congr 1; omega
      · rfl
  | succ m ih =>
    intro acc a s
    unfold fields8
    cases scan 512 83 0 s with
    | wait => rfl
    | bad e => rfl
    | whole k =>
      simp only
      split
      · unfold reHead; simp only; congr 1; omega
      · split
        · rw [show a + d + k + 2 = a + k + 2 + d by omega]
          exact ih _ _ _
        · rfl
theorem fields_most {h : H8} {m : Nat} {acc : List HField} {s : List UInt8} {h' : H8} {n : Nat} (hd : fields8 h m acc 0 s = .done h' n) : n ≤ s.length := by
  obtain ⟨p, q, e, hn, hp, _⟩ := fields_done h m acc 0 s h' n hd
  have := congrArg List.length e
  rw [List.length_append] at this
  omega
theorem fields_some {m : Nat} {acc : List HField} {a : Nat} {s : List UInt8} {h h' : H8} {n : Nat} (hd : fields8 h m acc a s = .done h' n) : 0 < n := by
  obtain ⟨p, q, _, hn, hp, _⟩ := fields_done h m acc a s h' n hd
  omega
theorem ret_head {W w : World} {R : Res} {h : H8} {v : Value} {n e : Int} {l : List HField} (h1 : hv (resH R) v = hv h v) (h2 : (resN R : Int) = n) (h3 : resE R = e) (h4 : (resH R).fields = l) (hf : RowF W w.heap.size v l) (hb : Below w.heap.size w W) :
    ∃ u, Ending.returned (hrv3 h v n e) = .returned (hrv3 (resH R) u (resN R) (resE R)) ∧ RowF W w.heap.size u (resH R).fields ∧ Below w.heap.size w W :=
  ⟨v, by unfold hrv3; rw [h1, h2, h3], by rw [h4]; exact hf, hb⟩
set_option maxHeartbeats 1600000 in
theorem pread_any (fid : Nat) (hent : ∀ args w, (callFunc fid args).run Tryz.prog w = .ok (.enter fid args) w) (g : List UInt8 → H8 × Int)
    (hcall : ∀ (l : ByteArray), l.size ≤ 140737488351232 → ∀ w, Calls Tryz.prog fid #[.string l] w fun e w' => e = .returned (hrv (g (toL l)).1 (.slice none 0 0) (g (toL l)).2) ∧ Below w.heap.size w w')
    (s : ByteArray) (hs : s.size ≤ 4611686018427387904) (w : World) :
    Calls Tryz.prog 33 #[.string s, .func (.func fid) #[] #[]] w fun e w' => ∃ v, e = .returned (hrv3 (resH (fromG g (toL s))) v (resN (fromG g (toL s))) (resE (fromG g (toL s)))) ∧ RowF w' w.heap.size v (resH (fromG g (toL s))).fields ∧ Below w.heap.size w w' := by
  have HO := Lib.hid (HOne.start w)
  obtain ⟨X, hX⟩ : ∃ X, X = fromG g (toL s) := ⟨_, rfl⟩
  rw [← hX]
  unfold fromG at hX
  have HN := Lib.hid (fun w => pnext_any s hs 1100 82 w)
  cases hsc : scan 1100 82 0 (toL s) with
  | wait =>
    rw [hsc] at HN hX
    have HV : X = .wait := hX
    subst HV
    unfold lineT lineB lineE at HN
    clear hX hsc hcall
    go_enter Tryz.func33, Tryz.ntmps33
    go_wp2_with fail
    generalize w.alloc (.cells #[.string ⟨#[]⟩, .string ⟨#[]⟩, .int .i64 0, .string ⟨#[]⟩, .int .i64 0, .slice none 0 0] 37) = W at HO ⊢
    obtain ⟨b, hb⟩ : ∃ b, b = w.heap.size := ⟨_, rfl⟩
    rw [← hb] at HO ⊢
    replace hb := Lib.hid hb
    refine (HN.out _).mono ?_
    rintro e w' ⟨rfl, rfl⟩
    obtain ⟨d0, d1, d2, d3, d4, d5⟩ := HO.out.box.cells
    obtain ⟨y0, y1, y2, y3, y4, y5⟩ := HO.out.box.frees
    have HE := Lib.hid (HO.out.box.put zero8 (.slice none 0 0))
    have HB := Lib.hid (HO.out.put zero8 (.slice none 0 0))
    go_wp2_with fail
    refine bodyPost_ret (v := hrv3 zero8 (.slice none 0 0) 0 0) ?_ rfl (ret_head (R := .wait) rfl rfl rfl rfl (row_none _ _) HB.out)
    rw [results_cell_tmp2 rfl]
    exact end_hbox3 rfl rfl rfl HE.out
  | bad er =>
    rw [hsc] at HN hX
    have HV : X = .bad er := hX
    subst HV
    unfold lineT lineB lineE at HN
    clear hX hsc hcall
    go_enter Tryz.func33, Tryz.ntmps33
    go_wp2_with fail
    generalize w.alloc (.cells #[.string ⟨#[]⟩, .string ⟨#[]⟩, .int .i64 0, .string ⟨#[]⟩, .int .i64 0, .slice none 0 0] 37) = W at HO ⊢
    obtain ⟨b, hb⟩ : ∃ b, b = w.heap.size := ⟨_, rfl⟩
    rw [← hb] at HO ⊢
    replace hb := Lib.hid hb
    refine (HN.out _).mono ?_
    rintro e w' ⟨rfl, rfl⟩
    obtain ⟨d0, d1, d2, d3, d4, d5⟩ := HO.out.box.cells
    obtain ⟨y0, y1, y2, y3, y4, y5⟩ := HO.out.box.frees
    have HE := Lib.hid (HO.out.box.put zero8 (.slice none 0 0))
    have HB := Lib.hid (HO.out.put zero8 (.slice none 0 0))
    go_wp2_with fail
    refine bodyPost_ret (v := hrv3 zero8 (.slice none 0 0) 0 er) ?_ rfl (ret_head (R := .bad er) rfl rfl rfl rfl (row_none _ _) HB.out)
    rw [results_cell_tmp2 rfl]
    exact end_hbox3 rfl rfl rfl HE.out
  | whole k =>
    have hkl := whole_len hsc
    have hkm := whole_most hsc
    rw [toL_length] at hkl
    rw [hsc] at HN hX
    unfold lineT lineB lineE at HN
    dsimp only at hX HN
    obtain ⟨LN, hLN⟩ : ∃ LN, LN = ofL ((toL s).take k) := ⟨_, rfl⟩
    have lLN : LN.size = k := by rw [hLN, ofL_size, List.length_take, toL_length]; omega
    have HC := Lib.hid (hcall LN (by omega))
    rw [show toL LN = (toL s).take k by rw [hLN, toL_ofL]] at HC
    rw [← hLN] at HN
    generalize g ((toL s).take k) = x at *
    obtain ⟨xh, er⟩ := x
    dsimp only at hX HC
    have hk2 : (LN.size : Int) + 2 ≤ (s.size : Int) := by omega
    have hsi : (s.size : Int) ≤ 4611686018427387904 := by omega
    unfold hrv hv at HC
    clear hsc hcall hLN
    go_enter Tryz.func33, Tryz.ntmps33
    go_wp2_with fail
    generalize w.alloc (.cells #[.string ⟨#[]⟩, .string ⟨#[]⟩, .int .i64 0, .string ⟨#[]⟩, .int .i64 0, .slice none 0 0] 37) = W at HO ⊢
    obtain ⟨b, hb⟩ : ∃ b, b = w.heap.size := ⟨_, rfl⟩
    rw [← hb] at HO ⊢
    replace hb := Lib.hid hb
    refine (HN.out _).mono ?_
    rintro e w' ⟨rfl, rfl⟩
    clear HN
    go_wp2_with fail
    refine (HC.out _).mono ?_
    rintro e w3 ⟨rfl, hb3⟩
    clear HC
    replace HO := Lib.hid (HO.out.call hb3)
    clear hb3
    have hbG : b < w3.heap.size := by have := HO.out.size; omega
    have HO3 := HO
    replace HO := Lib.hid (HO.out.call ((Below.refl _ _).alloc (Nat.le_refl _) (.cells #[.string (ofL xh.method), .string (ofL xh.target), .int .i64 xh.status, .string (ofL xh.reason), .int .i64 xh.minor, .slice none 0 0] 37)))
    have HG : Hid (HBox (w3.alloc (.cells #[.string (ofL xh.method), .string (ofL xh.target), .int .i64 xh.status, .string (ofL xh.reason), .int .i64 xh.minor, .slice none 0 0] 37)) w3.heap.size xh (.slice none 0 0)) := Lib.hid ⟨Has.new w3 _ _⟩
    by_cases h9 : er = 0
    · rw [if_pos h9] at hX
      subst h9
      have HX : Hid (X = reHead xh (k + 2) (fields8 zero8 32 [] 0 ((toL s).drop (k + 2)))) := Lib.hid (by
        rw [hX, ← fields_head, Nat.zero_add])
      clear hX
      have HF := Lib.hid (fun w => pfields_any (s.extract (k + 2) s.size) (by rw [ByteArray.size_extract]; omega) w)
      rw [show toL (s.extract (k + 2) s.size) = (toL s).drop (k + 2) by rw [toL_extract, toL_take_all s (Nat.le_refl _)]] at HF
      generalize hY : fields8 zero8 32 [] 0 ((toL s).drop (k + 2)) = Y at *
      replace hY := Lib.hid hY
      have hGs : w3.heap.size < (w3.alloc (.cells #[.string (ofL xh.method), .string (ofL xh.target), .int .i64 xh.status, .string (ofL xh.reason), .int .i64 xh.minor, .slice none 0 0] 37)).heap.size := by simp
      go_wp2_with fail
      generalize w3.alloc (.cells #[.string (ofL xh.method), .string (ofL xh.target), .int .i64 xh.status, .string (ofL xh.reason), .int .i64 xh.minor, .slice none 0 0] 37) = W4 at HO HG hGs ⊢
      generalize w3.heap.size = G at HG hbG hGs ⊢
      cases Y with
      | wait =>
        dsimp only [resN, resE, resH] at HF
        have HV : X = .wait := HX.out
        subst HV
        clear HX hY
        refine (HF.out _).mono ?_
        rintro e w5 ⟨v, rfl, _, hb5⟩
        replace HO := Lib.hid (HO.out.call hb5)
        clear hb5 HF HG hGs hbG
        obtain ⟨d0, d1, d2, d3, d4, d5⟩ := HO.out.box.cells
        obtain ⟨y0, y1, y2, y3, y4, y5⟩ := HO.out.box.frees
        have HE := Lib.hid (HO.out.box.put zero8 (.slice none 0 0))
        have HB := Lib.hid (HO.out.put zero8 (.slice none 0 0))
        clear HO
        go_wp2_with fail
        refine bodyPost_ret (v := hrv3 zero8 (.slice none 0 0) 0 0) ?_ rfl (ret_head (R := .wait) rfl rfl rfl rfl (row_none _ _) HB.out)
        rw [results_cell_tmp2 rfl]
        exact end_hbox3 rfl rfl rfl HE.out
      | bad er =>
        dsimp only [resN, resE, resH] at HF
        have HV : X = .bad er := HX.out
        subst HV
        clear HX hY
        refine (HF.out _).mono ?_
        rintro e w5 ⟨v, rfl, _, hb5⟩
        replace HO := Lib.hid (HO.out.call hb5)
        clear hb5 HF HG hGs hbG
        obtain ⟨d0, d1, d2, d3, d4, d5⟩ := HO.out.box.cells
        obtain ⟨y0, y1, y2, y3, y4, y5⟩ := HO.out.box.frees
        have HE := Lib.hid (HO.out.box.put zero8 (.slice none 0 0))
        have HB := Lib.hid (HO.out.put zero8 (.slice none 0 0))
        clear HO
        go_wp2_with fail
        refine bodyPost_ret (v := hrv3 zero8 (.slice none 0 0) 0 er) ?_ rfl (ret_head (R := .bad er) rfl rfl rfl rfl (row_none _ _) HB.out)
        rw [results_cell_tmp2 rfl]
        exact end_hbox3 rfl rfl rfl HE.out
      | done h' n =>
        dsimp only [resN, resE, resH] at HF
        have HV : X = .done { xh with fields := h'.fields } (n + (k + 2)) := HX.out
        subst HV
        have hn1 := fields_some hY.out
        have hn2 := fields_most hY.out
        rw [List.length_drop, toL_length] at hn2
        have hz : ((n : Int) == 0) = false := beq_eq_false_iff_ne.2 (by omega)
        have hsum : (k : Int) + 2 + (n : Int) ≤ (s.size : Int) := by omega
        clear HX hY hn1 hn2
        refine (HF.out _).mono ?_
        rintro e w5 ⟨v, rfl, hrow, hb5⟩
        clear HO3
        replace HO := Lib.hid (HO.out.call hb5)
        replace HG := Lib.hid (HG.out.below hb5 hGs)
        have hne : b ≠ G := by omega
        have hne2 : G ≠ b := by omega
        obtain ⟨p, cap, rfl, _, _⟩ := fl_of hrow.1 (by have := hrow.2; omega)
        have hrow2 : Hid (RowF (hput (w5.setCell ⟨G, 5, none⟩ (.slice p h'.fields.length cap)) b xh (.slice p h'.fields.length cap)) w.heap.size (.slice p h'.fields.length cap) h'.fields) := Lib.hid ⟨row_mono (row_hput (ownsRow_setCell_below hrow.1 (a := ⟨G, 5, none⟩) hGs _) (g := b) (by omega) xh _) (by have := HO.out.at_; omega), hrow.2⟩
        clear hb5 HF hrow
        have HG6 := Lib.hid (HG.out.setF (.slice p h'.fields.length cap))
        have HO6 := Lib.hid (HO.out.box.far (p := ⟨G, 5, none⟩) hne (.slice p h'.fields.length cap))
        have HB6 := Lib.hid (below_hput (HO.out.below.setCell (p := ⟨G, 5, none⟩) (by have := HO.out.at_; show w.heap.size ≤ G; omega) (.slice p h'.fields.length cap)) (g := b) (by have := HO.out.at_; omega) xh (.slice p h'.fields.length cap))
        have HE := Lib.hid (HO6.out.put xh (.slice p h'.fields.length cap))
        obtain ⟨e0, e1, e2, e3, e4, e5⟩ := HG.out.cells
        obtain ⟨x0, x1, x2, x3, x4, x5⟩ := HG.out.frees
        obtain ⟨d0, d1, d2, d3, d4, d5⟩ := HO6.out.cells
        obtain ⟨y0, y1, y2, y3, y4, y5⟩ := HO6.out.frees
        clear HO HG HO6
        go_wp2_with fail
        refine bodyPost_ret (v := hrv3 xh (.slice p h'.fields.length cap) ((k : Int) + 2 + (n : Int)) 0) ?_ rfl (ret_head (R := .done { xh with fields := h'.fields } (n + (k + 2))) rfl (show ((n + (k + 2) : Nat) : Int) = (k : Int) + 2 + (n : Int) by omega) rfl rfl hrow2.out HB6.out)
        rw [results_cell_tmp2 rfl]
        exact end_hbox3 rfl rfl rfl HE.out
    · rw [if_neg h9] at hX
      subst hX
      have h7 : (er != 0) = true := bne_iff_ne.2 h9
      clear h9 HO3 HG hbG
      dsimp only
      iterate 15 go_step
      generalize w3.alloc (.cells #[.string (ofL xh.method), .string (ofL xh.target), .int .i64 xh.status, .string (ofL xh.reason), .int .i64 xh.minor, .slice none 0 0] 37) = W4 at HO ⊢
      obtain ⟨d0, d1, d2, d3, d4, d5⟩ := HO.out.box.cells
      obtain ⟨y0, y1, y2, y3, y4, y5⟩ := HO.out.box.frees
      have HE := Lib.hid (HO.out.box.put zero8 (.slice none 0 0))
      have HB := Lib.hid (HO.out.put zero8 (.slice none 0 0))
      clear HO
      go_wp2_with fail
      refine bodyPost_ret (v := hrv3 zero8 (.slice none 0 0) 0 er) ?_ rfl (ret_head (R := .bad er) rfl rfl rfl rfl (row_none _ _) HB.out)
      rw [results_cell_tmp2 rfl]
      exact end_hbox3 rfl rfl rfl HE.out
end Go.Proofs.YtggmafmebocoaaaGreatDoor.PRead8

/- Layer 8 of the program: Request. -/
namespace Go.Proofs.YtggmafmebocoaaaGreatDoor.PHead8
open Go.ChangeShapes Go.WideShapes Go.ChangeAt Go.RowKit LexPure Bytes Ret Rows1 FieldsPure Flds HeadPure HBox Mem KeptRow PNext PFlds8 PStart8  PRead8 PPre
set_option maxRecDepth 20000
theorem skip_pre : ∀ l : List UInt8, ([13, 10] : List UInt8).isPrefixOf l = true → 2 ≤ l.length ∧ skip8 l = skip8 (l.drop 2) + 2
  | [], h => by cases h
  | [c], h => by simp [List.isPrefixOf] at h
  | c :: d :: s, h => by
    have : 13 = c ∧ 10 = d := by simpa [List.isPrefixOf] using h
    obtain ⟨rfl, rfl⟩ := this
    exact ⟨by simp, rfl⟩
theorem skip_not : ∀ l : List UInt8, ([13, 10] : List UInt8).isPrefixOf l = false → skip8 l = 0
  | [], _ => rfl
  | [c], _ => rfl
  | c :: d :: s, h => by
    unfold skip8
    rw [if_neg]
    rintro ⟨rfl, rfl⟩
    simp [List.isPrefixOf] at h
theorem read_at {s : List UInt8} {a : Nat} (h : skip8 s = a) : read8 false s = shift a (fromG start8 (s.drop a)) := by
  unfold read8 skipOf
  rw [if_neg (by decide), h, show fromG start8 (s.drop a) = from8 false 0 (s.drop a) from (from_g false _).symm, ← from_shift, Nat.zero_add]
theorem resN_most {g : List UInt8 → H8 × Int} {s : List UInt8} {h' : H8} {n : Nat} (hd : fromG g s = .done h' n) : 0 < n ∧ n ≤ s.length := by
  unfold fromG at hd
  cases hs : scan 1100 82 0 s with
  | wait => rw [hs] at hd; cases hd
  | bad e => rw [hs] at hd; cases hd
  | whole k =>
    rw [hs] at hd
    dsimp only at hd
    have hk := whole_len hs
    split at hd
    · obtain ⟨p, q, e, hn, hp, _⟩ := fields_done _ _ _ _ _ h' n hd
      have := congrArg List.length e
      rw [List.length_append, List.length_drop] at this
      omega
    · cases hd
end Go.Proofs.YtggmafmebocoaaaGreatDoor.PHead8

/- Layer 8 of the program: isReason. -/
namespace Go.Proofs.YtggmafmebocoaaaGreatDoor.PSeen
open Go.ChangeShapes Go.WideShapes Go.ChangeAt Go.RowKit LexPure Bytes Ret FieldsPure HeadPure HeadCut PTrim PText Mem
set_option maxRecDepth 20000
theorem preason_any (s : ByteArray) (hs : s.size ≤ 140737488351232) (w : World) :
    Calls Tryz.prog 49 #[.string s] w fun e w' => e = .returned (.bool ((toL s).all plainB)) ∧ Below w.heap.size w w' := by
  have HT := Lib.hid (fun w => ptrim_any s (by unfold maxLen; omega) w)
  have HV := Lib.hid (fun w => pvalue_any (ofL (trim (toL s))) (by unfold maxLen; rw [ofL_size]; have := trim_length (toL s); rw [toL_length] at this; omega) w)
  rw [toL_ofL, value_trim'] at HV
  generalize (toL s).all plainB = x at HV ⊢
  clear hs
  go_enter Tryz.func49, Tryz.ntmps49
  go_wp2_with fail
  refine (HT.out _).mono ?_
  rintro e w1 ⟨rfl, hb1⟩
  go_wp2_with fail
  refine (HV.out _).mono ?_
  rintro e w2 ⟨rfl, hb2⟩
  replace hb1 := below_chain hb1 hb2
  clear hb2
  go_wp2_with fail
  go_ret
  exact ⟨rfl, hb1⟩
end Go.Proofs.YtggmafmebocoaaaGreatDoor.PSeen

/- Layer 8 of the program: statusLine. -/
namespace Go.Proofs.YtggmafmebocoaaaGreatDoor.PStatus8
open Go.ChangeShapes Go.WideShapes Go.ChangeAt Go.RowKit LexPure Bytes Ret FieldsPure HeadPure CutAt HeadCut HBox Mem PCutLib PDecimal PVer8 PSeen
set_option maxRecDepth 20000
theorem cut_sizes2 (x : UInt8) (s : List UInt8) : (aheadOf x s).length ≤ s.length ∧ (behind x s).length ≤ s.length :=
  ⟨by rw [ahead_take, List.length_take]; omega, by rw [cut_drop, List.length_drop]; omega⟩
set_option maxHeartbeats 1600000 in
theorem pstatus_any (s : ByteArray) (hs : s.size ≤ 140737488351232) (w : World) :
    Calls Tryz.prog 34 #[.string s] w fun e w' => e = .returned (hrv (status8 (toL s)).1 (.slice none 0 0) (status8 (toL s)).2) ∧ Below w.heap.size w w' := by
  have HO := Lib.hid (HOne.start w)
  obtain ⟨x, hx⟩ : ∃ x, x = status8 (toL s) := ⟨_, rfl⟩
  rw [← hx]
  rw [status_prog] at hx
  unfold statusP at hx
  have z1 := cut_sizes2 32 (toL s)
  have z2 := cut_sizes2 32 (behind 32 (toL s))
  rw [toL_length] at z1
  have HC1 := Lib.hid (fun w => full_cut 32 s hs w)
  have HC2 := Lib.hid (fun w => full_cut 32 (ofL (behind 32 (toL s))) (by rw [ofL_size]; omega) w)
  rw [toL_ofL] at HC2
  have HD := Lib.hid (fun w => (pdecimal_any (ofL (aheadOf 32 (behind 32 (toL s)))) (by unfold maxLen; rw [ofL_size]; omega) 3 w).mono (fun e w' h => (⟨h.1, h.2.symm⟩ : e = .returned (.tuple #[.int .i64 (numR 10 (min 3 18) (toL (ofL (aheadOf 32 (behind 32 (toL s)))))), .bool (numOk 10 (min 3 18) (toL (ofL (aheadOf 32 (behind 32 (toL s))))))]) ∧ w' = w)))
  have HG := Lib.hid (fun w => preason_any (ofL (behind 32 (behind 32 (toL s)))) (by rw [ofL_size]; omega) w)
  have HV := Lib.hid (fun w => pversion_any (ofL (aheadOf 32 (toL s))) (by rw [ofL_size]; omega) w)
  rw [toL_ofL] at HD HG HV
  rw [show min (3 : Int) 18 = 3 from rfl] at HD
  generalize hasB 32 (toL s) = q1 at *
  generalize hasB 32 (behind 32 (toL s)) = q2 at *
  generalize aheadOf 32 (toL s) = V at *
  generalize behind 32 (toL s) = R at *
  generalize aheadOf 32 R = D at *
  generalize behind 32 R = T at *
  generalize version8 V = v at *
  generalize numOk 10 3 D = ok at *
  generalize numR 10 3 D = n at *
  generalize hrb : T.all plainB = rb at *
  clear hrb
  obtain ⟨m, er⟩ := v
  clear z1 z2 hs
  replace hx := Lib.hid hx
  have hcases : n < 100 ∨ (¬ n < 100 ∧ (599 : Int) < n) ∨ (¬ n < 100 ∧ ¬ (599 : Int) < n) := by omega
  go_enter Tryz.func34, Tryz.ntmps34
  go_wp2_with fail
  generalize w.alloc (.cells #[.string ⟨#[]⟩, .string ⟨#[]⟩, .int .i64 0, .string ⟨#[]⟩, .int .i64 0, .slice none 0 0] 37) = W at HO ⊢
  obtain ⟨g, hg⟩ : ∃ g, g = w.heap.size := ⟨_, rfl⟩
  rw [← hg] at HO ⊢
  replace hg := Lib.hid hg
  refine (HC1.out _).mono ?_
  rintro e w1 ⟨rfl, hb1⟩
  replace HO := Lib.hid (HO.out.call hb1)
  clear hb1 HC1
  go_wp2_with fail
  refine (HC2.out _).mono ?_
  rintro e w2 ⟨rfl, hb2⟩
  replace HO := Lib.hid (HO.out.call hb2)
  clear hb2 HC2
  go_wp2_with fail
  refine (HD.out _).mono ?_
  rintro e w' ⟨rfl, rfl⟩
  clear HD
  obtain ⟨d0, d1, d2, d3, d4, d5⟩ := HO.out.box.cells
  obtain ⟨y0, y1, y2, y3, y4, y5⟩ := HO.out.box.frees
  have HE := Lib.hid (HO.out.box.put zero8 (.slice none 0 0))
  have HB := Lib.hid (HO.out.put zero8 (.slice none 0 0))
  cases ok with
  | false =>
    have HX : x = (zero8, 80) := by rw [hx.out, if_neg]; rintro ⟨h, _⟩; cases h
    subst HX
    clear hx HO HG HV hcases
    go_wp2_with fail
    refine bodyPost_ret (v := hrv zero8 (.slice none 0 0) 80) ?_ rfl ⟨rfl, HB.out⟩
    rw [results_cell_tmp rfl]
    exact end_hbox rfl rfl HE.out
  | true =>
  rcases hcases with hi | ⟨hi, hj⟩ | ⟨hi, hj⟩
  · have HX : x = (zero8, 80) := by rw [hx.out, if_neg]; rintro ⟨_, h, _⟩; omega
    subst HX
    clear hx HO HG HV
    go_wp2_with fail
    refine bodyPost_ret (v := hrv zero8 (.slice none 0 0) 80) ?_ rfl ⟨rfl, HB.out⟩
    rw [results_cell_tmp rfl]
    exact end_hbox rfl rfl HE.out
  · have HX : x = (zero8, 80) := by rw [hx.out, if_neg]; rintro ⟨_, _, h, _⟩; omega
    subst HX
    clear hx HO HG HV
    go_wp2_with fail
    refine bodyPost_ret (v := hrv zero8 (.slice none 0 0) 80) ?_ rfl ⟨rfl, HB.out⟩
    rw [results_cell_tmp rfl]
    exact end_hbox rfl rfl HE.out
  clear HE HB d0 d1 d2 d3 d4 d5 y0 y1 y2 y3 y4 y5
  go_wp2_with fail
  refine (HG.out _).mono ?_
  rintro e w2 ⟨rfl, hb2⟩
  replace HO := Lib.hid (HO.out.call hb2)
  clear hb2 HG
  cases rb with
  | false =>
    obtain ⟨d0, d1, d2, d3, d4, d5⟩ := HO.out.box.cells
    obtain ⟨y0, y1, y2, y3, y4, y5⟩ := HO.out.box.frees
    have HE := Lib.hid (HO.out.box.put zero8 (.slice none 0 0))
    have HB := Lib.hid (HO.out.put zero8 (.slice none 0 0))
    have HX : x = (zero8, 80) := by rw [hx.out, if_neg]; rintro ⟨_, _, _, h⟩; cases h
    subst HX
    clear hx HO HV
    go_wp2_with fail
    refine bodyPost_ret (v := hrv zero8 (.slice none 0 0) 80) ?_ rfl ⟨rfl, HB.out⟩
    rw [results_cell_tmp rfl]
    exact end_hbox rfl rfl HE.out
  | true =>
  have HX1 : x = if er = 0 then (⟨[], [], n, T, m, []⟩, 0) else (zero8, er) := by
    rw [hx.out, if_pos ⟨by trivial, by omega, by omega, by trivial⟩]
  clear hx
  go_wp2_with fail
  refine (HV.out _).mono ?_
  rintro e w3 ⟨rfl, hb3⟩
  replace HO := Lib.hid (HO.out.call hb3)
  clear hb3 HV
  obtain ⟨d0, d1, d2, d3, d4, d5⟩ := HO.out.box.cells
  obtain ⟨y0, y1, y2, y3, y4, y5⟩ := HO.out.box.frees
  by_cases h6 : er = 0
  · rw [if_pos h6] at HX1
    subst HX1
    subst h6
    have HE := Lib.hid (HO.out.box.put ⟨[], [], n, T, m, []⟩ (.slice none 0 0))
    have HB := Lib.hid (HO.out.put ⟨[], [], n, T, m, []⟩ (.slice none 0 0))
    unfold hput at HE HB
    clear HO
    go_wp2_with fail
    refine bodyPost_ret (v := hrv ⟨[], [], n, T, m, []⟩ (.slice none 0 0) 0) ?_ rfl ⟨rfl, HB.out⟩
    rw [results_cell_tmp rfl]
    exact end_hbox rfl rfl HE.out
  · rw [if_neg h6] at HX1
    subst HX1
    have h7 : (er != 0) = true := bne_iff_ne.2 h6
    have HE := Lib.hid (HO.out.box.put zero8 (.slice none 0 0))
    have HB := Lib.hid (HO.out.put zero8 (.slice none 0 0))
    clear HO h6
    go_wp2_with fail
    refine bodyPost_ret (v := hrv zero8 (.slice none 0 0) er) ?_ rfl ⟨rfl, HB.out⟩
    rw [results_cell_tmp rfl]
    exact end_hbox rfl rfl HE.out
end Go.Proofs.YtggmafmebocoaaaGreatDoor.PStatus8

/- Layer 8 of the program: Request, Response. -/
namespace Go.Proofs.YtggmafmebocoaaaGreatDoor.PHead8
open Go.ChangeShapes Go.WideShapes Go.ChangeAt Go.RowKit LexPure Bytes Ret Rows1 FieldsPure Flds HeadPure HBox Mem KeptRow PNext PFlds8 PStart8 PStatus8 PRead8 PPre
set_option maxRecDepth 20000
theorem read_response (s : List UInt8) : read8 true s = fromG status8 s := by
  unfold read8 skipOf
  rw [if_pos rfl, List.drop_zero, from_g]
  rfl
theorem presponse_row (s : ByteArray) (hs : s.size ≤ 4611686018427387904) (w : World) :
    Calls Tryz.prog 26 #[.string s] w fun e w' => ∃ v, e = .returned (hrv3 (resH (read8 true (toL s))) v (resN (read8 true (toL s))) (resE (read8 true (toL s)))) ∧ RowF w' w.heap.size v (resH (read8 true (toL s))).fields ∧ Below w.heap.size w w' := by
  have HO := Lib.hid (HOne.start w)
  rw [read_response]
  have HR := Lib.hid (fun w => pread_any 34 (enters_of Tryz.func34 (by kernel_rfl) rfl) status8 (fun l hl w => pstatus_any l hl w) s hs w)
  generalize fromG status8 (toL s) = X at *
  generalize hXn : (resN X : Int) = n at *
  generalize resE X = er at *
  go_enter Tryz.func26, Tryz.ntmps26
  go_wp2_with fail
  generalize w.alloc (.cells #[.string ⟨#[]⟩, .string ⟨#[]⟩, .int .i64 0, .string ⟨#[]⟩, .int .i64 0, .slice none 0 0] 37) = W at HO ⊢
  obtain ⟨b, hb⟩ : ∃ b, b = w.heap.size := ⟨_, rfl⟩
  rw [← hb] at HO ⊢
  replace hb := Lib.hid hb
  refine (HR.out _).mono ?_
  rintro e w' ⟨v, rfl, hrow, hb1⟩
  have hrow2 : Hid (RowF (hput w' b (resH X) v) w.heap.size v (resH X).fields) := Lib.hid ⟨row_mono (row_hput hrow.1 (g := b) (by have := HO.out.size; omega) (resH X) v) HO.out.below.size, hrow.2⟩
  obtain ⟨p, cap, rfl, _, _⟩ := fl_of hrow.1 (by have := hrow.2; omega)
  replace HO := Lib.hid (HO.out.call hb1)
  clear hb1 hrow
  have HE := Lib.hid (HO.out.box.put (resH X) (.slice p (resH X).fields.length cap))
  have HB := Lib.hid (HO.out.put (resH X) (.slice p (resH X).fields.length cap))
  obtain ⟨d0, d1, d2, d3, d4, d5⟩ := HO.out.box.cells
  obtain ⟨y0, y1, y2, y3, y4, y5⟩ := HO.out.box.frees
  unfold hrv3 hv
  clear HO HR
  go_wp2_with fail
  refine bodyPost_ret (v := hrv3 (resH X) (.slice p (resH X).fields.length cap) n er) ?_ rfl ⟨_, rfl, hrow2.out, HB.out⟩
  rw [results_cell_tmp2 rfl]
  exact end_hbox3 rfl rfl rfl HE.out
theorem presponse_any (s : ByteArray) (hs : s.size ≤ 4611686018427387904) (w : World) :
    Calls Tryz.prog 26 #[.string s] w fun e w' => ∃ v, e = .returned (hrv3 (resH (read8 true (toL s))) v (resN (read8 true (toL s))) (resE (read8 true (toL s)))) ∧ FL w' v (resH (read8 true (toL s))).fields ∧ Below w.heap.size w w' :=
  (presponse_row s hs w).mono (fun e w' ⟨v, h1, h2, h3⟩ => ⟨v, h1, fl_of h2.1 (by have := h2.2; omega), h3⟩)
end Go.Proofs.YtggmafmebocoaaaGreatDoor.PHead8

/- Layer 9 of the program: what its three calls answer. -/
namespace Go.Proofs.YtggmafmebocoaaaGreatDoor.FrameObj
open Go.ChangeShapes Go.WideShapes Go.ChangeAt Go.RowKit LexPure Bytes Ret Rows1 FieldsPure HeadPure FramePure Flds HBox FrBox KeptRow PLib PFrReq PFrResp PKeep9 Mem
set_option maxRecDepth 20000
/-- what the world must hold for the calls -/
def Fit (w : World) : Prop := MaxInt w
theorem Fit.of_shape {w : World} (h : w.ShapedOpen Tryz.prog) : Fit w := MaxInt.of_shape h
theorem Fit.below {w w' : World} (h : Fit w) (hb : Below w.heap.size w w') : Fit w' := MaxInt.below h hb
/-- a framing and an error -/
def frv9 (r : Int × Int × Int) : Value := .tuple #[.agg #[.int .i64 r.1, .int .i64 r.2.1], .int .i64 r.2.2]
theorem way_of (m : ByteArray) (st : Int) : Way9 m st (st == 101) (wrap64 (st.tdiv 100) == 1) (st == 204) (st == 304) (m.toList == CON) (wrap64 (st.tdiv 100) == 2) (m.toList == HEA) := ⟨rfl, rfl, rfl, rfl, rfl, rfl, rfl⟩
theorem presponse9_any (m : ByteArray) (h : H8) (v : Value) (hst : (Lit.int .i64 h.status).wf = true) (hG : Few h.fields) (hle : h.fields.length ≤ 1048576) (w : World) (hF : FL w v h.fields) (hm : Fit w) :
    Calls Tryz.prog 28 #[.string m, hv h v] w fun e w' => e = .returned (frv9 (response9 (toL m) h.status h.minor h.fields)) ∧ Below w.heap.size w w' := by
  have hp := resp_prog m h.status h.minor h.fields hst (way_of m h.status)
  cases he : PFrResp.early (h.status == 101) (wrap64 (h.status.tdiv 100) == 1) (h.status == 204) (h.status == 304) (m.toList == CON) (wrap64 (h.status.tdiv 100) == 2) (m.toList == HEA) with
  | some X =>
    rw [he] at hp
    rw [hp]
    exact presp_early m h v (way_of m h.status) X he w
  | none =>
    rw [he] at hp
    rw [hp]
    exact presp_late m h v (way_of m h.status) he hG hle w hF hm
/-- where no field is looked at: a list of any size (FrameBodiless's first form) -/
theorem presponse9_soon (m : ByteArray) (h : H8) (v : Value) (hst : (Lit.int .i64 h.status).wf = true) (hs : h.status = 101 ∨ (100 ≤ h.status ∧ h.status < 200) ∨ h.status = 204 ∨ h.status = 304 ∨ toL m = [72, 69, 65, 68]) (w : World) (_hF : FL w v h.fields) (_hm : Fit w) :
    Calls Tryz.prog 28 #[.string m, hv h v] w fun e w' => e = .returned (frv9 (response9 (toL m) h.status h.minor h.fields)) ∧ Below w.heap.size w w' := by
  have hp := resp_prog m h.status h.minor h.fields hst (way_of m h.status)
  cases he : PFrResp.early (h.status == 101) (wrap64 (h.status.tdiv 100) == 1) (h.status == 204) (h.status == 304) (m.toList == CON) (wrap64 (h.status.tdiv 100) == 2) (m.toList == HEA) with
  | some X =>
    rw [he] at hp
    rw [hp]
    exact presp_early m h v (way_of m h.status) X he w
  | none =>
    exfalso
    obtain ⟨q1, q2, q3, q4, q5, _⟩ := late_cases he
    rw [wrap_div _ hst] at q2
    rcases hs with h1 | h1 | h1 | h1 | h1
    · rw [h1] at q1; cases q1
    · rw [(tdiv_one _).2 h1] at q2; cases q2
    · rw [h1] at q3; cases q3
    · rw [h1] at q4; cases q4
    · rw [text_at, decide_eq_true (show toL m = HEA from h1)] at q5; cases q5
theorem pkeep9_any (h : H8) (v : Value) (hG : Few h.fields) (_hle : h.fields.length ≤ 1048576) (w : World) (hF : FL w v h.fields) (hm : Fit w) :
    Calls Tryz.prog 38 #[hv h v] w fun e w' => e = .returned (.bool (keep9 h.minor h.fields)) ∧ Below w.heap.size w w' :=
  pkeep_any h v hG w hF hm
end Go.Proofs.YtggmafmebocoaaaGreatDoor.FrameObj

/- Layer 12 of the program: the step that reads the head. -/
namespace Go.Proofs.YtggmafmebocoaaaGreatDoor.POutHead
open Go.ChangeShapes Go.WideShapes Go.ChangeAt Go.RowKit LexPure Bytes Ret FieldsPure Flds HeadPure HBox FrBox FramePure ChunkPure ChunkObj OutPure OutFew OutBox KeptRow Mem Step InEmb OutObj POutText POutEnds POutBody POutOpen PLib
set_option maxRecDepth 100000
set_option linter.unusedVariables false
set_option linter.unusedSimpArgs false
theorem drop_text (D : List UInt8) (n : Nat) (hn : n ≤ D.length) : (ofL D).extract n (ofL D).size = ofL (D.drop n) := by
  apply toL_inj
  rw [toL_extract, toL_ofL, toL_ofL, ofL_size, List.take_of_length_le (Nat.le_refl _)]
/-- in the loop: block b1 holds what head.Response has told of the bytes X -/
structure HLp (w wr : World) (R : Nat → Prop) (g b1 : Nat) (r : Raw) (X : List UInt8) (v : Value) : Prop where
  st : Stood w wr R R R g { r with A := X } []
  box : HBox wr b1 (resH (read8 true X)) v
  row : RowF wr w.heap.size v (resH (read8 true X)).fields
  lo : w.heap.size < b1
  rlt : ∀ k, R k → k < w.heap.size
section
variable {w wr w1 w2 : World} {R : Nat → Prop} {g b1 : Nat} {r : Raw} {X Y : List UInt8} {v v' : Value}
/-- the row of fields is no block of a head, nor of a piece -/
theorem row_not {b : Nat} {l : Value} {F : List HField} {j : Nat} {t : TypeId} {cs : Array Value} (hl : RowF w b l F) (hh : Has w j t cs) (ht : t ≠ 103) : ∀ i, l.ownBlock = some i → ¬ i = j := by
  intro i h1 e
  subst e
  rcases hl.1.2 with ⟨rfl, _⟩ | ⟨g, cap, cur, rfl, _, hg, _⟩
  · cases h1
  · injection h1 with h1
    subst h1
    rw [hh.at_] at hg
    injection hg with hg
    injection hg with _ h _
    exact ht h
theorem row_old {b : Nat} {l : Value} {F : List HField} (hl : RowF w b l F) : ∀ i, l.ownBlock = some i → b ≤ i ∧ i < w.heap.size := fun i hi => hl.1.lt i hi
/-- head.Response has been called at first, its answer lies in a new box -/
theorem HLp.start (h : Stood w w1 R R R g { r with A := X } []) (hb : Below w1.heap.size w1 w2) (hrow : RowF w2 w1.heap.size v (resH (read8 true X)).fields) (hl : ∀ k, R k → k < w.heap.size) :
    HLp w (w2.alloc (.cells (hc (resH (read8 true X)) v) HT_)) R g w2.heap.size r X v := by
  have hs : w.heap.size < w1.heap.size := by have := h.box.has.lt; omega
  have h2 := h.call hb
  have al : Below w2.heap.size w2 (w2.alloc (.cells (hc (resH (read8 true X)) v) HT_)) := (Below.refl _ _).alloc (Nat.le_refl _) _
  refine ⟨h2.call al, ⟨Has.new _ _ _⟩, ?_, Nat.lt_of_lt_of_le hs hb.size, hl⟩
  exact row_step ⟨row_mono hrow.1 (by omega), hrow.2⟩ (Step.of_below al (fun _ => False)) (fun _ _ h => h)
/-- a head is used, and head.Response is called again -/
theorem hput_step (W : World) (b : Nat) (h : H8) (l : Value) : Step W (hput W b h l) (fun j => j = b) (fun j => j = b) := by
  have s := fun (W : World) i u => Step.set_ (F := fun j => j = b) W rfl i u
  exact (((((s W 0 _).trans (s _ 1 _)).trans (s _ 2 _)).trans (s _ 3 _)).trans (s _ 4 _)).trans (s _ 5 _)
theorem HLp.again (h : HLp w wr R g b1 r X v) (hw1 : w1 = wr.setCell ⟨g, 1, none⟩ (.string (ofL Y))) (hb : Below w1.heap.size w1 w2) (hrow : RowF w2 w1.heap.size v' (resH (read8 true Y)).fields) :
    HLp w (hput w2 b1 (resH (read8 true Y)) v') R g b1 r Y v' ∧ HBox w2 b1 (resH (read8 true X)) v := by
  have s1 : Stood w w1 R R R g { r with A := Y } [] := by rw [hw1]; exact h.st.cell 1 _ (h.st.dat.put1 Y) (fun _ h => h)
  have b1l : b1 < w1.heap.size := by rw [hw1, set_size]; exact h.box.has.lt
  have lo := h.lo
  have hbR : ∀ j, R j → ¬ j = b1 := fun j hj e => by have := h.rlt j hj; omega
  have hbg : ¬ b1 = g := fun e => hbR g h.st.dat.mine e.symm
  have x1 : HBox w1 b1 (resH (read8 true X)) v := by rw [hw1]; exact h.box.far (p := ⟨g, 1, none⟩) hbg _
  have s2 := s1.call hb
  have x2 := x1.below hb b1l
  have hst := hput_step w2 b1 (resH (read8 true Y)) v'
  have hs1 : w.heap.size < w1.heap.size := by omega
  refine ⟨⟨⟨s2.dat.step hst hbR, s2.box.step hst (fun e => by omega), s2.step.beyond hst (fun j hj => by rw [hj]; omega), h.st.far⟩, x2.put _ _, ?_, lo, h.rlt⟩, x2⟩
  exact row_step ⟨row_mono hrow.1 (by omega), hrow.2⟩ hst (row_not hrow x2.has (by decide))
end
/-- what head.Response answers, by names of its own -/
def Said (X : List UInt8) (H : H8) (n er : Int) : Prop := H = resH (read8 true X) ∧ n = (resN (read8 true X) : Int) ∧ er = resE (read8 true X)
theorem presp2 (X : List UInt8) (hX : X.length ≤ 4611686018427387904) (w1 : World) :
    Calls Tryz.prog 26 #[.string (ofL X)] w1 fun e w2 => ∃ (H : H8) (n er : Int) (p : Option Addr) (cap : Nat), e = .returned (.tuple #[.agg #[.string (ofL H.method), .string (ofL H.target), .int .i64 H.status, .string (ofL H.reason), .int .i64 H.minor, .slice p H.fields.length cap], .int .i64 n, .int .i64 er]) ∧
      Hid (Said X H n er) ∧ Hid (RowF w2 w1.heap.size (.slice p H.fields.length cap) H.fields ∧ Below w1.heap.size w1 w2) := by
  have h := PHead8.presponse_row (ofL X) (by rw [ofL_size]; exact hX) w1
  rw [toL_ofL] at h
  refine h.mono (fun e w2 ⟨v, x1, x2, x3⟩ => ?_)
  obtain ⟨p, cap, rfl, _, _⟩ := row_fl x2
  exact ⟨_, _, _, p, cap, x1, Lib.hid ⟨rfl, rfl, rfl⟩, Lib.hid ⟨x2, x3⟩⟩
/-- how many bytes lie in the reader's text -/
def textLen (w : World) (g : Nat) : Nat := match w.cell? ⟨g, 1, none⟩ with
  | some (.string s) => s.size
  | _ => 0
theorem textLen_at {w : World} {R : Nat → Prop} {g : Nat} {r : Raw} {l : List UInt8} (h : Dat w R g r l) : textLen w g = r.A.length := by
  unfold textLen
  rw [h.cells.2.1]
  exact ofL_size _
/-- in the loop -/
def InLoop (w wr : World) (R : Nat → Prop) (g b1 : Nat) (r : Raw) (D : List UInt8) (X : List UInt8) (H : H8) (n er : Int) (p : Option Addr) (cap : Nat) : Prop :=
  HLp w wr R g b1 r X (.slice p H.fields.length cap) ∧ headsOf X = headsOf D ∧ X.length ≤ D.length ∧ Said X H n er
/-- what is known of the reader ahead of its head -/
structure Pre (w : World) (F R : Nat → Prop) (g : Nat) (meth : ByteArray) (s : St) (r : Raw) (l : List UInt8) : Prop where
  dat : Dat w R g r l
  meth : r.meth = meth
  data : r.A ++ l = s.data
  gone : r.gone = s.gone
  kind : r.kind = s.kind
  kept : r.kept = s.kept
  rel : Rel w F R s.md r
  sub : ∀ k, R k → F k
  md : s.md = .head
  mine : F g
  lt : ∀ k, F k → k < w.heap.size
section
variable {w W : World} {F R : Nat → Prop} {g : Nat} {meth : ByteArray} {s : St} {r : Raw} {l X : List UInt8}
/-- nothing is told -/
theorem Pre.nil (h : Pre w F R g meth s r l) {er : Int} (hs : stepO (toL meth) s = (.none, 0, er, { s with data := X })) (hD : Dat W R g { r with A := X } []) (hS : Step w W R R) :
    StepR w W (.returned (.tuple #[.agg (pca 0 zero8 nilV []), .int .i64 0, .int .i64 er])) F g meth s := by
  have hr := h.rel
  rw [h.md] at hr
  exact shut_step (p := .none) (u := 0) hs rfl (shut12 h.sub h.mine h.lt hD hS h.meth (List.append_nil _) (Nat.zero_le _) h.gone h.kind h.kept (by
    rw [h.md]
    exact ⟨hr.fn, hr.done, fun e h => (by cases h), fun n h => (by cases h), fun m h => (by cases h)⟩))
/-- behind the loop -/
theorem heads_out {p : Option Addr} {cap b1 : Nat} {wr : World} {H : H8} {n er : Int} (h : InLoop w wr R g b1 r s.data X H n er p cap) (hi : ∀ hd n, read8 true X = .done hd n → interim hd.status = false) : headsOf s.data = (read8 true X, X) := by
  rw [← h.2.1]
  cases hr : read8 true X with
  | wait => exact heads_wait hr
  | bad e => exact heads_bad hr
  | done hd n => exact heads_done hr (hi hd n hr)
theorem Pre.wait (h : Pre w F R g meth s r l) (hh : headsOf s.data = (.wait, X)) : stepO (toL meth) s = (.none, 0, 0, { s with data := X }) := by
  unfold stepO; rw [h.md]; dsimp only; rw [hh]
theorem Pre.bad (h : Pre w F R g meth s r l) {e : Int} (hh : headsOf s.data = (.bad e, X)) : stepO (toL meth) s = (.none, 0, e, { s with data := X }) := by
  unfold stepO; rw [h.md]; dsimp only; rw [hh]
theorem Pre.refused (h : Pre w F R g meth s r l) {hd : H8} {n : Nat} (hh : headsOf s.data = (.done hd n, X)) (he : (response9 (toL meth) hd.status hd.minor hd.fields).2.2 ≠ 0) : stepO (toL meth) s = (.none, 0, (response9 (toL meth) hd.status hd.minor hd.fields).2.2, { s with data := X }) := by
  unfold stepO; rw [h.md]; dsimp only; rw [hh]; dsimp only; rw [if_neg he]
theorem Pre.told (h : Pre w F R g meth s r l) {hd : H8} {n : Nat} (hh : headsOf s.data = (.done hd n, X)) (he : (response9 (toL meth) hd.status hd.minor hd.fields).2.2 = 0) :
    stepO (toL meth) s = (.head hd, n, 0, ⟨openM (response9 (toL meth) hd.status hd.minor hd.fields), X, s.gone, (response9 (toL meth) hd.status hd.minor hd.fields).1, keep9 hd.minor hd.fields⟩) := by
  unfold stepO; rw [h.md]; dsimp only; rw [hh]; dsimp only; rw [if_pos he]
end
/-- the cells of the method and of the head -/
def Sx (W : World) (g b1 : Nat) (meth : ByteArray) (H : H8) (v : Value) : Prop := W.cell? ⟨g, 0, none⟩ = some (.string meth) ∧ W.cell? ⟨b1, 0, none⟩ = some (.string (ofL H.method)) ∧ W.cell? ⟨b1, 1, none⟩ = some (.string (ofL H.target)) ∧ W.cell? ⟨b1, 2, none⟩ = some (.int .i64 H.status) ∧ W.cell? ⟨b1, 3, none⟩ = some (.string (ofL H.reason)) ∧ W.cell? ⟨b1, 4, none⟩ = some (.int .i64 H.minor) ∧ W.cell? ⟨b1, 5, none⟩ = some v
/-- behind frame.Response: its answer lies in block bf -/
structure Tl (w Wf : World) (R : Nat → Prop) (g b1 bf : Nat) (r : Raw) (X : List UInt8) (H : H8) (v : Value) (kk len : Int) : Prop where
  st : Stood w Wf R R R g { r with A := X } []
  box : HBox Wf b1 H v
  row : RowF Wf w.heap.size v H.fields
  frm : RBox Wf bf (kk, len)
theorem Tl.a {w wr w5 : World} {R : Nat → Prop} {g b1 : Nat} {r : Raw} {X : List UInt8} {H : H8} {v : Value} (st : Stood w wr R R R g { r with A := X } []) (box : HBox wr b1 H v) (row : RowF wr w.heap.size v H.fields) (kk len : Int) (hb : Below wr.drew.heap.size wr.drew w5) :
    Tl w (w5.alloc (.cells #[.int .i64 kk, .int .i64 len] FRT)) R g b1 w5.heap.size r X H v kk len ∧ Below wr.heap.size wr (w5.alloc (.cells #[.int .i64 kk, .int .i64 len] FRT)) := by
  have h1 : Below wr.heap.size wr w5 := below_chain ((Below.refl _ _).drew) hb
  have h2 : Below wr.heap.size wr (w5.alloc (.cells #[.int .i64 kk, .int .i64 len] FRT)) := h1.alloc h1.size _
  exact ⟨⟨st.call h2, box.below h2 box.has.lt, row_step row (Step.of_below h2 (fun _ => False)) (fun _ _ h => h), ⟨Has.new w5 _ _⟩⟩, h2⟩
theorem Tl.b {w wr w5 : World} {R : Nat → Prop} {g b1 : Nat} {r : Raw} {X : List UInt8} {H : H8} {v : Value} (st : Stood w wr R R R g { r with A := X } []) (box : HBox wr b1 H v) (row : RowF wr w.heap.size v H.fields) (kk len : Int) (hb : Below (wr.alloc (.cells #[.int .i64 0, .int .i64 0] FRT)).drew.heap.size (wr.alloc (.cells #[.int .i64 0, .int .i64 0] FRT)).drew w5) :
    Tl w (rput w5 wr.heap.size (kk, len)) R g b1 wr.heap.size r X H v kk len ∧ Below wr.heap.size wr (rput w5 wr.heap.size (kk, len)) ∧ Below wr.heap.size wr w5 ∧ RBox w5 wr.heap.size (0, 0) := by
  have h0 : Below wr.heap.size wr (wr.alloc (.cells #[.int .i64 0, .int .i64 0] FRT)).drew := ((Below.refl _ _).alloc (Nat.le_refl _) _).drew
  have h1 : Below wr.heap.size wr w5 := below_chain h0 hb
  have h2 : Below wr.heap.size wr (rput w5 wr.heap.size (kk, len)) := (h1.setCell (p := ⟨wr.heap.size, 0, none⟩) (Nat.le_refl _) _).setCell (p := ⟨wr.heap.size, 1, none⟩) (Nat.le_refl _) _
  have b0 : RBox (wr.alloc (.cells #[.int .i64 0, .int .i64 0] FRT)).drew wr.heap.size (0, 0) := ⟨(Has.new wr _ _).drew⟩
  have b1 : RBox w5 wr.heap.size (0, 0) := b0.below hb (by show wr.heap.size < (wr.alloc (.cells #[.int .i64 0, .int .i64 0] FRT)).heap.size; simp)
  exact ⟨⟨st.call h2, box.below h2 box.has.lt, row_step row (Step.of_below h2 (fun _ => False)) (fun _ _ h => h), b1.put (kk, len)⟩, h2, h1, b1⟩
theorem open_len {f : Int × Int × Int} {n : Nat} (h : openM f = .len n) : f.1 = 2 ∧ n = f.2.1.toNat := by
  unfold openM at h
  split at h
  · rename_i h1; injection h with h; exact ⟨h1, h.symm⟩
  · split at h
    · cases h
    · split at h <;> cases h
theorem open_chunks {f : Int × Int × Int} {m : M} (h : openM f = .chunks m) : f.1 = 3 ∧ m = begin_ MT := by
  unfold openM at h
  split at h
  · cases h
  · split at h
    · rename_i h1; injection h with h; exact ⟨h1, h.symm⟩
    · split at h <;> cases h
theorem open_else (f : Int × Int × Int) : doneM (openM f) = false ∧ ∀ e, openM f ≠ .bad e := by
  unfold openM
  (repeat' split) <;> exact ⟨rfl, fun e h => by cases h⟩
/-- the head is told -/
theorem Pre.tells {w Wf w6 : World} {F R : Nat → Prop} {g b1 bf : Nat} {meth : ByteArray} {s : St} {r : Raw} {l X : List UInt8} {H : H8} {k : Nat} {kk len : Int} {p : Option Addr} {cap : Nat} (h : Pre w F R g meth s r l) (hh : headsOf s.data = (.done H k, X)) (h9 : response9 (toL meth) H.status H.minor H.fields = (kk, len, 0))
    (hT : Tl w Wf R g b1 bf r X H (.slice p H.fields.length cap) kk len) (hb1 : w.heap.size < b1) (hO : OpenR Wf w6 R g { r with A := X } [] H kk len) :
    PBox w6 w.heap.size 0 zero8 nilV [] ∧ HBox w6 b1 H (.slice p H.fields.length cap) ∧ Hid (PBox (pput w6 w.heap.size 1 H (.slice p H.fields.length cap) []) w.heap.size 1 H (.slice p H.fields.length cap) []) ∧
      Hid (StepR w (pput w6 w.heap.size 1 H (.slice p H.fields.length cap) []) (.returned (.tuple #[.agg (pca 1 H (.slice p H.fields.length cap) []), .int .i64 (k : Int), .int .i64 0])) F g meth s) := by
  obtain ⟨dp, hD, hS, hdec⟩ := hO
  have hkX : k ≤ X.length := by
    have := (heads_is s.data.length s.data (Nat.le_refl _)).1
    rw [hh] at this
    exact (read_front true X H k this).1
  have hbR : ∀ j, R j → ¬ j = b1 := fun j hj e => by have := h.dat.lt j hj; omega
  have hPB : PBox w6 w.heap.size 0 zero8 nilV [] := hT.st.box.step hS (fun x => hT.st.far _ x rfl)
  have hHB : HBox w6 b1 H (.slice p H.fields.length cap) := ⟨hS.has hT.box.has (fun x => hbR b1 x rfl)⟩
  have hrl := row_old hT.row
  have hrow6 : RowF w6 w.heap.size (.slice p H.fields.length cap) H.fields := row_step hT.row hS (fun j hj x => by have := h.dat.lt j x; have := (hrl j hj).1; omega)
  have hwl : w.heap.size < Wf.heap.size := hT.st.box.has.lt
  obtain ⟨G, hG, hGd⟩ : ∃ G : Nat → Prop, (∀ j, G j → Wf.heap.size ≤ j ∧ j < w6.heap.size) ∧ (kk = 3 → ∃ gd, dp = .pointer (some ⟨gd, 0, none⟩) ∧ Dec w6 G gd (begin_ MT)) := by
    by_cases h3 : kk = 3
    · obtain ⟨gd, G, e1, e2, e3⟩ := hdec h3
      exact ⟨G, fun j hj => ⟨e3 j hj, e2.lt j hj⟩, fun _ => ⟨gd, e1, e2⟩⟩
    · exact ⟨fun _ => False, fun j hj => hj.elim, fun e => absurd e h3⟩
  have st6 : Stood w w6 R R R g { r with A := X, kind := kk, left := len, kept := keep9 H.minor H.fields, fn := fnOf (openM (kk, len, 0)), dp := dp } [] := hT.st.turn hD hS (fun _ h => h)
  have hps := pput_step w6 w.heap.size 1 H (.slice p H.fields.length cap) []
  obtain ⟨P7, D7, S7⟩ := st6.put 1 H (.slice p H.fields.length cap) []
  have hrow7 : RowF (pput w6 w.heap.size 1 H (.slice p H.fields.length cap) []) 0 (.slice p H.fields.length cap) H.fields := row_step ⟨row_mono hrow6.1 (Nat.zero_le _), hrow6.2⟩ hps (row_not hrow6 hPB.has (by decide))
  have hl := resp_len (toL meth) H.status H.minor H.fields
  rw [h9] at hl
  have hl0 := hl.2 rfl
  dsimp only at hl hl0
  have he := open_else (kk, len, 0)
  refine ⟨hPB, hHB, Lib.hid P7, Lib.hid ?_⟩
  unfold StepR
  rw [h.told hh (by rw [h9]), h9]
  refine ⟨.slice p H.fields.length cap, fun j => F j ∨ G j, rfl, hrow7, fun b hb => ⟨(hrl b hb).1, ?_⟩, ⟨⟨R, _, [], D7, h.meth, List.append_nil _, hkX, h.gone, rfl, rfl, ⟨rfl, ?_, fun e x => absurd x (he.2 e), ?_, ?_⟩, fun k hk => .inl (h.sub k hk)⟩, .inl h.mine, ?_⟩, ?_⟩
  · rintro (x | x)
    · have := h.lt b x; have := (hrl b hb).1; omega
    · have := (hG b x).1; have := (hrl b hb).2; omega
  · have := h.rel.done
    rw [h.md] at this
    rw [he.1]
    exact this
  · intro n hn
    obtain ⟨_, e2⟩ := open_len hn
    dsimp only at e2 ⊢
    omega
  · intro m hm
    obtain ⟨e1, e2⟩ := open_chunks hm
    obtain ⟨gd, e3, e4⟩ := hGd e1
    subst e2
    refine ⟨gd, G, e3, e4.step hps (fun j hj e => by have := (hG j hj).1; omega), Ok.start MT, rfl, fun j hj => ⟨.inr hj, fun x => ?_⟩⟩
    have := h.dat.lt j x
    have := (hG j hj).1
    omega
  · intro j hj
    rcases hj with x | x
    · exact Nat.lt_of_lt_of_le (h.lt j x) S7.size
    · exact Nat.lt_of_lt_of_le (hG j x).2 hps.size
  · refine (S7.up2 h.sub).regrow (fun j hj => ?_)
    rcases hj with x | x
    · exact .inl x
    · exact .inr ⟨by have := (hG j x).1; omega, Nat.lt_of_lt_of_le (hG j x).2 hps.size⟩
set_option maxHeartbeats 6400000 in
theorem step_head {w : World} {F : Nat → Prop} {g : Nat} {meth : ByteArray} {s : St} (h : Rdr w F g meth s) (hm : s.md = .head) (hs : s.data.length ≤ 4611686018427387904) (hmi : MaxInt w) (hn : ¬ F MAXB) :
    Calls Tryz.prog 21 #[.pointer (some ⟨g, 0, none⟩)] w fun e w' => StepR w w' e F g meth s := by
  obtain ⟨R, r, l, h1, h2, h3, h4, h5, h6, h7, h8, h9⟩ := h.is
  have HP : Hid (Pre w F R g meth s r l) := Lib.hid ⟨h1, h2, h3, h5, h6, h7, h8, h9, hm, h.mine, h.lt⟩
  have hst := Stood.start (H := R) h1 (fun _ h => h)
  have hrl : ∀ k, R k → k < w.heap.size := h1.lt
  have hgl : g < w.heap.size := hrl g h1.mine
  have HT := Lib.hid ((ptext12 hst.dat (by rw [← h3, List.length_append] at hs; exact hs)).mono (fun e w1 ⟨x1, x2, x3⟩ => (⟨by rw [h3] at x1; exact x1, by rw [h3] at x2; exact hst.turn x2 x3 (fun _ h => h)⟩ : e = Ending.returned (Value.string (ofL s.data)) ∧ Stood w w1 R R R g { r with A := s.data } [])))
  have HR := Lib.hid (fun (X : List UInt8) (hX : X.length ≤ s.data.length) w1 => presp2 X (Nat.le_trans hX hs) w1)
  have HL1 : Hid (∀ w1 w2 H n er p cap, Stood w w1 R R R g { r with A := s.data } [] → Hid (Said s.data H n er) → Hid (RowF w2 w1.heap.size (.slice p H.fields.length cap) H.fields ∧ Below w1.heap.size w1 w2) → Hid (InLoop w (w2.alloc (.cells #[.string (ofL H.method), .string (ofL H.target), .int .i64 H.status, .string (ofL H.reason), .int .i64 H.minor, .slice p H.fields.length cap] HT_)) R g w2.heap.size r s.data s.data H n er p cap)) := Lib.hid (fun w1 w2 H n er p cap a b c => by
    have e := b.out
    obtain ⟨rfl, rfl, rfl⟩ := b.out
    exact Lib.hid ⟨HLp.start a c.out.2 c.out.1 hrl, rfl, Nat.le_refl _, e⟩)
  replace hmi := Lib.hid hmi
  replace hn := Lib.hid hn
  clear h1 h2 h3 h4 h5 h6 h7 h8 h9 h hm hst hrl
  go_enter Tryz.func21, Tryz.ntmps21
  go_wp2_with fail
  refine HT.out.mono ?_
  rintro e w1 ⟨rfl, hst1⟩
  clear HT
  go_wp2_with fail
  refine (HR.out s.data (Nat.le_refl _) w1).mono ?_
  rintro e w2 ⟨H, n, er, p, cap, rfl, hsd, hrow⟩
  have HI := HL1.out w1 w2 H n er p cap hst1 hsd hrow
  clear HL1 hst1 hrow hsd
  go_wp2_with fail
  generalize w2.alloc (.cells #[.string (ofL H.method), .string (ofL H.target), .int .i64 H.status, .string (ofL H.reason), .int .i64 H.minor, .slice p H.fields.length cap] HT_) = W0 at HI ⊢
  generalize w2.heap.size = b1 at HI ⊢
  go_loopw [6, 7] (fun i6 i7 wr => ∃ (X : List UInt8) (H : H8) (n er : Int) (p : Option Addr) (cap : Nat), i6 = .int .i64 n ∧ i7 = .int .i64 er ∧ Hid (InLoop w wr R g b1 r s.data X H n er p cap)) (fun _ _ wr => textLen wr g)
  case atStart => exact ⟨s.data, H, n, er, p, cap, rfl, rfl, HI⟩
  case round =>
    clear HI
    obtain ⟨X, H1, n1, er1, p1, cap1, rfl, rfl, HI⟩ := hrel
    obtain ⟨e1, e2, e3⟩ := HI.out.2.2.2
    have hX := HI.out.2.2.1
    obtain ⟨d0, d1, d2, d3, d4, d5⟩ := HI.out.1.box.cells
    cases hr : read8 true X with
    | wait =>
      rw [hr] at e2 e3
      dsimp only [resN, resE] at e2 e3
      have hh := heads_out HI.out (fun hd n hx => by rw [hr] at hx; cases hx)
      rw [hr] at hh
      obtain ⟨P3, D3, S3⟩ := HI.out.1.st.put 0 zero8 nilV []
      have hFin := Lib.hid (HP.out.nil (HP.out.wait hh) D3 S3)
      replace P3 := Lib.hid P3
      obtain ⟨q0, q1, q2, q3, q4, q5, q6, q7⟩ := HI.out.1.st.box.cells
      obtain ⟨y0, y1, y2, y3, y4, y5, y6, y7⟩ := HI.out.1.st.box.frees
      unfold pput at P3 hFin
      subst e2 e3
      clear HP HR D3 S3 HI hr hh hX hs hmi hn d0 d1 d2 d3 d4 d5 e1
      go_wp2_with fail
      refine bodyPost_ret (v := .tuple #[.agg (pca 0 zero8 nilV []), .int .i64 0, .int .i64 0]) ?_ rfl hFin.out
      rw [results_cell_tmp2 rfl]
      exact end_pbox3 rfl rfl rfl P3.out
    | bad er2 =>
      rw [hr] at e2 e3
      dsimp only [resN, resE] at e2 e3
      have hh := heads_out HI.out (fun hd n hx => by rw [hr] at hx; cases hx)
      rw [hr] at hh
      obtain ⟨P3, D3, S3⟩ := HI.out.1.st.put 0 zero8 nilV []
      have hFin := Lib.hid (HP.out.nil (HP.out.bad hh) D3 S3)
      replace P3 := Lib.hid P3
      obtain ⟨q0, q1, q2, q3, q4, q5, q6, q7⟩ := HI.out.1.st.box.cells
      obtain ⟨y0, y1, y2, y3, y4, y5, y6, y7⟩ := HI.out.1.st.box.frees
      unfold pput at P3 hFin
      subst e2 e3
      clear HP HR D3 S3 HI hr hh hX hs hmi hn d0 d1 d2 d3 d4 d5 e1
      go_wp2_with fail
      refine bodyPost_ret (v := .tuple #[.agg (pca 0 zero8 nilV []), .int .i64 0, .int .i64 er1]) ?_ rfl hFin.out
      rw [results_cell_tmp2 rfl]
      exact end_pbox3 rfl rfl rfl P3.out
    | done hd k =>
      rw [hr] at d0 d1 d2 d3 d4 e1 e2 e3
      dsimp only [resH, resN, resE] at d0 d1 d2 d3 d4 e1 e2 e3
      subst e1 e2 e3
      obtain ⟨st1, st2, hfew⟩ := resp_few hr
      obtain ⟨hn1, hn0, _⟩ := read_front true X H1 k hr
      have hwf : (Lit.int .i64 H1.status).wf = true := WalkArith.wf_i64 (by omega)
      have HIi := Lib.hid (fun W => pinterim H1.status hwf W)
      have hnp : (0 : Int) < (k : Int) := by omega
      have c1 := HI.out.1.st.dat.cells.2.1
      have z1 := HI.out.1.st.dat.free 1
      dsimp only at c1
      cases hin : interim H1.status with
      | true =>
        rw [hin] at HIi
        have hsl : (ofL X).extract k (ofL X).size = ofL (X.drop k) := drop_text X k hn1
        have hni : (k : Int) ≤ ((ofL X).size : Int) := by rw [ofL_size]; omega
        have HR2 := Lib.hid (HR.out (X.drop k) (by rw [List.length_drop]; omega) (wr.setCell ⟨g, 1, none⟩ (.string (ofL (X.drop k)))))
        have HA : Hid (∀ w2 H2 n2 er2 p2 cap2, Hid (Said (X.drop k) H2 n2 er2) → Hid (RowF w2 (wr.setCell ⟨g, 1, none⟩ (.string (ofL (X.drop k)))).heap.size (.slice p2 H2.fields.length cap2) H2.fields ∧ Below (wr.setCell ⟨g, 1, none⟩ (.string (ofL (X.drop k)))).heap.size (wr.setCell ⟨g, 1, none⟩ (.string (ofL (X.drop k)))) w2) →
            Hid (InLoop w (hput w2 b1 H2 (.slice p2 H2.fields.length cap2)) R g b1 r s.data (X.drop k) H2 n2 er2 p2 cap2) ∧ Hid (textLen (hput w2 b1 H2 (.slice p2 H2.fields.length cap2)) g < textLen wr g) ∧ HBox w2 b1 H1 (.slice p1 H1.fields.length cap1)) := Lib.hid (fun w2 H2 n2 er2 p2 cap2 a b => by
          have e := a.out
          obtain ⟨rfl, rfl, rfl⟩ := a.out
          obtain ⟨k1, k2⟩ := HI.out.1.again rfl b.out.2 b.out.1
          rw [hr] at k2
          refine ⟨Lib.hid ⟨k1, by rw [← HI.out.2.1, heads_step hr hin], by rw [List.length_drop]; omega, e⟩, ?_, k2⟩
          rw [textLen_at k1.st.dat, textLen_at HI.out.1.st.dat]
          dsimp only
          rw [List.length_drop]
          exact Lib.hid (by omega))
        unfold hput at HA
        clear hr hX hfew hwf HI hn1 hn0 st1 st2 hin HP hmi hn hs HR
        go_wp2_with fail
        refine (HIi.out _).mono ?_
        rintro e w3 ⟨rfl, rfl⟩
        go_wp2_with fail
        refine HR2.out.mono ?_
        rintro e w4 ⟨H2, n2, er2, p2, cap2, rfl, hsd, hrow⟩
        obtain ⟨hI2, hlt, hB⟩ := HA.out w4 H2 n2 er2 p2 cap2 hsd hrow
        obtain ⟨d0, d1, d2, d3, d4, d5⟩ := hB.cells
        obtain ⟨y0, y1, y2, y3, y4, y5⟩ := hB.frees
        clear HA HR2 HIi hsd hrow hB
        go_wp2_with fail
        exact ⟨⟨X.drop k, H2, n2, er2, p2, cap2, rfl, rfl, hI2⟩, hlt.out⟩
      | false =>
        rw [hin] at HIi
        have hh := heads_out HI.out (fun hd n hx => by rw [hr] at hx; injection hx with hx _; rw [← hx]; exact hin)
        rw [hr] at hh
        have c0 := HI.out.1.st.dat.cells.1
        dsimp only at c0
        rw [HP.out.meth] at c0
        have hkz : ((k : Int) == 0) = false := beq_eq_false_iff_ne.2 (by omega)
        have hkz2 : ¬ (k : Int) = 0 := by omega
        have hrow := HI.out.1.row
        rw [hr] at hrow
        dsimp only [resH] at hrow
        have HFr : Hid (∀ W', Below wr.heap.size wr W' → Calls Tryz.prog 28 #[.string meth, .agg #[.string (ofL H1.method), .string (ofL H1.target), .int .i64 H1.status, .string (ofL H1.reason), .int .i64 H1.minor, .slice p1 H1.fields.length cap1]] W' fun e w5 => ∃ kk len ee, e = .returned (.tuple #[.agg #[.int .i64 kk, .int .i64 len], .int .i64 ee]) ∧ Hid (response9 (toL meth) H1.status H1.minor H1.fields = (kk, len, ee)) ∧ Below W'.heap.size W' w5) := Lib.hid (fun W' hb => by
          have hS := Step.of_below hb (fun _ => False)
          refine (FrameObj.presponse9_any meth H1 (.slice p1 H1.fields.length cap1) hwf hfew (by have := hrow.2; omega) W' (row_fl (row_step hrow hS (fun _ _ h => h))) (max_step hmi.out (HI.out.1.st.step.trans (Step.of_below hb R)) (fun x => hn.out (HP.out.sub _ x)))).mono (fun e w5 ⟨x1, x2⟩ => ?_)
          exact ⟨_, _, _, x1, Lib.hid rfl, x2⟩)
        have hlo := HI.out.1.lo
        have hbA : Below wr.heap.size wr wr.drew := (Below.refl _ _).drew
        have hbB : Below wr.heap.size wr (wr.alloc (.cells #[.int .i64 0, .int .i64 0] FRT)).drew := ((Below.refl _ _).alloc (Nat.le_refl _) _).drew
        have hbC : Below wr.heap.size wr (wr.drew.alloc (.cells #[.int .i64 0, .int .i64 0] FRT)) := ((Below.refl _ _).drew).alloc (Nat.le_refl _) _
        have hg1 : g < wr.heap.size := HI.out.1.st.dat.lt g HI.out.1.st.dat.mine
        have hb1 : b1 < wr.heap.size := HI.out.1.box.has.lt
        have hSx : ∀ W', Below wr.heap.size wr W' → Sx W' g b1 meth H1 (.slice p1 H1.fields.length cap1) := fun W' e =>
          ⟨(e.cell (p := ⟨g, 0, none⟩) hg1).trans c0, (e.cell (p := ⟨b1, 0, none⟩) hb1).trans d0, (e.cell (p := ⟨b1, 1, none⟩) hb1).trans d1, (e.cell (p := ⟨b1, 2, none⟩) hb1).trans d2, (e.cell (p := ⟨b1, 3, none⟩) hb1).trans d3, (e.cell (p := ⟨b1, 4, none⟩) hb1).trans d4, (e.cell (p := ⟨b1, 5, none⟩) hb1).trans d5⟩
        have hbox := HI.out.1.box
        rw [hr] at hbox
        have HTa : Hid (∀ w5 kk len, Below wr.drew.heap.size wr.drew w5 → Hid (Tl w (w5.alloc (.cells #[.int .i64 kk, .int .i64 len] FRT)) R g b1 w5.heap.size r X H1 (.slice p1 H1.fields.length cap1) kk len) ∧ Sx w5 g b1 meth H1 (.slice p1 H1.fields.length cap1) ∧ Sx (w5.alloc (.cells #[.int .i64 kk, .int .i64 len] FRT)) g b1 meth H1 (.slice p1 H1.fields.length cap1)) := Lib.hid (fun w5 kk len hb => by
          obtain ⟨a, b⟩ := Tl.a HI.out.1.st hbox hrow kk len hb
          exact ⟨Lib.hid a, hSx _ (below_chain hbA hb), hSx _ b⟩)
        have HTb : Hid (∀ w5 kk len, Below (wr.alloc (.cells #[.int .i64 0, .int .i64 0] FRT)).drew.heap.size (wr.alloc (.cells #[.int .i64 0, .int .i64 0] FRT)).drew w5 → Hid (Tl w (rput w5 wr.heap.size (kk, len)) R g b1 wr.heap.size r X H1 (.slice p1 H1.fields.length cap1) kk len) ∧ Sx w5 g b1 meth H1 (.slice p1 H1.fields.length cap1) ∧ Sx (rput w5 wr.heap.size (kk, len)) g b1 meth H1 (.slice p1 H1.fields.length cap1) ∧ RBox w5 wr.heap.size (0, 0)) := Lib.hid (fun w5 kk len hb => by
          obtain ⟨a, b, c, d⟩ := Tl.b HI.out.1.st hbox hrow kk len hb
          exact ⟨Lib.hid a, hSx _ c, hSx _ b, d⟩)
        have s1 := hSx _ hbA
        have s2 := hSx _ hbB
        have s3 := hSx _ hbC
        unfold Sx at HTa HTb s1 s2 s3
        unfold rput at HTb
        clear hrow hbox hSx hbC
        go_wp2_with fail
        refine (HIi.out _).mono ?_
        rintro e w3 ⟨rfl, rfl⟩
        go_wp2_with fail
        clear HR HIi hX hr st1 st2 hn1 hn0 hin hgl z1 c1 HI
        go_region_held3 (fun w' => w'.cell? ⟨g, 0, none⟩ = some (.string meth) ∧ w'.cell? ⟨b1, 0, none⟩ = some (.string (ofL H1.method)) ∧ w'.cell? ⟨b1, 1, none⟩ = some (.string (ofL H1.target)) ∧ w'.cell? ⟨b1, 2, none⟩ = some (.int .i64 H1.status) ∧ w'.cell? ⟨b1, 3, none⟩ = some (.string (ofL H1.reason)) ∧ w'.cell? ⟨b1, 4, none⟩ = some (.int .i64 H1.minor) ∧ w'.cell? ⟨b1, 5, none⟩ = some (.slice p1 H1.fields.length cap1)) (first | exact s6 | exact s5 | exact s1 | exact s2 | exact s3 | go_keep)
          (first
            | (go_at_call 28; refine (HFr.out _ hbA).mono ?_; rintro e w5 ⟨kk, len, ee, rfl, h9, hb5⟩
               obtain ⟨hT, s5, s6⟩ := HTa.out w5 kk len hb5
               clear HTa HTb HFr hb5)
            | (go_at_call 28; refine (HFr.out _ hbB).mono ?_; rintro e w5 ⟨kk, len, ee, rfl, h9, hb5⟩
               obtain ⟨hT, s5, s6, hRB⟩ := HTb.out w5 kk len hb5
               obtain ⟨r0, r1⟩ := hRB.cells
               obtain ⟨x0, x1⟩ := hRB.frees
               clear HTa HTb HFr hb5 hRB))
        · generalize w5.alloc (.cells #[.int .i64 kk, .int .i64 len] FRT) = Wf at hT ⊢
          generalize w5.heap.size = bf at hT ⊢
          clear s5 s6 s1 s2 s3 hbA hbB hg1 hb1 d0 d1 d2 d3 d4 d5 c0
          obtain ⟨q0, q1, q2, q3, q4, q5, q6, q7⟩ := hT.out.st.box.cells
          obtain ⟨y0, y1, y2, y3, y4, y5, y6, y7⟩ := hT.out.st.box.frees
          by_cases hee : ee = 0
          · subst hee
            obtain ⟨d0, d1, d2, d3, d4, d5⟩ := hT.out.box.cells
            obtain ⟨r0, r1⟩ := hT.out.frm.cells
            have HO := Lib.hid ((popen hT.out.st.dat H1 p1 cap1 ⟨row_mono hT.out.row.1 (Nat.zero_le _), hT.out.row.2⟩ (fun j hj x => by have := HP.out.dat.lt j x; have := (row_old hT.out.row j hj).1; omega) kk len hfew (max_step hmi.out hT.out.st.step (fun x => hn.out (HP.out.sub _ x))) (fun x => hn.out (HP.out.sub _ x))).mono (fun e w6 ⟨x1, x2⟩ => (⟨x1, HP.out.tells hh h9.out hT.out hlo x2⟩ :
              e = Ending.returned (Value.tuple #[]) ∧ PBox w6 w.heap.size 0 zero8 nilV [] ∧ HBox w6 b1 H1 (.slice p1 H1.fields.length cap1) ∧ Hid (PBox (pput w6 w.heap.size 1 H1 (.slice p1 H1.fields.length cap1) []) w.heap.size 1 H1 (.slice p1 H1.fields.length cap1) []) ∧
                Hid (StepR w (pput w6 w.heap.size 1 H1 (.slice p1 H1.fields.length cap1) []) (.returned (.tuple #[.agg (pca 1 H1 (.slice p1 H1.fields.length cap1) []), .int .i64 (k : Int), .int .i64 0])) F g meth s))))
            unfold hv at HO
            clear hT hh h9 hfew hwf HP hmi hn hs hlo
            go_wp2_with fail
            refine HO.out.mono ?_
            rintro e w6 ⟨rfl, hp6, hh6, P3, hFin⟩
            clear HO d0 d1 d2 d3 d4 d5 r0 r1 q0 q1 q2 q3 q4 q5 q6 q7 y0 y1 y2 y3 y4 y5 y6 y7
            obtain ⟨q0, q1, q2, q3, q4, q5, q6, q7⟩ := hp6.cells
            obtain ⟨y0, y1, y2, y3, y4, y5, y6, y7⟩ := hp6.frees
            obtain ⟨d0, d1, d2, d3, d4, d5⟩ := hh6.cells
            unfold pput at P3 hFin
            clear hp6 hh6
            go_wp2_with fail
            refine bodyPost_ret (v := .tuple #[.agg (pca 1 H1 (.slice p1 H1.fields.length cap1) []), .int .i64 (k : Int), .int .i64 0]) ?_ rfl hFin.out
            rw [results_cell_tmp2 rfl]
            exact end_pbox3 rfl rfl rfl P3.out
          · have heb : (ee != 0) = true := bne_iff_ne.2 hee
            obtain ⟨P3, D3, S3⟩ := hT.out.st.put 0 zero8 nilV []
            have hFin := HP.out.nil (HP.out.refused hh (by rw [h9.out]; exact hee)) D3 S3
            rw [h9.out] at hFin
            replace hFin := Lib.hid hFin
            replace P3 := Lib.hid P3
            unfold pput at P3 hFin
            clear hT hh h9 hfew hwf HP hmi hn hs D3 S3 hlo
            go_wp2_with fail
            refine bodyPost_ret (v := .tuple #[.agg (pca 0 zero8 nilV []), .int .i64 0, .int .i64 ee]) ?_ rfl hFin.out
            rw [results_cell_tmp2 rfl]
            exact end_pbox3 rfl rfl rfl P3.out
        · generalize ((w5.setCell ⟨w3.heap.size, 0, none⟩ (.int .i64 kk)).setCell ⟨w3.heap.size, 1, none⟩ (.int .i64 len)) = Wf at hT ⊢
          generalize w3.heap.size = bf at *
          clear s5 s6 s1 s2 s3 hbA hbB hg1 hb1 d0 d1 d2 d3 d4 d5 c0 r0 r1 x0 x1
          obtain ⟨q0, q1, q2, q3, q4, q5, q6, q7⟩ := hT.out.st.box.cells
          obtain ⟨y0, y1, y2, y3, y4, y5, y6, y7⟩ := hT.out.st.box.frees
          by_cases hee : ee = 0
          · subst hee
            obtain ⟨d0, d1, d2, d3, d4, d5⟩ := hT.out.box.cells
            obtain ⟨r0, r1⟩ := hT.out.frm.cells
            have HO := Lib.hid ((popen hT.out.st.dat H1 p1 cap1 ⟨row_mono hT.out.row.1 (Nat.zero_le _), hT.out.row.2⟩ (fun j hj x => by have := HP.out.dat.lt j x; have := (row_old hT.out.row j hj).1; omega) kk len hfew (max_step hmi.out hT.out.st.step (fun x => hn.out (HP.out.sub _ x))) (fun x => hn.out (HP.out.sub _ x))).mono (fun e w6 ⟨x1, x2⟩ => (⟨x1, HP.out.tells hh h9.out hT.out hlo x2⟩ :
              e = Ending.returned (Value.tuple #[]) ∧ PBox w6 w.heap.size 0 zero8 nilV [] ∧ HBox w6 b1 H1 (.slice p1 H1.fields.length cap1) ∧ Hid (PBox (pput w6 w.heap.size 1 H1 (.slice p1 H1.fields.length cap1) []) w.heap.size 1 H1 (.slice p1 H1.fields.length cap1) []) ∧
                Hid (StepR w (pput w6 w.heap.size 1 H1 (.slice p1 H1.fields.length cap1) []) (.returned (.tuple #[.agg (pca 1 H1 (.slice p1 H1.fields.length cap1) []), .int .i64 (k : Int), .int .i64 0])) F g meth s))))
            unfold hv at HO
            clear hT hh h9 hfew hwf HP hmi hn hs hlo
            go_wp2_with fail
            refine HO.out.mono ?_
            rintro e w6 ⟨rfl, hp6, hh6, P3, hFin⟩
            clear HO d0 d1 d2 d3 d4 d5 r0 r1 q0 q1 q2 q3 q4 q5 q6 q7 y0 y1 y2 y3 y4 y5 y6 y7
            obtain ⟨q0, q1, q2, q3, q4, q5, q6, q7⟩ := hp6.cells
            obtain ⟨y0, y1, y2, y3, y4, y5, y6, y7⟩ := hp6.frees
            obtain ⟨d0, d1, d2, d3, d4, d5⟩ := hh6.cells
            unfold pput at P3 hFin
            clear hp6 hh6
            go_wp2_with fail
            refine bodyPost_ret (v := .tuple #[.agg (pca 1 H1 (.slice p1 H1.fields.length cap1) []), .int .i64 (k : Int), .int .i64 0]) ?_ rfl hFin.out
            rw [results_cell_tmp2 rfl]
            exact end_pbox3 rfl rfl rfl P3.out
          · have heb : (ee != 0) = true := bne_iff_ne.2 hee
            obtain ⟨P3, D3, S3⟩ := hT.out.st.put 0 zero8 nilV []
            have hFin := HP.out.nil (HP.out.refused hh (by rw [h9.out]; exact hee)) D3 S3
            rw [h9.out] at hFin
            replace hFin := Lib.hid hFin
            replace P3 := Lib.hid P3
            unfold pput at P3 hFin
            clear hT hh h9 hfew hwf HP hmi hn hs D3 S3 hlo
            go_wp2_with fail
            refine bodyPost_ret (v := .tuple #[.agg (pca 0 zero8 nilV []), .int .i64 0, .int .i64 ee]) ?_ rfl hFin.out
            rw [results_cell_tmp2 rfl]
            exact end_pbox3 rfl rfl rfl P3.out
end Go.Proofs.YtggmafmebocoaaaGreatDoor.POutHead

/- Layer 12 of the program: the step that reads a body by its length. -/
namespace Go.Proofs.YtggmafmebocoaaaGreatDoor.POutBody
open Go.ChangeShapes Go.WideShapes Go.ChangeAt Go.RowKit LexPure Bytes Ret FieldsPure HeadPure HBox ChunkPure OutPure OutBox KeptRow Mem Step InEmb OutObj POutText POutEnds
set_option maxRecDepth 100000
set_option linter.unusedVariables false
set_option linter.unusedSimpArgs false
theorem take_text (D : List UInt8) (n : Nat) (hn : n ≤ D.length) : (ofL D).extract 0 n = ofL (D.take n) := by
  apply toL_inj
  rw [toL_extract, toL_ofL, toL_ofL, List.drop_zero]
set_option maxHeartbeats 1600000 in
theorem step_len {w : World} {F : Nat → Prop} {g : Nat} {meth : ByteArray} {s : St} (left : Nat) (h : Rdr w F g meth s) (hm : s.md = .len left) (hs : s.data.length ≤ 4611686018427387904) :
    Calls Tryz.prog 39 #[.pointer (some ⟨g, 0, none⟩)] w fun e w' => StepR w w' e F g meth s := by
  obtain ⟨R, r, l, h1, h2, h3, h4, h5, h6, h7, h8, h9⟩ := h.is
  obtain ⟨hl, hl2⟩ := h8.len left hm
  have hst := Stood.start (H := R) h1 (fun _ h => h)
  have c8 : (w.alloc (.cells zbox PT)).cell? ⟨g, 8, none⟩ = some (.int .i64 (left : Int)) := by rw [← hl]; exact hst.dat.cells.2.2.2.2.2.2.1
  by_cases hd : left = 0
  · have HF := Lib.hid ((pfinish hst.dat 0).mono (fun e w2 ⟨x1, x2, x3⟩ => (⟨x1, hst.turn x2 x3 (fun _ h => h)⟩ : e = Ending.returned (Value.tuple #[.agg (zp 3), .int .i64 0, .int .i64 0]) ∧ Stood w w2 R R R g { r with done := true, fn := 70 } l)))
    have HQ : Hid (∀ w3, Dat w3 R g { r with done := true, fn := 70 } l → Step w w3 R R → StepR w w3 (.returned (.tuple #[.agg (pca 3 zero8 nilV []), .int .i64 0, .int .i64 0])) F g meth s) := Lib.hid (fun w3 x2 x3 =>
      shut_step (p := .fin) (u := 0) (s' := { s with md := .nothing }) (by unfold stepO; rw [hm]; dsimp only; rw [if_pos hd]) rfl (shut12 h9 h.mine h.lt x2 x3 h2 h3 (Nat.zero_le _) h5 h6 h7 (rel_nothing (r := r))))
    rw [hd] at c8
    have hb : Hid (w.heap.size = w.heap.size) := Lib.hid rfl
    clear hst h1 h2 h3 h4 h5 h6 h7 h8 h9 h hm hs hd hl hl2
    have c8b : w.cell? ⟨g, 8, none⟩ = some (.int .i64 0) ∨ True := .inr trivial
    go_enter Tryz.func39, Tryz.ntmps39
    go_wp2_with fail
    refine HF.out.mono ?_
    rintro e w2 ⟨rfl, hst⟩
    obtain ⟨q0, q1, q2, q3, q4, q5, q6, q7⟩ := hst.box.cells
    obtain ⟨y0, y1, y2, y3, y4, y5, y6, y7⟩ := hst.box.frees
    obtain ⟨P3, D3, S3⟩ := hst.put 3 zero8 nilV []
    replace P3 := Lib.hid P3
    have hFin := Lib.hid (HQ.out _ D3 S3)
    unfold pput at P3 hFin
    clear HF hst D3 S3 HQ c8 c8b
    go_wp2_with fail
    refine bodyPost_ret (v := .tuple #[.agg (pca 3 zero8 nilV []), .int .i64 0, .int .i64 0]) ?_ rfl hFin.out
    rw [results_cell_tmp2 rfl]
    exact end_pbox3 rfl rfl rfl P3.out
  · obtain ⟨n, hn⟩ : ∃ n, n = min s.data.length left := ⟨_, rfl⟩
    have hnl : n ≤ s.data.length := by omega
    have hnt : (s.data.take left) = s.data.take n := by
      rcases Nat.le_total left s.data.length with hx | hx
      · rw [hn, Nat.min_eq_right hx]
      · rw [hn, Nat.min_eq_left hx, List.take_of_length_le hx, List.take_of_length_le (Nat.le_refl _)]
    have hnlen : (s.data.take n).length = n := by rw [List.length_take]; omega
    have hmin : min ((ofL s.data).size : Int) (left : Int) = (n : Int) := by rw [ofL_size]; omega
    have hsub : IntKind.i64.wrap ((left : Int) - (n : Int)) = (left : Int) - (n : Int) := IntWalk.i64_in _ (by omega)
    have hsub2 : (left : Int) - (n : Int) = ((left - n : Nat) : Int) := by omega
    have hP : (ofL s.data).extract 0 n = ofL (s.data.take n) := take_text _ _ hnl
    have hPs : (ofL (s.data.take n)).size = n := by rw [ofL_size, hnlen]
    have HT := Lib.hid ((ptext12 hst.dat (by rw [← h3, List.length_append] at hs; exact hs)).mono (fun e w1 ⟨x1, x2, x3⟩ => (⟨by rw [h3] at x1; exact x1, by rw [h3] at x2; exact hst.turn x2 x3 (fun _ h => h)⟩ : e = Ending.returned (Value.string (ofL s.data)) ∧ Stood w w1 R R R g { r with A := s.data } [])))
    have HS : Hid (∀ w1, Stood w w1 R R R g { r with A := s.data } [] → w1.cell? ⟨g, 8, none⟩ = some (.int .i64 (left : Int)) ∧ w1.frozen? ⟨g, 8, none⟩ = false ∧
        Calls Tryz.prog 57 #[.string (ofL (s.data.take n)), .int .i64 (n : Int)] (w1.setCell ⟨g, 8, none⟩ (.int .i64 ((left : Int) - (n : Int)))) fun e w2 => e = .returned (.tuple #[.agg #[.int .i64 (kT (s.data.take n)), .string ⟨#[]⟩, .string ⟨#[]⟩, .int .i64 0, .string ⟨#[]⟩, .int .i64 0, .slice none 0 0, .string (ofL (s.data.take n))], .int .i64 (n : Int), .int .i64 0]) ∧ Stood w w2 R R R g { r with A := s.data, left := ((left : Int) - (n : Int)) } []) := Lib.hid (fun w1 k => by
      refine ⟨by rw [← hl]; exact k.dat.cells.2.2.2.2.2.2.1, k.dat.free 8, ?_⟩
      have k2 := k.cell 8 (.int .i64 ((left : Int) - (n : Int))) (k.dat.put8 _) (fun _ h => h)
      exact (ptellbody2 (s.data.take n) _ _).mono (fun e w2 ⟨x1, x2⟩ => ⟨x1, k2.call x2⟩))
    have HQ : Hid (∀ w3, Dat w3 R g { r with A := s.data, left := ((left : Int) - (n : Int)) } [] → Step w w3 R R → StepR w w3 (.returned (.tuple #[.agg (pca (kT (s.data.take n)) zero8 nilV (s.data.take n)), .int .i64 (n : Int), .int .i64 0])) F g meth s) := Lib.hid (fun w3 x2 x3 => by
      rw [← pcl_tell]
      refine shut_step (s' := { s with md := .len (left - n) }) (by unfold stepO; rw [hm]; dsimp only; rw [if_neg hd, hnt, hnlen]) (by unfold tell; split <;> rfl) (shut12 h9 h.mine h.lt x2 x3 h2 (List.append_nil _) hnl h5 h6 h7 ?_)
      rw [hm] at h8
      exact ⟨h8.fn, h8.done, fun e h => (by cases h), fun k hk => (by injection hk with hk; rw [← hk]; exact ⟨hsub2, by omega⟩), fun m h => (by cases h)⟩)
    have key : ∀ w2, Stood w w2 R R R g { r with A := s.data, left := ((left : Int) - (n : Int)) } [] → Hid (PBox (pput w2 w.heap.size (kT (s.data.take n)) zero8 nilV (s.data.take n)) w.heap.size (kT (s.data.take n)) zero8 nilV (s.data.take n)) ∧ Hid (StepR w (pput w2 w.heap.size (kT (s.data.take n)) zero8 nilV (s.data.take n)) (.returned (.tuple #[.agg (pca (kT (s.data.take n)) zero8 nilV (s.data.take n)), .int .i64 (n : Int), .int .i64 0])) F g meth s) := fun w2 k => by
      obtain ⟨P3, D3, S3⟩ := k.put (kT (s.data.take n)) zero8 nilV (s.data.take n)
      exact ⟨Lib.hid P3, Lib.hid (HQ.out _ D3 S3)⟩
    replace key := Lib.hid key
    unfold pput at key
    have hni : (n : Int) ≤ ((ofL s.data).size : Int) := by rw [ofL_size]; omega
    have hl0 : ¬ (left : Int) = 0 := by omega
    have hl1 : ((left : Int) == 0) = false := by rw [beq_eq_false_iff_ne]; exact hl0
    have c8' : w.cell? ⟨g, 8, none⟩ = some (.int .i64 (left : Int)) := by rw [← hl]; exact h1.cells.2.2.2.2.2.2.1
    clear HQ hst h1 h2 h3 h4 h5 h6 h7 h8 h9 h hm hs hd hl hl2 hnl hnt hnlen hsub2 hn
    generalize s.data.take n = T at *
    generalize ofL s.data = D at *
    go_enter Tryz.func39, Tryz.ntmps39
    go_wp2_with fail
    refine HT.out.mono ?_
    rintro e w1 ⟨rfl, hst⟩
    obtain ⟨k8, y8, HB⟩ := HS.out w1 hst
    replace HB := Lib.hid HB
    clear HT HS hst c8 c8'
    go_wp2_with fail
    refine HB.out.mono ?_
    rintro e w2 ⟨rfl, hst⟩
    obtain ⟨q0, q1, q2, q3, q4, q5, q6, q7⟩ := hst.box.cells
    obtain ⟨y0, y1, y2, y3, y4, y5, y6, y7⟩ := hst.box.frees
    obtain ⟨P3, hFin⟩ := key.out w2 hst
    clear HB hst key k8 y8
    go_wp2_with fail
    refine bodyPost_ret (v := .tuple #[.agg (pca (kT T) zero8 nilV T), .int .i64 (n : Int), .int .i64 0]) ?_ rfl hFin.out
    rw [results_cell_tmp2 rfl]
    exact end_pbox3 rfl rfl rfl P3.out
end Go.Proofs.YtggmafmebocoaaaGreatDoor.POutBody

/- Layer 12 of the program: the step that reads a body in chunks. -/
namespace Go.Proofs.YtggmafmebocoaaaGreatDoor.POutBody
open Go.ChangeShapes Go.WideShapes Go.ChangeAt Go.RowKit LexPure Bytes Ret FieldsPure HeadPure HBox ChunkPure ChunkObj OutPure OutBox KeptRow Mem Step InEmb OutObj POutText POutEnds
set_option maxRecDepth 100000
set_option linter.unusedVariables false
set_option linter.unusedSimpArgs false
/-- behind the decoder's call -/
structure CS (w w2 : World) (F R G2 : Nat → Prop) (g gd : Nat) (r : Raw) (l : List UInt8) (m : M) : Prop where
  st : Stood w w2 F (fun j => F j ∨ G2 j) R g r l
  dec : Dec w2 G2 gd m
  far : ∀ j, G2 j → ¬ R j ∧ ¬ j = w.heap.size
section
variable {w w2 w3 : World} {F R G2 : Nat → Prop} {g gd u : Nat} {r r' : Raw} {l l' : List UInt8} {m : M} {meth : ByteArray} {s s' : St}
theorem CS.call (c : CS w w2 F R G2 g gd r l m) (hb : Below w2.heap.size w2 w3) : CS w w3 F R G2 g gd r l m :=
  ⟨c.st.call hb, c.dec.step (Step.of_below hb (fun _ => False)) (fun _ _ h => h), c.far⟩
theorem CS.turn (c : CS w w2 F R G2 g gd r l m) (hRF : ∀ k, R k → F k) (hD : Dat w3 R g r' l') (hS : Step w2 w3 R R) : CS w w3 F R G2 g gd r' l' m :=
  ⟨c.st.turn hD hS (fun k hk => .inl (hRF k hk)), c.dec.step hS (fun j hj => (c.far j hj).1), c.far⟩
theorem CS.put (c : CS w w2 F R G2 g gd r l m) (k : Int) (hd : H8) (v : Value) (d : List UInt8) :
    PBox (pput w2 w.heap.size k hd v d) w.heap.size k hd v d ∧ Dat (pput w2 w.heap.size k hd v d) R g r l ∧ Step w (pput w2 w.heap.size k hd v d) F (fun j => F j ∨ G2 j) ∧ Dec (pput w2 w.heap.size k hd v d) G2 gd m := by
  obtain ⟨a, b, e⟩ := c.st.put k hd v d
  exact ⟨a, b, e, c.dec.step (pput_step w2 w.heap.size k hd v d) (fun j hj x => (c.far j hj).2 x)⟩
/-- the reader behind the step -/
theorem shut_chunks {p : Pc} {e : Int} (hs : stepO (toL meth) s = (p, u, e, s')) (hp : headP p = zero8) (hRF : ∀ k, R k → F k) (hFg : F g) (hFl : ∀ k, F k → k < w.heap.size) (hD : Dat w3 R g r l) (hS : Step w w3 F (fun j => F j ∨ G2 j)) (hdec : Dec w3 G2 gd m)
    (h2 : r.meth = meth) (h3 : r.A ++ l = s'.data) (h4 : u ≤ r.A.length) (h5 : r.gone = s'.gone) (h6 : r.kind = s'.kind) (h7 : r.kept = s'.kept) (h8 : Rel w3 (fun j => F j ∨ G2 j) R s'.md r) : StepR w w3 (.returned (.tuple #[.agg (pcl p nilV), .int .i64 (u : Int), .int .i64 e])) F g meth s := by
  unfold StepR
  rw [hs]
  refine ⟨nilV, fun j => F j ∨ G2 j, rfl, by dsimp only; rw [hp]; exact row_none _ _, fun b hb => (by cases hb), ⟨⟨R, r, l, hD, h2, h3, h4, h5, h6, h7, h8, fun k hk => .inl (hRF k hk)⟩, .inl hFg, fun k hk => ?_⟩, hS⟩
  rcases hk with x | x
  · exact Nat.lt_of_lt_of_le (hFl k x) hS.size
  · exact hdec.lt k x
end
set_option maxHeartbeats 3200000 in
theorem step_chunks {w : World} {F : Nat → Prop} {g : Nat} {meth : ByteArray} {s : St} (m : M) (h : Rdr w F g meth s) (hm : s.md = .chunks m) (hs : s.data.length ≤ 211106232532992) :
    Calls Tryz.prog 41 #[.pointer (some ⟨g, 0, none⟩)] w fun e w' => StepR w w' e F g meth s := by
  obtain ⟨R, r, l, h1, h2, h3, h4, h5, h6, h7, h8, h9⟩ := h.is
  obtain ⟨gd, G, hdp, hDec, hok, hmost, hG⟩ := h8.dec m hm
  have hst := Stood.start (H := R) h1 (fun _ h => h)
  have hstd : Stood w (w.alloc (.cells zbox PT)).drew R R R g r l := hst.turn (hst.dat.step (Step.drew _ (fun _ => False)) (fun _ _ h => h)) (Step.drew _ R) (fun _ h => h)
  have hDec0 : Dec (w.alloc (.cells zbox PT)).drew G gd m := (hDec.step (Step.alloc w _ (fun _ => False)) (fun _ _ h => h)).step (Step.drew _ (fun _ => False)) (fun _ _ h => h)
  have hGl := hDec.lt
  have HT := Lib.hid ((ptext12 hstd.dat (by have := hs; rw [← h3, List.length_append] at this; omega)).mono (fun e w1 ⟨x1, x2, x3⟩ => (⟨by rw [h3] at x1; exact x1, by rw [h3] at x2; exact hstd.turn x2 x3 (fun _ h => h), hDec0.step x3 (fun j hj => (hG j hj).2)⟩ : e = Ending.returned (Value.string (ofL s.data)) ∧ Stood w w1 R R R g { r with A := s.data } [] ∧ Dec w1 G gd m)))
  have HFd : Hid (∀ w1, Stood w w1 R R R g { r with A := s.data } [] → Dec w1 G gd m → w1.cell? ⟨g, 9, none⟩ = some (.pointer (some ⟨gd, 0, none⟩)) ∧
      Calls Tryz.prog 58 #[.pointer (some ⟨gd, 0, none⟩), .string (ofL s.data)] w1 fun e w2 => e = .returned (ansV (ans m s.data)) ∧ w2.cell? ⟨g, 9, none⟩ = some (.pointer (some ⟨gd, 0, none⟩)) ∧ ∃ G2, CS w w2 F R G2 g gd { r with A := s.data } [] (next m s.data)) := Lib.hid (fun w1 k kd => by
    refine ⟨by rw [← hdp]; exact k.dat.cells.2.2.2.2.2.2.2.1, ?_⟩
    have hf := pfeed_any G gd m (ofL s.data) (by rw [ofL_size]; exact hs) (.inr (by rw [hmost]; unfold MT; omega)) hok w1 kd
    rw [toL_ofL] at hf
    refine hf.mono (fun e w2 ⟨x1, G2, x2, x3⟩ => ?_)
    have hRG : ∀ j, R j → ¬ G j := fun j hj x => (hG j x).2 hj
    have hd2 := k.dat.step x3 hRG
    have hsz : w.heap.size < w1.heap.size := by
      have := k.box.has.lt
      omega
    refine ⟨x1, by rw [← hdp]; exact hd2.cells.2.2.2.2.2.2.2.1, G2, ⟨hd2, k.box.step x3 (fun x => by have := hGl _ x; omega), ?_, k.far⟩, x2, fun j hj => ?_⟩
    · refine ⟨x3.os.trans k.step.os, x3.tape.trans k.step.tape, x3.output.trans k.step.output, Nat.le_trans k.step.size x3.size, fun j hj hn => ?_, fun j hj => ?_⟩
      · rw [x3.block j (Nat.lt_of_lt_of_le hj k.step.size) (fun x => hn (hG j x).1)]
        exact k.step.block j hj (fun x => hn (h9 j x))
      · rcases hj with hj | hj
        · exact .inl hj
        · rcases x3.grow j hj with y | y
          · exact .inl (hG j y).1
          · exact .inr ⟨Nat.le_trans k.step.size y.1, y.2⟩
    · rcases x3.grow j hj with y | y
      · exact ⟨(hG j y).2, by have := hGl _ y; omega⟩
      · exact ⟨fun x => by have := k.dat.lt j x; omega, by omega⟩)
  have hu := ans_used m s.data
  have hok2 : Ok (next m s.data) := hok.run s.data
  have hmost2 : (next m s.data).most = MT := (run_size m s.data).2.trans hmost
  have hstep : stepO (toL meth) s = (if (ans m s.data).2.2.2 ≠ 0 then (.none, 0, (ans m s.data).2.2.2, { s with md := .chunks (next m s.data) })
      else if (ans m s.data).1 = [] ∧ (ans m s.data).2.2.1 = true then (.fin, (ans m s.data).2.1, 0, { s with md := .nothing })
      else (tell (ans m s.data).1, (ans m s.data).2.1, 0, { s with md := .chunks (next m s.data) })) := by unfold stepO; rw [hm]
  generalize hA : ans m s.data = A at *
  obtain ⟨piece, used, whole, er⟩ := A
  dsimp only at hstep hu
  unfold ansV at HFd
  dsimp only at HFd
  have c9 : (w.alloc (.cells zbox PT)).drew.cell? ⟨g, 9, none⟩ = some (.pointer (some ⟨gd, 0, none⟩)) := by rw [← hdp]; exact hstd.dat.cells.2.2.2.2.2.2.2.1
  have hRel : ∀ (w3 : World) (G2 : Nat → Prop), Dec w3 G2 gd (next m s.data) → (∀ j, G2 j → ¬ R j) → Rel w3 (fun j => F j ∨ G2 j) R (.chunks (next m s.data)) { r with A := s.data } := fun w3 G2 hd hf => by
    rw [hm] at h8
    exact ⟨h8.fn, h8.done, fun e h => (by cases h), fun n h => (by cases h), fun m' hm' => (by injection hm' with hm'; subst hm'; exact ⟨gd, G2, hdp, hd, hok2, hmost2, fun j hj => ⟨.inr hj, hf j hj⟩⟩)⟩
  have hul : used ≤ s.data.length := hu.1
  by_cases her : er ≠ 0
  · rw [if_pos her] at hstep
    have herb : (er != 0) = true := bne_iff_ne.2 her
    have HQ : Hid (∀ (w2 : World) (G2 : Nat → Prop), CS w w2 F R G2 g gd { r with A := s.data } [] (next m s.data) → Hid (PBox (pput w2 w.heap.size 0 zero8 nilV []) w.heap.size 0 zero8 nilV []) ∧ Hid (StepR w (pput w2 w.heap.size 0 zero8 nilV []) (.returned (.tuple #[.agg (pca 0 zero8 nilV []), .int .i64 0, .int .i64 er])) F g meth s)) := Lib.hid (fun w2 G2 c => by
      obtain ⟨a, b, d, f⟩ := c.put 0 zero8 nilV []
      exact ⟨Lib.hid a, Lib.hid (shut_chunks (p := .none) (u := 0) hstep rfl h9 h.mine h.lt b d f h2 (List.append_nil _) (Nat.zero_le _) h5 h6 h7 (hRel _ G2 f (fun j hj => (c.far j hj).1)))⟩)
    unfold pput at HQ
    clear hRel hstep hu hok2 hmost2 hul hA hst hstd hDec0 hGl hDec hok hmost hG h1 h2 h3 h4 h5 h6 h7 h8 h9 h hm hs her
    generalize ofL s.data = S at *
    go_enter Tryz.func41, Tryz.ntmps41
    go_wp2_with fail
    go_region_held3 (fun w' => w'.cell? ⟨g, 9, none⟩ = some (.pointer (some ⟨gd, 0, none⟩))) (first | exact s2 | exact s1 | exact c9)
      (first
        | (go_at_call 25; refine HT.out.mono ?_; rintro e w1 ⟨rfl, hst1, hd1⟩
           obtain ⟨s1, HF1⟩ := HFd.out w1 hst1 hd1
           replace HF1 := Lib.hid HF1
           clear HT HFd hst1 hd1)
        | (go_at_call 58; refine HF1.out.mono ?_; rintro e w2 ⟨rfl, s2, G2, hc⟩
           obtain ⟨q0, q1, q2, q3, q4, q5, q6, q7⟩ := hc.st.box.cells
           obtain ⟨y0, y1, y2, y3, y4, y5, y6, y7⟩ := hc.st.box.frees
           obtain ⟨P3, hFin⟩ := HQ.out w2 G2 hc
           clear HF1 HQ hc))
    go_wp2_with fail
    refine bodyPost_ret (v := .tuple #[.agg (pca 0 zero8 nilV []), .int .i64 0, .int .i64 er]) ?_ rfl hFin.out
    rw [results_cell_tmp2 rfl]
    exact end_pbox3 rfl rfl rfl P3.out
  · have her0 : er = 0 := Classical.not_not.1 her
    subst her0
    rw [if_neg her] at hstep
    have e1 : (ofL piece).toList = piece := by rw [ByteArray.toList_eq]; exact toL_ofL _
    by_cases hfin : piece = [] ∧ whole = true
    · rw [if_pos hfin] at hstep
      obtain ⟨hp0, hw⟩ := hfin
      have t1 : (ofL piece).toList.isEmpty = true := by rw [e1, hp0]; rfl
      have t2 : (ofL piece).toList = [] := by rw [e1, hp0]
      have HB : Hid (∀ (w2 : World) (G2 : Nat → Prop), CS w w2 F R G2 g gd { r with A := s.data } [] (next m s.data) → Calls Tryz.prog 56 #[.pointer (some ⟨g, 0, none⟩), .int .i64 (used : Int)] w2 fun e w3 => e = .returned (.tuple #[.agg (zp 3), .int .i64 (used : Int), .int .i64 0]) ∧ ∃ G2, CS w w3 F R G2 g gd { r with A := s.data, done := true, fn := 70 } [] (next m s.data)) := Lib.hid (fun w2 G2 c =>
        (pfinish c.st.dat (used : Int)).mono (fun e w3 ⟨x1, x2, x3⟩ => ⟨x1, G2, c.turn h9 x2 x3⟩))
      have HQ : Hid (∀ (w2 : World) (G2 : Nat → Prop), CS w w2 F R G2 g gd { r with A := s.data, done := true, fn := 70 } [] (next m s.data) → Hid (PBox (pput w2 w.heap.size 3 zero8 nilV []) w.heap.size 3 zero8 nilV []) ∧ Hid (StepR w (pput w2 w.heap.size 3 zero8 nilV []) (.returned (.tuple #[.agg (pca 3 zero8 nilV []), .int .i64 (used : Int), .int .i64 0])) F g meth s)) := Lib.hid (fun w2 G2 c => by
        obtain ⟨a, b, d, f⟩ := c.put 3 zero8 nilV []
        exact ⟨Lib.hid a, Lib.hid (shut_chunks (p := .fin) (u := used) hstep rfl h9 h.mine h.lt b d f h2 (List.append_nil _) hul h5 h6 h7 (rel_nothing (r := { r with A := s.data })))⟩)
      unfold pput at HQ
      subst hw
      clear hRel hstep hu hok2 hmost2 hul hA hst hstd hDec0 hGl hDec hok hmost hG h1 h2 h3 h4 h5 h6 h7 h8 h9 h hm hs her hp0 e1
      generalize ofL s.data = S at *
      generalize ofL piece = T at *
      go_enter Tryz.func41, Tryz.ntmps41
      go_wp2_with fail
      go_region_held3 (fun w' => w'.cell? ⟨g, 9, none⟩ = some (.pointer (some ⟨gd, 0, none⟩))) (first | exact s2 | exact s1 | exact c9)
        (first
          | (go_at_call 25; refine HT.out.mono ?_; rintro e w1 ⟨rfl, hst1, hd1⟩
             obtain ⟨s1, HF1⟩ := HFd.out w1 hst1 hd1
             replace HF1 := Lib.hid HF1
             clear HT HFd hst1 hd1)
          | (go_at_call 58; refine HF1.out.mono ?_; rintro e w2 ⟨rfl, s2, G2, hc⟩
             have hCb := Lib.hid (HB.out w2 G2 hc)
             clear HF1 HB hc))
      go_wp2_with fail
      refine hCb.out.mono ?_
      rintro e w3 ⟨rfl, G3, hc3⟩
      obtain ⟨q0, q1, q2, q3, q4, q5, q6, q7⟩ := hc3.st.box.cells
      obtain ⟨y0, y1, y2, y3, y4, y5, y6, y7⟩ := hc3.st.box.frees
      obtain ⟨P3, hFin⟩ := HQ.out w3 G3 hc3
      clear hCb HQ hc3
      go_wp2_with fail
      refine bodyPost_ret (v := .tuple #[.agg (pca 3 zero8 nilV []), .int .i64 (used : Int), .int .i64 0]) ?_ rfl hFin.out
      rw [results_cell_tmp2 rfl]
      exact end_pbox3 rfl rfl rfl P3.out
    · rw [if_neg hfin] at hstep
      have HB : Hid (∀ (w2 : World) (G2 : Nat → Prop), CS w w2 F R G2 g gd { r with A := s.data } [] (next m s.data) → Calls Tryz.prog 57 #[.string (ofL piece), .int .i64 (used : Int)] w2 fun e w3 => e = .returned (.tuple #[.agg #[.int .i64 (kT piece), .string ⟨#[]⟩, .string ⟨#[]⟩, .int .i64 0, .string ⟨#[]⟩, .int .i64 0, .slice none 0 0, .string (ofL piece)], .int .i64 (used : Int), .int .i64 0]) ∧ ∃ G2, CS w w3 F R G2 g gd { r with A := s.data } [] (next m s.data)) := Lib.hid (fun w2 G2 c =>
        (ptellbody2 piece (used : Int) w2).mono (fun e w3 ⟨x1, x2⟩ => ⟨x1, G2, c.call x2⟩))
      have HQ : Hid (∀ (w2 : World) (G2 : Nat → Prop), CS w w2 F R G2 g gd { r with A := s.data } [] (next m s.data) → Hid (PBox (pput w2 w.heap.size (kT piece) zero8 nilV piece) w.heap.size (kT piece) zero8 nilV piece) ∧ Hid (StepR w (pput w2 w.heap.size (kT piece) zero8 nilV piece) (.returned (.tuple #[.agg (pca (kT piece) zero8 nilV piece), .int .i64 (used : Int), .int .i64 0])) F g meth s)) := Lib.hid (fun w2 G2 c => by
        obtain ⟨a, b, d, f⟩ := c.put (kT piece) zero8 nilV piece
        rw [← pcl_tell]
        exact ⟨Lib.hid a, Lib.hid (shut_chunks (u := used) hstep (by unfold tell; split <;> rfl) h9 h.mine h.lt b d f h2 (List.append_nil _) hul h5 h6 h7 (hRel _ G2 f (fun j hj => (c.far j hj).1)))⟩)
      unfold pput at HQ
      have hcs : ((ofL piece).toList.isEmpty = false ∧ ¬ (ofL piece).toList = []) ∨ ((ofL piece).toList.isEmpty = true ∧ (ofL piece).toList = [] ∧ whole = false) := by
        rw [e1]
        by_cases h0 : piece = []
        · refine .inr ⟨by rw [h0]; rfl, h0, ?_⟩
          cases hw : whole with
          | false => rfl
          | true => exact absurd ⟨h0, hw⟩ hfin
        · refine .inl ⟨?_, h0⟩
          cases hx : piece with
          | nil => exact absurd hx h0
          | cons => rfl
      clear hRel hstep hu hok2 hmost2 hul hA hst hstd hDec0 hGl hDec hok hmost hG h1 h2 h3 h4 h5 h6 h7 h8 h9 h hm hs her e1 hfin
      generalize ofL s.data = S at *
      rcases hcs with ⟨t1, t2⟩ | ⟨t1, t2, rfl⟩
      all_goals
        go_enter Tryz.func41, Tryz.ntmps41
        go_wp2_with fail
        go_region_held3 (fun w' => w'.cell? ⟨g, 9, none⟩ = some (.pointer (some ⟨gd, 0, none⟩))) (first | exact s2 | exact s1 | exact c9)
          (first
            | (go_at_call 25; refine HT.out.mono ?_; rintro e w1 ⟨rfl, hst1, hd1⟩
               obtain ⟨s1, HF1⟩ := HFd.out w1 hst1 hd1
               replace HF1 := Lib.hid HF1
               clear HT HFd hst1 hd1)
            | (go_at_call 58; refine HF1.out.mono ?_; rintro e w2 ⟨rfl, s2, G2, hc⟩
               have hCb := Lib.hid (HB.out w2 G2 hc)
               clear HF1 HB hc))
        go_wp2_with fail
        refine hCb.out.mono ?_
        rintro e w3 ⟨rfl, G3, hc3⟩
        obtain ⟨q0, q1, q2, q3, q4, q5, q6, q7⟩ := hc3.st.box.cells
        obtain ⟨y0, y1, y2, y3, y4, y5, y6, y7⟩ := hc3.st.box.frees
        obtain ⟨P3, hFin⟩ := HQ.out w3 G3 hc3
        clear hCb HQ hc3
        go_wp2_with fail
        refine bodyPost_ret (v := .tuple #[.agg (pca (kT piece) zero8 nilV piece), .int .i64 (used : Int), .int .i64 0]) ?_ rfl hFin.out
        rw [results_cell_tmp2 rfl]
        exact end_pbox3 rfl rfl rfl P3.out
end Go.Proofs.YtggmafmebocoaaaGreatDoor.POutBody
