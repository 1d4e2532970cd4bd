/- Texts of this seat, one behind another: PFrResp, PFindT, PHas7, PKeep9, FrameObj. -/
import Derived.Shelf.Abstract
import Derived.Laws.EntriesVeiled
import Derived.Test.YtgkdepoimnmhfaaDoorA3
import Derived.Test.YtgkdepoimnmhfaaDoorA2
import Derived.Test.YtgkdepoimnmhfaaDoorA1
/- Layer 9 of the program: Response. -/
namespace Go.Proofs.YtgkdepoimnmhfaaDoor.PFrResp
open Go.ChangeShapes Go.WideShapes Go.ChangeAt Go.RowKit LexPure Bytes Ret Rows1 Texts FieldsPure HeadPure FramePure FrNames Flds PLib PFrCh PFrHas PFrEnc PFrSized PFrReq HBox FrBox Held Mem
set_option maxRecDepth 20000
theorem box9 (w : World) (h : H8) (v : Value) (x : Int × Int) : RB w ((w.alloc (.cells (hc h v) 24)).alloc (.cells (rc x) 27)) (w.heap.size + 1) x := by
  have := RB.new (w := w) (W := w.alloc (.cells (hc h v) 24)) (x := x) ((Below.refl w.heap.size w).alloc (Nat.le_refl _) _)
  rwa [World.size_alloc] at this
theorem text_at (m : ByteArray) (l : List UInt8) : (m.toList == l) = decide (toL m = l) := by
  rw [ByteArray.toList_eq, show m.data.toList = toL m from rfl]
  by_cases h : toL m = l
  · rw [decide_eq_true h, h]; exact beq_self_eq_true _
  · rw [decide_eq_false h]; exact beq_eq_false_iff_ne.2 h
def CON : List UInt8 := [67, 79, 78, 78, 69, 67, 84]
def HEA : List UInt8 := [72, 69, 65, 68]
/-- how the tests come out that look at no field -/
structure Way9 (m : ByteArray) (st : Int) (e1 d1 e2 e3 con d2 hd : Bool) : Prop where
  a1 : (st == 101) = e1
  a2 : (wrap64 (st.tdiv 100) == 1) = d1
  a3 : (st == 204) = e2
  a4 : (st == 304) = e3
  a5 : (m.toList == CON) = con
  a6 : (wrap64 (st.tdiv 100) == 2) = d2
  a7 : (m.toList == HEA) = hd
def early (e1 d1 e2 e3 con d2 hd : Bool) : Option (Int × Int × Int) :=
  if e1 then some (5, 0, 0) else if d1 || e2 || e3 then some (1, 0, 0) else if con && d2 then some (5, 0, 0) else if hd then some (1, 0, 0) else none
theorem tdiv_at (st : Int) : (0 ≤ st → st.tdiv 100 = st / 100) ∧ (st < 0 → st.tdiv 100 = -((-st) / 100)) := by
  refine ⟨fun h => Int.tdiv_eq_ediv_of_nonneg h, fun h => ?_⟩
  rw [← Int.tdiv_eq_ediv_of_nonneg (by omega), Int.neg_tdiv, Int.neg_neg]
theorem tdiv_one (st : Int) : st.tdiv 100 = 1 ↔ 100 ≤ st ∧ st < 200 := by
  obtain ⟨h1, h2⟩ := tdiv_at st
  rcases Int.lt_or_le st 0 with h | h
  · rw [h2 h]; omega
  · rw [h1 h]; omega
theorem tdiv_two (st : Int) : st.tdiv 100 = 2 ↔ 200 ≤ st ∧ st < 300 := by
  obtain ⟨h1, h2⟩ := tdiv_at st
  rcases Int.lt_or_le st 0 with h | h
  · rw [h2 h]; omega
  · rw [h1 h]; omega
theorem wrap_div (st : Int) (h : (Lit.int .i64 st).wf = true) : wrap64 (st.tdiv 100) = st.tdiv 100 := by
  have h2 : -9223372036854775808 ≤ st ∧ st ≤ 9223372036854775807 := by
    have this : (decide (IntKind.i64.min ≤ st) && decide (st ≤ IntKind.i64.max)) = true := h
    rw [show IntKind.i64.min = -9223372036854775808 from rfl, show IntKind.i64.max = 9223372036854775807 from rfl, Bool.and_eq_true, decide_eq_true_eq, decide_eq_true_eq] at this
    exact this
  obtain ⟨t1, t2⟩ := tdiv_at st
  unfold wrap64
  rcases Int.lt_or_le st 0 with q | q
  · rw [t2 q]; omega
  · rw [t1 q]; omega
theorem resp_prog (m : ByteArray) (st minor : Int) (G : List HField) (hst : (Lit.int .i64 st).wf = true) {e1 d1 e2 e3 con d2 hd : Bool} (hw : Way9 m st e1 d1 e2 e3 con d2 hd) :
    response9 (toL m) st minor G = match early e1 d1 e2 e3 con d2 hd with
      | some x => x
      | none => if 0 < getN G TENC then enc9 minor G 91 else if 0 < getN G CLEN then sized9 G else (4, 0, 0) := by
  obtain ⟨a1, a2, a3, a4, a5, a6, a7⟩ := hw
  rw [wrap_div st hst] at a2 a6
  rw [text_at] at a5 a7
  unfold response9 early
  by_cases h1 : st = 101
  · rw [if_pos h1, ← a1, h1]
    rfl
  have b1 : e1 = false := by rw [← a1]; exact beq_eq_false_iff_ne.2 h1
  subst b1
  rw [if_neg h1]
  by_cases h2 : (100 ≤ st ∧ st < 200) ∨ st = 204 ∨ st = 304
  · rw [if_pos h2]
    have : (d1 || e2 || e3) = true := by
      rcases h2 with h | h | h
      · rw [← a2, (tdiv_one st).2 h]; rfl
      · rw [← a3, h]; simp
      · rw [← a4, h]; simp
    rw [this]
    rfl
  rw [if_neg h2]
  have b2 : (d1 || e2 || e3) = false := by
    have c1 : d1 = false := by rw [← a2]; exact beq_eq_false_iff_ne.2 (fun h => h2 (.inl ((tdiv_one st).1 h)))
    have c2 : e2 = false := by rw [← a3]; exact beq_eq_false_iff_ne.2 (fun h => h2 (.inr (.inl h)))
    have c3 : e3 = false := by rw [← a4]; exact beq_eq_false_iff_ne.2 (fun h => h2 (.inr (.inr h)))
    rw [c1, c2, c3]
    rfl
  rw [b2]
  by_cases h3 : toL m = [67, 79, 78, 78, 69, 67, 84] ∧ 200 ≤ st ∧ st < 300
  · rw [if_pos h3]
    have : (con && d2) = true := by
      rw [← a5, ← a6, (tdiv_two st).2 h3.2, decide_eq_true (show toL m = CON from h3.1)]
      rfl
    rw [this]
    rfl
  rw [if_neg h3]
  have b3 : (con && d2) = false := by
    rw [← a5, ← a6]
    by_cases q : toL m = CON
    · rw [decide_eq_true q, Bool.true_and]
      exact beq_eq_false_iff_ne.2 (fun h => h3 ⟨q, (tdiv_two st).1 h⟩)
    · rw [decide_eq_false q]
      rfl
  rw [b3]
  by_cases h4 : toL m = [72, 69, 65, 68]
  · rw [if_pos h4]
    have : hd = true := by rw [← a7]; exact decide_eq_true h4
    rw [this]
    rfl
  rw [if_neg h4]
  have b4 : hd = false := by rw [← a7]; exact decide_eq_false h4
  rw [b4]
  unfold enc9 sized9
  simp only [Bool.false_eq_true, if_false]
  by_cases h5 : 0 < getN G TENC
  · rw [if_pos h5, if_pos h5]
  · rw [if_neg h5, if_neg h5]
    by_cases h6 : getN G CLEN = 0
    · rw [if_pos h6, if_neg (Nat.not_lt.2 (Nat.le_of_eq h6))]
    · rw [if_neg h6, if_pos (Nat.pos_of_ne_zero h6)]
/-- the tests that come out early, one by one -/
theorem early_cases {e1 d1 e2 e3 con d2 hd : Bool} {X : Int × Int × Int} (h : early e1 d1 e2 e3 con d2 hd = some X) (hx : con = true → hd = false) :
    (e1 = true ∧ X = (5, 0, 0)) ∨ (e1 = false ∧ d1 = true ∧ X = (1, 0, 0)) ∨ (e1 = false ∧ d1 = false ∧ e2 = true ∧ X = (1, 0, 0)) ∨ (e1 = false ∧ d1 = false ∧ e2 = false ∧ e3 = true ∧ X = (1, 0, 0)) ∨
      (e1 = false ∧ d1 = false ∧ e2 = false ∧ e3 = false ∧ con = true ∧ d2 = true ∧ X = (5, 0, 0)) ∨ (e1 = false ∧ d1 = false ∧ e2 = false ∧ e3 = false ∧ con = false ∧ hd = true ∧ X = (1, 0, 0)) := by
  unfold early at h
  cases e1 <;> cases d1 <;> cases e2 <;> cases e3 <;> cases con <;> cases d2 <;> cases hd <;> simp_all
theorem late_cases {e1 d1 e2 e3 con d2 hd : Bool} (h : early e1 d1 e2 e3 con d2 hd = none) : e1 = false ∧ d1 = false ∧ e2 = false ∧ e3 = false ∧ hd = false ∧ (con = false ∨ (con = true ∧ d2 = false)) := by
  unfold early at h
  cases e1 <;> cases d1 <;> cases e2 <;> cases e3 <;> cases con <;> cases d2 <;> cases hd <;> simp_all
theorem con_head {m : ByteArray} {st : Int} {e1 d1 e2 e3 con d2 hd : Bool} (hw : Way9 m st e1 d1 e2 e3 con d2 hd) : con = true → hd = false := by
  intro h
  have a5 := hw.a5
  have a7 := hw.a7
  rw [text_at] at a5 a7
  rw [h] at a5
  rw [← a7, of_decide_eq_true a5]
  decide
set_option maxHeartbeats 1600000 in
theorem presp_early (m : ByteArray) (h : H8) (v : Value) {e1 d1 e2 e3 con d2 hd : Bool} (hw : Way9 m h.status e1 d1 e2 e3 con d2 hd) (X : Int × Int × Int) (hX : early e1 d1 e2 e3 con d2 hd = some X) (w : World) :
    Calls Tryd.prog 15 #[.string m, hv h v] w fun e w' => e = .returned (frv9 X) ∧ Below w.heap.size w w' := by
  have hc := early_cases hX (con_head hw)
  obtain ⟨a1, a2, a3, a4, a5, a6, a7⟩ := hw
  unfold CON at a5
  unfold HEA at a7
  have R1 := Lib.hid (box9 w h v (1, 0))
  have R5 := Lib.hid (box9 w h v (5, 0))
  unfold HBox.hc rc at R1 R5
  unfold hv
  clear hX
  rcases hc with ⟨rfl, hV⟩ | ⟨rfl, rfl, hV⟩ | ⟨rfl, rfl, rfl, hV⟩ | ⟨rfl, rfl, rfl, rfl, hV⟩ | ⟨rfl, rfl, rfl, rfl, rfl, rfl, hV⟩ | ⟨rfl, rfl, rfl, rfl, rfl, rfl, hV⟩
  · replace hV := Lib.hid hV
    clear a2 a3 a4 a5 a6 a7
    go_enter Tryd.func15, Tryd.ntmps15
    go_wp2_with fail
    refine bodyPost_ret (v := frv9 X) ?_ rfl ⟨rfl, R5.out.below⟩
    rw [results_cell_tmp rfl]
    exact end_rbox hV.out rfl rfl R5.out.box
  · replace hV := Lib.hid hV
    clear a3 a4 a5 a6 a7
    go_enter Tryd.func15, Tryd.ntmps15
    go_wp2_with fail
    refine bodyPost_ret (v := frv9 X) ?_ rfl ⟨rfl, R1.out.below⟩
    rw [results_cell_tmp rfl]
    exact end_rbox hV.out rfl rfl R1.out.box
  · replace hV := Lib.hid hV
    clear a4 a5 a6 a7
    go_enter Tryd.func15, Tryd.ntmps15
    go_wp2_with fail
    refine bodyPost_ret (v := frv9 X) ?_ rfl ⟨rfl, R1.out.below⟩
    rw [results_cell_tmp rfl]
    exact end_rbox hV.out rfl rfl R1.out.box
  · replace hV := Lib.hid hV
    clear a5 a6 a7
    go_enter Tryd.func15, Tryd.ntmps15
    go_wp2_with fail
    refine bodyPost_ret (v := frv9 X) ?_ rfl ⟨rfl, R1.out.below⟩
    rw [results_cell_tmp rfl]
    exact end_rbox hV.out rfl rfl R1.out.box
  · replace hV := Lib.hid hV
    clear a7
    go_enter Tryd.func15, Tryd.ntmps15
    go_wp2_with fail
    refine bodyPost_ret (v := frv9 X) ?_ rfl ⟨rfl, R5.out.below⟩
    rw [results_cell_tmp rfl]
    exact end_rbox hV.out rfl rfl R5.out.box
  · replace hV := Lib.hid hV
    clear a6
    go_enter Tryd.func15, Tryd.ntmps15
    go_wp2_with fail
    refine bodyPost_ret (v := frv9 X) ?_ rfl ⟨rfl, R1.out.below⟩
    rw [results_cell_tmp rfl]
    exact end_rbox hV.out rfl rfl R1.out.box
set_option maxHeartbeats 3200000 in
theorem presp_late (m : ByteArray) (h : H8) (v : Value) {e1 d1 e2 e3 con d2 hd : Bool} (hw : Way9 m h.status e1 d1 e2 e3 con d2 hd) (hX0 : early e1 d1 e2 e3 con d2 hd = none) (hG : Few h.fields) (hle : h.fields.length ≤ 1048576) (w : World) (hF : FL w v h.fields) (hm : MaxInt w) :
    Calls Tryd.prog 15 #[.string m, hv h v] w fun e w' => e = .returned (frv9 (if 0 < getN h.fields TENC then enc9 h.minor h.fields 91 else if 0 < getN h.fields CLEN then sized9 h.fields else (4, 0, 0))) ∧ Below w.heap.size w w' := by
  have hc := late_cases hX0
  obtain ⟨a1, a2, a3, a4, a5, a6, a7⟩ := hw
  unfold CON at a5
  unfold HEA at a7
  obtain ⟨L0, R0⟩ := start9 w h v hF
  have P0 : PQ w ((w.alloc (.cells (HBox.hc h v) 24)).alloc (.cells (rc (0, 0)) 27)) h v (0, 0) := ⟨L0, R0, hm.below L0.below⟩
  have HT := Lib.hid (pfrhas_any h v ⟨#[84, 114, 97, 110, 115, 102, 101, 114, 45, 69, 110, 99, 111, 100, 105, 110, 103]⟩ hG _ L0.list)
  rw [show toL ⟨#[84, 114, 97, 110, 115, 102, 101, 114, 45, 69, 110, 99, 111, 100, 105, 110, 103]⟩ = aTENC from rfl, getN_same low_t] at HT
  have HC := Lib.hid (fun w hF => pfrhas_any h v ⟨#[67, 111, 110, 116, 101, 110, 116, 45, 76, 101, 110, 103, 116, 104]⟩ hG w hF)
  rw [show toL ⟨#[67, 111, 110, 116, 101, 110, 116, 45, 76, 101, 110, 103, 116, 104]⟩ = aCLEN from rfl, getN_same low_l] at HC
  have HE := Lib.hid (fun w hF hm => penc_any h v 91 hG hle w hF hm)
  have HB := Lib.hid (fun w hF => psized_any h v hG hle w hF)
  obtain ⟨X, hX⟩ : ∃ X, X = (if 0 < getN h.fields TENC then enc9 h.minor h.fields 91 else if 0 < getN h.fields CLEN then sized9 h.fields else (4, 0, 0)) := ⟨_, rfl⟩
  rw [← hX]
  generalize sized9 h.fields = xb at *
  generalize enc9 h.minor h.fields 91 = xe at *
  generalize getN h.fields TENC = k1 at *
  generalize getN h.fields CLEN = k2 at *
  clear hF hm hX0 L0 R0
  unfold HBox.hc rc at P0 HT
  unfold hv at HT HC HE HB ⊢
  unfold frv9 at HE HB
  obtain ⟨d0, d1', d2', d3, d4, d5⟩ := P0.lb.box.cells
  obtain ⟨rfl, rfl, rfl, rfl, rfl, hcon⟩ := hc
  rcases hcon with rfl | ⟨rfl, rfl⟩
  · clear a6
    go_enter Tryd.func15, Tryd.ntmps15
    go_wp2_with fail
    generalize (w.alloc (.cells #[.string (ofL h.method), .string (ofL h.target), .int .i64 h.status, .string (ofL h.reason), .int .i64 h.minor, v] 24)).alloc (.cells #[.int .i64 0, .int .i64 0] 27) = W at *
    refine HT.out.mono ?_
    rintro e w2 ⟨rfl, hb2⟩
    have P2 := P0.call hb2
    clear HT hb2 d0 d1' d2' d3 d4 d5 P0 a1 a2 a3 a4 a5 a7
    obtain ⟨d0, d1', d2', d3, d4, d5⟩ := P2.lb.box.cells
    replace P2 := Lib.hid P2
    by_cases h1 : 0 < k1
    · have HX : X = (xe.1, xe.2.1, xe.2.2) := by rw [hX, if_pos h1]
      replace HX := Lib.hid HX
      rw [decide_eq_true h1]
      have HE1 := Lib.hid (HE.out _ P2.out.lb.list P2.out.mi)
      clear h1 hX HE HB HC
      go_wp2_with fail
      refine HE1.out.mono ?_
      rintro e w4 ⟨rfl, hb4⟩
      replace P2 := Lib.hid (P2.out.call hb4)
      clear HE1 hb4 d0 d1' d2' d3 d4 d5
      obtain ⟨c0, c1⟩ := P2.out.rb.box.cells
      obtain ⟨z0, z1⟩ := P2.out.rb.box.frees
      have RE := Lib.hid (P2.out.rb.put (xe.1, xe.2.1))
      clear P2
      go_wp2_with fail
      refine bodyPost_ret (v := frv9 X) ?_ rfl ⟨rfl, RE.out.below⟩
      rw [results_cell_tmp rfl]
      exact end_rbox HX.out rfl rfl RE.out.box
    · rw [if_neg h1] at hX
      rw [decide_eq_false h1]
      have HC1 := Lib.hid (HC.out _ P2.out.lb.list)
      clear h1 HE HC
      go_wp2_with fail
      refine HC1.out.mono ?_
      rintro e w3 ⟨rfl, hb3⟩
      replace P2 := Lib.hid (P2.out.call hb3)
      clear HC1 hb3 d0 d1' d2' d3 d4 d5
      obtain ⟨d0, d1', d2', d3, d4, d5⟩ := P2.out.lb.box.cells
      by_cases h2 : 0 < k2
      · have HX : X = (xb.1, xb.2.1, xb.2.2) := by rw [hX, if_pos h2]
        replace HX := Lib.hid HX
        rw [decide_eq_true h2]
        have HB1 := Lib.hid (HB.out _ P2.out.lb.list)
        clear h2 hX HB
        go_wp2_with fail
        refine HB1.out.mono ?_
        rintro e w4 ⟨rfl, hb4⟩
        replace P2 := Lib.hid (P2.out.call hb4)
        clear HB1 hb4 d0 d1' d2' d3 d4 d5
        obtain ⟨c0, c1⟩ := P2.out.rb.box.cells
        obtain ⟨z0, z1⟩ := P2.out.rb.box.frees
        have RE := Lib.hid (P2.out.rb.put (xb.1, xb.2.1))
        clear P2
        go_wp2_with fail
        refine bodyPost_ret (v := frv9 X) ?_ rfl ⟨rfl, RE.out.below⟩
        rw [results_cell_tmp rfl]
        exact end_rbox HX.out rfl rfl RE.out.box
      · have HX : X = (4, 0, 0) := by rw [hX, if_neg h2]
        replace HX := Lib.hid HX
        rw [decide_eq_false h2]
        clear h2 hX HB d0 d1' d2' d3 d4 d5
        obtain ⟨c0, c1⟩ := P2.out.rb.box.cells
        obtain ⟨z0, z1⟩ := P2.out.rb.box.frees
        have RE := Lib.hid (P2.out.rb.put (4, 0))
        clear P2
        go_wp2_with fail
        refine bodyPost_ret (v := frv9 X) ?_ rfl ⟨rfl, RE.out.below⟩
        rw [results_cell_tmp rfl]
        exact end_rbox HX.out rfl rfl RE.out.box
  · go_enter Tryd.func15, Tryd.ntmps15
    go_wp2_with fail
    generalize (w.alloc (.cells #[.string (ofL h.method), .string (ofL h.target), .int .i64 h.status, .string (ofL h.reason), .int .i64 h.minor, v] 24)).alloc (.cells #[.int .i64 0, .int .i64 0] 27) = W at *
    refine HT.out.mono ?_
    rintro e w2 ⟨rfl, hb2⟩
    have P2 := P0.call hb2
    clear HT hb2 d0 d1' d2' d3 d4 d5 P0 a1 a2 a3 a4 a5 a6 a7
    obtain ⟨d0, d1', d2', d3, d4, d5⟩ := P2.lb.box.cells
    replace P2 := Lib.hid P2
    by_cases h1 : 0 < k1
    · have HX : X = (xe.1, xe.2.1, xe.2.2) := by rw [hX, if_pos h1]
      replace HX := Lib.hid HX
      rw [decide_eq_true h1]
      have HE1 := Lib.hid (HE.out _ P2.out.lb.list P2.out.mi)
      clear h1 hX HE HB HC
      go_wp2_with fail
      refine HE1.out.mono ?_
      rintro e w4 ⟨rfl, hb4⟩
      replace P2 := Lib.hid (P2.out.call hb4)
      clear HE1 hb4 d0 d1' d2' d3 d4 d5
      obtain ⟨c0, c1⟩ := P2.out.rb.box.cells
      obtain ⟨z0, z1⟩ := P2.out.rb.box.frees
      have RE := Lib.hid (P2.out.rb.put (xe.1, xe.2.1))
      clear P2
      go_wp2_with fail
      refine bodyPost_ret (v := frv9 X) ?_ rfl ⟨rfl, RE.out.below⟩
      rw [results_cell_tmp rfl]
      exact end_rbox HX.out rfl rfl RE.out.box
    · rw [if_neg h1] at hX
      rw [decide_eq_false h1]
      have HC1 := Lib.hid (HC.out _ P2.out.lb.list)
      clear h1 HE HC
      go_wp2_with fail
      refine HC1.out.mono ?_
      rintro e w3 ⟨rfl, hb3⟩
      replace P2 := Lib.hid (P2.out.call hb3)
      clear HC1 hb3 d0 d1' d2' d3 d4 d5
      obtain ⟨d0, d1', d2', d3, d4, d5⟩ := P2.out.lb.box.cells
      by_cases h2 : 0 < k2
      · have HX : X = (xb.1, xb.2.1, xb.2.2) := by rw [hX, if_pos h2]
        replace HX := Lib.hid HX
        rw [decide_eq_true h2]
        have HB1 := Lib.hid (HB.out _ P2.out.lb.list)
        clear h2 hX HB
        go_wp2_with fail
        refine HB1.out.mono ?_
        rintro e w4 ⟨rfl, hb4⟩
        replace P2 := Lib.hid (P2.out.call hb4)
        clear HB1 hb4 d0 d1' d2' d3 d4 d5
        obtain ⟨c0, c1⟩ := P2.out.rb.box.cells
        obtain ⟨z0, z1⟩ := P2.out.rb.box.frees
        have RE := Lib.hid (P2.out.rb.put (xb.1, xb.2.1))
        clear P2
        go_wp2_with fail
        refine bodyPost_ret (v := frv9 X) ?_ rfl ⟨rfl, RE.out.below⟩
        rw [results_cell_tmp rfl]
        exact end_rbox HX.out rfl rfl RE.out.box
      · have HX : X = (4, 0, 0) := by rw [hX, if_neg h2]
        replace HX := Lib.hid HX
        rw [decide_eq_false h2]
        clear h2 hX HB d0 d1' d2' d3 d4 d5
        obtain ⟨c0, c1⟩ := P2.out.rb.box.cells
        obtain ⟨z0, z1⟩ := P2.out.rb.box.frees
        have RE := Lib.hid (P2.out.rb.put (4, 0))
        clear P2
        go_wp2_with fail
        refine bodyPost_ret (v := frv9 X) ?_ rfl ⟨rfl, RE.out.below⟩
        rw [results_cell_tmp rfl]
        exact end_rbox HX.out rfl rfl RE.out.box
end Go.Proofs.YtgkdepoimnmhfaaDoor.PFrResp

/- Layer 7 of the program: what it asks of package slices (at texts). -/
namespace Go.Proofs.YtgkdepoimnmhfaaDoor.PFindT
open Go.ChangeShapes Go.WideShapes Go.ChangeAt Go.RowKit LexPure Bytes Ret Rows1 Texts FieldsPure Flds R7Get KeptRow R7Elements Mem Go.Shelf
set_option maxRecDepth 20000
set_option maxHeartbeats 1600000 in
theorem index_any (fid bx : Nat) (hent : ∀ args w, (callFunc fid args).run Tryd.prog w = .ok (.enter fid args) w) (q : List UInt8 → Bool) (v : Value) (G : List (List UInt8)) (hle2 : G.length ≤ 1099512676352) (w : World) (hF : Texts w v G)
    (hcall : ∀ (j : Nat) (hj : j < G.length) (W : World), Below w.heap.size w W → Calls Tryd.prog fid #[.string (ofL G[j]), .pointer (some ⟨bx, 0, none⟩)] W fun e w' => e = .returned (.bool (q G[j])) ∧ Below W.heap.size W w') :
    Calls Tryd.prog 47 #[v, .func (.func fid) #[] #[.pointer (some ⟨bx, 0, none⟩)]] w fun e w' => ∃ r : Int, e = .returned (.int .i64 r) ∧ (decide (0 ≤ r) = G.any q) ∧ Below w.heap.size w w' := by
  obtain ⟨p, cap, rfl, hle, hc⟩ := hF
  replace hc := Lib.hid hc
  replace hcall := Lib.hid hcall
  have HB0 := Lib.hid (Below.refl w.heap.size w)
  go_enter Tryd.func47, Tryd.ntmps47
  go_wp2_with fail
  go_loopw [5, 8] (fun _ i wr => ∃ k : Nat, k ≤ G.length ∧ i = .int .i64 k ∧ Hid ((G.take k).any q = false) ∧ Hid (Below w.heap.size w wr)) (fun _ i _ => G.length - (intOf i).toNat)
  case atStart => exact ⟨0, Nat.zero_le _, rfl, Lib.hid rfl, HB0⟩
  case round =>
    obtain ⟨k, hk, rfl, ha, HB⟩ := hrel
    clear HB0
    by_cases hlt : k < G.length
    · obtain ⟨g, o, rfl, hgl, hcell⟩ := hc.out (by omega)
      have c1 := (HB.out.cell (p := ⟨g, o + k, none⟩) hgl).trans (hcell k hlt)
      have hki : (k : Int) < (G.length : Int) := by omega
      have HT : Hid ((G.take (k + 1)).any q = q G[k]) := Lib.hid (by rw [List.take_add_one, List.getElem?_eq_getElem hlt, List.any_append, ha.out]; simp)
      have HA := Lib.hid (hcall.out k hlt wr HB.out)
      clear hcell
      cases hh : q G[k]
      · rw [hh] at HT HA
        clear hh ha
        go_wp2_with fail
        refine HA.out.mono ?_
        rintro e w2 ⟨rfl, hb2⟩
        have HB2 := Lib.hid (below_chain HB.out hb2)
        clear hb2
        go_wp2_with fail
        go_roundw
        case rel => exact ⟨k + 1, by omega, by go_num, HT, HB2⟩
        case measure => simp [intOf]; omega
      · have HV : Hid (decide ((0 : Int) ≤ (k : Int)) = G.any q) := Lib.hid (by
          rw [decide_eq_true (by omega)]
          exact (List.any_eq_true.2 ⟨_, List.getElem_mem hlt, hh⟩).symm)
        rw [hh] at HA
        clear hh ha HT
        go_wp2_with fail
        refine HA.out.mono ?_
        rintro e w2 ⟨rfl, hb2⟩
        have HB2 := Lib.hid (below_chain HB.out hb2)
        clear hb2
        go_wp2_with fail
        go_ret
        exact ⟨_, rfl, HV.out, HB2.out⟩
    · have HV : Hid (decide ((0 : Int) ≤ -1) = G.any q) := Lib.hid (by
        have h := ha.out
        rw [List.take_of_length_le (by omega)] at h
        rw [h]
        rfl)
      clear ha
      go_wp2_with fail
      go_ret
      exact ⟨_, rfl, HV.out, HB.out⟩
set_option maxHeartbeats 1600000 in
theorem contains_any (fid bx : Nat) (hent : ∀ args w, (callFunc fid args).run Tryd.prog w = .ok (.enter fid args) w) (q : List UInt8 → Bool) (v : Value) (G : List (List UInt8)) (hle2 : G.length ≤ 1099512676352) (w : World) (hF : Texts w v G)
    (hcall : ∀ (j : Nat) (hj : j < G.length) (W : World), Below w.heap.size w W → Calls Tryd.prog fid #[.string (ofL G[j]), .pointer (some ⟨bx, 0, none⟩)] W fun e w' => e = .returned (.bool (q G[j])) ∧ Below W.heap.size W w') :
    Calls Tryd.prog 41 #[v, .func (.func fid) #[] #[.pointer (some ⟨bx, 0, none⟩)]] w fun e w' => e = .returned (.bool (G.any q)) ∧ Below w.heap.size w w' := by
  have HI := Lib.hid (index_any fid bx hent q v G hle2 w hF hcall)
  obtain ⟨p, cap, rfl, hle, hc⟩ := hF
  clear hc hcall
  generalize G.any q = b at *
  go_enter Tryd.func41, Tryd.ntmps41
  go_wp2_with fail
  refine HI.out.mono ?_
  rintro e w2 ⟨r, rfl, hr, hb2⟩
  have HB := Lib.hid hb2
  have HR := Lib.hid hr
  clear hb2 hr
  go_wp2_with fail
  all_goals
    go_ret
    refine ⟨ret_bool ?_, HB.out⟩
    rw [← HR.out]
end Go.Proofs.YtgkdepoimnmhfaaDoor.PFindT

/- Layer 7 of the program: Has. -/
namespace Go.Proofs.YtgkdepoimnmhfaaDoor.PHas7
open Go.ChangeShapes Go.WideShapes Go.ChangeAt Go.RowKit LexPure Bytes Ret Rows1 Texts FieldsPure Flds R7Get KeptRow R7Elements PAlike PLib PElements PVals PGet PElems7 LexFlat Mem Go.Shelf
set_option maxRecDepth 100000
attribute [local go_sem] Oper.semAt_some
set_option maxHeartbeats 1600000 in
theorem phas1_any (a x : ByteArray) (ha : a.size ≤ maxLen) (bx : Nat) (w : World) (hx : w.cell? ⟨bx, 0, none⟩ = some (.string x)) :
    Calls Tryd.prog 38 #[.string a, .pointer (some ⟨bx, 0, none⟩)] w fun e w' => e = .returned (.bool (alike (toL a) (toL x))) ∧ Below w.heap.size w w' := by
  have HA := Lib.hid (fun w => palike_any a x ha w)
  go_enter Tryd.func38, Tryd.ntmps38
  go_wp2_with fail
  refine (HA.out _).mono ?_
  rintro e w2 ⟨rfl, hb2⟩
  have HB := Lib.hid hb2
  clear hb2 hx
  go_wp2_with fail
  go_ret
  exact ⟨rfl, HB.out⟩
def anyV (l : List V) (x : List UInt8) : Bool := l.any (fun v => (elements v.1).any (fun e => alike e x))
theorem anyV_snoc (pre : List V) (v : V) (x : List UInt8) : anyV (pre ++ [v]) x = (anyV pre x || (elements v.1).any (fun e => alike e x)) := by simp [anyV]
theorem anyV_elems (l : List V) (x : List UInt8) : anyV l x = (elemsV l).any (fun e => alike e x) := by
  unfold anyV elemsV
  rw [List.any_flatMap]
theorem anyV_prefix {pre l : List V} {x : List UInt8} (h : pre <+: l) (ha : anyV pre x = true) : anyV l x = true := by
  obtain ⟨r, rfl⟩ := h
  unfold anyV at *
  rw [List.any_append, ha]
  rfl
theorem elements_few (s : List UInt8) (h : s.length ≤ 1048576) : (elements s).length ≤ 1048577 := by have := elements_len s; omega
theorem grown_row {w w' : World} (h : Below w.heap.size w w') (row : Option Nat) : w.grownBy w' row := ⟨h.os, h.tape, h.output, h.size, fun k hk _ => h.block k hk⟩
theorem Boxed.low {W W' : World} {B : Nat} {t : TypeId} {v : Value} (h : Boxed W B t v) (hb : Below W.heap.size W W') : Boxed W' B t v := h.kept (grown_row hb none) (by simp)
set_option maxHeartbeats 3200000 in
theorem phas_any (v : Value) (G : List HField) (nm x : ByteArray) (hG : Few G) (w : World) (hm : MaxInt w) (hF : FL w v G) :
    Calls Tryd.prog 28 #[v, .string nm, .string x] w fun e w' => e = .returned (.bool (hasE G (toL nm) (toL x))) ∧ Below w.heap.size w w' := by
  have HV : Hid (hasE G (toL nm) (toL x) = anyV (vs G (toL nm)) (toL x)) := Lib.hid (by rw [anyV_elems, elemsV_vs G (fun f hf => (few_all hG f hf).2) (toL nm)]; rfl)
  obtain ⟨p, cap, hvv, hle, _⟩ := id hF
  subst hvv
  have HF := Lib.hid hF
  have HG := Lib.hid hG
  have HM := Lib.hid hm
  clear hF hG hm
  refine (callsIn_wide (n := 3)).1 ?_
  refine callsIn_of_wp_marks Tryd.func28 rfl trivial ?_ rfl
  simp only [Tryd.ntmps28, List.size_toArray, List.length_cons, List.length_nil, Nat.reduceAdd, Nat.reduceSub, Array.replicate_succ, Array.replicate_zero, List.push_toArray, List.append_toArray, List.nil_append, List.cons_append]
  gi_wp2_with fail
  refine ⟨trivial, ?_⟩
  refine (callsIn_wide.2 (pvalues_any _ _ _ nm _)).mono ?_
  rintro e w' ⟨rfl, rfl⟩
  gi_wp2
  have bE := ((((Boxed.new w 9 (.string x)).alloc (.cells #[.bool false] 4)).alloc (.cells #[.func (.func 38) #[] #[.pointer (some ⟨w.heap.size, 0, none⟩)]] 58)).alloc (.cells #[.slice p G.length cap] 22)).alloc (.cells #[.string nm] 9)
  have bR := (((Boxed.new (w.alloc (.cells #[.string x] 9)) 4 (.bool false)).alloc (.cells #[.func (.func 38) #[] #[.pointer (some ⟨w.heap.size, 0, none⟩)]] 58)).alloc (.cells #[.slice p G.length cap] 22)).alloc (.cells #[.string nm] 9)
  have bF := ((Boxed.new ((w.alloc (.cells #[.string x] 9)).alloc (.cells #[.bool false] 4)) 58 (.func (.func 38) #[] #[.pointer (some ⟨w.heap.size, 0, none⟩)])).alloc (.cells #[.slice p G.length cap] 22)).alloc (.cells #[.string nm] 9)
  have b2 := (Boxed.new (((w.alloc (.cells #[.string x] 9)).alloc (.cells #[.bool false] 4)).alloc (.cells #[.func (.func 38) #[] #[.pointer (some ⟨w.heap.size, 0, none⟩)]] 58)) 22 (.slice p G.length cap)).alloc (.cells #[.string nm] 9)
  have b3 := Boxed.new ((((w.alloc (.cells #[.string x] 9)).alloc (.cells #[.bool false] 4)).alloc (.cells #[.func (.func 38) #[] #[.pointer (some ⟨w.heap.size, 0, none⟩)]] 58)).alloc (.cells #[.slice p G.length cap] 22)) 9 (.string nm)
  have hB0 : Below w.heap.size w (((((w.alloc (.cells #[.string x] 9)).alloc (.cells #[.bool false] 4)).alloc (.cells #[.func (.func 38) #[] #[.pointer (some ⟨w.heap.size, 0, none⟩)]] 58)).alloc (.cells #[.slice p G.length cap] 22)).alloc (.cells #[.string nm] 9)) :=
    (((((Below.refl _ w).alloc (Nat.le_refl _) _).alloc (by simp) _).alloc (by simp; omega) _).alloc (by simp; omega) _).alloc (by simp; omega) _
  have hsz : (((((w.alloc (.cells #[.string x] 9)).alloc (.cells #[.bool false] 4)).alloc (.cells #[.func (.func 38) #[] #[.pointer (some ⟨w.heap.size, 0, none⟩)]] 58)).alloc (.cells #[.slice p G.length cap] 22)).alloc (.cells #[.string nm] 9)).heap.size = w.heap.size + 1 + 1 + 1 + 1 + 1 := by simp
  simp only [World.size_alloc] at bR bF b2 b3
  generalize (((((w.alloc (.cells #[.string x] 9)).alloc (.cells #[.bool false] 4)).alloc (.cells #[.func (.func 38) #[] #[.pointer (some ⟨w.heap.size, 0, none⟩)]] 58)).alloc (.cells #[.slice p G.length cap] 22)).alloc (.cells #[.string nm] 9)) = W0 at *
  have hU := (FL.under HF.out).below hB0
  clear HF
  refine wpIn_rangeFunc_ownG rfl (by omega) (gf := 46) (lb := #[.pointer (some ⟨w.heap.size + 1 + 1 + 1, 0, none⟩), .pointer (some ⟨w.heap.size + 1 + 1 + 1 + 1, 0, none⟩)]) rfl trivial (enters_of Tryd.func46 (by kernel_rfl) rfl)
    (vals_stops (3 - 1) (w.heap.size + 1 + 1 + 1) (w.heap.size + 1 + 1 + 1 + 1) w.heap.size G HG.out nm (.slice p G.length cap) W0 b2.lt (by omega) b2.cell b3.cell hU) kp_t (kp_b (by omega) b3.lt) (Below.refl _ _) (fun _ => rfl)
    (fun pre W => anyV pre (toL x) = false ∧ Boxed W w.heap.size 9 (.string x) ∧ Boxed W (w.heap.size + 1) 4 (.bool false) ∧ Boxed W (w.heap.size + 1 + 1) 58 (.func (.func 38) #[] #[.pointer (some ⟨w.heap.size, 0, none⟩)]) ∧ Boxed W (w.heap.size + 1 + 1 + 1 + 1) 9 (.string nm) ∧ Below w.heap.size w W)
    (fun c pre W => (c = .ret ∧ anyV pre (toL x) = true) ∧ Boxed W (w.heap.size + 1) 4 (.bool true) ∧ Below w.heap.size w W)
    (OwnFrom.and (ownFrom_pure _ _) (OwnFrom.and (Own.from (boxed_own _ _ (fun _ => Value.string x)) _) (OwnFrom.and (Own.from (boxed_own _ _ (fun _ => Value.bool false)) _) (OwnFrom.and (Own.from (boxed_own _ _ (fun _ => Value.func (.func 38) #[] #[.pointer (some ⟨w.heap.size, 0, none⟩)])) _) (OwnFrom.and (Own.from (boxed_own _ _ (fun _ => Value.string nm)) _) (ownFrom_below (Nat.le_refl _) (by omega)))))))
    (fun _ => OwnFrom.and (ownFrom_pure _ _) (OwnFrom.and (Own.from (boxed_own _ _ (fun _ => Value.bool true)) _) (ownFrom_below (Nat.le_refl _) (by omega))))
    ⟨rfl, bE, bR, bF, b3, hB0⟩
    (fun y => { tmps := #[.slice p G.length cap, .string nm, .string x, undef, undef, .pointer (some ⟨w.heap.size, 0, none⟩), .pointer (some ⟨w.heap.size + 1, 0, none⟩), .pointer (some ⟨w.heap.size + 1 + 1, 0, none⟩), .string (ofL y.1), .func (.func 38) #[] #[.pointer (some ⟨w.heap.size, 0, none⟩)], .slice p G.length cap, .string nm, .func (.func 46) #[] #[.pointer (some ⟨w.heap.size + 1 + 1 + 1, 0, none⟩), .pointer (some ⟨w.heap.size + 1 + 1 + 1 + 1, 0, none⟩)], .string (ofL y.1), undef, undef, undef, undef], defers := [] }) ?assign ?body ?done ?stop
  case assign =>
    intro l y W K hK
    dsimp only [encV]
    gi_wp2
    exact hK
  case body =>
    rintro l pre y W ⟨ha, hE, hR, hFn, h3, hB⟩ hlt
    clear bE bR bF b2 b3 hU HG HV
    have hmx : Tryd.prog.follows .mixedOrders = true := by kernel_rfl
    have hcf := hFn.cell
    have hEl : Calls Tryd.prog 42 #[.string (ofL y.1)] W.drew fun e w' => ∃ v, e = .returned v ∧ Texts w' v (elements y.1) ∧ Below W.heap.size W w' := by
      have h := pelements_any (ofL y.1) (by rw [ofL_size]; have := y.2; omega) W.drew (HM.out.below (hB.trans ⟨rfl, rfl, rfl, Nat.le_refl _, fun _ _ => rfl⟩))
      rw [toL_ofL] at h
      refine h.mono ?_
      rintro e w' ⟨v, rfl, hr, hb⟩
      exact ⟨v, rfl, texts_of hr, ⟨hb.os, hb.tape, hb.output, hb.size, hb.block⟩⟩
    replace hEl := Lib.hid hEl
    have hCo : ∀ w' v3, Below W.heap.size W w' → Texts w' v3 (elements y.1) → Calls Tryd.prog 41 #[v3, .func (.func 38) #[] #[.pointer (some ⟨w.heap.size, 0, none⟩)]] w' fun e w2 => e = .returned (.bool ((elements y.1).any (fun e => alike e (toL x)))) ∧ Below w'.heap.size w' w2 := fun w' v3 hb hT => by
      have hc := (Boxed.low hE hb).cell
      have hbx := World.block_lt_of_cell? _ _ hc
      exact PFindT.contains_any 38 w.heap.size (enters_of Tryd.func38 (by kernel_rfl) rfl) (fun e => alike e (toL x)) v3 (elements y.1) (by have := elements_few y.1 y.2; omega) w' hT (fun j hj W3 hW3 => by
        have h := phas1_any (ofL (elements y.1)[j]) x (by rw [ofL_size]; have := elements_short (List.getElem_mem hj); have := y.2; unfold maxLen; omega) w.heap.size W3 ((hW3.cell (p := ⟨w.heap.size, 0, none⟩) hbx).trans hc)
        rw [toL_ofL] at h
        exact h)
    replace hCo := Lib.hid hCo
    have hsn := Lib.hid (anyV_snoc pre y (toL x))
    have hfin : ∀ w', Below W.heap.size W w' → KeepsFrom W0.heap.size W w' ∧ Below w.heap.size W w' ∧ Boxed w' w.heap.size 9 (.string x) ∧ Boxed w' (w.heap.size + 1) 4 (.bool false) ∧ Boxed w' (w.heap.size + 1 + 1) 58 (.func (.func 38) #[] #[.pointer (some ⟨w.heap.size, 0, none⟩)]) ∧ Boxed w' (w.heap.size + 1 + 1 + 1 + 1) 9 (.string nm) := fun w' hb =>
      ⟨KeepsFrom.of_grownBy (grown_row hb none) (fun j e => by cases e), hb.mono hB.size, Boxed.low hE hb, Boxed.low hR hb, Boxed.low hFn hb, Boxed.low h3 hb⟩
    replace hfin := Lib.hid hfin
    gi_wp2
    refine wpIn_region_any hmx ?_
    change wpAnyIn _ _ _ _ _ _ _ _ _ (World.drew _)
    refine wpAnyIn_ready (rs := [0, 2]) (by kernel_rfl) (by simp) (AllReadyIn.cons rfl (fun K hK => ?_) (AllReadyIn.cons rfl (fun K hK => ?_) AllReadyIn.nil))
    · go_simp
      refine hK _ _ ?_
      clear hK K
      refine wpAnyIn_ready (rs := [1, 2]) (by kernel_rfl) (by simp) (AllReadyIn.cons rfl (fun K hK => ?_) (AllReadyIn.cons rfl (fun K hK => ?_) AllReadyIn.nil))
      · go_simp
        refine ⟨trivial, ?_⟩
        refine (CallsIn.inRound l (callsIn_wide.2 hEl.out)).mono ?_
        rintro e w' ⟨v3, rfl, hT3, hb3⟩
        refine hK _ _ ?_
        clear hK K
        have hcf3 := (Boxed.low hFn hb3).cell
        have hCo3 := Lib.hid (hCo.out w' v3 hb3 hT3)
        obtain ⟨p3, cap3, rfl, _⟩ := hT3
        refine wpAnyIn_ready (rs := [2]) (by kernel_rfl) (by simp) (AllReadyIn.cons rfl (fun K hK => ?_) AllReadyIn.nil)
        go_simp
        refine hK _ _ ?_
        clear hK K
        refine wpAnyIn_ready (rs := [3]) (by kernel_rfl) (by simp) (AllReadyIn.cons rfl (fun K hK => ?_) AllReadyIn.nil)
        go_simp
        refine ⟨trivial, ?_⟩
        refine (CallsIn.inRound l (callsIn_wide.2 hCo3.out)).mono ?_
        rintro e w6 ⟨rfl, hb6⟩
        refine hK _ _ ?_
        clear hK K
        have hb7 := below_chain hb3 hb6
        have HR := Lib.hid (hfin.out w6 hb7)
        have hcr := (hfin.out w6 hb7).2.2.2.1.cell
        have hfr := (hfin.out w6 hb7).2.2.2.1.frozen
        clear hb3 hb6 hcf3 hCo3 hcf hb7 hR hE hFn h3
        refine wpAnyIn_done (by kernel_rfl) ?_ _
        cases hq : (elements y.1).any (fun e => alike e (toL x))
        · rw [hq, ha] at hsn
          gi_wp2
          obtain ⟨r1, r2, r3, r4, r5, r6⟩ := HR.out
          exact ⟨r1, ⟨r2, fun _ => r6.cell⟩, hsn.out, r3, r4, r5, r6, hB.trans r2⟩
        · rw [hq, Bool.or_true] at hsn
          gi_wp2
          obtain ⟨r1, r2, r3, r4, r5, r6⟩ := HR.out
          exact ⟨r1.trans ((KeepsOthers.setCell _ _ _).from _), ⟨rfl, hsn.out⟩, r4.set _, (hB.trans r2).setCell (p := ⟨w.heap.size + 1, 0, none⟩) (by simp) _⟩
      · go_simp
        refine hK _ _ ?_
        clear hK K
        refine wpAnyIn_ready (rs := [1]) (by kernel_rfl) (by simp) (AllReadyIn.cons rfl (fun K hK => ?_) AllReadyIn.nil)
        go_simp
        refine ⟨trivial, ?_⟩
        refine (CallsIn.inRound l (callsIn_wide.2 hEl.out)).mono ?_
        rintro e w' ⟨v3, rfl, hT3, hb3⟩
        refine hK _ _ ?_
        clear hK K
        have hcf3 := (Boxed.low hFn hb3).cell
        have hCo3 := Lib.hid (hCo.out w' v3 hb3 hT3)
        obtain ⟨p3, cap3, rfl, _⟩ := hT3
        refine wpAnyIn_ready (rs := [3]) (by kernel_rfl) (by simp) (AllReadyIn.cons rfl (fun K hK => ?_) AllReadyIn.nil)
        go_simp
        refine ⟨trivial, ?_⟩
        refine (CallsIn.inRound l (callsIn_wide.2 hCo3.out)).mono ?_
        rintro e w6 ⟨rfl, hb6⟩
        refine hK _ _ ?_
        clear hK K
        have hb7 := below_chain hb3 hb6
        have HR := Lib.hid (hfin.out w6 hb7)
        have hcr := (hfin.out w6 hb7).2.2.2.1.cell
        have hfr := (hfin.out w6 hb7).2.2.2.1.frozen
        clear hb3 hb6 hcf3 hCo3 hcf hb7 hR hE hFn h3
        refine wpAnyIn_done (by kernel_rfl) ?_ _
        cases hq : (elements y.1).any (fun e => alike e (toL x))
        · rw [hq, ha] at hsn
          gi_wp2
          obtain ⟨r1, r2, r3, r4, r5, r6⟩ := HR.out
          exact ⟨r1, ⟨r2, fun _ => r6.cell⟩, hsn.out, r3, r4, r5, r6, hB.trans r2⟩
        · rw [hq, Bool.or_true] at hsn
          gi_wp2
          obtain ⟨r1, r2, r3, r4, r5, r6⟩ := HR.out
          exact ⟨r1.trans ((KeepsOthers.setCell _ _ _).from _), ⟨rfl, hsn.out⟩, r4.set _, (hB.trans r2).setCell (p := ⟨w.heap.size + 1, 0, none⟩) (by simp) _⟩
    · go_simp
      refine hK _ _ ?_
      clear hK K
      refine wpAnyIn_ready (rs := [0]) (by kernel_rfl) (by simp) (AllReadyIn.cons rfl (fun K hK => ?_) AllReadyIn.nil)
      go_simp
      refine hK _ _ ?_
      clear hK K
      refine wpAnyIn_ready (rs := [1]) (by kernel_rfl) (by simp) (AllReadyIn.cons rfl (fun K hK => ?_) AllReadyIn.nil)
      go_simp
      refine ⟨trivial, ?_⟩
      refine (CallsIn.inRound l (callsIn_wide.2 hEl.out)).mono ?_
      rintro e w' ⟨v3, rfl, hT3, hb3⟩
      refine hK _ _ ?_
      clear hK K
      have hcf3 := (Boxed.low hFn hb3).cell
      have hCo3 := Lib.hid (hCo.out w' v3 hb3 hT3)
      obtain ⟨p3, cap3, rfl, _⟩ := hT3
      refine wpAnyIn_ready (rs := [3]) (by kernel_rfl) (by simp) (AllReadyIn.cons rfl (fun K hK => ?_) AllReadyIn.nil)
      go_simp
      refine ⟨trivial, ?_⟩
      refine (CallsIn.inRound l (callsIn_wide.2 hCo3.out)).mono ?_
      rintro e w6 ⟨rfl, hb6⟩
      refine hK _ _ ?_
      clear hK K
      have hb7 := below_chain hb3 hb6
      have HR := Lib.hid (hfin.out w6 hb7)
      have hcr := (hfin.out w6 hb7).2.2.2.1.cell
      have hfr := (hfin.out w6 hb7).2.2.2.1.frozen
      clear hb3 hb6 hcf3 hCo3 hcf hb7 hR hE hFn h3
      refine wpAnyIn_done (by kernel_rfl) ?_ _
      cases hq : (elements y.1).any (fun e => alike e (toL x))
      · rw [hq, ha] at hsn
        gi_wp2
        obtain ⟨r1, r2, r3, r4, r5, r6⟩ := HR.out
        exact ⟨r1, ⟨r2, fun _ => r6.cell⟩, hsn.out, r3, r4, r5, r6, hB.trans r2⟩
      · rw [hq, Bool.or_true] at hsn
        gi_wp2
        obtain ⟨r1, r2, r3, r4, r5, r6⟩ := HR.out
        exact ⟨r1.trans ((KeepsOthers.setCell _ _ _).from _), ⟨rfl, hsn.out⟩, r4.set _, (hB.trans r2).setCell (p := ⟨w.heap.size + 1, 0, none⟩) (by simp) _⟩
  case done =>
    rintro D ys W hD rfl ⟨ha, hE, hR, hFn, h3, hB⟩ hK
    have hcr := hR.cell
    have hfr := hR.frozen
    clear bE bR bF b2 b3 hU HG
    gi_wp2
    have hK' := (KeepsOthers.setCell W ⟨w.heap.size + 1, 0, none⟩ (.bool false)).same D _ hK rfl
    have hBd : Below w.heap.size w (W.setCell ⟨w.heap.size + 1, 0, none⟩ (.bool false)) := hB.setCell (p := ⟨w.heap.size + 1, 0, none⟩) (by simp) _
    refine ⟨by simp, .inl ⟨_, _, rfl, run_takeDeferred hK', ?_⟩⟩
    have hc5 := cell_kept (hR.set (.bool false)).cell (grownBy_putObj' _ D (.deferred none)) (fun r e => by cases e; exact ⟨_, hK', rfl⟩)
    refine ⟨.bool false, ?_, by rw [HV.out, ha], hBd.trans (belowK_b (w := w) (Nat.le_refl _) _ D _ _ (by omega) hK' rfl rfl)⟩
    simp [results, Tryd.f28, go_sem, hc5]
  case stop =>
    rintro D c pre W hD hSp ⟨⟨rfl, ha⟩, hR, hB⟩ hK
    have hfull := anyV_prefix hSp ha
    clear bE bR bF b2 b3 hU HG
    gi_wp2
    refine ⟨by simp, .inl ⟨_, _, rfl, run_takeDeferred hK, ?_⟩⟩
    have hc5 := cell_kept hR.cell (grownBy_putObj' _ D (.deferred none)) (fun r e => by cases e; exact ⟨_, hK, rfl⟩)
    refine ⟨.bool true, ?_, by rw [HV.out, hfull], hB.trans (belowK_b (w := w) (Nat.le_refl _) W D _ _ (by omega) hK rfl rfl)⟩
    simp [results, Tryd.f28, go_sem, hc5]
end Go.Proofs.YtgkdepoimnmhfaaDoor.PHas7

/- Layer 9 of the program: Keep. -/
namespace Go.Proofs.YtgkdepoimnmhfaaDoor.PKeep9
open Go.ChangeShapes Go.WideShapes Go.ChangeAt Go.RowKit LexPure Bytes Ret FieldsPure HeadPure FramePure FrNames Flds PLib PHas7 HBox Mem
set_option maxRecDepth 20000
theorem pkeep_any (h : H8) (v : Value) (hG : Few h.fields) (w : World) (hF : FL w v h.fields) (hm : MaxInt w) :
    Calls Tryd.prog 13 #[hv h v] w fun e w' => e = .returned (.bool (keep9 h.minor h.fields)) ∧ Below w.heap.size w w' := by
  have hb1 := (Below.refl w.heap.size w).alloc (Nat.le_refl _) (.cells (hc h v) 24)
  have B0 : HBox (w.alloc (.cells (hc h v) 24)) w.heap.size h v := ⟨Has.new w _ _⟩
  have hsz : w.heap.size < (w.alloc (.cells (hc h v) 24)).heap.size := by simp
  have hF1 := hF.below hb1
  have hx1 := Lib.hid (hm.below hb1)
  clear hm
  have H1 := Lib.hid (fun w hM hF => phas_any v h.fields ⟨#[67, 111, 110, 110, 101, 99, 116, 105, 111, 110]⟩ ⟨#[99, 108, 111, 115, 101]⟩ hG w hM hF)
  have H2 := Lib.hid (fun w hM hF => phas_any v h.fields ⟨#[67, 111, 110, 110, 101, 99, 116, 105, 111, 110]⟩ ⟨#[107, 101, 101, 112, 45, 97, 108, 105, 118, 101]⟩ hG w hM hF)
  have hk : keep9 h.minor h.fields = (!hasE h.fields (toL ⟨#[67, 111, 110, 110, 101, 99, 116, 105, 111, 110]⟩) (toL ⟨#[99, 108, 111, 115, 101]⟩) && (h.minor != 0 || hasE h.fields (toL ⟨#[67, 111, 110, 110, 101, 99, 116, 105, 111, 110]⟩) (toL ⟨#[107, 101, 101, 112, 45, 97, 108, 105, 118, 101]⟩))) := by
    have e1 := hasE_same low_c h.fields CLOSE
    have e2 := hasE_same low_c h.fields KEEPA
    unfold keep9
    rw [← e1, ← e2]
    rfl
  rw [hk]
  clear hk
  generalize hasE h.fields (toL ⟨#[67, 111, 110, 110, 101, 99, 116, 105, 111, 110]⟩) (toL ⟨#[99, 108, 111, 115, 101]⟩) = b1 at *
  generalize hasE h.fields (toL ⟨#[67, 111, 110, 110, 101, 99, 116, 105, 111, 110]⟩) (toL ⟨#[107, 101, 101, 112, 45, 97, 108, 105, 118, 101]⟩) = b2 at *
  obtain ⟨p, cap, rfl, _, _⟩ := id hF
  unfold hc at hb1 B0 hF1 hsz hx1
  unfold hv
  replace hb1 := Lib.hid hb1
  replace hF1 := Lib.hid hF1
  replace B0 := Lib.hid B0
  clear hF
  go_enter Tryd.func13, Tryd.ntmps13
  go_wp2_with fail
  generalize w.alloc (.cells #[.string (ofL h.method), .string (ofL h.target), .int .i64 h.status, .string (ofL h.reason), .int .i64 h.minor, .slice p h.fields.length cap] 24) = W at *
  obtain ⟨g, hg⟩ : ∃ g, g = w.heap.size := ⟨_, rfl⟩
  rw [← hg] at B0 hsz ⊢
  replace hg := Lib.hid hg
  refine (H1.out _ hx1.out hF1.out).mono ?_
  rintro e w1 ⟨rfl, hb2⟩
  have hx2 := Lib.hid (hx1.out.below hb2)
  have hF2 := Lib.hid (hF1.out.below hb2)
  have B1 := Lib.hid (B0.out.below hb2 hsz)
  have HB := Lib.hid (below_chain hb1.out hb2)
  obtain ⟨d0, d1, d2, d3, d4, d5⟩ := B1.out.cells
  clear hb2 H1 B0 B1 hF1 hb1 hx1
  cases b1 with
  | true =>
    go_wp2_with fail
    go_ret
    exact ⟨rfl, HB.out⟩
  | false =>
    by_cases hm : h.minor = 0
    · have hm1 : (h.minor != 0) = false := by rw [hm]; rfl
      clear hm
      have hq : (!false && (h.minor != 0 || b2)) = b2 := by rw [hm1]; rfl
      replace hq := Lib.hid hq
      go_wp2_with fail
      refine (H2.out _ hx2.out hF2.out).mono ?_
      rintro e w2 ⟨rfl, hb2⟩
      replace HB := Lib.hid (below_chain HB.out hb2)
      clear hb2 H2 hF2 hx2
      go_wp2_with fail
      go_ret
      exact ⟨ret_bool hq.out.symm, HB.out⟩
    · have hm1 : (h.minor != 0) = true := bne_iff_ne.2 hm
      clear hm
      have hq : (!false && (h.minor != 0 || b2)) = true := by rw [hm1]; rfl
      replace hq := Lib.hid hq
      go_wp2_with fail
      go_ret
      exact ⟨ret_bool hq.out.symm, HB.out⟩
end Go.Proofs.YtgkdepoimnmhfaaDoor.PKeep9

/- Layer 9 of the program: what its three calls answer. -/
namespace Go.Proofs.YtgkdepoimnmhfaaDoor.FrameObj
open Go.ChangeShapes Go.WideShapes Go.ChangeAt Go.RowKit LexPure Bytes Ret Rows1 FieldsPure HeadPure FramePure Flds HBox FrBox KeptRow PLib PFrReq PFrResp PKeep9 Mem
set_option maxRecDepth 20000
/-- what the world must hold for the calls -/
def Fit (w : World) : Prop := MaxInt w
theorem Fit.of_shape {w : World} (h : w.ShapedOpen Tryd.prog) : Fit w := MaxInt.of_shape h
theorem Fit.below {w w' : World} (h : Fit w) (hb : Below w.heap.size w w') : Fit w' := MaxInt.below h hb
/-- a framing and an error -/
def frv9 (r : Int × Int × Int) : Value := .tuple #[.agg #[.int .i64 r.1, .int .i64 r.2.1], .int .i64 r.2.2]
theorem prequest9_any (h : H8) (v : Value) (most : Int) (hG : Few h.fields) (hle : h.fields.length ≤ 1048576) (w : World) (hF : FL w v h.fields) (hm : Fit w) :
    Calls Tryd.prog 10 #[hv h v, .int .i64 most] w fun e w' => e = .returned (frv9 (request9 h.minor h.fields most)) ∧ Below w.heap.size w w' :=
  prequest_any h v most hG hle w hF hm
theorem way_of (m : ByteArray) (st : Int) : Way9 m st (st == 101) (wrap64 (st.tdiv 100) == 1) (st == 204) (st == 304) (m.toList == CON) (wrap64 (st.tdiv 100) == 2) (m.toList == HEA) := ⟨rfl, rfl, rfl, rfl, rfl, rfl, rfl⟩
theorem presponse9_any (m : ByteArray) (h : H8) (v : Value) (hst : (Lit.int .i64 h.status).wf = true) (hG : Few h.fields) (hle : h.fields.length ≤ 1048576) (w : World) (hF : FL w v h.fields) (hm : Fit w) :
    Calls Tryd.prog 15 #[.string m, hv h v] w fun e w' => e = .returned (frv9 (response9 (toL m) h.status h.minor h.fields)) ∧ Below w.heap.size w w' := by
  have hp := resp_prog m h.status h.minor h.fields hst (way_of m h.status)
  cases he : PFrResp.early (h.status == 101) (wrap64 (h.status.tdiv 100) == 1) (h.status == 204) (h.status == 304) (m.toList == CON) (wrap64 (h.status.tdiv 100) == 2) (m.toList == HEA) with
  | some X =>
    rw [he] at hp
    rw [hp]
    exact presp_early m h v (way_of m h.status) X he w
  | none =>
    rw [he] at hp
    rw [hp]
    exact presp_late m h v (way_of m h.status) he hG hle w hF hm
/-- where no field is looked at: a list of any size (FrameBodiless's first form) -/
theorem presponse9_soon (m : ByteArray) (h : H8) (v : Value) (hst : (Lit.int .i64 h.status).wf = true) (hs : h.status = 101 ∨ (100 ≤ h.status ∧ h.status < 200) ∨ h.status = 204 ∨ h.status = 304 ∨ toL m = [72, 69, 65, 68]) (w : World) (_hF : FL w v h.fields) (_hm : Fit w) :
    Calls Tryd.prog 15 #[.string m, hv h v] w fun e w' => e = .returned (frv9 (response9 (toL m) h.status h.minor h.fields)) ∧ Below w.heap.size w w' := by
  have hp := resp_prog m h.status h.minor h.fields hst (way_of m h.status)
  cases he : PFrResp.early (h.status == 101) (wrap64 (h.status.tdiv 100) == 1) (h.status == 204) (h.status == 304) (m.toList == CON) (wrap64 (h.status.tdiv 100) == 2) (m.toList == HEA) with
  | some X =>
    rw [he] at hp
    rw [hp]
    exact presp_early m h v (way_of m h.status) X he w
  | none =>
    exfalso
    obtain ⟨q1, q2, q3, q4, q5, _⟩ := late_cases he
    rw [wrap_div _ hst] at q2
    rcases hs with h1 | h1 | h1 | h1 | h1
    · rw [h1] at q1; cases q1
    · rw [(tdiv_one _).2 h1] at q2; cases q2
    · rw [h1] at q3; cases q3
    · rw [h1] at q4; cases q4
    · rw [text_at, decide_eq_true (show toL m = HEA from h1)] at q5; cases q5
theorem pkeep9_any (h : H8) (v : Value) (hG : Few h.fields) (_hle : h.fields.length ≤ 1048576) (w : World) (hF : FL w v h.fields) (hm : Fit w) :
    Calls Tryd.prog 13 #[hv h v] w fun e w' => e = .returned (.bool (keep9 h.minor h.fields)) ∧ Below w.heap.size w w' :=
  pkeep_any h v hG w hF hm
end Go.Proofs.YtgkdepoimnmhfaaDoor.FrameObj
