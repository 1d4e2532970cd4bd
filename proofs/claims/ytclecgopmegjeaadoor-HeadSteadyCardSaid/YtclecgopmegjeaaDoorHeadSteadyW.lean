/- What has been told of a head stays so, whatever more comes: HeadSteady returns true. -/
import Derived.Test.YtclecgopmegjeaaDoorHLaw
import Derived.Test.YtclecgopmegjeaaDoorR8Same
import Derived.Laws.DeepStrings4
namespace Go.Proofs.YtclecgopmegjeaaDoor.HeadSteadyW
open Go.ChangeShapes Go.WideShapes Go.ChangeAt Go.RowKit LexPure Bytes Ret FieldsPure Flds HeadPure HBox KeptRow PHead8 PFlds8 R8Same HAnchor HLaw Mem
set_option maxRecDepth 20000
set_option linter.unusedVariables false
theorem told (r : Bool) (s t : List UInt8) : (resE (read8 r s) = 0 ∧ resN (read8 r s) = 0 ∧ resH (read8 r s) = zero8) ∨ (((resE (read8 r s) ≠ 0) ∨ (resE (read8 r s) = 0 ∧ 0 < resN (read8 r s))) ∧ read8 r (s ++ t) = read8 r s) := by
  cases h : read8 r s with
  | wait => exact .inl ⟨rfl, rfl, rfl⟩
  | bad e =>
    by_cases he : e = 0
    · exact .inl ⟨he, rfl, rfl⟩
    · exact .inr ⟨.inl he, by rw [← h]; exact read_append r s t (by rw [h]; intro e; cases e)⟩
  | done h' n =>
    exact .inr ⟨.inr ⟨rfl, (read_front r s h' n h).2.1⟩, by rw [← h]; exact read_append r s t (by rw [h]; intro e; cases e)⟩
set_option maxHeartbeats 1600000 in
theorem walk (s : ByteArray) (w0 : s.size ≤ maxLen) (z0 : s.size ≤ 140737488351232) (t : ByteArray) (w1 : t.size ≤ maxLen) (z1 : t.size ≤ 140737488351232) (w : World) :
    Calls Tryd.prog 4 #[.string s, .string t] w fun e w' => e = .returned (.bool true) ∧ Below w.heap.size w w' := by
  have hst : s.size + t.size ≤ 9223372036854775807 := by omega
  have U0 := Lib.hid (fun w => prequest_any s (by omega) w)
  have U1 := Lib.hid (fun w => presponse_row s (by omega) w)
  have V0 := Lib.hid (fun w => prequest_any (s ++ t) (by rw [ByteArray.size_append]; omega) w)
  have V1 := Lib.hid (fun w => presponse_any (s ++ t) (by rw [ByteArray.size_append]; omega) w)
  rw [toL_append] at V0 V1
  have T0 := told false (toL s) (toL t)
  have T1 := told true (toL s) (toL t)
  clear w0 w1 z0 z1
  rcases T0 with ⟨a1, a2, a3⟩ | ⟨a1, a2⟩
  · rw [a1, a2, a3] at U0
    clear a1 a2 a3 V0
    unfold hrv3 hv at U0
    go_enter Tryd.func4, Tryd.ntmps4
    go_wp2_with fail
    refine (anchor_any _).mono ?_
    rintro e w1 ⟨rfl, hb1⟩
    go_wp2_with fail
    refine (U0.out _).mono ?_
    rintro e w2 ⟨v1, rfl, hF1, hb2⟩
    replace hb1 := below_chain hb1 hb2
    obtain ⟨p1, c1, rfl, _, _⟩ := id hF1
    have L1 := Lib.hid (LB.new hb1 hF1)
    clear hb2 U0 hF1 hb1
    unfold hc at L1
    dsimp only
    iterate 18 go_step
    generalize w2.alloc (.cells #[.string (ofL zero8.method), .string (ofL zero8.target), .int .i64 zero8.status, .string (ofL zero8.reason), .int .i64 zero8.minor, .slice p1 zero8.fields.length c1] 25) = W2 at L1 ⊢
    generalize hg1 : w2.heap.size = g1 at L1 ⊢
    replace hg1 := Lib.hid hg1
    go_wp2_with fail
    refine (U1.out _).mono ?_
    rintro e w7 ⟨v3, rfl, hr3, hb7⟩
    clear U1
    obtain ⟨p3, c3, rfl, _, _⟩ := fl_of hr3.1 (by have := hr3.2; omega)
    obtain ⟨d0, d1, d2, d3, d4, d5⟩ := (L1.out.call hb7).box.cells
    obtain ⟨y0, y1, y2, y3, y4, y5⟩ := (L1.out.call hb7).box.frees
    replace L1 := Lib.hid (L1.out.put hb7 hr3)
    clear hr3 hb7
    rcases T1 with ⟨b1, b2, b3⟩ | ⟨b1, b2⟩
    · rw [b1, b2]
      rw [b3] at L1 ⊢
      obtain ⟨W8, hW8⟩ : ∃ W8, W8 = hput w7 g1 zero8 (.slice p3 zero8.fields.length c3) := ⟨_, rfl⟩
      rw [← hW8] at L1
      unfold hput at hW8
      replace hW8 := Lib.hid hW8
      unfold hrv3 hv
      dsimp only
      iterate 18 go_step
      rw [← hW8.out]
      clear hW8 d0 d1 d2 d3 d4 d5 y0 y1 y2 y3 y4 y5 b1 b2 b3 V1
      obtain ⟨d0, d1, d2, d3, d4, d5⟩ := L1.out.box.cells
      have HS := Lib.hid (same8_any zero8 (.slice p3 zero8.fields.length c3) (.slice none 0 0) W8 L1.out.list (fl_none _))
      unfold hv at HS
      go_wp2_with fail
      refine HS.out.mono ?_
      rintro e w6 ⟨rfl, hb6⟩
      have HB := Lib.hid (below_chain L1.out.below hb6)
      clear hb6 HS L1 d0 d1 d2 d3 d4 d5
      go_wp2_with fail
      go_ret
      exact ⟨rfl, HB.out⟩
    · rw [b2] at V1
      clear b2
      generalize resH (read8 true (toL s)) = H2 at *
      generalize resN (read8 true (toL s)) = m at *
      generalize resE (read8 true (toL s)) = e2 at *
      have hcase2 : (e2 != 0) = true ∨ (e2 = 0 ∧ (0 : Int) < (m : Int)) := by
        rcases b1 with h | ⟨h, h2⟩
        · exact .inl (bne_iff_ne.2 h)
        · exact .inr ⟨h, by omega⟩
      have r1 : (e2 == e2) = true := beq_self_eq_true _
      have r2 : ((m : Int) == (m : Int)) = true := beq_self_eq_true _
      clear b1
      obtain ⟨W8, hW8⟩ : ∃ W8, W8 = hput w7 g1 H2 (.slice p3 H2.fields.length c3) := ⟨_, rfl⟩
      rw [← hW8] at L1
      unfold hput at hW8
      replace hW8 := Lib.hid hW8
      unfold hrv3 hv at V1 ⊢
      dsimp only
      iterate 18 go_step
      rw [← hW8.out]
      clear hW8 d0 d1 d2 d3 d4 d5 y0 y1 y2 y3 y4 y5
      rcases hcase2 with hd1 | ⟨rfl, hd1⟩
      all_goals
        go_wp2_with fail
        refine (V1.out _).mono ?_
        rintro e w5 ⟨v2, rfl, hF2, hb5⟩
        clear V1
        replace L1 := Lib.hid (L1.out.call hb5)
        obtain ⟨p2, c2, rfl, _, _⟩ := id hF2
        have L2 := Lib.hid (LB.new L1.out.below hF2)
        replace L1 := Lib.hid (L1.out.alloc (.cells (hc H2 (.slice p2 H2.fields.length c2)) 25))
        unfold hc at L1 L2
        clear hb5 hF2
        dsimp only
        iterate 18 go_step
        generalize w5.alloc (.cells #[.string (ofL H2.method), .string (ofL H2.target), .int .i64 H2.status, .string (ofL H2.reason), .int .i64 H2.minor, .slice p2 H2.fields.length c2] 25) = W5 at L1 L2 ⊢
        generalize hg2 : w5.heap.size = g2 at L2 ⊢
        replace hg2 := Lib.hid hg2
        obtain ⟨d0, d1, d2, d3, d4, d5⟩ := L1.out.box.cells
        obtain ⟨f0, f1, f2, f3, f4, f5⟩ := L2.out.box.cells
        have HS := Lib.hid (same8_any H2 (.slice p3 H2.fields.length c3) (.slice p2 H2.fields.length c2) W5 L1.out.list L2.out.list)
        unfold hv at HS
        go_wp2_with fail
        refine HS.out.mono ?_
        rintro e w6 ⟨rfl, hb6⟩
        replace L1 := Lib.hid (L1.out.call hb6)
        clear hb6 HS L2 d0 d1 d2 d3 d4 d5 f0 f1 f2 f3 f4 f5
        go_wp2_with fail
        go_ret
        exact ⟨rfl, L1.out.below⟩
  · rw [a2] at V0
    clear a2
    generalize resH (read8 false (toL s)) = H1 at *
    generalize resN (read8 false (toL s)) = n at *
    generalize resE (read8 false (toL s)) = e1 at *
    unfold hrv3 hv at U0 V0
    have hcase : (e1 != 0) = true ∨ (e1 = 0 ∧ (0 : Int) < (n : Int)) := by
      rcases a1 with h | ⟨h, h2⟩
      · exact .inl (bne_iff_ne.2 h)
      · exact .inr ⟨h, by omega⟩
    have q1 : (e1 != e1) = false := bne_self_eq_false _
    have q2 : ((n : Int) != (n : Int)) = false := bne_self_eq_false _
    clear a1
    go_enter Tryd.func4, Tryd.ntmps4
    go_wp2_with fail
    refine (anchor_any _).mono ?_
    rintro e w1 ⟨rfl, hb1⟩
    go_wp2_with fail
    refine (U0.out _).mono ?_
    rintro e w2 ⟨v1, rfl, hF1, hb2⟩
    replace hb1 := below_chain hb1 hb2
    obtain ⟨p1, c1, rfl, _, _⟩ := id hF1
    have L1 := Lib.hid (LB.new hb1 hF1)
    clear hb2 U0 hF1 hb1
    unfold hc at L1
    dsimp only
    iterate 18 go_step
    generalize w2.alloc (.cells #[.string (ofL H1.method), .string (ofL H1.target), .int .i64 H1.status, .string (ofL H1.reason), .int .i64 H1.minor, .slice p1 H1.fields.length c1] 25) = W2 at L1 ⊢
    generalize hg1 : w2.heap.size = g1 at L1 ⊢
    replace hg1 := Lib.hid hg1
    rcases hcase with hc1 | ⟨rfl, hc1⟩
    all_goals
      go_wp2_with fail
      refine (V0.out _).mono ?_
      rintro e w5 ⟨v2, rfl, hF2, hb5⟩
      clear V0
      replace L1 := Lib.hid (L1.out.call hb5)
      obtain ⟨p2, c2, rfl, _, _⟩ := id hF2
      have L2 := Lib.hid (LB.new L1.out.below hF2)
      replace L1 := Lib.hid (L1.out.alloc (.cells (hc H1 (.slice p2 H1.fields.length c2)) 25))
      unfold hc at L1 L2
      clear hb5 hF2
      dsimp only
      iterate 18 go_step
      generalize w5.alloc (.cells #[.string (ofL H1.method), .string (ofL H1.target), .int .i64 H1.status, .string (ofL H1.reason), .int .i64 H1.minor, .slice p2 H1.fields.length c2] 25) = W5 at L1 L2 ⊢
      generalize hg2 : w5.heap.size = g2 at L2 ⊢
      replace hg2 := Lib.hid hg2
      obtain ⟨d0, d1, d2, d3, d4, d5⟩ := L1.out.box.cells
      obtain ⟨f0, f1, f2, f3, f4, f5⟩ := L2.out.box.cells
      have HS := Lib.hid (same8_any H1 (.slice p1 H1.fields.length c1) (.slice p2 H1.fields.length c2) W5 L1.out.list L2.out.list)
      unfold hv at HS
      go_wp2_with fail
      refine HS.out.mono ?_
      rintro e w6 ⟨rfl, hb6⟩
      replace L1 := Lib.hid (L1.out.call hb6)
      clear hb6 HS L2 d0 d1 d2 d3 d4 d5 f0 f1 f2 f3 f4 f5
      go_wp2_with fail
      refine (U1.out _).mono ?_
      rintro e w7 ⟨v3, rfl, hr3, hb7⟩
      clear U1
      obtain ⟨p3, c3, rfl, _, _⟩ := fl_of hr3.1 (by have := hr3.2; omega)
      obtain ⟨d0, d1, d2, d3, d4, d5⟩ := (L1.out.call hb7).box.cells
      obtain ⟨y0, y1, y2, y3, y4, y5⟩ := (L1.out.call hb7).box.frees
      replace L1 := Lib.hid (L1.out.put hb7 hr3)
      clear hr3 hb7
      rcases T1 with ⟨b1, b2, b3⟩ | ⟨b1, b2⟩
      · rw [b1, b2]
        rw [b3] at L1 ⊢
        obtain ⟨W8, hW8⟩ : ∃ W8, W8 = hput w7 g1 zero8 (.slice p3 zero8.fields.length c3) := ⟨_, rfl⟩
        rw [← hW8] at L1
        unfold hput at hW8
        replace hW8 := Lib.hid hW8
        unfold hrv3 hv
        dsimp only
        iterate 18 go_step
        rw [← hW8.out]
        clear hW8 d0 d1 d2 d3 d4 d5 y0 y1 y2 y3 y4 y5 b1 b2 b3 V1
        obtain ⟨d0, d1, d2, d3, d4, d5⟩ := L1.out.box.cells
        have HS := Lib.hid (same8_any zero8 (.slice p3 zero8.fields.length c3) (.slice none 0 0) W8 L1.out.list (fl_none _))
        unfold hv at HS
        go_wp2_with fail
        refine HS.out.mono ?_
        rintro e w6 ⟨rfl, hb6⟩
        have HB := Lib.hid (below_chain L1.out.below hb6)
        clear hb6 HS L1 d0 d1 d2 d3 d4 d5
        go_wp2_with fail
        go_ret
        exact ⟨rfl, HB.out⟩
      · rw [b2] at V1
        clear b2
        generalize resH (read8 true (toL s)) = H2 at *
        generalize resN (read8 true (toL s)) = m at *
        generalize resE (read8 true (toL s)) = e2 at *
        have hcase2 : (e2 != 0) = true ∨ (e2 = 0 ∧ (0 : Int) < (m : Int)) := by
          rcases b1 with h | ⟨h, h2⟩
          · exact .inl (bne_iff_ne.2 h)
          · exact .inr ⟨h, by omega⟩
        have r1 : (e2 == e2) = true := beq_self_eq_true _
        have r2 : ((m : Int) == (m : Int)) = true := beq_self_eq_true _
        clear b1
        obtain ⟨W8, hW8⟩ : ∃ W8, W8 = hput w7 g1 H2 (.slice p3 H2.fields.length c3) := ⟨_, rfl⟩
        rw [← hW8] at L1
        unfold hput at hW8
        replace hW8 := Lib.hid hW8
        unfold hrv3 hv at V1 ⊢
        dsimp only
        iterate 18 go_step
        rw [← hW8.out]
        clear hW8 d0 d1 d2 d3 d4 d5 y0 y1 y2 y3 y4 y5
        rcases hcase2 with hd1 | ⟨rfl, hd1⟩
        all_goals
          go_wp2_with fail
          refine (V1.out _).mono ?_
          rintro e w5 ⟨v2, rfl, hF2, hb5⟩
          clear V1
          replace L1 := Lib.hid (L1.out.call hb5)
          obtain ⟨p2, c2, rfl, _, _⟩ := id hF2
          have L2 := Lib.hid (LB.new L1.out.below hF2)
          replace L1 := Lib.hid (L1.out.alloc (.cells (hc H2 (.slice p2 H2.fields.length c2)) 25))
          unfold hc at L1 L2
          clear hb5 hF2
          dsimp only
          iterate 18 go_step
          generalize w5.alloc (.cells #[.string (ofL H2.method), .string (ofL H2.target), .int .i64 H2.status, .string (ofL H2.reason), .int .i64 H2.minor, .slice p2 H2.fields.length c2] 25) = W5 at L1 L2 ⊢
          generalize hg2 : w5.heap.size = g2 at L2 ⊢
          replace hg2 := Lib.hid hg2
          obtain ⟨d0, d1, d2, d3, d4, d5⟩ := L1.out.box.cells
          obtain ⟨f0, f1, f2, f3, f4, f5⟩ := L2.out.box.cells
          have HS := Lib.hid (same8_any H2 (.slice p3 H2.fields.length c3) (.slice p2 H2.fields.length c2) W5 L1.out.list L2.out.list)
          unfold hv at HS
          go_wp2_with fail
          refine HS.out.mono ?_
          rintro e w6 ⟨rfl, hb6⟩
          replace L1 := Lib.hid (L1.out.call hb6)
          clear hb6 HS L2 d0 d1 d2 d3 d4 d5 f0 f1 f2 f3 f4 f5
          go_wp2_with fail
          go_ret
          exact ⟨rfl, L1.out.below⟩
end Go.Proofs.YtclecgopmegjeaaDoor.HeadSteadyW
