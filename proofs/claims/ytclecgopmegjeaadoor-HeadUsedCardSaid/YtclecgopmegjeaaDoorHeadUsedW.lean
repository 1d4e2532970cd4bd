/- The bytes that a head has are just those that make it: HeadUsed returns true. -/
import Derived.Test.YtclecgopmegjeaaDoorHLaw
import Derived.Test.YtclecgopmegjeaaDoorR8Same
import Derived.Laws.DeepStrings4
namespace Go.Proofs.YtclecgopmegjeaaDoor.HeadUsedW
open Go.ChangeShapes Go.WideShapes Go.ChangeAt Go.RowKit LexPure Bytes Ret FieldsPure Flds HeadPure HBox KeptRow PHead8 PFlds8 R8Same HAnchor HLaw Mem
set_option maxRecDepth 20000
set_option linter.unusedVariables false
theorem used (s : List UInt8) : (resN (read8 false s) = 0 ∧ resH (read8 false s) = zero8) ∨ (resE (read8 false s) = 0 ∧ 0 < resN (read8 false s) ∧ resN (read8 false s) ≤ s.length ∧ read8 false (s.take (resN (read8 false s))) = read8 false s ∧ ∀ cut, cut < resN (read8 false s) → read8 false (s.take cut) = .wait) := by
  cases h : read8 false s with
  | wait => exact .inl ⟨rfl, rfl⟩
  | bad e => exact .inl ⟨rfl, rfl⟩
  | done h' n =>
    obtain ⟨h1, h2, h3, _⟩ := read_front false s h' n h
    exact .inr ⟨rfl, h2, h1, h3, fun cut hc => read_cut false s h' n cut h hc⟩
set_option maxHeartbeats 1600000 in
theorem walk (s : ByteArray) (w0 : s.size ≤ maxLen) (z0 : s.size ≤ 140737488351232) (cut : Int) (w1 : (Lit.int .i64 cut).wf = true) (w : World) :
    Calls Tryd.prog 5 #[.string s, .int .i64 cut] w fun e w' => e = .returned (.bool true) ∧ Below w.heap.size w w' := by
  have U0 := Lib.hid (fun w => prequest_any s (by omega) w)
  have VN := Lib.hid (fun n w => prequest_any (s.extract 0 n) (by rw [ByteArray.size_extract]; omega) w)
  have T := used (toL s)
  rw [toL_length] at T
  clear w0 w1 z0
  rcases T with ⟨a1, a2⟩ | ⟨a1, a2, a3, a4, a5⟩
  · rw [a1, a2] at U0
    clear a1 a2 VN
    generalize resE (read8 false (toL s)) = e1 at *
    unfold hrv3 hv at U0
    have hcase : (e1 != 0) = true ∨ e1 = 0 := by
      by_cases h : e1 = 0
      · exact .inr h
      · exact .inl (bne_iff_ne.2 h)
    go_enter Tryd.func5, Tryd.ntmps5
    go_wp2_with fail
    refine (anchor_any _).mono ?_
    rintro e w1 ⟨rfl, hb1⟩
    go_wp2_with fail
    refine (U0.out _).mono ?_
    rintro e w2 ⟨v1, rfl, hF1, hb2⟩
    replace hb1 := below_chain hb1 hb2
    obtain ⟨p1, c1, rfl, _, _⟩ := id hF1
    have L1 := Lib.hid (LB.new hb1 hF1)
    clear hb2 U0 hF1 hb1
    unfold hc at L1
    dsimp only
    iterate 18 go_step
    generalize w2.alloc (.cells #[.string (ofL zero8.method), .string (ofL zero8.target), .int .i64 zero8.status, .string (ofL zero8.reason), .int .i64 zero8.minor, .slice p1 zero8.fields.length c1] 25) = W2 at L1 ⊢
    generalize hg1 : w2.heap.size = g1 at L1 ⊢
    replace hg1 := Lib.hid hg1
    obtain ⟨d0, d1, d2, d3, d4, d5⟩ := L1.out.box.cells
    have HS := Lib.hid (same8_any zero8 (.slice p1 zero8.fields.length c1) (.slice none 0 0) W2 L1.out.list (fl_none _))
    unfold hv at HS
    rcases hcase with hc1 | rfl
    all_goals
      go_wp2_with fail
      refine HS.out.mono ?_
      rintro e w6 ⟨rfl, hb6⟩
      have HB := Lib.hid (below_chain L1.out.below hb6)
      clear hb6 HS L1 d0 d1 d2 d3 d4 d5
      go_wp2_with fail
      go_ret
      exact ⟨rfl, HB.out⟩
  · have V0 := Lib.hid (VN.out (resN (read8 false (toL s))))
    rw [toL_extract, List.drop_zero, a4] at V0
    have hz : ((resN (read8 false (toL s)) : Int) == 0) = false := beq_eq_false_iff_ne.2 (by omega)
    rw [a1] at U0 V0
    have HC : ∀ k : Nat, k < resN (read8 false (toL s)) → Hid (∀ w, Calls Tryd.prog 12 #[.string (s.extract 0 k)] w fun e w' => ∃ v, e = .returned (hrv3 zero8 v 0 0) ∧ FL w' v [] ∧ Below w.heap.size w w') := fun k hk => Lib.hid (fun w => by
      have := VN.out k w
      rw [toL_extract, List.drop_zero, a5 k hk] at this
      exact this)
    clear VN a1 a4 a5
    generalize resH (read8 false (toL s)) = H1 at *
    generalize resN (read8 false (toL s)) = n at *
    have hn1 : ¬ ((n : Int) < 0) := by omega
    have hn2 : ¬ ((s.size : Int) < (n : Int)) := by omega
    have hn3 : (n : Int) ≤ (s.size : Int) := by omega
    unfold hrv3 hv at U0 V0
    have q2 : ((n : Int) == (n : Int)) = true := beq_self_eq_true _
    go_enter Tryd.func5, Tryd.ntmps5
    go_wp2_with fail
    refine (anchor_any _).mono ?_
    rintro e w1 ⟨rfl, hb1⟩
    go_wp2_with fail
    refine (U0.out _).mono ?_
    rintro e w2 ⟨v1, rfl, hF1, hb2⟩
    replace hb1 := below_chain hb1 hb2
    obtain ⟨p1, c1, rfl, _, _⟩ := id hF1
    have L1 := Lib.hid (LB.new hb1 hF1)
    clear hb2 U0 hF1 hb1
    unfold hc at L1
    dsimp only
    iterate 18 go_step
    generalize w2.alloc (.cells #[.string (ofL H1.method), .string (ofL H1.target), .int .i64 H1.status, .string (ofL H1.reason), .int .i64 H1.minor, .slice p1 H1.fields.length c1] 25) = W2 at L1 ⊢
    generalize hg1 : w2.heap.size = g1 at L1 ⊢
    replace hg1 := Lib.hid hg1
    by_cases hk : 0 ≤ cut ∧ cut < (n : Int)
    · obtain ⟨k, rfl⟩ := Int.eq_ofNat_of_zero_le hk.1
      have hk1 : ¬ ((k : Int) < 0) := by omega
      have hk2 : (k : Int) < (n : Int) := hk.2
      have hk3 : (k : Int) ≤ (s.size : Int) := by omega
      have HC1 := HC k (by omega)
      unfold hrv3 hv at HC1
      clear HC hk
      go_wp2_with fail
      refine (HC1.out _).mono ?_
      rintro e w3 ⟨v2, rfl, hF2, hb3⟩
      clear HC1
      obtain ⟨p3, c3, rfl, _, _⟩ := hF2
      replace L1 := Lib.hid ((L1.out.call hb3).alloc (.cells (hc zero8 (.slice p3 0 c3)) 25))
      unfold hc at L1
      clear hb3
      go_wp2_with fail
      refine (V0.out _).mono ?_
      rintro e w5 ⟨v2, rfl, hF2, hb5⟩
      clear V0
      replace L1 := Lib.hid (L1.out.call hb5)
      obtain ⟨p2, c2, rfl, _, _⟩ := id hF2
      have L2 := Lib.hid (LB.new L1.out.below hF2)
      replace L1 := Lib.hid (L1.out.alloc (.cells (hc H1 (.slice p2 H1.fields.length c2)) 25))
      unfold hc at L1 L2
      clear hb5 hF2
      dsimp only
      iterate 18 go_step
      generalize w5.alloc (.cells #[.string (ofL H1.method), .string (ofL H1.target), .int .i64 H1.status, .string (ofL H1.reason), .int .i64 H1.minor, .slice p2 H1.fields.length c2] 25) = W5 at L1 L2 ⊢
      generalize hg2 : w5.heap.size = g2 at L2 ⊢
      replace hg2 := Lib.hid hg2
      obtain ⟨d0, d1, d2, d3, d4, d5⟩ := L1.out.box.cells
      obtain ⟨f0, f1, f2, f3, f4, f5⟩ := L2.out.box.cells
      have HS := Lib.hid (same8_any H1 (.slice p1 H1.fields.length c1) (.slice p2 H1.fields.length c2) W5 L1.out.list L2.out.list)
      unfold hv at HS
      go_wp2_with fail
      refine HS.out.mono ?_
      rintro e w6 ⟨rfl, hb6⟩
      replace L1 := Lib.hid (L1.out.call hb6)
      clear hb6 HS L2 d0 d1 d2 d3 d4 d5 f0 f1 f2 f3 f4 f5
      go_wp2_with fail
      go_ret
      exact ⟨rfl, L1.out.below⟩
    · have hcut : cut < 0 ∨ (¬ cut < 0 ∧ ¬ cut < (n : Int)) := by omega
      clear HC hk
      rcases hcut with hk1 | ⟨hk1, hk2⟩
      all_goals
        go_wp2_with fail
        refine (V0.out _).mono ?_
        rintro e w5 ⟨v2, rfl, hF2, hb5⟩
        clear V0
        replace L1 := Lib.hid (L1.out.call hb5)
        obtain ⟨p2, c2, rfl, _, _⟩ := id hF2
        have L2 := Lib.hid (LB.new L1.out.below hF2)
        replace L1 := Lib.hid (L1.out.alloc (.cells (hc H1 (.slice p2 H1.fields.length c2)) 25))
        unfold hc at L1 L2
        clear hb5 hF2
        dsimp only
        iterate 18 go_step
        generalize w5.alloc (.cells #[.string (ofL H1.method), .string (ofL H1.target), .int .i64 H1.status, .string (ofL H1.reason), .int .i64 H1.minor, .slice p2 H1.fields.length c2] 25) = W5 at L1 L2 ⊢
        generalize hg2 : w5.heap.size = g2 at L2 ⊢
        replace hg2 := Lib.hid hg2
        obtain ⟨d0, d1, d2, d3, d4, d5⟩ := L1.out.box.cells
        obtain ⟨f0, f1, f2, f3, f4, f5⟩ := L2.out.box.cells
        have HS := Lib.hid (same8_any H1 (.slice p1 H1.fields.length c1) (.slice p2 H1.fields.length c2) W5 L1.out.list L2.out.list)
        unfold hv at HS
        go_wp2_with fail
        refine HS.out.mono ?_
        rintro e w6 ⟨rfl, hb6⟩
        replace L1 := Lib.hid (L1.out.call hb6)
        clear hb6 HS L2 d0 d1 d2 d3 d4 d5 f0 f1 f2 f3 f4 f5
        go_wp2_with fail
        go_ret
        exact ⟨rfl, L1.out.below⟩
end Go.Proofs.YtclecgopmegjeaaDoor.HeadUsedW
