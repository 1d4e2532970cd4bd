/- Texts of this seat, one behind another: HeadReadsW, LawCard. -/
import Derived.Test.YtclecgopmegjeaaDoorCards
import Derived.Test.YtclecgopmegjeaaDoorTie
import Derived.Deep.DeepHandedRow
import Derived.Lay
import Derived.SevenTiedAt
import Derived.Test.YtclecgopmegjeaaDoorA3
import Derived.Test.YtclecgopmegjeaaDoorB7
import Derived.Test.YtclecgopmegjeaaDoorA1
/- What any bytes are as a head is the document's: HeadReads returns true. -/
namespace Go.Proofs.YtclecgopmegjeaaDoor.HeadReadsW
open Go.ChangeShapes Go.WideShapes Go.ChangeAt Go.RowKit LexPure Bytes Ret FieldsPure Flds HeadPure HBox KeptRow PHead8 PFlds8 R8Read R8Same HAnchor HLaw Mem
set_option maxRecDepth 20000
set_option linter.unusedVariables false
set_option maxHeartbeats 1600000 in
theorem walk (s : ByteArray) (w0 : s.size ≤ maxLen) (z0 : s.size ≤ 140737488351232) (w : World) :
    Calls Tryd.prog 3 #[.string s] w fun e w' => e = .returned (.bool true) ∧ Below w.heap.size w w' := by
  have U0 := Lib.hid (fun w => prequest_any s (by omega) w)
  have U1 := Lib.hid (fun w => presponse_row s (by omega) w)
  have V0 := Lib.hid (fun w => r8read_any s z0 false w)
  have V1 := Lib.hid (fun w => r8read_any s z0 true w)
  generalize resH (read8 false (toL s)) = H1 at *
  generalize resN (read8 false (toL s)) = n at *
  generalize resE (read8 false (toL s)) = e1 at *
  generalize resH (read8 true (toL s)) = H2 at *
  generalize resN (read8 true (toL s)) = m at *
  generalize resE (read8 true (toL s)) = e2 at *
  unfold hrv3 hv at U0 V0 V1
  have q1 : (e1 != e1) = false := bne_self_eq_false _
  have q2 : ((n : Int) != (n : Int)) = false := bne_self_eq_false _
  have r1 : (e2 == e2) = true := beq_self_eq_true _
  have r2 : ((m : Int) == (m : Int)) = true := beq_self_eq_true _
  clear w0 z0
  go_enter Tryd.func3, Tryd.ntmps3
  go_wp2_with fail
  refine (anchor_any _).mono ?_
  rintro e w1 ⟨rfl, hb1⟩
  go_wp2_with fail
  refine (U0.out _).mono ?_
  rintro e w2 ⟨v1, rfl, hF1, hb2⟩
  replace hb1 := below_chain hb1 hb2
  obtain ⟨p1, c1, rfl, _, _⟩ := id hF1
  have L1 := Lib.hid (LB.new hb1 hF1)
  clear hb2 U0 hF1 hb1
  unfold hc at L1
  dsimp only
  iterate 18 go_step
  generalize w2.alloc (.cells #[.string (ofL H1.method), .string (ofL H1.target), .int .i64 H1.status, .string (ofL H1.reason), .int .i64 H1.minor, .slice p1 H1.fields.length c1] 25) = W2 at L1 ⊢
  generalize hg1 : w2.heap.size = g1 at L1 ⊢
  replace hg1 := Lib.hid hg1
  go_wp2_with fail
  refine (V0.out _).mono ?_
  rintro e w5 ⟨v2, rfl, hr2, hb5⟩
  clear V0
  have hF2 := fl_of hr2.1 (by have := hr2.2; omega)
  replace L1 := Lib.hid (L1.out.call hb5)
  have hlt := L1.out.lt
  obtain ⟨p2, c2, rfl, _, _⟩ := id hF2
  have L2 := Lib.hid (LB.new L1.out.below hF2)
  replace L1 := Lib.hid (L1.out.alloc (.cells (hc H1 (.slice p2 H1.fields.length c2)) 25))
  unfold hc at L1 L2
  clear hb5 hF2 hr2
  dsimp only
  iterate 18 go_step
  generalize w5.alloc (.cells #[.string (ofL H1.method), .string (ofL H1.target), .int .i64 H1.status, .string (ofL H1.reason), .int .i64 H1.minor, .slice p2 H1.fields.length c2] 25) = W5 at L1 L2 ⊢
  generalize hg2 : w5.heap.size = g2 at L2 hlt ⊢
  replace hg2 := Lib.hid hg2
  have hne : g1 ≠ g2 := by omega
  have hne2 : g2 ≠ g1 := by omega
  obtain ⟨d0, d1, d2, d3, d4, d5⟩ := L1.out.box.cells
  obtain ⟨f0, f1, f2, f3, f4, f5⟩ := L2.out.box.cells
  have HS := Lib.hid (same8_any H1 (.slice p1 H1.fields.length c1) (.slice p2 H1.fields.length c2) W5 L1.out.list L2.out.list)
  unfold hv at HS
  go_wp2_with fail
  refine HS.out.mono ?_
  rintro e w6 ⟨rfl, hb6⟩
  replace L1 := Lib.hid (L1.out.call hb6)
  replace L2 := Lib.hid (L2.out.call hb6)
  clear hb6 HS d0 d1 d2 d3 d4 d5 f0 f1 f2 f3 f4 f5
  go_wp2_with fail
  refine (U1.out _).mono ?_
  rintro e w7 ⟨v3, rfl, hr3, hb7⟩
  clear U1
  have hl1 := L1.out.lt
  have hl2 := L2.out.lt
  have low1 := L1.out.low
  have low2 := L2.out.low
  have k1 := L1.out.box.below hb7 hl1
  have k2 := L2.out.box.below hb7 hl2
  have kb := below_chain L1.out.below hb7
  have hs7 := hb7.size
  clear L1 L2
  obtain ⟨p3, c3, rfl, _, _⟩ := fl_of hr3.1 (by have := hr3.2; omega)
  obtain ⟨d0, d1, d2, d3, d4, d5⟩ := k1.cells
  obtain ⟨y0, y1, y2, y3, y4, y5⟩ := k1.frees
  obtain ⟨W8, hW8⟩ : ∃ W8, W8 = hput w7 g1 H2 (.slice p3 H2.fields.length c3) := ⟨_, rfl⟩
  have s8 : W8.heap.size = w7.heap.size := by rw [hW8, size_hput]
  have B1 := k1.put H2 (.slice p3 H2.fields.length c3)
  have B2 := box_hput k2 hne2 (H := H2) (l := .slice p3 H2.fields.length c3)
  have R3 := row_hput hr3.1 hl1 H2 (.slice p3 H2.fields.length c3)
  have KB := below_hput kb low1 H2 (.slice p3 H2.fields.length c3)
  rw [← hW8] at B1 B2 R3 KB
  have hr3n := hr3.2
  clear hr3 hb7 k1 k2 kb
  replace B1 := Lib.hid B1
  replace B2 := Lib.hid B2
  replace R3 := Lib.hid R3
  replace KB := Lib.hid KB
  unfold hput at hW8
  replace hW8 := Lib.hid hW8
  unfold hrv3 hv
  dsimp only
  iterate 18 go_step
  rw [← hW8.out]
  clear hW8 d0 d1 d2 d3 d4 d5 y0 y1 y2 y3 y4 y5
  go_wp2_with fail
  refine (V1.out _).mono ?_
  rintro e w9 ⟨v4, rfl, hr4, hb9⟩
  clear V1
  have k1 := B1.out.below hb9 (by omega)
  have k2 := B2.out.below hb9 (by omega)
  have R3' := row_below R3.out hb9
  have kb := below_chain KB.out hb9
  have hs9 := hb9.size
  clear B1 B2 R3 KB
  obtain ⟨p4, c4, rfl, _, _⟩ := fl_of hr4.1 (by have := hr4.2; omega)
  obtain ⟨d0, d1, d2, d3, d4, d5⟩ := k2.cells
  obtain ⟨y0, y1, y2, y3, y4, y5⟩ := k2.frees
  obtain ⟨W8, hW8⟩ : ∃ W10, W10 = hput w9 g2 H2 (.slice p4 H2.fields.length c4) := ⟨_, rfl⟩
  have B2 := k2.put H2 (.slice p4 H2.fields.length c4)
  have B1 := box_hput k1 hne (H := H2) (l := .slice p4 H2.fields.length c4)
  have F3 := fl_of (row_hput R3' hl2 H2 (.slice p4 H2.fields.length c4)) (by omega)
  have F4 := fl_of (row_hput hr4.1 (g := g2) (by omega) H2 (.slice p4 H2.fields.length c4)) (by have := hr4.2; omega)
  have KB := below_hput kb low2 H2 (.slice p4 H2.fields.length c4)
  rw [← hW8] at B1 B2 F3 F4 KB
  clear hr4 hb9 k1 k2 kb R3'
  replace B1 := Lib.hid B1
  replace B2 := Lib.hid B2
  replace KB := Lib.hid KB
  have HS := Lib.hid (same8_any H2 (.slice p3 H2.fields.length c3) (.slice p4 H2.fields.length c4) _ F3 F4)
  clear F3 F4
  unfold hput at hW8
  replace hW8 := Lib.hid hW8
  unfold hv at HS
  dsimp only
  iterate 18 go_step
  rw [← hW8.out]
  clear hW8 d0 d1 d2 d3 d4 d5 y0 y1 y2 y3 y4 y5
  obtain ⟨d0, d1, d2, d3, d4, d5⟩ := B1.out.cells
  obtain ⟨f0, f1, f2, f3, f4, f5⟩ := B2.out.cells
  go_wp2_with fail
  refine HS.out.mono ?_
  rintro e w6 ⟨rfl, hb6⟩
  have HE := Lib.hid (below_chain KB.out hb6)
  clear hb6 HS B1 B2 KB d0 d1 d2 d3 d4 d5 f0 f1 f2 f3 f4 f5
  go_wp2_with fail
  go_ret
  exact ⟨rfl, HE.out⟩
end Go.Proofs.YtclecgopmegjeaaDoor.HeadReadsW

/- The row's step for a law whose row lists variables, and its card: the witness in the world that the listed data lay. -/
namespace Go.Proofs.YtclecgopmegjeaaDoor.LawCard
open Go.ChangeShapes Go.WideShapes Go.ChangeAt Go.RowKit
variable {H : Type} {enc : TypeId × Value → H}
/-- there is an input that fits: in the world that the listed data lay -/
theorem witness {C : Checked} {os : Os} {f : FuncId} {fn : Func} {s : OpenSpec} {conds : List PathCond} {apart : Bool} {laid : List (String × DataW Unit)} (args : Array Value)
    (hv : ((World.laidAll C.prog os laid).forCall (fun _ _ => 0) ⟨#[], args, []⟩).variablesZipB C.prog = true)
    (hr : (((World.laidAll C.prog os laid).forCall (fun _ _ => 0) ⟨#[], args, []⟩).heap.toList.drop C.prog.globals.size).take ((begin C.prog (fun _ _ => 0) default).world.heap.size - C.prog.globals.size) =
      (begin C.prog (fun _ _ => 0) default).world.heap.toList.drop C.prog.globals.size)
    (hok : Input.okWideB C.prog ((World.laidAll C.prog os laid).forCall (fun _ _ => 0) ⟨#[], args, []⟩) f ⟨#[], args, []⟩ = true)
    (hplain : ∀ w, laidMetH C.prog laid w = laidMet C.prog laid w)
    (hf : (World.holding C.prog os ⟨#[], #[], []⟩).layFits C.prog laid [] = true)
    (hi : (World.holding C.prog os ⟨#[], #[], []⟩).layIfaces C.prog laid (World.laidAll C.prog os laid) = true)
    {x : List (DataW H) × List (DataW H) × List MemPlace} (hx : DataW.whole enc C.prog ((World.laidAll C.prog os laid).forCall (fun _ _ => 0) ⟨#[], args, []⟩).memory fn.params.toList s.vars apart args.toList 8 = some x)
    (hconds : conds.all (PathCond.test C.prog ⟨fn.params.toList, x.1, s.bare.plain.varTypes C.prog, x.2.1⟩) = true) (hkk : ∀ k, s.cond = some k → k H (x.1 ++ x.2.1) = true)
    (hsz : s.bare.sizedB enc C.prog fn apart ((World.laidAll C.prog os laid).forCall (fun _ _ => 0) ⟨#[], args, []⟩).memory args 8 = true) :
    ∃ (w : World) (tape : Tape) (i : Input), w.os = os ∧ (w.forCall tape i).Shaped C.prog ∧ i.vars = [] ∧ Input.okWide C.prog (w.forCall tape i) .any w.heap.size f i ∧
      s.preRow enc C.prog fn conds apart laid (w.forCall tape i).memory i.args ∧ ({} : Assume).holds C.prog (lone (Frame.enter C.prog f i.args .normal) [] (w.forCall tape i)) :=
  ⟨World.laidAll C.prog os laid, fun _ _ => 0, ⟨#[], args, []⟩, World.laidAll_os _ _ _, World.shaped_of_ZipB hv hr, (Input.okWide_of_okWideB (base := 0) hok).1, (Input.okWide_of_okWideB hok).2,
    OpenSpec.preRow_of_cond 8 hx hconds hkk hsz (by rw [hplain]; exact laidMet_laidAll _ hf hi), by
    simp only [Assume.holds]
    exact ⟨by simp, by simp, fun _ => Modest.zero, by simp, by simp⟩⟩
end Go.Proofs.YtclecgopmegjeaaDoor.LawCard
