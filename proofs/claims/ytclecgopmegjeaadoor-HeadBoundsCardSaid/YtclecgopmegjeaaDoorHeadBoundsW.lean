/- The bounds of a head are met: HeadBounds returns true. -/
import Derived.Test.YtclecgopmegjeaaDoorHLaw
import Derived.Test.YtclecgopmegjeaaDoorHLine
import Derived.Laws.DeepStrings4
namespace Go.Proofs.YtclecgopmegjeaaDoor.HeadBoundsW
open Go.ChangeShapes Go.WideShapes Go.ChangeAt Go.RowKit LexPure Bytes Ret FieldsPure Flds HeadPure HBox KeptRow PHead8 PFlds8 HAnchor HLaw HLine Mem
set_option maxRecDepth 20000
set_option linter.unusedVariables false
def E2 : List UInt8 := [13, 10]
def txt0 (d : Nat) : List UInt8 := [71, 69, 84, 32, 47] ++ lineL (1086 + d) ++ [32, 72, 84, 84, 80, 47, 49, 46, 49]
def txt1 (d : Nat) : List UInt8 := [71, 69, 84, 32, 47, 32, 72, 84, 84, 80, 47, 49, 46, 49, 13, 10, 88, 58] ++ lineL (510 + d)
def ones (k : Nat) : List UInt8 := (List.replicate k [88, 58, 121, 13, 10]).flatten
def txt2 (d : Nat) : List UInt8 := [71, 69, 84, 32, 47, 32, 72, 84, 84, 80, 47, 49, 46, 49, 13, 10] ++ ones (31 + d) ++ [88, 58, 121]
theorem r01 : resE (read8 false (txt0 1)) = 82 ∧ resN (read8 false (txt0 1)) = 0 := by decide +kernel
theorem r01e : resE (read8 false (txt0 1 ++ E2)) = 82 ∧ resN (read8 false (txt0 1 ++ E2)) = 0 := by decide +kernel
theorem r00 : resE (read8 false (txt0 0)) = 0 ∧ resN (read8 false (txt0 0)) = 0 := by decide +kernel
theorem r00e : resE (read8 false (txt0 0 ++ E2)) = 0 ∧ resN (read8 false (txt0 0 ++ E2)) = 0 := by decide +kernel
theorem r00d : resE (read8 false (txt0 0 ++ E2 ++ E2)) = 0 ∧ resN (read8 false (txt0 0 ++ E2 ++ E2)) = (txt0 0).length + 4 ∧ (resH (read8 false (txt0 0 ++ E2 ++ E2))).method = [71, 69, 84] := by decide +kernel
theorem r11 : resE (read8 false (txt1 1)) = 83 ∧ resN (read8 false (txt1 1)) = 0 := by decide +kernel
theorem r11e : resE (read8 false (txt1 1 ++ E2)) = 83 ∧ resN (read8 false (txt1 1 ++ E2)) = 0 := by decide +kernel
theorem r10 : resE (read8 false (txt1 0)) = 0 ∧ resN (read8 false (txt1 0)) = 0 := by decide +kernel
theorem r10e : resE (read8 false (txt1 0 ++ E2)) = 0 ∧ resN (read8 false (txt1 0 ++ E2)) = 0 := by decide +kernel
theorem r10d : resE (read8 false (txt1 0 ++ E2 ++ E2)) = 0 ∧ resN (read8 false (txt1 0 ++ E2 ++ E2)) = (txt1 0).length + 4 ∧ (resH (read8 false (txt1 0 ++ E2 ++ E2))).method = [71, 69, 84] := by decide +kernel
theorem r21e : resE (read8 false (txt2 1 ++ E2)) = 83 ∧ resN (read8 false (txt2 1 ++ E2)) = 0 := by decide +kernel
theorem r21 : resE (read8 false (txt2 1)) = 0 ∧ resN (read8 false (txt2 1)) = 0 := by decide +kernel
theorem r21d : resE (read8 false (txt2 1 ++ E2 ++ E2)) = 83 := by decide +kernel
theorem r20 : resE (read8 false (txt2 0)) = 0 ∧ resN (read8 false (txt2 0)) = 0 := by decide +kernel
theorem r20e : resE (read8 false (txt2 0 ++ E2)) = 0 ∧ resN (read8 false (txt2 0 ++ E2)) = 0 := by decide +kernel
theorem r20d : resE (read8 false (txt2 0 ++ E2 ++ E2)) = 0 ∧ resN (read8 false (txt2 0 ++ E2 ++ E2)) = (txt2 0).length + 4 ∧ (resH (read8 false (txt2 0 ++ E2 ++ E2))).method = [71, 69, 84] := by decide +kernel
set_option maxHeartbeats 1600000 in
theorem walk0 (p q : Bool) (w : World) :
    Calls Tryd.prog 9 #[.int .i64 0, .bool p, .bool q] w fun e w' => e = .returned (.bool true) ∧ Below w.heap.size w w' := by
  cases p with
  | true =>
    have HL := Lib.hid (fun w => line_any 1087 (by decide) w)
    have hY : (ofL (lineL 1087)).size = 1087 := by rw [ofL_size]; exact List.length_replicate
    have hXX : toL (⟨#[71, 69, 84, 32, 47]⟩ ++ ofL (lineL 1087) ++ ⟨#[32, 72, 84, 84, 80, 47, 49, 46, 49]⟩) = txt0 1 := by rw [toL_append, toL_append, toL_ofL]; rfl
    generalize ofL (lineL 1087) = Y at *
    cases q with
    | true =>
      have hX : toL (⟨#[71, 69, 84, 32, 47]⟩ ++ Y ++ ⟨#[32, 72, 84, 84, 80, 47, 49, 46, 49]⟩) = txt0 1 := hXX
      have hXU0 : toL (⟨#[71, 69, 84, 32, 47]⟩ ++ Y ++ ⟨#[32, 72, 84, 84, 80, 47, 49, 46, 49]⟩ ++ ⟨#[13, 10]⟩) = txt0 1 ++ E2 := by rw [toL_append, hX]; rfl
      have U0 := fun w => prequest_any (⟨#[71, 69, 84, 32, 47]⟩ ++ Y ++ ⟨#[32, 72, 84, 84, 80, 47, 49, 46, 49]⟩ ++ ⟨#[13, 10]⟩) (by rw [show (⟨#[71, 69, 84, 32, 47]⟩ ++ Y ++ ⟨#[32, 72, 84, 84, 80, 47, 49, 46, 49]⟩ ++ ⟨#[13, 10]⟩).size = (toL (⟨#[71, 69, 84, 32, 47]⟩ ++ Y ++ ⟨#[32, 72, 84, 84, 80, 47, 49, 46, 49]⟩ ++ ⟨#[13, 10]⟩)).length from (toL_length _).symm, hXU0]; decide) w
      rw [hXU0] at U0
      rw [r01e.1, r01e.2] at U0
      generalize resH (read8 false (txt0 1 ++ E2)) = H1 at U0
      unfold hrv3 hv at U0
      replace U0 := Lib.hid U0
      clear hX hXU0 hXX
      go_enter Tryd.func9, Tryd.ntmps9
      go_wp2_with fail
      refine (anchor_any _).mono ?_
      rintro e w1 ⟨rfl, hb1⟩
      go_wp2_with fail
      refine (HL.out _).mono ?_
      rintro e w2 ⟨rfl, hb2⟩
      replace hb1 := below_chain hb1 hb2
      clear hb2 HL
      go_wp2_with fail
      refine (U0.out _).mono ?_
      rintro e w3 ⟨v1, rfl, hF1, hb3⟩
      replace hb1 := below_chain hb1 hb3
      obtain ⟨p1, c1, rfl, _, _⟩ := hF1
      replace hb1 := hb1.alloc hb1.size (.cells (hc H1 (.slice p1 H1.fields.length c1)) 25)
      unfold hc at hb1
      clear U0 hb3
      dsimp only
      iterate 18 go_step
      generalize w3.alloc (.cells #[.string (ofL H1.method), .string (ofL H1.target), .int .i64 H1.status, .string (ofL H1.reason), .int .i64 H1.minor, .slice p1 H1.fields.length c1] 25) = W3 at hb1 ⊢
      go_wp2_with fail
      go_ret
      exact ⟨rfl, hb1⟩
    | false =>
      have hX : toL (⟨#[71, 69, 84, 32, 47]⟩ ++ Y ++ ⟨#[32, 72, 84, 84, 80, 47, 49, 46, 49]⟩) = txt0 1 := hXX
      have hXU0 : toL (⟨#[71, 69, 84, 32, 47]⟩ ++ Y ++ ⟨#[32, 72, 84, 84, 80, 47, 49, 46, 49]⟩) = txt0 1 := by exact hX
      have U0 := fun w => prequest_any (⟨#[71, 69, 84, 32, 47]⟩ ++ Y ++ ⟨#[32, 72, 84, 84, 80, 47, 49, 46, 49]⟩) (by rw [show (⟨#[71, 69, 84, 32, 47]⟩ ++ Y ++ ⟨#[32, 72, 84, 84, 80, 47, 49, 46, 49]⟩).size = (toL (⟨#[71, 69, 84, 32, 47]⟩ ++ Y ++ ⟨#[32, 72, 84, 84, 80, 47, 49, 46, 49]⟩)).length from (toL_length _).symm, hXU0]; decide) w
      rw [hXU0] at U0
      rw [r01.1, r01.2] at U0
      generalize resH (read8 false (txt0 1)) = H1 at U0
      unfold hrv3 hv at U0
      replace U0 := Lib.hid U0
      clear hX hXU0 hXX
      go_enter Tryd.func9, Tryd.ntmps9
      go_wp2_with fail
      refine (anchor_any _).mono ?_
      rintro e w1 ⟨rfl, hb1⟩
      go_wp2_with fail
      refine (HL.out _).mono ?_
      rintro e w2 ⟨rfl, hb2⟩
      replace hb1 := below_chain hb1 hb2
      clear hb2 HL
      go_wp2_with fail
      refine (U0.out _).mono ?_
      rintro e w3 ⟨v1, rfl, hF1, hb3⟩
      replace hb1 := below_chain hb1 hb3
      obtain ⟨p1, c1, rfl, _, _⟩ := hF1
      replace hb1 := hb1.alloc hb1.size (.cells (hc H1 (.slice p1 H1.fields.length c1)) 25)
      unfold hc at hb1
      clear U0 hb3
      dsimp only
      iterate 18 go_step
      generalize w3.alloc (.cells #[.string (ofL H1.method), .string (ofL H1.target), .int .i64 H1.status, .string (ofL H1.reason), .int .i64 H1.minor, .slice p1 H1.fields.length c1] 25) = W3 at hb1 ⊢
      go_wp2_with fail
      go_ret
      exact ⟨rfl, hb1⟩
  | false =>
    have HL := Lib.hid (fun w => line_any 1086 (by decide) w)
    have hY : (ofL (lineL 1086)).size = 1086 := by rw [ofL_size]; exact List.length_replicate
    have hXX : toL (⟨#[71, 69, 84, 32, 47]⟩ ++ ofL (lineL 1086) ++ ⟨#[32, 72, 84, 84, 80, 47, 49, 46, 49]⟩) = txt0 0 := by rw [toL_append, toL_append, toL_ofL]; rfl
    generalize ofL (lineL 1086) = Y at *
    cases q with
    | true =>
      have hX : toL (⟨#[71, 69, 84, 32, 47]⟩ ++ Y ++ ⟨#[32, 72, 84, 84, 80, 47, 49, 46, 49]⟩) = txt0 0 := hXX
      have hXU0 : toL (⟨#[71, 69, 84, 32, 47]⟩ ++ Y ++ ⟨#[32, 72, 84, 84, 80, 47, 49, 46, 49]⟩ ++ ⟨#[13, 10]⟩) = txt0 0 ++ E2 := by rw [toL_append, hX]; rfl
      have U0 := fun w => prequest_any (⟨#[71, 69, 84, 32, 47]⟩ ++ Y ++ ⟨#[32, 72, 84, 84, 80, 47, 49, 46, 49]⟩ ++ ⟨#[13, 10]⟩) (by rw [show (⟨#[71, 69, 84, 32, 47]⟩ ++ Y ++ ⟨#[32, 72, 84, 84, 80, 47, 49, 46, 49]⟩ ++ ⟨#[13, 10]⟩).size = (toL (⟨#[71, 69, 84, 32, 47]⟩ ++ Y ++ ⟨#[32, 72, 84, 84, 80, 47, 49, 46, 49]⟩ ++ ⟨#[13, 10]⟩)).length from (toL_length _).symm, hXU0]; decide) w
      rw [hXU0] at U0
      have hXV0 : toL (⟨#[71, 69, 84, 32, 47]⟩ ++ Y ++ ⟨#[32, 72, 84, 84, 80, 47, 49, 46, 49]⟩ ++ ⟨#[13, 10]⟩ ++ ⟨#[13, 10]⟩) = txt0 0 ++ E2 ++ E2 := by rw [toL_append, toL_append, hX]; rfl
      have V0 := fun w => prequest_any (⟨#[71, 69, 84, 32, 47]⟩ ++ Y ++ ⟨#[32, 72, 84, 84, 80, 47, 49, 46, 49]⟩ ++ ⟨#[13, 10]⟩ ++ ⟨#[13, 10]⟩) (by rw [show (⟨#[71, 69, 84, 32, 47]⟩ ++ Y ++ ⟨#[32, 72, 84, 84, 80, 47, 49, 46, 49]⟩ ++ ⟨#[13, 10]⟩ ++ ⟨#[13, 10]⟩).size = (toL (⟨#[71, 69, 84, 32, 47]⟩ ++ Y ++ ⟨#[32, 72, 84, 84, 80, 47, 49, 46, 49]⟩ ++ ⟨#[13, 10]⟩ ++ ⟨#[13, 10]⟩)).length from (toL_length _).symm, hXV0]; decide) w
      rw [hXV0] at V0
      rw [r00e.1, r00e.2] at U0
      generalize resH (read8 false (txt0 0 ++ E2)) = H1 at U0
      obtain ⟨x1, x2, x3⟩ := r00d
      rw [x1, x2, show (txt0 0).length + 4 = 1104 by decide] at V0
      generalize resH (read8 false (txt0 0 ++ E2 ++ E2)) = H2 at V0 x3
      obtain ⟨y1, y2, y3, y4, y5, y6⟩ := H2
      dsimp only at x3
      subst x3
      unfold hrv3 hv at U0 V0
      dsimp only at V0
      rw [show ofL [71, 69, 84] = ⟨#[71, 69, 84]⟩ from rfl] at V0
      clear x1 x2
      replace U0 := Lib.hid U0
      replace V0 := Lib.hid V0
      clear hXV0
      clear hX hXU0 hXX
      go_enter Tryd.func9, Tryd.ntmps9
      go_wp2_with fail
      refine (anchor_any _).mono ?_
      rintro e w1 ⟨rfl, hb1⟩
      go_wp2_with fail
      refine (HL.out _).mono ?_
      rintro e w2 ⟨rfl, hb2⟩
      replace hb1 := below_chain hb1 hb2
      clear hb2 HL
      go_wp2_with fail
      refine (U0.out _).mono ?_
      rintro e w3 ⟨v1, rfl, hF1, hb3⟩
      replace hb1 := below_chain hb1 hb3
      obtain ⟨p1, c1, rfl, _, _⟩ := hF1
      replace hb1 := hb1.alloc hb1.size (.cells (hc H1 (.slice p1 H1.fields.length c1)) 25)
      unfold hc at hb1
      clear U0 hb3
      dsimp only
      iterate 18 go_step
      generalize w3.alloc (.cells #[.string (ofL H1.method), .string (ofL H1.target), .int .i64 H1.status, .string (ofL H1.reason), .int .i64 H1.minor, .slice p1 H1.fields.length c1] 25) = W3 at hb1 ⊢
      go_wp2_with fail
      refine (V0.out _).mono ?_
      rintro e w5 ⟨v2, rfl, hF2, hb5⟩
      replace hb1 := below_chain hb1 hb5
      obtain ⟨p2, c2, rfl, _, _⟩ := hF2
      clear V0 hb5
      replace hb1 := Lib.hid (hb1.alloc hb1.size (.cells #[.string ⟨#[71, 69, 84]⟩, .string (ofL y2), .int .i64 y3, .string (ofL y4), .int .i64 y5, .slice p2 y6.length c2] 25))
      go_wp2_with fail
      go_ret
      exact ⟨rfl, hb1.out⟩
    | false =>
      have hX : toL (⟨#[71, 69, 84, 32, 47]⟩ ++ Y ++ ⟨#[32, 72, 84, 84, 80, 47, 49, 46, 49]⟩) = txt0 0 := hXX
      have hXU0 : toL (⟨#[71, 69, 84, 32, 47]⟩ ++ Y ++ ⟨#[32, 72, 84, 84, 80, 47, 49, 46, 49]⟩) = txt0 0 := by exact hX
      have U0 := fun w => prequest_any (⟨#[71, 69, 84, 32, 47]⟩ ++ Y ++ ⟨#[32, 72, 84, 84, 80, 47, 49, 46, 49]⟩) (by rw [show (⟨#[71, 69, 84, 32, 47]⟩ ++ Y ++ ⟨#[32, 72, 84, 84, 80, 47, 49, 46, 49]⟩).size = (toL (⟨#[71, 69, 84, 32, 47]⟩ ++ Y ++ ⟨#[32, 72, 84, 84, 80, 47, 49, 46, 49]⟩)).length from (toL_length _).symm, hXU0]; decide) w
      rw [hXU0] at U0
      have hXV0 : toL (⟨#[71, 69, 84, 32, 47]⟩ ++ Y ++ ⟨#[32, 72, 84, 84, 80, 47, 49, 46, 49]⟩ ++ ⟨#[13, 10]⟩ ++ ⟨#[13, 10]⟩) = txt0 0 ++ E2 ++ E2 := by rw [toL_append, toL_append, hX]; rfl
      have V0 := fun w => prequest_any (⟨#[71, 69, 84, 32, 47]⟩ ++ Y ++ ⟨#[32, 72, 84, 84, 80, 47, 49, 46, 49]⟩ ++ ⟨#[13, 10]⟩ ++ ⟨#[13, 10]⟩) (by rw [show (⟨#[71, 69, 84, 32, 47]⟩ ++ Y ++ ⟨#[32, 72, 84, 84, 80, 47, 49, 46, 49]⟩ ++ ⟨#[13, 10]⟩ ++ ⟨#[13, 10]⟩).size = (toL (⟨#[71, 69, 84, 32, 47]⟩ ++ Y ++ ⟨#[32, 72, 84, 84, 80, 47, 49, 46, 49]⟩ ++ ⟨#[13, 10]⟩ ++ ⟨#[13, 10]⟩)).length from (toL_length _).symm, hXV0]; decide) w
      rw [hXV0] at V0
      rw [r00.1, r00.2] at U0
      generalize resH (read8 false (txt0 0)) = H1 at U0
      obtain ⟨x1, x2, x3⟩ := r00d
      rw [x1, x2, show (txt0 0).length + 4 = 1104 by decide] at V0
      generalize resH (read8 false (txt0 0 ++ E2 ++ E2)) = H2 at V0 x3
      obtain ⟨y1, y2, y3, y4, y5, y6⟩ := H2
      dsimp only at x3
      subst x3
      unfold hrv3 hv at U0 V0
      dsimp only at V0
      rw [show ofL [71, 69, 84] = ⟨#[71, 69, 84]⟩ from rfl] at V0
      clear x1 x2
      replace U0 := Lib.hid U0
      replace V0 := Lib.hid V0
      clear hXV0
      clear hX hXU0 hXX
      go_enter Tryd.func9, Tryd.ntmps9
      go_wp2_with fail
      refine (anchor_any _).mono ?_
      rintro e w1 ⟨rfl, hb1⟩
      go_wp2_with fail
      refine (HL.out _).mono ?_
      rintro e w2 ⟨rfl, hb2⟩
      replace hb1 := below_chain hb1 hb2
      clear hb2 HL
      go_wp2_with fail
      refine (U0.out _).mono ?_
      rintro e w3 ⟨v1, rfl, hF1, hb3⟩
      replace hb1 := below_chain hb1 hb3
      obtain ⟨p1, c1, rfl, _, _⟩ := hF1
      replace hb1 := hb1.alloc hb1.size (.cells (hc H1 (.slice p1 H1.fields.length c1)) 25)
      unfold hc at hb1
      clear U0 hb3
      dsimp only
      iterate 18 go_step
      generalize w3.alloc (.cells #[.string (ofL H1.method), .string (ofL H1.target), .int .i64 H1.status, .string (ofL H1.reason), .int .i64 H1.minor, .slice p1 H1.fields.length c1] 25) = W3 at hb1 ⊢
      go_wp2_with fail
      refine (V0.out _).mono ?_
      rintro e w5 ⟨v2, rfl, hF2, hb5⟩
      replace hb1 := below_chain hb1 hb5
      obtain ⟨p2, c2, rfl, _, _⟩ := hF2
      clear V0 hb5
      replace hb1 := Lib.hid (hb1.alloc hb1.size (.cells #[.string ⟨#[71, 69, 84]⟩, .string (ofL y2), .int .i64 y3, .string (ofL y4), .int .i64 y5, .slice p2 y6.length c2] 25))
      go_wp2_with fail
      go_ret
      exact ⟨rfl, hb1.out⟩
set_option maxHeartbeats 1600000 in
theorem walk1 (p q : Bool) (w : World) :
    Calls Tryd.prog 9 #[.int .i64 1, .bool p, .bool q] w fun e w' => e = .returned (.bool true) ∧ Below w.heap.size w w' := by
  cases p with
  | true =>
    have HL := Lib.hid (fun w => line_any 511 (by decide) w)
    have hY : (ofL (lineL 511)).size = 511 := by rw [ofL_size]; exact List.length_replicate
    have hXX : toL (⟨#[71, 69, 84, 32, 47, 32, 72, 84, 84, 80, 47, 49, 46, 49, 13, 10, 88, 58]⟩ ++ ofL (lineL 511)) = txt1 1 := by rw [toL_append, toL_ofL]; rfl
    generalize ofL (lineL 511) = Y at *
    cases q with
    | true =>
      have hX : toL (⟨#[71, 69, 84, 32, 47, 32, 72, 84, 84, 80, 47, 49, 46, 49, 13, 10, 88, 58]⟩ ++ Y) = txt1 1 := hXX
      have hXU0 : toL (⟨#[71, 69, 84, 32, 47, 32, 72, 84, 84, 80, 47, 49, 46, 49, 13, 10, 88, 58]⟩ ++ Y ++ ⟨#[13, 10]⟩) = txt1 1 ++ E2 := by rw [toL_append, hX]; rfl
      have U0 := fun w => prequest_any (⟨#[71, 69, 84, 32, 47, 32, 72, 84, 84, 80, 47, 49, 46, 49, 13, 10, 88, 58]⟩ ++ Y ++ ⟨#[13, 10]⟩) (by rw [show (⟨#[71, 69, 84, 32, 47, 32, 72, 84, 84, 80, 47, 49, 46, 49, 13, 10, 88, 58]⟩ ++ Y ++ ⟨#[13, 10]⟩).size = (toL (⟨#[71, 69, 84, 32, 47, 32, 72, 84, 84, 80, 47, 49, 46, 49, 13, 10, 88, 58]⟩ ++ Y ++ ⟨#[13, 10]⟩)).length from (toL_length _).symm, hXU0]; decide) w
      rw [hXU0] at U0
      rw [r11e.1, r11e.2] at U0
      generalize resH (read8 false (txt1 1 ++ E2)) = H1 at U0
      unfold hrv3 hv at U0
      replace U0 := Lib.hid U0
      clear hX hXU0 hXX
      go_enter Tryd.func9, Tryd.ntmps9
      go_wp2_with fail
      refine (anchor_any _).mono ?_
      rintro e w1 ⟨rfl, hb1⟩
      go_wp2_with fail
      refine (HL.out _).mono ?_
      rintro e w2 ⟨rfl, hb2⟩
      replace hb1 := below_chain hb1 hb2
      clear hb2 HL
      go_wp2_with fail
      refine (U0.out _).mono ?_
      rintro e w3 ⟨v1, rfl, hF1, hb3⟩
      replace hb1 := below_chain hb1 hb3
      obtain ⟨p1, c1, rfl, _, _⟩ := hF1
      replace hb1 := hb1.alloc hb1.size (.cells (hc H1 (.slice p1 H1.fields.length c1)) 25)
      unfold hc at hb1
      clear U0 hb3
      dsimp only
      iterate 18 go_step
      generalize w3.alloc (.cells #[.string (ofL H1.method), .string (ofL H1.target), .int .i64 H1.status, .string (ofL H1.reason), .int .i64 H1.minor, .slice p1 H1.fields.length c1] 25) = W3 at hb1 ⊢
      go_wp2_with fail
      go_ret
      exact ⟨rfl, hb1⟩
    | false =>
      have hX : toL (⟨#[71, 69, 84, 32, 47, 32, 72, 84, 84, 80, 47, 49, 46, 49, 13, 10, 88, 58]⟩ ++ Y) = txt1 1 := hXX
      have hXU0 : toL (⟨#[71, 69, 84, 32, 47, 32, 72, 84, 84, 80, 47, 49, 46, 49, 13, 10, 88, 58]⟩ ++ Y) = txt1 1 := by exact hX
      have U0 := fun w => prequest_any (⟨#[71, 69, 84, 32, 47, 32, 72, 84, 84, 80, 47, 49, 46, 49, 13, 10, 88, 58]⟩ ++ Y) (by rw [show (⟨#[71, 69, 84, 32, 47, 32, 72, 84, 84, 80, 47, 49, 46, 49, 13, 10, 88, 58]⟩ ++ Y).size = (toL (⟨#[71, 69, 84, 32, 47, 32, 72, 84, 84, 80, 47, 49, 46, 49, 13, 10, 88, 58]⟩ ++ Y)).length from (toL_length _).symm, hXU0]; decide) w
      rw [hXU0] at U0
      rw [r11.1, r11.2] at U0
      generalize resH (read8 false (txt1 1)) = H1 at U0
      unfold hrv3 hv at U0
      replace U0 := Lib.hid U0
      clear hX hXU0 hXX
      go_enter Tryd.func9, Tryd.ntmps9
      go_wp2_with fail
      refine (anchor_any _).mono ?_
      rintro e w1 ⟨rfl, hb1⟩
      go_wp2_with fail
      refine (HL.out _).mono ?_
      rintro e w2 ⟨rfl, hb2⟩
      replace hb1 := below_chain hb1 hb2
      clear hb2 HL
      go_wp2_with fail
      refine (U0.out _).mono ?_
      rintro e w3 ⟨v1, rfl, hF1, hb3⟩
      replace hb1 := below_chain hb1 hb3
      obtain ⟨p1, c1, rfl, _, _⟩ := hF1
      replace hb1 := hb1.alloc hb1.size (.cells (hc H1 (.slice p1 H1.fields.length c1)) 25)
      unfold hc at hb1
      clear U0 hb3
      dsimp only
      iterate 18 go_step
      generalize w3.alloc (.cells #[.string (ofL H1.method), .string (ofL H1.target), .int .i64 H1.status, .string (ofL H1.reason), .int .i64 H1.minor, .slice p1 H1.fields.length c1] 25) = W3 at hb1 ⊢
      go_wp2_with fail
      go_ret
      exact ⟨rfl, hb1⟩
  | false =>
    have HL := Lib.hid (fun w => line_any 510 (by decide) w)
    have hY : (ofL (lineL 510)).size = 510 := by rw [ofL_size]; exact List.length_replicate
    have hXX : toL (⟨#[71, 69, 84, 32, 47, 32, 72, 84, 84, 80, 47, 49, 46, 49, 13, 10, 88, 58]⟩ ++ ofL (lineL 510)) = txt1 0 := by rw [toL_append, toL_ofL]; rfl
    generalize ofL (lineL 510) = Y at *
    cases q with
    | true =>
      have hX : toL (⟨#[71, 69, 84, 32, 47, 32, 72, 84, 84, 80, 47, 49, 46, 49, 13, 10, 88, 58]⟩ ++ Y) = txt1 0 := hXX
      have hXU0 : toL (⟨#[71, 69, 84, 32, 47, 32, 72, 84, 84, 80, 47, 49, 46, 49, 13, 10, 88, 58]⟩ ++ Y ++ ⟨#[13, 10]⟩) = txt1 0 ++ E2 := by rw [toL_append, hX]; rfl
      have U0 := fun w => prequest_any (⟨#[71, 69, 84, 32, 47, 32, 72, 84, 84, 80, 47, 49, 46, 49, 13, 10, 88, 58]⟩ ++ Y ++ ⟨#[13, 10]⟩) (by rw [show (⟨#[71, 69, 84, 32, 47, 32, 72, 84, 84, 80, 47, 49, 46, 49, 13, 10, 88, 58]⟩ ++ Y ++ ⟨#[13, 10]⟩).size = (toL (⟨#[71, 69, 84, 32, 47, 32, 72, 84, 84, 80, 47, 49, 46, 49, 13, 10, 88, 58]⟩ ++ Y ++ ⟨#[13, 10]⟩)).length from (toL_length _).symm, hXU0]; decide) w
      rw [hXU0] at U0
      have hXV0 : toL (⟨#[71, 69, 84, 32, 47, 32, 72, 84, 84, 80, 47, 49, 46, 49, 13, 10, 88, 58]⟩ ++ Y ++ ⟨#[13, 10]⟩ ++ ⟨#[13, 10]⟩) = txt1 0 ++ E2 ++ E2 := by rw [toL_append, toL_append, hX]; rfl
      have V0 := fun w => prequest_any (⟨#[71, 69, 84, 32, 47, 32, 72, 84, 84, 80, 47, 49, 46, 49, 13, 10, 88, 58]⟩ ++ Y ++ ⟨#[13, 10]⟩ ++ ⟨#[13, 10]⟩) (by rw [show (⟨#[71, 69, 84, 32, 47, 32, 72, 84, 84, 80, 47, 49, 46, 49, 13, 10, 88, 58]⟩ ++ Y ++ ⟨#[13, 10]⟩ ++ ⟨#[13, 10]⟩).size = (toL (⟨#[71, 69, 84, 32, 47, 32, 72, 84, 84, 80, 47, 49, 46, 49, 13, 10, 88, 58]⟩ ++ Y ++ ⟨#[13, 10]⟩ ++ ⟨#[13, 10]⟩)).length from (toL_length _).symm, hXV0]; decide) w
      rw [hXV0] at V0
      rw [r10e.1, r10e.2] at U0
      generalize resH (read8 false (txt1 0 ++ E2)) = H1 at U0
      obtain ⟨x1, x2, x3⟩ := r10d
      rw [x1, x2, show (txt1 0).length + 4 = 532 by decide] at V0
      generalize resH (read8 false (txt1 0 ++ E2 ++ E2)) = H2 at V0 x3
      obtain ⟨y1, y2, y3, y4, y5, y6⟩ := H2
      dsimp only at x3
      subst x3
      unfold hrv3 hv at U0 V0
      dsimp only at V0
      rw [show ofL [71, 69, 84] = ⟨#[71, 69, 84]⟩ from rfl] at V0
      clear x1 x2
      replace U0 := Lib.hid U0
      replace V0 := Lib.hid V0
      clear hXV0
      clear hX hXU0 hXX
      go_enter Tryd.func9, Tryd.ntmps9
      go_wp2_with fail
      refine (anchor_any _).mono ?_
      rintro e w1 ⟨rfl, hb1⟩
      go_wp2_with fail
      refine (HL.out _).mono ?_
      rintro e w2 ⟨rfl, hb2⟩
      replace hb1 := below_chain hb1 hb2
      clear hb2 HL
      go_wp2_with fail
      refine (U0.out _).mono ?_
      rintro e w3 ⟨v1, rfl, hF1, hb3⟩
      replace hb1 := below_chain hb1 hb3
      obtain ⟨p1, c1, rfl, _, _⟩ := hF1
      replace hb1 := hb1.alloc hb1.size (.cells (hc H1 (.slice p1 H1.fields.length c1)) 25)
      unfold hc at hb1
      clear U0 hb3
      dsimp only
      iterate 18 go_step
      generalize w3.alloc (.cells #[.string (ofL H1.method), .string (ofL H1.target), .int .i64 H1.status, .string (ofL H1.reason), .int .i64 H1.minor, .slice p1 H1.fields.length c1] 25) = W3 at hb1 ⊢
      go_wp2_with fail
      refine (V0.out _).mono ?_
      rintro e w5 ⟨v2, rfl, hF2, hb5⟩
      replace hb1 := below_chain hb1 hb5
      obtain ⟨p2, c2, rfl, _, _⟩ := hF2
      clear V0 hb5
      replace hb1 := Lib.hid (hb1.alloc hb1.size (.cells #[.string ⟨#[71, 69, 84]⟩, .string (ofL y2), .int .i64 y3, .string (ofL y4), .int .i64 y5, .slice p2 y6.length c2] 25))
      go_wp2_with fail
      go_ret
      exact ⟨rfl, hb1.out⟩
    | false =>
      have hX : toL (⟨#[71, 69, 84, 32, 47, 32, 72, 84, 84, 80, 47, 49, 46, 49, 13, 10, 88, 58]⟩ ++ Y) = txt1 0 := hXX
      have hXU0 : toL (⟨#[71, 69, 84, 32, 47, 32, 72, 84, 84, 80, 47, 49, 46, 49, 13, 10, 88, 58]⟩ ++ Y) = txt1 0 := by exact hX
      have U0 := fun w => prequest_any (⟨#[71, 69, 84, 32, 47, 32, 72, 84, 84, 80, 47, 49, 46, 49, 13, 10, 88, 58]⟩ ++ Y) (by rw [show (⟨#[71, 69, 84, 32, 47, 32, 72, 84, 84, 80, 47, 49, 46, 49, 13, 10, 88, 58]⟩ ++ Y).size = (toL (⟨#[71, 69, 84, 32, 47, 32, 72, 84, 84, 80, 47, 49, 46, 49, 13, 10, 88, 58]⟩ ++ Y)).length from (toL_length _).symm, hXU0]; decide) w
      rw [hXU0] at U0
      have hXV0 : toL (⟨#[71, 69, 84, 32, 47, 32, 72, 84, 84, 80, 47, 49, 46, 49, 13, 10, 88, 58]⟩ ++ Y ++ ⟨#[13, 10]⟩ ++ ⟨#[13, 10]⟩) = txt1 0 ++ E2 ++ E2 := by rw [toL_append, toL_append, hX]; rfl
      have V0 := fun w => prequest_any (⟨#[71, 69, 84, 32, 47, 32, 72, 84, 84, 80, 47, 49, 46, 49, 13, 10, 88, 58]⟩ ++ Y ++ ⟨#[13, 10]⟩ ++ ⟨#[13, 10]⟩) (by rw [show (⟨#[71, 69, 84, 32, 47, 32, 72, 84, 84, 80, 47, 49, 46, 49, 13, 10, 88, 58]⟩ ++ Y ++ ⟨#[13, 10]⟩ ++ ⟨#[13, 10]⟩).size = (toL (⟨#[71, 69, 84, 32, 47, 32, 72, 84, 84, 80, 47, 49, 46, 49, 13, 10, 88, 58]⟩ ++ Y ++ ⟨#[13, 10]⟩ ++ ⟨#[13, 10]⟩)).length from (toL_length _).symm, hXV0]; decide) w
      rw [hXV0] at V0
      rw [r10.1, r10.2] at U0
      generalize resH (read8 false (txt1 0)) = H1 at U0
      obtain ⟨x1, x2, x3⟩ := r10d
      rw [x1, x2, show (txt1 0).length + 4 = 532 by decide] at V0
      generalize resH (read8 false (txt1 0 ++ E2 ++ E2)) = H2 at V0 x3
      obtain ⟨y1, y2, y3, y4, y5, y6⟩ := H2
      dsimp only at x3
      subst x3
      unfold hrv3 hv at U0 V0
      dsimp only at V0
      rw [show ofL [71, 69, 84] = ⟨#[71, 69, 84]⟩ from rfl] at V0
      clear x1 x2
      replace U0 := Lib.hid U0
      replace V0 := Lib.hid V0
      clear hXV0
      clear hX hXU0 hXX
      go_enter Tryd.func9, Tryd.ntmps9
      go_wp2_with fail
      refine (anchor_any _).mono ?_
      rintro e w1 ⟨rfl, hb1⟩
      go_wp2_with fail
      refine (HL.out _).mono ?_
      rintro e w2 ⟨rfl, hb2⟩
      replace hb1 := below_chain hb1 hb2
      clear hb2 HL
      go_wp2_with fail
      refine (U0.out _).mono ?_
      rintro e w3 ⟨v1, rfl, hF1, hb3⟩
      replace hb1 := below_chain hb1 hb3
      obtain ⟨p1, c1, rfl, _, _⟩ := hF1
      replace hb1 := hb1.alloc hb1.size (.cells (hc H1 (.slice p1 H1.fields.length c1)) 25)
      unfold hc at hb1
      clear U0 hb3
      dsimp only
      iterate 18 go_step
      generalize w3.alloc (.cells #[.string (ofL H1.method), .string (ofL H1.target), .int .i64 H1.status, .string (ofL H1.reason), .int .i64 H1.minor, .slice p1 H1.fields.length c1] 25) = W3 at hb1 ⊢
      go_wp2_with fail
      refine (V0.out _).mono ?_
      rintro e w5 ⟨v2, rfl, hF2, hb5⟩
      replace hb1 := below_chain hb1 hb5
      obtain ⟨p2, c2, rfl, _, _⟩ := hF2
      clear V0 hb5
      replace hb1 := Lib.hid (hb1.alloc hb1.size (.cells #[.string ⟨#[71, 69, 84]⟩, .string (ofL y2), .int .i64 y3, .string (ofL y4), .int .i64 y5, .slice p2 y6.length c2] 25))
      go_wp2_with fail
      go_ret
      exact ⟨rfl, hb1.out⟩
theorem ones_next (k : Nat) : ofL ([71, 69, 84, 32, 47, 32, 72, 84, 84, 80, 47, 49, 46, 49, 13, 10] ++ ones k) ++ ⟨#[88, 58, 121, 13, 10]⟩ = ofL ([71, 69, 84, 32, 47, 32, 72, 84, 84, 80, 47, 49, 46, 49, 13, 10] ++ ones (k + 1)) := by
  refine toL_inj ?_
  rw [toL_append, toL_ofL, toL_ofL]
  unfold ones
  rw [List.replicate_succ', List.flatten_append, List.append_assoc]
  rfl
theorem ones_len (k : Nat) : (ones k).length = 5 * k := by
  unfold ones
  rw [List.length_flatten]
  simp
  omega
set_option maxHeartbeats 1600000 in
theorem walk2 (p q : Bool) (w : World) :
    Calls Tryd.prog 9 #[.int .i64 2, .bool p, .bool q] w fun e w' => e = .returned (.bool true) ∧ Below w.heap.size w w' := by
  cases p with
  | true =>
    have hYl : (ofL ([71, 69, 84, 32, 47, 32, 72, 84, 84, 80, 47, 49, 46, 49, 13, 10] ++ ones 32)).size = 176 := by rw [ofL_size, List.length_append, ones_len]; rfl
    have hXX : toL (ofL ([71, 69, 84, 32, 47, 32, 72, 84, 84, 80, 47, 49, 46, 49, 13, 10] ++ ones 32) ++ ⟨#[88, 58, 121]⟩) = txt2 1 := by rw [toL_append, toL_ofL]; rfl
    cases q with
    | true =>
      have hX : toL (ofL ([71, 69, 84, 32, 47, 32, 72, 84, 84, 80, 47, 49, 46, 49, 13, 10] ++ ones 32) ++ ⟨#[88, 58, 121]⟩) = txt2 1 := hXX
      have hXU0 : toL (ofL ([71, 69, 84, 32, 47, 32, 72, 84, 84, 80, 47, 49, 46, 49, 13, 10] ++ ones 32) ++ ⟨#[88, 58, 121]⟩ ++ ⟨#[13, 10]⟩) = txt2 1 ++ E2 := by rw [toL_append, hX]; rfl
      have U0 := fun w => prequest_any (ofL ([71, 69, 84, 32, 47, 32, 72, 84, 84, 80, 47, 49, 46, 49, 13, 10] ++ ones 32) ++ ⟨#[88, 58, 121]⟩ ++ ⟨#[13, 10]⟩) (by rw [show (ofL ([71, 69, 84, 32, 47, 32, 72, 84, 84, 80, 47, 49, 46, 49, 13, 10] ++ ones 32) ++ ⟨#[88, 58, 121]⟩ ++ ⟨#[13, 10]⟩).size = (toL (ofL ([71, 69, 84, 32, 47, 32, 72, 84, 84, 80, 47, 49, 46, 49, 13, 10] ++ ones 32) ++ ⟨#[88, 58, 121]⟩ ++ ⟨#[13, 10]⟩)).length from (toL_length _).symm, hXU0]; decide) w
      rw [hXU0] at U0
      rw [r21e.1, r21e.2] at U0
      generalize resH (read8 false (txt2 1 ++ E2)) = H1 at U0
      unfold hrv3 hv at U0
      replace U0 := Lib.hid U0
      clear hX hXU0 hXX
      go_enter Tryd.func9, Tryd.ntmps9
      go_wp2_with fail
      refine (anchor_any _).mono ?_
      rintro e w1 ⟨rfl, hb1⟩
      replace hYl := Lib.hid hYl
      have h0 : (⟨#[71, 69, 84, 32, 47, 32, 72, 84, 84, 80, 47, 49, 46, 49, 13, 10]⟩ : ByteArray) = ofL ([71, 69, 84, 32, 47, 32, 72, 84, 84, 80, 47, 49, 46, 49, 13, 10] ++ ones 0) := rfl
      go_wp2_with fail
      go_loop [8, 10] (fun x i => ∃ k : Nat, k ≤ 32 ∧ i = .int .i64 k ∧ x = .string (ofL ([71, 69, 84, 32, 47, 32, 72, 84, 84, 80, 47, 49, 46, 49, 13, 10] ++ ones k)) ∧ Hid (k ≤ 32)) (fun _ i => 32 - (intOf i).toNat)
      case atStart => exact ⟨0, Nat.zero_le _, rfl, by rw [← h0], Lib.hid (Nat.zero_le _)⟩
      case round =>
        clear h0
        obtain ⟨k, hk, rfl, rfl, _⟩ := hrel
        by_cases hlt : k < 32
        · have hki : (k : Int) < 32 := by omega
          have hr := Lib.hid (ones_next k)
          have hs : (ofL ([71, 69, 84, 32, 47, 32, 72, 84, 84, 80, 47, 49, 46, 49, 13, 10] ++ ones k)).size = 16 + 5 * k := by rw [ofL_size, List.length_append, ones_len]; rfl
          have hq : (ofL ([71, 69, 84, 32, 47, 32, 72, 84, 84, 80, 47, 49, 46, 49, 13, 10] ++ ones k)).size + 5 ≤ 9223372036854775807 := by omega
          generalize ofL ([71, 69, 84, 32, 47, 32, 72, 84, 84, 80, 47, 49, 46, 49, 13, 10] ++ ones k) = Y at *
          clear hs
          go_wp2_with fail
          go_round
          case rel => exact ⟨k + 1, by omega, by go_num, by rw [← hr.out], Lib.hid (by omega)⟩
          case measure => simp [intOf]; omega
        · have hki : ¬ ((k : Int) < 32) := by omega
          have hkl : k = 32 := by omega
          subst hkl
          have hY := hYl.out
          clear hYl hlt hk
          generalize ofL ([71, 69, 84, 32, 47, 32, 72, 84, 84, 80, 47, 49, 46, 49, 13, 10] ++ ones 32) = Y at *
          go_wp2_with fail
          refine (U0.out _).mono ?_
          rintro e w3 ⟨v1, rfl, hF1, hb3⟩
          replace hb1 := below_chain hb1 hb3
          obtain ⟨p1, c1, rfl, _, _⟩ := hF1
          replace hb1 := hb1.alloc hb1.size (.cells (hc H1 (.slice p1 H1.fields.length c1)) 25)
          unfold hc at hb1
          clear U0 hb3
          dsimp only
          iterate 18 go_step
          generalize w3.alloc (.cells #[.string (ofL H1.method), .string (ofL H1.target), .int .i64 H1.status, .string (ofL H1.reason), .int .i64 H1.minor, .slice p1 H1.fields.length c1] 25) = W3 at hb1 ⊢
          go_wp2_with fail
          go_ret
          exact ⟨rfl, hb1⟩
    | false =>
      have hX : toL (ofL ([71, 69, 84, 32, 47, 32, 72, 84, 84, 80, 47, 49, 46, 49, 13, 10] ++ ones 32) ++ ⟨#[88, 58, 121]⟩) = txt2 1 := hXX
      have hXU0 : toL (ofL ([71, 69, 84, 32, 47, 32, 72, 84, 84, 80, 47, 49, 46, 49, 13, 10] ++ ones 32) ++ ⟨#[88, 58, 121]⟩) = txt2 1 := by exact hX
      have U0 := fun w => prequest_any (ofL ([71, 69, 84, 32, 47, 32, 72, 84, 84, 80, 47, 49, 46, 49, 13, 10] ++ ones 32) ++ ⟨#[88, 58, 121]⟩) (by rw [show (ofL ([71, 69, 84, 32, 47, 32, 72, 84, 84, 80, 47, 49, 46, 49, 13, 10] ++ ones 32) ++ ⟨#[88, 58, 121]⟩).size = (toL (ofL ([71, 69, 84, 32, 47, 32, 72, 84, 84, 80, 47, 49, 46, 49, 13, 10] ++ ones 32) ++ ⟨#[88, 58, 121]⟩)).length from (toL_length _).symm, hXU0]; decide) w
      rw [hXU0] at U0
      have hXV0 : toL (ofL ([71, 69, 84, 32, 47, 32, 72, 84, 84, 80, 47, 49, 46, 49, 13, 10] ++ ones 32) ++ ⟨#[88, 58, 121]⟩ ++ ⟨#[13, 10]⟩ ++ ⟨#[13, 10]⟩) = txt2 1 ++ E2 ++ E2 := by rw [toL_append, toL_append, hX]; rfl
      have V0 := fun w => prequest_any (ofL ([71, 69, 84, 32, 47, 32, 72, 84, 84, 80, 47, 49, 46, 49, 13, 10] ++ ones 32) ++ ⟨#[88, 58, 121]⟩ ++ ⟨#[13, 10]⟩ ++ ⟨#[13, 10]⟩) (by rw [show (ofL ([71, 69, 84, 32, 47, 32, 72, 84, 84, 80, 47, 49, 46, 49, 13, 10] ++ ones 32) ++ ⟨#[88, 58, 121]⟩ ++ ⟨#[13, 10]⟩ ++ ⟨#[13, 10]⟩).size = (toL (ofL ([71, 69, 84, 32, 47, 32, 72, 84, 84, 80, 47, 49, 46, 49, 13, 10] ++ ones 32) ++ ⟨#[88, 58, 121]⟩ ++ ⟨#[13, 10]⟩ ++ ⟨#[13, 10]⟩)).length from (toL_length _).symm, hXV0]; decide) w
      rw [hXV0] at V0
      rw [r21.1, r21.2] at U0
      generalize resH (read8 false (txt2 1)) = H1 at U0
      rw [r21d] at V0
      generalize resH (read8 false (txt2 1 ++ E2 ++ E2)) = H2 at V0
      generalize resN (read8 false (txt2 1 ++ E2 ++ E2)) = m at V0
      unfold hrv3 hv at U0 V0
      replace U0 := Lib.hid U0
      replace V0 := Lib.hid V0
      clear hXV0
      clear hX hXU0 hXX
      go_enter Tryd.func9, Tryd.ntmps9
      go_wp2_with fail
      refine (anchor_any _).mono ?_
      rintro e w1 ⟨rfl, hb1⟩
      replace hYl := Lib.hid hYl
      have h0 : (⟨#[71, 69, 84, 32, 47, 32, 72, 84, 84, 80, 47, 49, 46, 49, 13, 10]⟩ : ByteArray) = ofL ([71, 69, 84, 32, 47, 32, 72, 84, 84, 80, 47, 49, 46, 49, 13, 10] ++ ones 0) := rfl
      go_wp2_with fail
      go_loop [8, 10] (fun x i => ∃ k : Nat, k ≤ 32 ∧ i = .int .i64 k ∧ x = .string (ofL ([71, 69, 84, 32, 47, 32, 72, 84, 84, 80, 47, 49, 46, 49, 13, 10] ++ ones k)) ∧ Hid (k ≤ 32)) (fun _ i => 32 - (intOf i).toNat)
      case atStart => exact ⟨0, Nat.zero_le _, rfl, by rw [← h0], Lib.hid (Nat.zero_le _)⟩
      case round =>
        clear h0
        obtain ⟨k, hk, rfl, rfl, _⟩ := hrel
        by_cases hlt : k < 32
        · have hki : (k : Int) < 32 := by omega
          have hr := Lib.hid (ones_next k)
          have hs : (ofL ([71, 69, 84, 32, 47, 32, 72, 84, 84, 80, 47, 49, 46, 49, 13, 10] ++ ones k)).size = 16 + 5 * k := by rw [ofL_size, List.length_append, ones_len]; rfl
          have hq : (ofL ([71, 69, 84, 32, 47, 32, 72, 84, 84, 80, 47, 49, 46, 49, 13, 10] ++ ones k)).size + 5 ≤ 9223372036854775807 := by omega
          generalize ofL ([71, 69, 84, 32, 47, 32, 72, 84, 84, 80, 47, 49, 46, 49, 13, 10] ++ ones k) = Y at *
          clear hs
          go_wp2_with fail
          go_round
          case rel => exact ⟨k + 1, by omega, by go_num, by rw [← hr.out], Lib.hid (by omega)⟩
          case measure => simp [intOf]; omega
        · have hki : ¬ ((k : Int) < 32) := by omega
          have hkl : k = 32 := by omega
          subst hkl
          have hY := hYl.out
          clear hYl hlt hk
          generalize ofL ([71, 69, 84, 32, 47, 32, 72, 84, 84, 80, 47, 49, 46, 49, 13, 10] ++ ones 32) = Y at *
          go_wp2_with fail
          refine (U0.out _).mono ?_
          rintro e w3 ⟨v1, rfl, hF1, hb3⟩
          replace hb1 := below_chain hb1 hb3
          obtain ⟨p1, c1, rfl, _, _⟩ := hF1
          replace hb1 := hb1.alloc hb1.size (.cells (hc H1 (.slice p1 H1.fields.length c1)) 25)
          unfold hc at hb1
          clear U0 hb3
          dsimp only
          iterate 18 go_step
          generalize w3.alloc (.cells #[.string (ofL H1.method), .string (ofL H1.target), .int .i64 H1.status, .string (ofL H1.reason), .int .i64 H1.minor, .slice p1 H1.fields.length c1] 25) = W3 at hb1 ⊢
          go_wp2_with fail
          refine (V0.out _).mono ?_
          rintro e w5 ⟨v2, rfl, hF2, hb5⟩
          replace hb1 := below_chain hb1 hb5
          obtain ⟨p2, c2, rfl, _, _⟩ := hF2
          clear V0 hb5
          replace hb1 := Lib.hid (hb1.alloc hb1.size (.cells #[.string (ofL H2.method), .string (ofL H2.target), .int .i64 H2.status, .string (ofL H2.reason), .int .i64 H2.minor, .slice p2 H2.fields.length c2] 25))
          go_wp2_with fail
          go_ret
          exact ⟨rfl, hb1.out⟩
  | false =>
    have hYl : (ofL ([71, 69, 84, 32, 47, 32, 72, 84, 84, 80, 47, 49, 46, 49, 13, 10] ++ ones 31)).size = 171 := by rw [ofL_size, List.length_append, ones_len]; rfl
    have hXX : toL (ofL ([71, 69, 84, 32, 47, 32, 72, 84, 84, 80, 47, 49, 46, 49, 13, 10] ++ ones 31) ++ ⟨#[88, 58, 121]⟩) = txt2 0 := by rw [toL_append, toL_ofL]; rfl
    cases q with
    | true =>
      have hX : toL (ofL ([71, 69, 84, 32, 47, 32, 72, 84, 84, 80, 47, 49, 46, 49, 13, 10] ++ ones 31) ++ ⟨#[88, 58, 121]⟩) = txt2 0 := hXX
      have hXU0 : toL (ofL ([71, 69, 84, 32, 47, 32, 72, 84, 84, 80, 47, 49, 46, 49, 13, 10] ++ ones 31) ++ ⟨#[88, 58, 121]⟩ ++ ⟨#[13, 10]⟩) = txt2 0 ++ E2 := by rw [toL_append, hX]; rfl
      have U0 := fun w => prequest_any (ofL ([71, 69, 84, 32, 47, 32, 72, 84, 84, 80, 47, 49, 46, 49, 13, 10] ++ ones 31) ++ ⟨#[88, 58, 121]⟩ ++ ⟨#[13, 10]⟩) (by rw [show (ofL ([71, 69, 84, 32, 47, 32, 72, 84, 84, 80, 47, 49, 46, 49, 13, 10] ++ ones 31) ++ ⟨#[88, 58, 121]⟩ ++ ⟨#[13, 10]⟩).size = (toL (ofL ([71, 69, 84, 32, 47, 32, 72, 84, 84, 80, 47, 49, 46, 49, 13, 10] ++ ones 31) ++ ⟨#[88, 58, 121]⟩ ++ ⟨#[13, 10]⟩)).length from (toL_length _).symm, hXU0]; decide) w
      rw [hXU0] at U0
      have hXV0 : toL (ofL ([71, 69, 84, 32, 47, 32, 72, 84, 84, 80, 47, 49, 46, 49, 13, 10] ++ ones 31) ++ ⟨#[88, 58, 121]⟩ ++ ⟨#[13, 10]⟩ ++ ⟨#[13, 10]⟩) = txt2 0 ++ E2 ++ E2 := by rw [toL_append, toL_append, hX]; rfl
      have V0 := fun w => prequest_any (ofL ([71, 69, 84, 32, 47, 32, 72, 84, 84, 80, 47, 49, 46, 49, 13, 10] ++ ones 31) ++ ⟨#[88, 58, 121]⟩ ++ ⟨#[13, 10]⟩ ++ ⟨#[13, 10]⟩) (by rw [show (ofL ([71, 69, 84, 32, 47, 32, 72, 84, 84, 80, 47, 49, 46, 49, 13, 10] ++ ones 31) ++ ⟨#[88, 58, 121]⟩ ++ ⟨#[13, 10]⟩ ++ ⟨#[13, 10]⟩).size = (toL (ofL ([71, 69, 84, 32, 47, 32, 72, 84, 84, 80, 47, 49, 46, 49, 13, 10] ++ ones 31) ++ ⟨#[88, 58, 121]⟩ ++ ⟨#[13, 10]⟩ ++ ⟨#[13, 10]⟩)).length from (toL_length _).symm, hXV0]; decide) w
      rw [hXV0] at V0
      rw [r20e.1, r20e.2] at U0
      generalize resH (read8 false (txt2 0 ++ E2)) = H1 at U0
      obtain ⟨x1, x2, x3⟩ := r20d
      rw [x1, x2, show (txt2 0).length + 4 = 178 by decide] at V0
      generalize resH (read8 false (txt2 0 ++ E2 ++ E2)) = H2 at V0 x3
      obtain ⟨y1, y2, y3, y4, y5, y6⟩ := H2
      dsimp only at x3
      subst x3
      unfold hrv3 hv at U0 V0
      dsimp only at V0
      rw [show ofL [71, 69, 84] = ⟨#[71, 69, 84]⟩ from rfl] at V0
      clear x1 x2
      replace U0 := Lib.hid U0
      replace V0 := Lib.hid V0
      clear hXV0
      clear hX hXU0 hXX
      go_enter Tryd.func9, Tryd.ntmps9
      go_wp2_with fail
      refine (anchor_any _).mono ?_
      rintro e w1 ⟨rfl, hb1⟩
      replace hYl := Lib.hid hYl
      have h0 : (⟨#[71, 69, 84, 32, 47, 32, 72, 84, 84, 80, 47, 49, 46, 49, 13, 10]⟩ : ByteArray) = ofL ([71, 69, 84, 32, 47, 32, 72, 84, 84, 80, 47, 49, 46, 49, 13, 10] ++ ones 0) := rfl
      go_wp2_with fail
      go_loop [8, 10] (fun x i => ∃ k : Nat, k ≤ 31 ∧ i = .int .i64 k ∧ x = .string (ofL ([71, 69, 84, 32, 47, 32, 72, 84, 84, 80, 47, 49, 46, 49, 13, 10] ++ ones k)) ∧ Hid (k ≤ 31)) (fun _ i => 31 - (intOf i).toNat)
      case atStart => exact ⟨0, Nat.zero_le _, rfl, by rw [← h0], Lib.hid (Nat.zero_le _)⟩
      case round =>
        clear h0
        obtain ⟨k, hk, rfl, rfl, _⟩ := hrel
        by_cases hlt : k < 31
        · have hki : (k : Int) < 31 := by omega
          have hr := Lib.hid (ones_next k)
          have hs : (ofL ([71, 69, 84, 32, 47, 32, 72, 84, 84, 80, 47, 49, 46, 49, 13, 10] ++ ones k)).size = 16 + 5 * k := by rw [ofL_size, List.length_append, ones_len]; rfl
          have hq : (ofL ([71, 69, 84, 32, 47, 32, 72, 84, 84, 80, 47, 49, 46, 49, 13, 10] ++ ones k)).size + 5 ≤ 9223372036854775807 := by omega
          generalize ofL ([71, 69, 84, 32, 47, 32, 72, 84, 84, 80, 47, 49, 46, 49, 13, 10] ++ ones k) = Y at *
          clear hs
          go_wp2_with fail
          go_round
          case rel => exact ⟨k + 1, by omega, by go_num, by rw [← hr.out], Lib.hid (by omega)⟩
          case measure => simp [intOf]; omega
        · have hki : ¬ ((k : Int) < 31) := by omega
          have hkl : k = 31 := by omega
          subst hkl
          have hY := hYl.out
          clear hYl hlt hk
          generalize ofL ([71, 69, 84, 32, 47, 32, 72, 84, 84, 80, 47, 49, 46, 49, 13, 10] ++ ones 31) = Y at *
          go_wp2_with fail
          refine (U0.out _).mono ?_
          rintro e w3 ⟨v1, rfl, hF1, hb3⟩
          replace hb1 := below_chain hb1 hb3
          obtain ⟨p1, c1, rfl, _, _⟩ := hF1
          replace hb1 := hb1.alloc hb1.size (.cells (hc H1 (.slice p1 H1.fields.length c1)) 25)
          unfold hc at hb1
          clear U0 hb3
          dsimp only
          iterate 18 go_step
          generalize w3.alloc (.cells #[.string (ofL H1.method), .string (ofL H1.target), .int .i64 H1.status, .string (ofL H1.reason), .int .i64 H1.minor, .slice p1 H1.fields.length c1] 25) = W3 at hb1 ⊢
          go_wp2_with fail
          refine (V0.out _).mono ?_
          rintro e w5 ⟨v2, rfl, hF2, hb5⟩
          replace hb1 := below_chain hb1 hb5
          obtain ⟨p2, c2, rfl, _, _⟩ := hF2
          clear V0 hb5
          replace hb1 := Lib.hid (hb1.alloc hb1.size (.cells #[.string ⟨#[71, 69, 84]⟩, .string (ofL y2), .int .i64 y3, .string (ofL y4), .int .i64 y5, .slice p2 y6.length c2] 25))
          go_wp2_with fail
          go_ret
          exact ⟨rfl, hb1.out⟩
    | false =>
      have hX : toL (ofL ([71, 69, 84, 32, 47, 32, 72, 84, 84, 80, 47, 49, 46, 49, 13, 10] ++ ones 31) ++ ⟨#[88, 58, 121]⟩) = txt2 0 := hXX
      have hXU0 : toL (ofL ([71, 69, 84, 32, 47, 32, 72, 84, 84, 80, 47, 49, 46, 49, 13, 10] ++ ones 31) ++ ⟨#[88, 58, 121]⟩) = txt2 0 := by exact hX
      have U0 := fun w => prequest_any (ofL ([71, 69, 84, 32, 47, 32, 72, 84, 84, 80, 47, 49, 46, 49, 13, 10] ++ ones 31) ++ ⟨#[88, 58, 121]⟩) (by rw [show (ofL ([71, 69, 84, 32, 47, 32, 72, 84, 84, 80, 47, 49, 46, 49, 13, 10] ++ ones 31) ++ ⟨#[88, 58, 121]⟩).size = (toL (ofL ([71, 69, 84, 32, 47, 32, 72, 84, 84, 80, 47, 49, 46, 49, 13, 10] ++ ones 31) ++ ⟨#[88, 58, 121]⟩)).length from (toL_length _).symm, hXU0]; decide) w
      rw [hXU0] at U0
      have hXV0 : toL (ofL ([71, 69, 84, 32, 47, 32, 72, 84, 84, 80, 47, 49, 46, 49, 13, 10] ++ ones 31) ++ ⟨#[88, 58, 121]⟩ ++ ⟨#[13, 10]⟩ ++ ⟨#[13, 10]⟩) = txt2 0 ++ E2 ++ E2 := by rw [toL_append, toL_append, hX]; rfl
      have V0 := fun w => prequest_any (ofL ([71, 69, 84, 32, 47, 32, 72, 84, 84, 80, 47, 49, 46, 49, 13, 10] ++ ones 31) ++ ⟨#[88, 58, 121]⟩ ++ ⟨#[13, 10]⟩ ++ ⟨#[13, 10]⟩) (by rw [show (ofL ([71, 69, 84, 32, 47, 32, 72, 84, 84, 80, 47, 49, 46, 49, 13, 10] ++ ones 31) ++ ⟨#[88, 58, 121]⟩ ++ ⟨#[13, 10]⟩ ++ ⟨#[13, 10]⟩).size = (toL (ofL ([71, 69, 84, 32, 47, 32, 72, 84, 84, 80, 47, 49, 46, 49, 13, 10] ++ ones 31) ++ ⟨#[88, 58, 121]⟩ ++ ⟨#[13, 10]⟩ ++ ⟨#[13, 10]⟩)).length from (toL_length _).symm, hXV0]; decide) w
      rw [hXV0] at V0
      rw [r20.1, r20.2] at U0
      generalize resH (read8 false (txt2 0)) = H1 at U0
      obtain ⟨x1, x2, x3⟩ := r20d
      rw [x1, x2, show (txt2 0).length + 4 = 178 by decide] at V0
      generalize resH (read8 false (txt2 0 ++ E2 ++ E2)) = H2 at V0 x3
      obtain ⟨y1, y2, y3, y4, y5, y6⟩ := H2
      dsimp only at x3
      subst x3
      unfold hrv3 hv at U0 V0
      dsimp only at V0
      rw [show ofL [71, 69, 84] = ⟨#[71, 69, 84]⟩ from rfl] at V0
      clear x1 x2
      replace U0 := Lib.hid U0
      replace V0 := Lib.hid V0
      clear hXV0
      clear hX hXU0 hXX
      go_enter Tryd.func9, Tryd.ntmps9
      go_wp2_with fail
      refine (anchor_any _).mono ?_
      rintro e w1 ⟨rfl, hb1⟩
      replace hYl := Lib.hid hYl
      have h0 : (⟨#[71, 69, 84, 32, 47, 32, 72, 84, 84, 80, 47, 49, 46, 49, 13, 10]⟩ : ByteArray) = ofL ([71, 69, 84, 32, 47, 32, 72, 84, 84, 80, 47, 49, 46, 49, 13, 10] ++ ones 0) := rfl
      go_wp2_with fail
      go_loop [8, 10] (fun x i => ∃ k : Nat, k ≤ 31 ∧ i = .int .i64 k ∧ x = .string (ofL ([71, 69, 84, 32, 47, 32, 72, 84, 84, 80, 47, 49, 46, 49, 13, 10] ++ ones k)) ∧ Hid (k ≤ 31)) (fun _ i => 31 - (intOf i).toNat)
      case atStart => exact ⟨0, Nat.zero_le _, rfl, by rw [← h0], Lib.hid (Nat.zero_le _)⟩
      case round =>
        clear h0
        obtain ⟨k, hk, rfl, rfl, _⟩ := hrel
        by_cases hlt : k < 31
        · have hki : (k : Int) < 31 := by omega
          have hr := Lib.hid (ones_next k)
          have hs : (ofL ([71, 69, 84, 32, 47, 32, 72, 84, 84, 80, 47, 49, 46, 49, 13, 10] ++ ones k)).size = 16 + 5 * k := by rw [ofL_size, List.length_append, ones_len]; rfl
          have hq : (ofL ([71, 69, 84, 32, 47, 32, 72, 84, 84, 80, 47, 49, 46, 49, 13, 10] ++ ones k)).size + 5 ≤ 9223372036854775807 := by omega
          generalize ofL ([71, 69, 84, 32, 47, 32, 72, 84, 84, 80, 47, 49, 46, 49, 13, 10] ++ ones k) = Y at *
          clear hs
          go_wp2_with fail
          go_round
          case rel => exact ⟨k + 1, by omega, by go_num, by rw [← hr.out], Lib.hid (by omega)⟩
          case measure => simp [intOf]; omega
        · have hki : ¬ ((k : Int) < 31) := by omega
          have hkl : k = 31 := by omega
          subst hkl
          have hY := hYl.out
          clear hYl hlt hk
          generalize ofL ([71, 69, 84, 32, 47, 32, 72, 84, 84, 80, 47, 49, 46, 49, 13, 10] ++ ones 31) = Y at *
          go_wp2_with fail
          refine (U0.out _).mono ?_
          rintro e w3 ⟨v1, rfl, hF1, hb3⟩
          replace hb1 := below_chain hb1 hb3
          obtain ⟨p1, c1, rfl, _, _⟩ := hF1
          replace hb1 := hb1.alloc hb1.size (.cells (hc H1 (.slice p1 H1.fields.length c1)) 25)
          unfold hc at hb1
          clear U0 hb3
          dsimp only
          iterate 18 go_step
          generalize w3.alloc (.cells #[.string (ofL H1.method), .string (ofL H1.target), .int .i64 H1.status, .string (ofL H1.reason), .int .i64 H1.minor, .slice p1 H1.fields.length c1] 25) = W3 at hb1 ⊢
          go_wp2_with fail
          refine (V0.out _).mono ?_
          rintro e w5 ⟨v2, rfl, hF2, hb5⟩
          replace hb1 := below_chain hb1 hb5
          obtain ⟨p2, c2, rfl, _, _⟩ := hF2
          clear V0 hb5
          replace hb1 := Lib.hid (hb1.alloc hb1.size (.cells #[.string ⟨#[71, 69, 84]⟩, .string (ofL y2), .int .i64 y3, .string (ofL y4), .int .i64 y5, .slice p2 y6.length c2] 25))
          go_wp2_with fail
          go_ret
          exact ⟨rfl, hb1.out⟩
theorem walk (which : Int) (w0 : (Lit.int .i64 which).wf = true) (past : Bool) (end_ : Bool) (w : World) :
    Calls Tryd.prog 9 #[.int .i64 which, .bool past, .bool end_] w fun e w' => e = .returned (.bool true) ∧ Below w.heap.size w w' := by
  rcases (show which = 0 ∨ which = 1 ∨ which = 2 ∨ (which < 0 ∨ (¬ which < 0 ∧ 2 < which)) by omega) with rfl | rfl | rfl | h
  · exact walk0 past end_ w
  · exact walk1 past end_ w
  · exact walk2 past end_ w
  · go_enter Tryd.func9, Tryd.ntmps9
    go_wp2_with fail
    refine (anchor_any _).mono ?_
    rintro e w1 ⟨rfl, hb1⟩
    replace hb1 := Lib.hid hb1
    rcases h with h | ⟨h, h2⟩
    all_goals
      go_wp2_with fail
      go_ret
      exact ⟨rfl, hb1.out⟩
end Go.Proofs.YtclecgopmegjeaaDoor.HeadBoundsW
