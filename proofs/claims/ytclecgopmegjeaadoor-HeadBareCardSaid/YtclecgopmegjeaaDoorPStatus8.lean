/- Layer 8 of the program: statusLine. -/
import Derived.Test.YtclecgopmegjeaaDoorPVer8
import Derived.Test.YtclecgopmegjeaaDoorPSeen
import Derived.Test.YtclecgopmegjeaaDoorPDecimal
import Derived.Test.YtclecgopmegjeaaDoorHBox
namespace Go.Proofs.YtclecgopmegjeaaDoor.PStatus8
open Go.ChangeShapes Go.WideShapes Go.ChangeAt Go.RowKit LexPure Bytes Ret FieldsPure HeadPure CutAt HeadCut HBox Mem PCutLib PDecimal PVer8 PSeen
set_option maxRecDepth 20000
theorem cut_sizes2 (x : UInt8) (s : List UInt8) : (aheadOf x s).length ≤ s.length ∧ (behind x s).length ≤ s.length :=
  ⟨by rw [ahead_take, List.length_take]; omega, by rw [cut_drop, List.length_drop]; omega⟩
set_option maxHeartbeats 1600000 in
theorem pstatus_any (s : ByteArray) (hs : s.size ≤ 140737488351232) (w : World) :
    Calls Tryd.prog 28 #[.string s] w fun e w' => e = .returned (hrv (status8 (toL s)).1 (.slice none 0 0) (status8 (toL s)).2) ∧ Below w.heap.size w w' := by
  have HO := Lib.hid (HOne.start w)
  obtain ⟨x, hx⟩ : ∃ x, x = status8 (toL s) := ⟨_, rfl⟩
  rw [← hx]
  rw [status_prog] at hx
  unfold statusP at hx
  have z1 := cut_sizes2 32 (toL s)
  have z2 := cut_sizes2 32 (behind 32 (toL s))
  rw [toL_length] at z1
  have HC1 := Lib.hid (fun w => full_cut 32 s hs w)
  have HC2 := Lib.hid (fun w => full_cut 32 (ofL (behind 32 (toL s))) (by rw [ofL_size]; omega) w)
  rw [toL_ofL] at HC2
  have HD := Lib.hid (fun w => (pdecimal_any (ofL (aheadOf 32 (behind 32 (toL s)))) (by unfold maxLen; rw [ofL_size]; omega) 3 w).mono (fun e w' h => (⟨h.1, h.2.symm⟩ : e = .returned (.tuple #[.int .i64 (numR 10 (min 3 18) (toL (ofL (aheadOf 32 (behind 32 (toL s)))))), .bool (numOk 10 (min 3 18) (toL (ofL (aheadOf 32 (behind 32 (toL s))))))]) ∧ w' = w)))
  have HG := Lib.hid (fun w => preason_any (ofL (behind 32 (behind 32 (toL s)))) (by rw [ofL_size]; omega) w)
  have HV := Lib.hid (fun w => pversion_any (ofL (aheadOf 32 (toL s))) (by rw [ofL_size]; omega) w)
  rw [toL_ofL] at HD HG HV
  rw [show min (3 : Int) 18 = 3 from rfl] at HD
  generalize hasB 32 (toL s) = q1 at *
  generalize hasB 32 (behind 32 (toL s)) = q2 at *
  generalize aheadOf 32 (toL s) = V at *
  generalize behind 32 (toL s) = R at *
  generalize aheadOf 32 R = D at *
  generalize behind 32 R = T at *
  generalize version8 V = v at *
  generalize numOk 10 3 D = ok at *
  generalize numR 10 3 D = n at *
  generalize hrb : T.all plainB = rb at *
  clear hrb
  obtain ⟨m, er⟩ := v
  clear z1 z2 hs
  replace hx := Lib.hid hx
  have hcases : n < 100 ∨ (¬ n < 100 ∧ (599 : Int) < n) ∨ (¬ n < 100 ∧ ¬ (599 : Int) < n) := by omega
  go_enter Tryd.func28, Tryd.ntmps28
  go_wp2_with fail
  generalize w.alloc (.cells #[.string ⟨#[]⟩, .string ⟨#[]⟩, .int .i64 0, .string ⟨#[]⟩, .int .i64 0, .slice none 0 0] 25) = W at HO ⊢
  obtain ⟨g, hg⟩ : ∃ g, g = w.heap.size := ⟨_, rfl⟩
  rw [← hg] at HO ⊢
  replace hg := Lib.hid hg
  refine (HC1.out _).mono ?_
  rintro e w1 ⟨rfl, hb1⟩
  replace HO := Lib.hid (HO.out.call hb1)
  clear hb1 HC1
  go_wp2_with fail
  refine (HC2.out _).mono ?_
  rintro e w2 ⟨rfl, hb2⟩
  replace HO := Lib.hid (HO.out.call hb2)
  clear hb2 HC2
  go_wp2_with fail
  refine (HD.out _).mono ?_
  rintro e w' ⟨rfl, rfl⟩
  clear HD
  obtain ⟨d0, d1, d2, d3, d4, d5⟩ := HO.out.box.cells
  obtain ⟨y0, y1, y2, y3, y4, y5⟩ := HO.out.box.frees
  have HE := Lib.hid (HO.out.box.put zero8 (.slice none 0 0))
  have HB := Lib.hid (HO.out.put zero8 (.slice none 0 0))
  cases ok with
  | false =>
    have HX : x = (zero8, 80) := by rw [hx.out, if_neg]; rintro ⟨h, _⟩; cases h
    subst HX
    clear hx HO HG HV hcases
    go_wp2_with fail
    refine bodyPost_ret (v := hrv zero8 (.slice none 0 0) 80) ?_ rfl ⟨rfl, HB.out⟩
    rw [results_cell_tmp rfl]
    exact end_hbox rfl rfl HE.out
  | true =>
  rcases hcases with hi | ⟨hi, hj⟩ | ⟨hi, hj⟩
  · have HX : x = (zero8, 80) := by rw [hx.out, if_neg]; rintro ⟨_, h, _⟩; omega
    subst HX
    clear hx HO HG HV
    go_wp2_with fail
    refine bodyPost_ret (v := hrv zero8 (.slice none 0 0) 80) ?_ rfl ⟨rfl, HB.out⟩
    rw [results_cell_tmp rfl]
    exact end_hbox rfl rfl HE.out
  · have HX : x = (zero8, 80) := by rw [hx.out, if_neg]; rintro ⟨_, _, h, _⟩; omega
    subst HX
    clear hx HO HG HV
    go_wp2_with fail
    refine bodyPost_ret (v := hrv zero8 (.slice none 0 0) 80) ?_ rfl ⟨rfl, HB.out⟩
    rw [results_cell_tmp rfl]
    exact end_hbox rfl rfl HE.out
  clear HE HB d0 d1 d2 d3 d4 d5 y0 y1 y2 y3 y4 y5
  go_wp2_with fail
  refine (HG.out _).mono ?_
  rintro e w2 ⟨rfl, hb2⟩
  replace HO := Lib.hid (HO.out.call hb2)
  clear hb2 HG
  cases rb with
  | false =>
    obtain ⟨d0, d1, d2, d3, d4, d5⟩ := HO.out.box.cells
    obtain ⟨y0, y1, y2, y3, y4, y5⟩ := HO.out.box.frees
    have HE := Lib.hid (HO.out.box.put zero8 (.slice none 0 0))
    have HB := Lib.hid (HO.out.put zero8 (.slice none 0 0))
    have HX : x = (zero8, 80) := by rw [hx.out, if_neg]; rintro ⟨_, _, _, h⟩; cases h
    subst HX
    clear hx HO HV
    go_wp2_with fail
    refine bodyPost_ret (v := hrv zero8 (.slice none 0 0) 80) ?_ rfl ⟨rfl, HB.out⟩
    rw [results_cell_tmp rfl]
    exact end_hbox rfl rfl HE.out
  | true =>
  have HX1 : x = if er = 0 then (⟨[], [], n, T, m, []⟩, 0) else (zero8, er) := by
    rw [hx.out, if_pos ⟨by trivial, by omega, by omega, by trivial⟩]
  clear hx
  go_wp2_with fail
  refine (HV.out _).mono ?_
  rintro e w3 ⟨rfl, hb3⟩
  replace HO := Lib.hid (HO.out.call hb3)
  clear hb3 HV
  obtain ⟨d0, d1, d2, d3, d4, d5⟩ := HO.out.box.cells
  obtain ⟨y0, y1, y2, y3, y4, y5⟩ := HO.out.box.frees
  by_cases h6 : er = 0
  · rw [if_pos h6] at HX1
    subst HX1
    subst h6
    have HE := Lib.hid (HO.out.box.put ⟨[], [], n, T, m, []⟩ (.slice none 0 0))
    have HB := Lib.hid (HO.out.put ⟨[], [], n, T, m, []⟩ (.slice none 0 0))
    unfold hput at HE HB
    clear HO
    go_wp2_with fail
    refine bodyPost_ret (v := hrv ⟨[], [], n, T, m, []⟩ (.slice none 0 0) 0) ?_ rfl ⟨rfl, HB.out⟩
    rw [results_cell_tmp rfl]
    exact end_hbox rfl rfl HE.out
  · rw [if_neg h6] at HX1
    subst HX1
    have h7 : (er != 0) = true := bne_iff_ne.2 h6
    have HE := Lib.hid (HO.out.box.put zero8 (.slice none 0 0))
    have HB := Lib.hid (HO.out.put zero8 (.slice none 0 0))
    clear HO h6
    go_wp2_with fail
    refine bodyPost_ret (v := hrv zero8 (.slice none 0 0) er) ?_ rfl ⟨rfl, HB.out⟩
    rw [results_cell_tmp rfl]
    exact end_hbox rfl rfl HE.out
end Go.Proofs.YtclecgopmegjeaaDoor.PStatus8
