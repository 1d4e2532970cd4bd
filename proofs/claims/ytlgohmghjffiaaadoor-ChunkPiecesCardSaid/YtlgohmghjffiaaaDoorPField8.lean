/- Layer 8 of the program: Field. -/
import Derived.Test.YtlgohmghjffiaaaDoorHeadCut
import Derived.Test.YtlgohmghjffiaaaDoorPText
import Derived.Test.YtlgohmghjffiaaaDoorPToken
import Derived.Test.YtlgohmghjffiaaaDoorPCutLib
import Derived.Test.YtlgohmghjffiaaaDoorFBox
namespace Go.Proofs.YtlgohmghjffiaaaDoor.PField8
open Go.ChangeShapes Go.WideShapes Go.ChangeAt Go.RowKit LexPure Bytes Ret FieldsPure HeadPure CutAt HeadCut HBox Mem PCutLib PToken PTrim PText
set_option maxRecDepth 20000
set_option maxHeartbeats 1600000 in
theorem pfield_any (s : ByteArray) (hs : s.size ≤ 140737488351232) (w : World) :
    Calls Tryd.prog 36 #[.string s] w fun e w' => e = .returned (frv (field8 (toL s))) ∧ Below w.heap.size w w' := by
  have HO := Lib.hid (FOne.start w)
  obtain ⟨x, hx⟩ : ∃ x, x = field8 (toL s) := ⟨_, rfl⟩
  rw [← hx]
  rw [field_prog] at hx
  unfold fieldP at hx
  have l1 : (aheadOf 58 (toL s)).length ≤ s.size := by rw [ahead_take, List.length_take, toL_length]; omega
  have l2 : (behind 58 (toL s)).length ≤ s.size := by rw [cut_drop, List.length_drop, toL_length]; omega
  have l3 := trim_length (behind 58 (toL s))
  have HC := Lib.hid (fun w => full_cut 58 s hs w)
  have HT := Lib.hid (fun w => (ptoken_any (ofL (aheadOf 58 (toL s))) (by unfold maxLen; rw [ofL_size]; omega) w).mono (fun e w' h => (⟨h.1, h.2.symm⟩ : e = .returned (.bool (token (toL (ofL (aheadOf 58 (toL s)))))) ∧ w' = w)))
  have HR := Lib.hid (fun w => ptrim_any (ofL (behind 58 (toL s))) (by unfold maxLen; rw [ofL_size]; omega) w)
  have HL := Lib.hid (fun w => pvalue_any (ofL (trim (behind 58 (toL s)))) (by unfold maxLen; rw [ofL_size]; omega) w)
  rw [toL_ofL] at HT HR HL
  generalize hasB 58 (toL s) = q at *
  generalize aheadOf 58 (toL s) = A at *
  generalize behind 58 (toL s) = R at *
  generalize trim R = B at *
  generalize token A = tk at *
  generalize value B = vb at *
  clear l1 l2 l3 hs
  replace hx := Lib.hid hx
  go_enter Tryd.func36, Tryd.ntmps36
  go_wp2_with fail
  generalize w.alloc (.cells #[.string ⟨#[]⟩, .string ⟨#[]⟩] 68) = W at HO ⊢
  obtain ⟨g, hg⟩ : ∃ g, g = w.heap.size := ⟨_, rfl⟩
  rw [← hg] at HO ⊢
  replace hg := Lib.hid hg
  refine (HC.out _).mono ?_
  rintro e w1 ⟨rfl, hb1⟩
  replace HO := Lib.hid (HO.out.call hb1)
  clear hb1 HC
  go_wp2_with fail
  refine (HR.out _).mono ?_
  rintro e w2 ⟨rfl, hb2⟩
  replace HO := Lib.hid (HO.out.call hb2)
  clear hb2 HR
  cases q with
  | false =>
    have HX : x = (([], []), 70) := by rw [hx.out, if_neg]; rintro ⟨h, _⟩; cases h
    subst HX
    obtain ⟨d0, d1⟩ := HO.out.box.cells
    obtain ⟨z0, z1⟩ := HO.out.box.frees
    have HE := Lib.hid (HO.out.box.put ([], []))
    have HB := Lib.hid (HO.out.put ([], []))
    clear hx HO
    go_wp2_with fail
    refine bodyPost_ret (v := frv (([], []), 70)) ?_ rfl ⟨rfl, HB.out⟩
    rw [results_cell_tmp rfl]
    exact end_fbox rfl rfl HE.out
  | true =>
  cases tk with
  | false =>
    have HX : x = (([], []), 70) := by rw [hx.out, if_neg]; rintro ⟨_, h, _⟩; cases h
    subst HX
    obtain ⟨d0, d1⟩ := HO.out.box.cells
    obtain ⟨z0, z1⟩ := HO.out.box.frees
    have HE := Lib.hid (HO.out.box.put ([], []))
    have HB := Lib.hid (HO.out.put ([], []))
    clear hx HO
    go_wp2_with fail
    refine (HT.out _).mono ?_
    rintro e w' ⟨rfl, rfl⟩
    go_wp2_with fail
    refine bodyPost_ret (v := frv (([], []), 70)) ?_ rfl ⟨rfl, HB.out⟩
    rw [results_cell_tmp rfl]
    exact end_fbox rfl rfl HE.out
  | true =>
  cases vb with
  | false =>
    have HX : x = (([], []), 70) := by rw [hx.out, if_neg]; rintro ⟨_, _, h⟩; cases h
    subst HX
    clear hx
    go_wp2_with fail
    refine (HT.out _).mono ?_
    rintro e w' ⟨rfl, rfl⟩
    go_wp2_with fail
    refine (HL.out _).mono ?_
    rintro e w3 ⟨rfl, hb3⟩
    replace HO := Lib.hid (HO.out.call hb3)
    clear hb3
    obtain ⟨d0, d1⟩ := HO.out.box.cells
    obtain ⟨z0, z1⟩ := HO.out.box.frees
    have HE := Lib.hid (HO.out.box.put ([], []))
    have HB := Lib.hid (HO.out.put ([], []))
    clear HO
    go_wp2_with fail
    refine bodyPost_ret (v := frv (([], []), 70)) ?_ rfl ⟨rfl, HB.out⟩
    rw [results_cell_tmp rfl]
    exact end_fbox rfl rfl HE.out
  | true =>
    have HX : x = ((A, B), 0) := by rw [hx.out]; rfl
    subst HX
    clear hx
    go_wp2_with fail
    refine (HT.out _).mono ?_
    rintro e w' ⟨rfl, rfl⟩
    go_wp2_with fail
    refine (HL.out _).mono ?_
    rintro e w3 ⟨rfl, hb3⟩
    replace HO := Lib.hid (HO.out.call hb3)
    clear hb3
    obtain ⟨d0, d1⟩ := HO.out.box.cells
    obtain ⟨z0, z1⟩ := HO.out.box.frees
    have HE := Lib.hid (HO.out.box.put (A, B))
    have HB := Lib.hid (HO.out.put (A, B))
    unfold fput at HE HB
    clear HO
    go_wp2_with fail
    refine bodyPost_ret (v := frv ((A, B), 0)) ?_ rfl ⟨rfl, HB.out⟩
    rw [results_cell_tmp rfl]
    exact end_fbox rfl rfl HE.out
end Go.Proofs.YtlgohmghjffiaaaDoor.PField8
